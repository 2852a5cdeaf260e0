import PyProof.Rows.All
import Wide.All
import OpenK.AllK
import Wide.FinOn
import Lean
import PyProof.EqAt
import PyProof.EqKinds
import PyProof.TupleCall
import PySem.Challenge.RW_ordertext_k47_beats
set_option Elab.async false
set_option linter.all false
set_option maxRecDepth 100000
set_option maxHeartbeats 4000000
namespace L2
open PySem PySem.Spec PyProof.Rows
abbrev Key := Sum Int Str
def keyIs : Key → Value → Bool
 | .inl k, v => Value.isInt k v
 | .inr x, v => Value.isStrOf x v
def keyH (w : World) : Key → Int
 | .inl k => hashInt k
 | .inr x => hashStr w x
theorem keyIs_shape : ∀ {k : Key} {v : Value}, keyIs k v = true → (∃ i t, k = Sum.inl i ∧ v = Value.int i t) ∨ (∃ x t, k = Sum.inr x ∧ v = Value.str x t)
 | .inl i, v, h => by
  obtain ⟨t, e⟩ := Value.isInt_shape (k := i) (v := v) h
  exact .inl ⟨i, t, rfl, e⟩
 | .inr x, v, h => by
  obtain ⟨t, e⟩ := Value.isStrOf_shape (x := x) (v := v) h
  exact .inr ⟨x, t, rfl, e⟩
theorem key_ll (a b : Int) : decide ((Sum.inl a : Key) = Sum.inl b) = (a == b) := by
 by_cases e : a = b
 ·subst e; simp
 ·have h : ¬ (Sum.inl a : Key) = Sum.inl b := fun q => e (Sum.inl.inj q)
  rw [decide_eq_false h]
  exact (beq_eq_false_iff_ne.mpr e).symm
theorem key_rr (a b : Str) : decide ((Sum.inr a : Key) = Sum.inr b) = decide (a = b) := by
 by_cases e : a = b
 ·subst e; simp
 ·have h : ¬ (Sum.inr a : Key) = Sum.inr b := fun q => e (Sum.inr.inj q)
  rw [decide_eq_false h, decide_eq_false e]
theorem key_lr (a : Int) (b : Str) : decide ((Sum.inl a : Key) = Sum.inr b) = false := decide_eq_false (fun q => nomatch q)
theorem key_rl (a : Str) (b : Int) : decide ((Sum.inr a : Key) = Sum.inl b) = false := decide_eq_false (fun q => nomatch q)
def mixKind (prog : Program) (w : World) : PySem.KeyKind prog w Key where
 is := keyIs
 hash := keyH w
 inj := fun v a b ha hb => by
  rcases keyIs_shape ha with ⟨i, t, rfl, rfl⟩ | ⟨x, t, rfl, rfl⟩
  ·rcases keyIs_shape hb with ⟨j, u, rfl, e⟩ | ⟨y, u, rfl, e⟩
   ·injection e with e1 _; rw [e1]
   ·exact nomatch e
  ·rcases keyIs_shape hb with ⟨j, u, rfl, e⟩ | ⟨y, u, rfl, e⟩
   ·exact nomatch e
   ·injection e with e1 _; rw [e1]
 byValue := fun k v h => by
  rcases keyIs_shape h with ⟨i, t, rfl, rfl⟩ | ⟨x, t, rfl, rfl⟩ <;> rfl
 pyHash := fun hv h => by
  rcases keyIs_shape hv with ⟨i, t, rfl, rfl⟩ | ⟨x, t, rfl, rfl⟩
  ·exact wpAny_pyHash_int h
  ·exact wpAny_pyHash_str h
 eqBool := fun hu hv h => by
  rcases keyIs_shape hu with ⟨i, t, rfl, rfl⟩ | ⟨x, t, rfl, rfl⟩
  ·rcases keyIs_shape hv with ⟨j, u, rfl, rfl⟩ | ⟨y, u, rfl, rfl⟩
   ·rw [key_ll] at h; exact wpAny_eqBool_int h
   ·rw [key_lr] at h; exact SeqAt.EqAt.int_str i t y u _ _ _ _ h
  ·rcases keyIs_shape hv with ⟨j, u, rfl, rfl⟩ | ⟨y, u, rfl, rfl⟩
   ·rw [key_rl] at h; exact SeqAt.EqAt.str_int x t j u _ _ _ _ h
   ·rw [key_rr] at h; exact wpAny_eqBool_str h
 «strs» := fun k x t v h => by
  rcases keyIs_shape h with ⟨i, u, rfl, e⟩ | ⟨y, u, rfl, e⟩
  ·exact nomatch e
  ·injection e with e1 _
   subst e1
   cases v <;> rfl
end L2
namespace L2
open PySem PySem.Spec PyProof.Rows
inductive V where
 | non | bl (b : Bool) | int (i : Int) | str (x : Str) | byt (b : Array UInt8) | flt (b : UInt64) | ref (a : Addr) | ty (n : String)
 deriving DecidableEq
def RelV : V → Value → Prop
 | .non, u => u = Value.none
 | .bl b, u => u = Value.bool b
 | .int i, u => ∃ t, u = Value.int i t
 | .str x, u => ∃ t, u = Value.str x t
 | .byt b, u => ∃ t, u = Value.bytes b t
 | .flt b, u => ∃ t, u = Value.float b t
 | .ref a, u => u = Value.ref a
 | .ty n, u => u = Value.type n
abbrev Vals : List V → List Value → Prop := Paired RelV
theorem Vals.length {xs : List V} {us : List Value} (r : Vals xs us) : xs.length = us.length := Paired.length r
theorem Vals.get : ∀ {xs : List V} {us : List Value} {i : Nat} {x : V}, Vals xs us → xs[i]? = some x → ∃ u, us[i]? = some u ∧ RelV x u
 | _, _, _, _, .nil, e => by simp at e
 | _, _, 0, _, .cons r _, e => by simp at e; subst e; exact ⟨_, rfl, r⟩
 | _, _, i + 1, x, .cons _ t, e => by
  obtain ⟨u, h1, h2⟩ := Vals.get (i := i) (x := x) t (by simpa using e)
  exact ⟨u, by simpa using h1, h2⟩
theorem Vals.set {x : V} {u : Value} (r : RelV x u) : ∀ {xs : List V} {us : List Value} (i : Nat), Vals xs us → Vals (xs.set i x) (us.set i u)
 | _, _, _, .nil => .nil
 | _, _, 0, .cons _ t => .cons r t
 | _, _, i + 1, .cons q t => .cons q (Vals.set r i t)
theorem Vals.append : ∀ {xs ys : List V} {us ws : List Value}, Vals xs us → Vals ys ws → Vals (xs ++ ys) (us ++ ws)
 | _, _, _, _, .nil, s => s
 | _, _, _, _, .cons r t, s => .cons r (Vals.append t s)
theorem Vals.take : ∀ {xs : List V} {us : List Value} (n : Nat), Vals xs us → Vals (xs.take n) (us.take n)
 | _, _, 0, _ => .nil
 | _, _, _ + 1, .nil => .nil
 | _, _, n + 1, .cons r t => .cons r (Vals.take n t)
theorem Vals.drop : ∀ {xs : List V} {us : List Value} (n : Nat), Vals xs us → Vals (xs.drop n) (us.drop n)
 | _, _, 0, r => r
 | _, _, _ + 1, .nil => .nil
 | _, _, n + 1, .cons _ t => Vals.drop n t
def RelO : Option V → Option Value → Prop
 | some v, some u => RelV v u
 | none, none => True
 | _, _ => False
def KV {κ : Type} : List (κ × V) → List (κ × Value) → Prop := Paired fun (p : κ × V) (q : κ × Value) => p.1 = q.1 ∧ RelV p.2 q.2
def kV : Key → V
 | .inl i => .int i
 | .inr x => .str x
inductive HO where
 
 | lst (xs : List V)
 
 | tup (xs : List V)
 
 | dK (kvs : List (Key × V)) | dT (kvs : List (List Key × V))
 
 | set (S : Int → Bool) (n : Nat)
 
 | ins (C dx : Addr) (fs : List (Str × V))
 
 | own (x : Addr)
 
 | xd (fs : List (Str × V))
 
 | met (f x : Addr)
 
 | rng (lo hi : Int)
 
 | frz (o : Obj) (u : HO)
 
 | tbl (cr : Nat → Nat → Option Str)
 
 | ext (φ : Heap → Prop)
abbrev Hp := Addr → Option HO
def upd (H : Hp) (a : Addr) (o : HO) : Hp := fun b => if b = a then some o else H b
theorem upd_same {H : Hp} {a : Addr} {o : HO} : upd H a o a = some o := by unfold upd; rw [if_pos rfl]
theorem upd_ne {H : Hp} {a b : Addr} {o : HO} (h : b ≠ a) : upd H a o b = H b := by unfold upd; rw [if_neg h]
theorem ne_of_none {H : Hp} {a b : Addr} {o : HO} (h : H a = some o) (h' : H b = none) : a ≠ b := by
 intro e; subst e; rw [h] at h'; cases h'
def CodeOf (oc : Obj) (q : Str) : Prop := ∃ (vs : Array Value) (t : Tok), oc.data = .fields vs ∧ vs[1]? = some (.str q t)
def NoDict (h : Heap) (a : Addr) : Prop := ∃ o, h.get? a = some o ∧ o.dict = none
section
variable (P : Program) (w : World)
def ObjOk (H : Hp) (h : Heap) (a : Addr) : HO → Prop
 | .lst xs => xs.length ≤ sizeLine ∧ ∃ (its : List Value) (n : Nat), Vals xs its ∧ h.get? a = some { cls := .type "list", data := .seq its.toArray n }
 | .tup xs => xs.length ≤ sizeLine ∧ ∃ its : List Value, Vals xs its ∧ IsTup h a its.toArray ∧ NoDict h a
 | .dK kvs => kvs.length ≤ sizeLine ∧ (a == sysModules) = false ∧ ∃ vs, KV kvs vs ∧ h.DictOf (mixKind P w) a vs
 | .dT kvs => kvs.length ≤ sizeLine ∧ (a == sysModules) = false ∧ ∃ xs : List (List Key × Addr × Value),
   Paired (fun (p : List Key × V) (q : List Key × Addr × Value) => p.1 = q.1 ∧ H q.2.1 = some (.tup (p.1.map kV)) ∧ RelV p.2 q.2.2) kvs xs ∧
   ∃ o es ep, h.get? a = some o ∧ o.ExactDict ∧ o.data = .dict es ep ∧ es.toList = xs.map (entryOfKey (tupleKind (mixKind P w))) ∧ (xs.map (·.1)).Nodup
 | .set S n => h.SetOf (intKind P w) a S n
 | .ins C dx fs => H dx = some (.own a) ∧ fs.length ≤ 1000 ∧ dx ≠ a ∧ h.get? a = some (PySem.W.instObj C dx) ∧
   ∃ mA, h.Ns1 dx mA ∧ (∀ f, RelO (fs.lookup f) (mA f)) ∧ PySem.Within mA (fs.map (·.1))
 | .own _ => ∃ o, h.get? a = some o
 | .xd fs => ∃ mA, h.Ns1 a mA ∧ ∀ f, RelO (fs.lookup f) (mA f)
 | .rng lo hi => ∃ t u v, h.get? a = some { cls := .type "range", data := .fields #[.int lo t, .int hi u, .int 1 v] }
 | .frz o u => h.get? a = some o ∧ ObjOk H h a u
 | .tbl cr => ∃ ps : Array Value, h.get? a = some { cls := .none, data := .fields ps } ∧ TriplesOk ps.toList ∧ ∀ (pos : Pos) (v : Value), codeAmong pos ps.toList = some v →
   ∃ (c : Addr) (oc : Obj) (q : Str), v = .ref c ∧ cr pos.line pos.col = some q ∧ H c = some (.frz oc (.own c)) ∧ CodeOf oc q
 | .met f x => h.get? a = some (PySem.W.methodObj (.ref f) (.ref x))
 | .ext φ => φ h ∧ (∃ o, h.get? a = some o) ∧ ∀ h1 h2 : Heap, φ h1 → (∀ o, h1.get? a = some o → h2.get? a = some o) → φ h2
def HOk (H : Hp) (h : Heap) : Prop := ∀ a o, H a = some o → ObjOk P w H h a o
end
section
variable {P : Program} {w : World} {H H' : Hp} {h h' : Heap} {a : Addr} {o : HO}
theorem ObjOk.lt (x : ObjOk P w H h a o) : a < h.objs.size := by
 cases o with
 | lst xs => obtain ⟨_, _, _, _, e⟩ := x; exact Heap.lt_size e
 | tup xs => obtain ⟨_, _, _, p, _⟩ := x; exact p.lt
 | dK kvs => obtain ⟨_, _, _, _, o, _, _, e, _⟩ := x; exact Heap.lt_size e
 | dT kvs => obtain ⟨_, _, _, _, o, _, _, e, _⟩ := x; exact Heap.lt_size e
 | set S n => obtain ⟨o, _, _, _, e, _⟩ := x; exact Heap.lt_size e
 | ins C dx fs => obtain ⟨_, _, _, e, _⟩ := x; exact Heap.lt_size e
 | own y => obtain ⟨_, e⟩ := x; exact Heap.lt_size e
 | xd fs => obtain ⟨_, ⟨_, _, _, e, _⟩, _⟩ := x; exact Heap.lt_size e
 | rng lo hi => obtain ⟨_, _, _, e⟩ := x; exact Heap.lt_size e
 | frz ob u => obtain ⟨e, _⟩ := x; exact Heap.lt_size e
 | tbl cr => obtain ⟨_, e, _⟩ := x; exact Heap.lt_size e
 | met f y => exact Heap.lt_size (show h.get? a = some _ from x)
 | ext φ => obtain ⟨_, ⟨_, e⟩, _⟩ := x; exact Heap.lt_size e
theorem Paired.mapP {α β : Type} {F G : α → β → Prop} : ∀ {l₁ : List α} {l₂ : List β}, Paired F l₁ l₂ → (∀ a b, F a b → G a b) → Paired G l₁ l₂
 | _, _, .nil, _ => .nil
 | _, _, .cons r t, f => .cons (f _ _ r) (Paired.mapP t f)
theorem ObjOk.stay (x : ObjOk P w H h a o) (k : ∀ b u, (b = a ∨ H b = some (.own a)) → h.get? b = some u → h'.get? b = some u)
  (ho : ∀ b, H b = some (.own a) → H' b = some (.own a)) (ht : ∀ b xs, H b = some (.tup xs) → H' b = some (.tup xs)) (hz : ∀ b o u, H b = some (.frz o u) → H' b = some (.frz o u)) : ObjOk P w H' h' a o := by
 induction o with
 | lst xs => obtain ⟨z, its, n, r, e⟩ := x; exact ⟨z, its, n, r, k _ _ (.inl rfl) e⟩
 | tup xs => obtain ⟨z, its, r, ⟨ob, e, c⟩, od, e', d'⟩ := x; exact ⟨z, its, r, ⟨ob, k _ _ (.inl rfl) e, c⟩, od, k _ _ (.inl rfl) e', d'⟩
 | dK kvs => obtain ⟨z, y, vs, r, ob, es, ep, e, c⟩ := x; exact ⟨z, y, vs, r, ob, es, ep, k _ _ (.inl rfl) e, c⟩
 | dT kvs =>
  obtain ⟨z, y, xs, r, ob, es, ep, e, c⟩ := x
  exact ⟨z, y, xs, Paired.mapP r fun p q z => ⟨z.1, ht _ _ z.2.1, z.2.2⟩, ob, es, ep, k _ _ (.inl rfl) e, c⟩
 | set S n => obtain ⟨ob, es, ep, t, e, c⟩ := x; exact ⟨ob, es, ep, t, k _ _ (.inl rfl) e, c⟩
 | ins C dx fs =>
  obtain ⟨d, z, ne, e, mA, ⟨od, es, ep, e2, c⟩, r⟩ := x
  exact ⟨ho _ d, z, ne, k _ _ (.inl rfl) e, mA, ⟨od, es, ep, k _ _ (.inr d) e2, c⟩, r⟩
 | own y => obtain ⟨ob, e⟩ := x; exact ⟨ob, k _ _ (.inl rfl) e⟩
 | xd fs => obtain ⟨mA, ⟨od, es, ep, e, c⟩, r⟩ := x; exact ⟨mA, ⟨od, es, ep, k _ _ (.inl rfl) e, c⟩, r⟩
 | rng lo hi => obtain ⟨t, u, v, e⟩ := x; exact ⟨t, u, v, k _ _ (.inl rfl) e⟩
 | frz ob u ih => obtain ⟨e, q⟩ := x; exact ⟨k _ _ (.inl rfl) e, ih q⟩
 | tbl cr =>
  obtain ⟨ps, e, ht3, hc⟩ := x
  exact ⟨ps, k a _ (.inl rfl) e, ht3, fun pos v q => let ⟨c, oc, z, h1, h2, h3, h4⟩ := hc pos v q; ⟨c, oc, z, h1, h2, hz _ _ _ h3, h4⟩⟩
 | met f y =>
  have e : h.get? a = some (PySem.W.methodObj (.ref f) (.ref y)) := x
  show h'.get? a = some (PySem.W.methodObj (.ref f) (.ref y))
  exact k a _ (.inl rfl) e
 | ext φ => obtain ⟨p, ⟨o, e⟩, st⟩ := x; exact ⟨st _ _ p fun o q => k _ _ (.inl rfl) q, ⟨o, k _ _ (.inl rfl) e⟩, st⟩
theorem HOk.lt (x : HOk P w H h) (e : H a = some o) : a < h.objs.size := (x a o e).lt
theorem HOk.fresh (x : HOk P w H h) (e : h.objs.size ≤ a) : H a = none := by
 cases q : H a with
 | none => rfl
 | some u => exact absurd (Nat.lt_of_lt_of_le (x.lt q) e) (Nat.lt_irrefl _)
theorem HOk.kept (x : HOk P w H h) (k : ∀ b u, h.get? b = some u → h'.get? b = some u) : HOk P w H h' := fun a o e =>
 (x a o e).stay (fun b u _ q => k b u q) (fun _ q => q) (fun _ _ q => q) fun _ _ _ q => q
theorem HOk.laid (x : HOk P w H h) (k : ∀ b u, h.get? b = some u → h'.get? b = some u) (hp : h.objs.size ≤ a) (new : ObjOk P w (upd H a o) h' a o) : HOk P w (upd H a o) h' := fun b u e => by
 have hn := x.fresh hp
 by_cases hb : b = a
 ·subst hb; rw [upd_same] at e; cases e; exact new
 ·rw [upd_ne hb] at e
  exact (x b u e).stay (fun c v _ q => k c v q) (fun c q => by rw [upd_ne (ne_of_none q hn)]; exact q) (fun c xs q => by rw [upd_ne (ne_of_none q hn)]; exact q) fun c o u q => by rw [upd_ne (ne_of_none q hn)]; exact q
end
def Rd (H : Hp) (a : Addr) (u : HO) : Prop := H a = some u ∨ ∃ o, H a = some (.frz o u)
theorem Rd.ok {P : Program} {w : World} {H : Hp} {h : Heap} {a : Addr} {u : HO} (r : Rd H a u) (x : HOk P w H h) : ObjOk P w H h a u := by
 rcases r with r | ⟨o, r⟩
 ·exact x a u r
 ·obtain ⟨_, q⟩ := x a _ r
  exact q
def Mut : Option HO → Prop
 | some (.lst _) => True
 | some (.dK _) => True
 | some (.dT _) => True
 | some (.set _ _) => True
 | some (.ins _ _ _) => True
 | some (.ext _) => True
 | _ => False
section
variable {P : Program} {w : World} {H : Hp} {h h' : Heap} {x e : Addr} {o' : HO}
theorem HOk.write (ok : HOk P w H h) (mu : Mut (H x)) (he : e = x ∨ H e = some (.own x)) (k : ∀ b u, b ≠ e → h.get? b = some u → h'.get? b = some u) (heo : ∃ u, h'.get? e = some u)
  (new : ObjOk P w (upd H x o') h' x o') : HOk P w (upd H x o') h' := fun b u q => by
 have nown : ∀ c y, H c = some (.own y) → c ≠ x := fun c y r z => by subst z; rw [r] at mu; exact mu
 have ntup : ∀ c xs, H c = some (.tup xs) → c ≠ x := fun c xs r z => by subst z; rw [r] at mu; exact mu
 have nfrz : ∀ c o u, H c = some (.frz o u) → c ≠ x := fun c o u r z => by subst z; rw [r] at mu; exact mu
 by_cases hb : b = x
 ·subst hb; rw [upd_same] at q; cases q; exact new
 ·rw [upd_ne hb] at q
  by_cases hbe : b = e
  ·have q' : H b = some (.own x) := by
    rcases he with z | z
    ·exact absurd (hbe.trans z) hb
    ·rw [hbe]; exact z
   rw [q] at q'; cases q'
   obtain ⟨v, hv⟩ := heo
   exact ⟨v, by rw [hbe]; exact hv⟩
  ·refine (ok b u q).stay (fun c v hc r => k c v ?_ r) (fun c r => by rw [upd_ne (nown c b r)]; exact r) (fun c xs r => by rw [upd_ne (ntup c xs r)]; exact r) fun c o u r => by rw [upd_ne (nfrz c o u r)]; exact r
   rcases hc with rfl | hc
   ·exact hbe
   ·rintro rfl
    rcases he with z | z
    ·exact nown c b hc z
    ·rw [hc] at z; cases z; exact hb rfl
end
structure Un (fs ex : List Addr) (H H' : Hp) (h h' : Heap) : Prop where
 keep : ∀ b o, h.get? b = some o → H b = none → b ∉ fs → b ∉ ex → h'.get? b = some o
 slot : ∀ b o, h.get? b = some o → H b = none → b ∈ fs → b ∉ ex → ∃ sl, h'.get? b = some { o with slots := sl }
 free : ∀ b o, h.get? b = some o → H b = none → b ∉ ex → H' b = none
 there : ∀ b o, h.get? b = some o → b ∉ ex → ∃ o', h'.get? b = some o'
 tups : ∀ b xs, H b = some (.tup xs) → H' b = some (.tup xs)
 frzs : ∀ b o u, H b = some (.frz o u) → H' b = some (.frz o u)
 tbls : ∀ b cr, H b = some (.tbl cr) → H' b = some (.tbl cr)
section
variable {fs fs' ex ex' : List Addr} {H H1 H2 : Hp} {h h1 h2 h' : Heap} {a x e : Addr} {o : HO}
theorem Un.any (u : Un fs ex H H1 h h1) {b : Addr} {ob : Obj} (q : h.get? b = some ob) (n : H b = none) (hx : b ∉ ex) : ∃ sl, h1.get? b = some { ob with slots := sl } := by
 by_cases hb : b ∈ fs
 ·exact u.slot b ob q n hb hx
 ·exact ⟨ob.slots, u.keep b ob q n hb hx⟩
theorem Un.kept (k : ∀ b u, h.get? b = some u → h'.get? b = some u) : Un fs ex H H h h' :=
 ⟨fun b ob q _ _ _ => k b ob q, fun b ob q _ _ _ => ⟨ob.slots, k b ob q⟩, fun _ _ _ n _ => n, fun b ob q _ => ⟨ob, k b ob q⟩, fun _ _ q => q, fun _ _ _ q => q, fun _ _ q => q⟩
theorem Un.refl : Un fs ex H H h h := Un.kept fun _ _ q => q
theorem Un.laid (k : ∀ b u, h.get? b = some u → h'.get? b = some u) (hp : h.objs.size ≤ a) (hn : H a = none) : Un fs ex H (upd H a o) h h' where
 keep := fun b u q _ _ _ => k b u q
 slot := fun b u q _ _ _ => ⟨u.slots, k b u q⟩
 free := fun b u q n _ => by rw [upd_ne (Nat.ne_of_lt (Nat.lt_of_lt_of_le (Heap.lt_size q) hp))]; exact n
 there := fun b u q _ => ⟨u, k b u q⟩
 tups := fun b xs q => by rw [upd_ne (ne_of_none q hn)]; exact q
 frzs := fun b u xs q => by rw [upd_ne (ne_of_none q hn)]; exact q
 tbls := fun b cr q => by rw [upd_ne (ne_of_none q hn)]; exact q
theorem Un.write (mu : Mut (H x)) (he : e = x ∨ H e = some (.own x)) (k : ∀ b u, b ≠ e → h.get? b = some u → h'.get? b = some u) (heo : ∃ u, h'.get? e = some u) : Un fs ex H (upd H x o) h h' := by
 have hx : ∀ b, H b = none → b ≠ x := fun b n z => by subst z; rw [n] at mu; exact mu
 have hb : ∀ b, H b = none → b ≠ e := fun b n z => by
  subst z
  rcases he with r | r
  ·exact hx b n r
  ·rw [n] at r; cases r
 have hm : ∀ b u, H b = some u → ¬ Mut (some u) → b ≠ x := fun b u q nm z => by subst z; rw [q] at mu; exact nm mu
 refine ⟨fun b u q n _ _ => k b u (hb b n) q, fun b u q n _ _ => ⟨u.slots, k b u (hb b n) q⟩, fun b u q n _ => by rw [upd_ne (hx b n)]; exact n, fun b u q _ => ?_,
  fun b xs q => by rw [upd_ne (hm b _ q fun z => z)]; exact q, fun b u xs q => by rw [upd_ne (hm b _ q fun z => z)]; exact q, fun b cr q => by rw [upd_ne (hm b _ q fun z => z)]; exact q⟩
 by_cases hbe : b = e
 ·subst hbe; exact heo
 ·exact ⟨u, k b u hbe q⟩
end
def trk (h : Heap) (H : Hp) : List Addr := (List.range h.objs.size).filter fun a => (H a).isSome
def hidT (h : Heap) (H : Hp) : Heap := PySem.W.hideAll h (trk h H)
theorem hidT_size (h : Heap) (H : Hp) : (hidT h H).objs.size = h.objs.size := PySem.W.hideAll_size _ _
theorem hidT_get {h : Heap} {H : Hp} {b : Addr} {o : Obj} (e : h.get? b = some o) (n : H b = none) : (hidT h H).get? b = some o :=
 PySem.W.hideAll_get _ e fun hm => by
  have q : (H b).isSome = true := (List.mem_filter.mp hm).2
  rw [n] at q; simp at q
theorem of_hidT {h : Heap} {H : Hp} {b : Addr} {o : Obj} (e : (hidT h H).get? b = some o) : h.get? b = some o ∧ H b = none := by
 have e' : h.get? b = some o := PySem.W.of_hideAll (trk h H) e
 refine ⟨e', ?_⟩
 cases q : H b with
 | none => rfl
 | some x =>
  have hm : b ∈ trk h H := List.mem_filter.mpr ⟨List.mem_range.mpr (Heap.lt_size e'), by simp [q]⟩
  have z : (hidT h H).get? b = none := PySem.W.hideAll_none (trk h H) hm
  rw [z] at e; cases e
end L2
namespace L2
open PySem PySem.Spec PyProof.Rows
structure Mod (K : PySem.W.Frag) (mg : Str → Option Value) (base : Heap) : Prop where
 kin : K.In base
 glob : base.Ns mainGlobals mg
 blt : ∃ mb, base.Ns builtinsNs mb ∧ ∀ x : Str, x ≠ "__name__" → mb x = bootBuiltins x
 nolimit : base.NoLimit
structure Cx where
 prog : Program
 w : World
 K : PySem.W.Frag
 mg : Str → Option Value
 base : Heap
 A : Around
 N : List Str
 s₀ : Shared
 H₀ : Hp
 env : Env
 outer : List Env
 stack : List Env
 ex : List Addr
 fn : Str → Bool
 calm : Bool
 pn : List (Addr × Obj)
 xe : Value → Shared → Prop
def frs (l : List Env) : List Addr := l.filterMap (·.frame)
abbrev Cx.fs (X : Cx) : List Addr := frs X.outer
def Vis (sc : Scope) (x : Str) : Prop := sc.names.lookup x = some .local ∨ sc.names.lookup x = some .cell ∨ sc.names.lookup x = some .free
def Loc (sc : Scope) (x : Str) : Prop := sc.names.lookup x = some .local ∨ sc.names.lookup x = some .cell
def Look (env : Env) (h : Heap) (m : Str → Option Value) (x : Str) (u : Value) : Prop :=
 (env.kindOf x = some .local ∧ m x = some u) ∨ ((env.kindOf x = some .cell ∨ env.kindOf x = some .free) ∧ ∃ c, env.cells.lookup x = some c ∧ h.IsCell c (some u))
structure Cx.Ok (X : Cx) : Prop where
 mod : Mod X.K X.mg X.base
 kind : X.env.scope.kind = .function
 glob : X.env.globals = mainGlobals
 blt : X.env.builtins = builtinsNs
 above : X.s₀.heap.objs.size ≤ X.env.locals
 inj : ∀ x y c, X.env.cells.lookup x = some c → X.env.cells.lookup y = some c → x = y
 has : ∀ x, (X.env.kindOf x = some .cell ∨ X.env.kindOf x = some .free) → ∃ c, X.env.cells.lookup x = some c
 cab : ∀ x c, X.fn x = true → X.env.cells.lookup x = some c → X.s₀.heap.objs.size ≤ c
 hd : X.calm = true → X.A.handled = none
 frames : X.A.frames = some X.stack
 stk : X.stack = X.outer ∨ (X.stack = X.env :: X.outer ∧ X.env.frame = some X.env.locals)
 exf : ∀ b ∈ X.ex, b ≠ X.env.locals ∧ ∀ x c, X.env.cells.lookup x = some c → c ≠ b
 bs : ∀ b o, X.base.get? b = some o → X.s₀.heap.get? b = some o ∧ X.H₀ b = none
 bsz : X.base.objs.size ≤ X.s₀.heap.objs.size
 noex : ∀ b o, X.base.get? b = some o → b ∉ X.ex
 exfs : ∀ b ∈ X.ex, b ∉ X.fs
 funs : X.s₀.heap.FunFrames X.base X.outer
 frf : ∀ b ∈ X.fs, X.H₀ b = none
structure Inv (X : Cx) (pins : List (Addr × Obj)) (σ : List (Option V)) (H : Hp) (s : Shared) : Prop where
 ok : X.Ok
 os : s.os = X.s₀.os
 bare : AllBare s.gens
 base : Un X.fs X.ex X.H₀ H X.s₀.heap s.heap
 loc : ∃ m, s.heap.Ns X.env.locals m ∧ ∀ (i : Nat) (x : Str) (v : V), X.N[i]? = some x → σ[i]? = some (some v) → Vis X.env.scope x → ∃ u, RelV v u ∧ Look X.env s.heap m x u
 cell : ∀ x c, X.env.cells.lookup x = some c → ∃ v, s.heap.IsCell c v
 free : H X.env.locals = none
 freeC : ∀ x c, X.env.cells.lookup x = some c → H c = none
 pin : ∀ p ∈ X.pn ++ pins, s.heap.get? p.1 = some p.2 ∧ H p.1 = none ∧ p.1 ≠ X.env.locals ∧ p.1 ∉ X.fs ∧ ∀ v, p.2.data ≠ .cell v
 hok : HOk X.prog X.w H s.heap
 len : σ.length = X.N.length
section
variable {X : Cx} {pins : List (Addr × Obj)} {σ : List (Option V)} {H H' : Hp} {s : Shared} {h' : Heap}
theorem Cx.Ok.nofr (ok : X.Ok) {b : Addr} {o : Obj} (e : X.base.get? b = some o) : b ∉ X.fs := fun hb => by
 have := (ok.funs.mem hb).1
 rw [e] at this; cases this
theorem Inv.bs (I : Inv X pins σ H s) : ∀ b o, X.base.get? b = some o → s.heap.get? b = some o ∧ H b = none := fun b o e =>
 ⟨I.base.keep b o (I.ok.bs b o e).1 (I.ok.bs b o e).2 (I.ok.nofr e) (I.ok.noex b o e), I.base.free b o (I.ok.bs b o e).1 (I.ok.bs b o e).2 (I.ok.noex b o e)⟩
theorem Inv.bk (I : Inv X pins σ H s) : ∀ b o, X.base.get? b = some o → s.heap.get? b = some o := fun b o e => (I.bs b o e).1
theorem Inv.mod (I : Inv X pins σ H s) : Mod X.K X.mg X.base := I.ok.mod
theorem Inv.kIn (I : Inv X pins σ H s) : X.K.In s.heap := I.ok.mod.kin.keeps I.bk
theorem Inv.lt (I : Inv X pins σ H s) : X.env.locals < s.heap.objs.size := let ⟨_, hn, _⟩ := I.loc; hn.lt
theorem Inv.sz (I : Inv X pins σ H s) : X.s₀.heap.objs.size ≤ s.heap.objs.size := Nat.le_trans I.ok.above (Nat.le_of_lt I.lt)
theorem Inv.nofs (I : Inv X pins σ H s) {a : Addr} (h : s.heap.objs.size ≤ a) : a ∉ X.fs := fun hb => by
 obtain ⟨_, o, ho, _⟩ := I.ok.funs.mem hb
 exact absurd (Nat.lt_of_lt_of_le (Heap.lt_size ho) (Nat.le_trans I.sz h)) (Nat.lt_irrefl _)
theorem Inv.cne (I : Inv X pins σ H s) : ∀ x c, X.env.cells.lookup x = some c → c ≠ X.env.locals := fun x c e z => by
 obtain ⟨v, o, ho, hd⟩ := I.cell x c e
 obtain ⟨m, ⟨o', es, ep, ho', hd', _⟩, _⟩ := I.loc
 rw [z, ho'] at ho; cases ho; rw [hd'] at hd; cases hd
theorem Inv.funs (I : Inv X pins σ H s) : s.heap.FunFrames X.base X.outer := by
 have all : ∀ (l : List Env), (∀ b ∈ frs l, b ∈ X.fs) → X.s₀.heap.FunFrames X.base l → s.heap.FunFrames X.base l := by
  intro l
  induction l with
  | nil => intro _ _; trivial
  | cons env r ih =>
   intro hs hl
   obtain ⟨hk, ⟨L, o, hf, hn, ho, hd⟩, hr⟩ := hl
   have hL : L ∈ X.fs := hs L (by unfold frs; rw [List.filterMap_cons, hf]; exact List.mem_cons_self)
   obtain ⟨sl, e⟩ := I.base.slot L o ho (I.ok.frf L hL) hL fun z => I.ok.exfs L z hL
   exact ⟨hk, ⟨L, _, hf, hn, e, hd⟩, ih (fun b hb => hs b (by unfold frs; rw [List.filterMap_cons, hf]; exact List.mem_cons_of_mem _ hb)) hr⟩
 exact all X.outer (fun _ hb => hb) I.ok.funs
theorem Inv.stack (I : Inv X pins σ H s) : s.heap.FunFrames X.base X.stack := by
 rcases I.ok.stk with e | ⟨e, hf⟩
 ·rw [e]; exact I.funs
 ·rw [e]
  obtain ⟨m, hn, _⟩ := I.loc
  refine .cons (by rw [I.ok.kind]; decide) hf hn ?_ I.funs
  exact Heap.get?_none_of_le (Nat.le_trans I.ok.bsz I.ok.above)
theorem Inv.stkSub (I : Inv X pins σ H s) : ∀ b ∈ frs X.stack, b ∈ X.env.locals :: X.fs := fun b hb => by
 rcases I.ok.stk with e | ⟨e, hf⟩
 ·rw [e] at hb; exact List.mem_cons_of_mem _ hb
 ·rw [e] at hb
  unfold frs at hb
  rw [List.filterMap_cons, hf] at hb
  exact hb
theorem Inv.stkFree (I : Inv X pins σ H s) : ∀ b ∈ frs X.stack, H b = none := fun b hb => by
 rcases List.mem_cons.mp (I.stkSub b hb) with e | hb
 ·rw [e]; exact I.free
 ·obtain ⟨_, o, ho, _⟩ := I.ok.funs.mem hb
  exact I.base.free b o ho (I.ok.frf b hb) fun z => I.ok.exfs b z hb
theorem Inv.step {g' : Array GenState} {t' : Nat} {d' : Drawn} {ch : List Addr} (I : Inv X pins σ H s)
  (hch : ∀ b ∈ ch, (b ∈ X.ex ∨ X.s₀.heap.objs.size ≤ b) ∧ b ≠ X.env.locals ∧ (∀ x c, X.env.cells.lookup x = some c → c ≠ b) ∧ ∀ p ∈ X.pn ++ pins, p.1 ≠ b)
  (keep : ∀ b o, b ≠ X.env.locals → b ∉ X.fs → b ∉ ch → s.heap.get? b = some o → H b = none → h'.get? b = some o)
  (slot : ∀ b o, b ≠ X.env.locals → b ∈ X.fs → b ∉ ch → s.heap.get? b = some o → H b = none → ∃ sl, h'.get? b = some { o with slots := sl }) (free : ∀ b o, b ∉ ch → s.heap.get? b = some o → H b = none → H' b = none)
  (there : ∀ b o, b ∉ ch → s.heap.get? b = some o → ∃ o', h'.get? b = some o')
  (tups : ∀ b xs, H b = some (.tup xs) → H' b = some (.tup xs)) (frzs : ∀ b o u, H b = some (.frz o u) → H' b = some (.frz o u)) (tbls : ∀ b cr, H b = some (.tbl cr) → H' b = some (.tbl cr))
  (ns : ∀ m, s.heap.Ns X.env.locals m → h'.Ns X.env.locals m) (hok : HOk X.prog X.w H' h') (hg : AllBare g') :
  Inv X pins σ H' { s with heap := h', gens := g', drawn := d', toks := t' } := by
 have neL : ∀ b o, X.s₀.heap.get? b = some o → b ≠ X.env.locals := fun b o e => Nat.ne_of_lt (Nat.lt_of_lt_of_le (Heap.lt_size e) I.ok.above)
 have neC : ∀ b o, X.s₀.heap.get? b = some o → b ∉ X.ex → b ∉ ch := fun b o e hx hb => by
  rcases (hch b hb).1 with z | z
  ·exact hx z
  ·exact absurd (Nat.lt_of_lt_of_le (Heap.lt_size e) z) (Nat.lt_irrefl _)
 have cellK : ∀ x c, X.env.cells.lookup x = some c → ∀ v, s.heap.IsCell c v → h'.IsCell c v := fun x c e v ⟨o, ho, hd⟩ => by
  have nch : c ∉ ch := fun z => (hch c z).2.2.1 x c e rfl
  by_cases hc : c ∈ X.fs
  ·obtain ⟨sl, q⟩ := slot c o (I.cne x c e) hc nch ho (I.freeC x c e)
   exact ⟨_, q, hd⟩
  ·exact ⟨o, keep c o (I.cne x c e) hc nch ho (I.freeC x c e), hd⟩
 refine ⟨I.ok, I.os, hg, ⟨fun b o e n hb hx => ?_, fun b o e n hb hx => ?_, fun b o e n hx => ?_, fun b o e hx => ?_, fun b xs e => tups b xs (I.base.tups b xs e), fun b o xs e => frzs b o xs (I.base.frzs b o xs e), fun b ps e => ?_⟩, ?_, fun x c e => ?_, ?_, fun x c e => ?_, fun p hp => ?_, hok, I.len⟩
 ·exact keep b o (neL b o e) hb (neC b o e hx) (I.base.keep b o e n hb hx) (I.base.free b o e n hx)
 ·obtain ⟨sl, e1⟩ := I.base.slot b o e n hb hx
  obtain ⟨sl', e2⟩ := slot b _ (neL b o e) hb (neC b o e hx) e1 (I.base.free b o e n hx)
  exact ⟨sl', e2⟩
 ·obtain ⟨o', e1⟩ := I.base.there b o e hx
  exact free b o' (neC b o e hx) e1 (I.base.free b o e n hx)
 ·obtain ⟨o', e1⟩ := I.base.there b o e hx
  exact there b o' (neC b o e hx) e1
 ·exact tbls b ps (I.base.tbls b ps e)
 ·obtain ⟨m, hn, hl⟩ := I.loc
  refine ⟨m, ns m hn, fun i x v e1 e2 e3 => ?_⟩
  obtain ⟨u, r, l⟩ := hl i x v e1 e2 e3
  refine ⟨u, r, ?_⟩
  rcases l with l | ⟨k, c, e, z⟩
  ·exact .inl l
  ·exact .inr ⟨k, c, e, cellK x c e _ z⟩
 ·obtain ⟨v, z⟩ := I.cell x c e
  exact ⟨v, cellK x c e v z⟩
 ·obtain ⟨m, ⟨o, _, _, ho, _⟩, _⟩ := I.loc
  exact free _ o (fun z => (hch _ z).2.1 rfl) ho I.free
 ·obtain ⟨v, o, ho, hd⟩ := I.cell x c e
  exact free c o (fun z => (hch c z).2.2.1 x c e rfl) ho (I.freeC x c e)
 ·obtain ⟨e, n, ne, nf, d⟩ := I.pin p hp
  have nch : p.1 ∉ ch := fun z => (hch p.1 z).2.2.2 p hp rfl
  exact ⟨keep p.1 p.2 ne nf nch e n, free p.1 p.2 nch e n, ne, nf, d⟩
theorem Inv.un {t' : Nat} (I : Inv X pins σ H s) (u : Un X.fs [] H H' s.heap h') (hok : HOk X.prog X.w H' h') : Inv X pins σ H' { s with heap := h', toks := t' } := by
 obtain ⟨m, ⟨o, es, ep, ho, r⟩, _⟩ := id I.loc
 obtain ⟨sl, hL⟩ := u.any ho I.free (by simp)
 exact I.step (g' := s.gens) (d' := s.drawn) (ch := []) (fun _ z => nomatch z) (fun b o _ hb _ e n => u.keep b o e n hb (by simp)) (fun b o _ hb _ e n => u.slot b o e n hb (by simp)) (fun b o _ e n => u.free b o e n (by simp)) (fun b o _ e => u.there b o e (by simp)) u.tups u.frzs u.tbls (fun m' hm => by
  obtain ⟨o', es', ep', ho', r'⟩ := hm
  rw [ho] at ho'; cases ho'
  exact ⟨_, es', ep', hL, r'⟩) hok I.bare
theorem Inv.call {g' : Array GenState} {t' : Nat} {d' : Drawn} {ch : List Addr} (I : Inv X pins σ H s) (u : Un (frs X.stack) ch H H' s.heap h') (hok : HOk X.prog X.w H' h') (hg : AllBare g')
  (hch : ∀ b ∈ ch, (b ∈ X.ex ∨ X.s₀.heap.objs.size ≤ b) ∧ b ≠ X.env.locals ∧ (∀ x c, X.env.cells.lookup x = some c → c ≠ b) ∧ ∀ p ∈ X.pn ++ pins, p.1 ≠ b) :
  Inv X pins σ H' { s with heap := h', gens := g', drawn := d', toks := t' } := by
 obtain ⟨m, ⟨o, es, ep, ho, r⟩, _⟩ := id I.loc
 obtain ⟨sl, hL⟩ := u.any ho I.free fun z => (hch _ z).2.1 rfl
 exact I.step (ch := ch) hch (fun b o hL hb hc e n => u.keep b o e n (fun z => (List.mem_cons.mp (I.stkSub b z)).elim hL hb) hc) (fun b o _ _ hc e n => u.any e n hc) (fun b o hc e n => u.free b o e n hc) (fun b o hc e => u.there b o e hc) u.tups u.frzs u.tbls (fun m' hm => by
  obtain ⟨o', es', ep', ho', r'⟩ := hm
  rw [ho] at ho'; cases ho'
  exact ⟨_, es', ep', hL, r'⟩) hok hg
theorem Inv.turned {t' : Nat} {it : Addr} (I : Inv X pins σ H s) (k : ∀ b o, b ≠ it → s.heap.get? b = some o → h'.get? b = some o) (hn : H it = none) (hL : it ≠ X.env.locals)
  (h1 : it ∈ X.ex ∨ X.s₀.heap.objs.size ≤ it) (h2 : ∀ x c, X.env.cells.lookup x = some c → c ≠ it) (h3 : ∀ p ∈ X.pn ++ pins, p.1 ≠ it) : Inv X pins σ H { s with heap := h', toks := t' } := by
 have nit : ∀ b u, H b = some u → b ≠ it := fun b u e z => by rw [z, hn] at e; cases e
 refine I.step (g' := s.gens) (d' := s.drawn) (ch := [it]) (fun b hb => ?_) (fun b o _ _ hc e _ => k b o (fun z => hc (by simp [z])) e) (fun b o _ _ hc e _ => ⟨o.slots, k b o (fun z => hc (by simp [z])) e⟩) (fun _ _ _ _ n => n)
  (fun b o hc e => ⟨o, k b o (fun z => hc (by simp [z])) e⟩) (fun _ _ e => e) (fun _ _ _ e => e) (fun _ _ e => e) (fun m hm => ?_) (fun b u e => ?_) I.bare
 ·have e : b = it := by simpa using hb
  subst e
  exact ⟨h1, hL, h2, h3⟩
 ·obtain ⟨o, es, ep, ho, r⟩ := hm
  exact ⟨o, es, ep, k _ o (Ne.symm hL) ho, r⟩
 ·refine (I.hok b u e).stay (fun c v hc q => k c v ?_ q) (fun _ q => q) (fun _ _ q => q) fun _ _ _ q => q
  rcases hc with z | z
  ·rw [z]; exact nit b u e
  ·exact nit c _ z
theorem Inv.tok (I : Inv X pins σ H s) (t : Nat) : Inv X pins σ H { s with toks := t } := I.un (h' := s.heap) (t' := t) Un.refl I.hok
theorem Inv.kept {t' : Nat} (I : Inv X pins σ H s) (k : ∀ b u, s.heap.get? b = some u → h'.get? b = some u) : Inv X pins σ H { s with heap := h', toks := t' } := I.un (Un.kept k) (I.hok.kept k)
theorem Inv.laid {a : Addr} {o : HO} {t' : Nat} (I : Inv X pins σ H s) (k : ∀ b u, s.heap.get? b = some u → h'.get? b = some u) (hp : s.heap.objs.size ≤ a) (new : ObjOk X.prog X.w (upd H a o) h' a o) :
  Inv X pins σ (upd H a o) { s with heap := h', toks := t' } := I.un (Un.laid k hp (I.hok.fresh hp)) (I.hok.laid k hp new)
theorem Inv.write {x e : Addr} {o : HO} {t' : Nat} (I : Inv X pins σ H s) (mu : Mut (H x)) (he : e = x ∨ H e = some (.own x)) (k : ∀ b u, b ≠ e → s.heap.get? b = some u → h'.get? b = some u) (heo : ∃ u, h'.get? e = some u)
  (new : ObjOk X.prog X.w (upd H x o) h' x o) : Inv X pins σ (upd H x o) { s with heap := h', toks := t' } := I.un (Un.write mu he k heo) (I.hok.write mu he k heo new)
theorem Inv.pins_of {pins' : List (Addr × Obj)} (I : Inv X pins σ H s) (h : ∀ p ∈ pins', s.heap.get? p.1 = some p.2 ∧ H p.1 = none ∧ p.1 ≠ X.env.locals ∧ p.1 ∉ X.fs ∧ ∀ v, p.2.data ≠ .cell v) : Inv X pins' σ H s :=
 ⟨I.ok, I.os, I.bare, I.base, I.loc, I.cell, I.free, I.freeC, fun p hp => (List.mem_append.mp hp).elim (fun z => I.pin p (List.mem_append_left _ z)) (h p), I.hok, I.len⟩
theorem nodup_ix {N : List Str} (hN : N.Nodup) {i j : Nat} {x : Str} (a : N[i]? = some x) (b : N[j]? = some x) : i = j := by
 obtain ⟨h1, e1⟩ := List.getElem?_eq_some_iff.mp a
 obtain ⟨h2, e2⟩ := List.getElem?_eq_some_iff.mp b
 exact (List.getElem_inj hN).mp (e1.trans e2.symm)
theorem store_ok2 {M : Model} {A : Around} {E : Value → Shared → Prop} {i : Nat} {x : Str} {v : V} {u : Value} {Q : Unit → Shared → Prop} (I : Inv X pins σ H s) (hN : X.N.Nodup) (hi : X.N[i]? = some x) (hx : Loc X.env.scope x) (r : RelV v u)
  (h : ∀ s', Inv X pins (σ.set i (some v)) H s' → (∃ a, Heap.SameBut a s.heap s'.heap ∧ (a = X.env.locals ∨ X.env.cells.lookup x = some a)) → Q () s') (hf : X.fn x = true ∨ X.env.scope.names.lookup x = some .local := by first | exact .inl rfl | exact .inr rfl | assumption) : wpAny M A (storeName X.env x u) Q E s := by
 obtain ⟨m, hn, hl⟩ := id I.loc
 have hcls : (X.env.scope.kind == .class || (X.env.scope.kind == .module && X.env.locals != X.env.globals)) = false := by rw [I.ok.kind]; rfl
 have hiσ : i < σ.length := by rw [I.len]; exact (List.getElem?_eq_some_iff.mp hi).1
 have cne := I.cne
 have tracked : ∀ {a : Addr} {h' : Heap}, (∃ o, s.heap.get? a = some o ∧ H a = none) → Heap.SameBut a s.heap h' → HOk X.prog X.w H h' := fun {a h'} ha hs b ob e => by
  obtain ⟨_, _, hfree⟩ := ha
  refine (I.hok b ob e).stay (fun c w' hc q => (hs.2 c ?_).trans q) (fun _ q => q) (fun _ _ q => q) fun _ _ _ q => q
  rintro rfl
  rcases hc with rfl | hc
  ·rw [hfree] at e; cases e
  ·rw [hfree] at hc; cases hc
 rcases hx with hk | hk
 ·refine wpAny_storeName_local hk hn (fun h' hn' hs => ?_) hcls
  obtain ⟨oL, _, _, hoL, _⟩ := id hn
  refine h _ ⟨I.ok, I.os, I.bare, ⟨fun b o e n hb hx => ?_, fun b o e n hb hx => ?_, I.base.free, fun b o e hx => ?_, I.base.tups, I.base.frzs, I.base.tbls⟩, ⟨_, hn', fun j y v' e1 e2 e3 => ?_⟩, fun y c e => ?_, I.free, I.freeC, fun p hp => ?_, tracked ⟨oL, hoL, I.free⟩ hs, by simpa using I.len⟩ ⟨_, hs, .inl rfl⟩
  ·exact (hs.2 b (Nat.ne_of_lt (Nat.lt_of_lt_of_le (Heap.lt_size e) I.ok.above))).trans (I.base.keep b o e n hb hx)
  ·obtain ⟨sl, e1⟩ := I.base.slot b o e n hb hx
   exact ⟨sl, (hs.2 b (Nat.ne_of_lt (Nat.lt_of_lt_of_le (Heap.lt_size e) I.ok.above))).trans e1⟩
  ·obtain ⟨o', e1⟩ := I.base.there b o e hx
   exact ⟨o', (hs.2 b (Nat.ne_of_lt (Nat.lt_of_lt_of_le (Heap.lt_size e) I.ok.above))).trans e1⟩
  ·by_cases hj : j = i
   ·subst hj
    rw [hi] at e1; cases e1
    rw [List.getElem?_set_self hiσ] at e2
    cases e2
    exact ⟨u, r, .inl ⟨hk, by simp⟩⟩
   ·rw [List.getElem?_set_ne (Ne.symm hj)] at e2
    obtain ⟨u', r', q⟩ := hl j y v' e1 e2 e3
    refine ⟨u', r', ?_⟩
    rcases q with ⟨k, e⟩ | ⟨k, c, e, z⟩
    ·refine .inl ⟨k, ?_⟩
     have : y ≠ x := fun e => hj (nodup_ix hN e1 (e ▸ hi))
     simp [this, e]
    ·exact .inr ⟨k, c, e, z.sameBut hs (cne y c e)⟩
  ·obtain ⟨w', z⟩ := I.cell y c e
   exact ⟨w', z.sameBut hs (cne y c e)⟩
  ·obtain ⟨e, n, ne, nf, d⟩ := I.pin p hp
   exact ⟨(hs.2 p.1 ne).trans e, n, ne, nf, d⟩
 ·have hfn : X.fn x = true := by
   rcases hf with z | z
   ·exact z
   ·rw [z] at hk; cases hk
  obtain ⟨c, hc⟩ := I.ok.has x (.inl hk)
  obtain ⟨w', z⟩ := I.cell x c hc
  refine wpAny_storeName_cell I.ok.kind hk hc z (fun h' hc' hs => ?_)
  obtain ⟨oc, hoc, hocd⟩ := id z
  refine h { s with heap := h' } ⟨I.ok, I.os, I.bare, ⟨fun b o e n hb hx => ?_, fun b o e n hb hx => ?_, I.base.free, fun b o e hx => ?_, I.base.tups, I.base.frzs, I.base.tbls⟩, ⟨m, hn.sameBut hs (Ne.symm (cne x c hc)), fun j y v' e1 e2 e3 => ?_⟩, fun y c' e => ?_, I.free, I.freeC, fun p hp => ?_, tracked ⟨oc, hoc, I.freeC x c hc⟩ hs, by simpa using I.len⟩ ⟨c, hs, .inr hc⟩
  ·exact (hs.2 b (Nat.ne_of_lt (Nat.lt_of_lt_of_le (Heap.lt_size e) (I.ok.cab x c hfn hc)))).trans (I.base.keep b o e n hb hx)
  ·obtain ⟨sl, e1⟩ := I.base.slot b o e n hb hx
   exact ⟨sl, (hs.2 b (Nat.ne_of_lt (Nat.lt_of_lt_of_le (Heap.lt_size e) (I.ok.cab x c hfn hc)))).trans e1⟩
  ·obtain ⟨o', e1⟩ := I.base.there b o e hx
   exact ⟨o', (hs.2 b (Nat.ne_of_lt (Nat.lt_of_lt_of_le (Heap.lt_size e) (I.ok.cab x c hfn hc)))).trans e1⟩
  ·by_cases hj : j = i
   ·subst hj
    rw [hi] at e1; cases e1
    rw [List.getElem?_set_self hiσ] at e2
    cases e2
    exact ⟨u, r, .inr ⟨.inl hk, c, hc, hc'⟩⟩
   ·rw [List.getElem?_set_ne (Ne.symm hj)] at e2
    obtain ⟨u', r', q⟩ := hl j y v' e1 e2 e3
    refine ⟨u', r', ?_⟩
    rcases q with q | ⟨k, c', e, z'⟩
    ·exact .inl q
    ·refine .inr ⟨k, c', e, z'.sameBut hs ?_⟩
     rintro rfl
     exact hj (nodup_ix hN e1 (I.ok.inj _ _ _ e hc ▸ hi))
  ·by_cases hcc : c' = c
   ·subst hcc; exact ⟨_, hc'⟩
   ·obtain ⟨w2, z2⟩ := I.cell y c' e
    exact ⟨w2, z2.sameBut hs hcc⟩
  ·obtain ⟨e, n, ne, nf, d⟩ := I.pin p hp
   refine ⟨(hs.2 p.1 ?_).trans e, n, ne, nf, d⟩
   intro q
   rw [q, hoc] at e
   have q' : oc = p.2 := Option.some.inj e
   exact d w' (by rw [← q']; exact hocd)
theorem store_ok {M : Model} {A : Around} {E : Value → Shared → Prop} {i : Nat} {x : Str} {v : V} {u : Value} {Q : Unit → Shared → Prop} (I : Inv X pins σ H s) (hN : X.N.Nodup) (hi : X.N[i]? = some x) (hx : Loc X.env.scope x) (r : RelV v u)
  (h : ∀ s', Inv X pins (σ.set i (some v)) H s' → Q () s') (hf : X.fn x = true ∨ X.env.scope.names.lookup x = some .local := by first | exact .inl rfl | exact .inr rfl | assumption) : wpAny M A (storeName X.env x u) Q E s :=
 store_ok2 I hN hi hx r (fun s' I' _ => h s' I') hf
theorem Inv.call' {s' : Shared} {ch : List Addr} (I : Inv X pins σ H s) (ho : s'.os = s.os) (u : Un (frs X.stack) ch H H' s.heap s'.heap) (hok : HOk X.prog X.w H' s'.heap) (hg : AllBare s'.gens)
  (hch : ∀ b ∈ ch, (b ∈ X.ex ∨ X.s₀.heap.objs.size ≤ b) ∧ b ≠ X.env.locals ∧ (∀ x c, X.env.cells.lookup x = some c → c ≠ b) ∧ ∀ p ∈ X.pn ++ pins, p.1 ≠ b) : Inv X pins σ H' s' := by
 obtain ⟨h', g', d', t', o'⟩ := s'
 have e : o' = s.os := ho
 subst e
 exact I.call (g' := g') (t' := t') (d' := d') u hok hg hch
end
abbrev XK := Value → Option Addr → Hp → Prop
abbrev St := List (Option V)
abbrev VK := V → Hp → Prop
abbrev TE := St → Hp → VK → Prop
abbrev TT := St → Hp → (Bool → Hp → Prop) → Prop
abbrev TA := St → Hp → (List V → Hp → Prop) → Prop
structure Ends where
 nx : St → Hp → Prop
 rt : VK
 bk : St → Hp → Prop := fun _ _ => False
 ct : St → Hp → Prop := fun _ _ => False
abbrev TS := Ends → St → Hp → Prop
def EP (X : Cx) (pins : List (Addr × Obj)) (σ : St) (Q : VK) (u : Value) (s' : Shared) : Prop := ∃ v H', Inv X pins σ H' s' ∧ RelV v u ∧ Q v H'
def TP (X : Cx) (pins : List (Addr × Obj)) (σ : St) (Q : Bool → Hp → Prop) (b : Bool) (s' : Shared) : Prop := ∃ H', Inv X pins σ H' s' ∧ Q b H'
def AP (X : Cx) (pins : List (Addr × Obj)) (σ : St) (Q : List V → Hp → Prop) (us : List Value) (s' : Shared) : Prop := ∃ vs H', Inv X pins σ H' s' ∧ Vals vs us ∧ Q vs H'
def SP (X : Cx) (pins : List (Addr × Obj)) (D : Ends) (f : Flow) (s' : Shared) : Prop :=
 match f with
 | .next => ∃ σ' H', Inv X pins σ' H' s' ∧ D.nx σ' H'
 | .brk => ∃ σ' H', Inv X pins σ' H' s' ∧ D.bk σ' H'
 | .cont => ∃ σ' H', Inv X pins σ' H' s' ∧ D.ct σ' H'
 | .ret u => ∃ v σ' H', Inv X pins σ' H' s' ∧ RelV v u ∧ D.rt v H'
def PE (X : Cx) (e : Expr) (t : TE) : Prop :=
 ∀ (pins : List (Addr × Obj)) (s : Shared) (σ : St) (H : Hp) (Q : VK), Inv X pins σ H s → t σ H Q → wpAny (model X.prog X.w) X.A (eval e X.env) (EP X pins σ Q) X.xe s
def PT (X : Cx) (e : Expr) (t : TT) : Prop :=
 ∀ (pins : List (Addr × Obj)) (s : Shared) (σ : St) (H : Hp) (Q : Bool → Hp → Prop), Inv X pins σ H s → t σ H Q → wpAny (model X.prog X.w) X.A (isTrue e X.env (eval e X.env)) (TP X pins σ Q) X.xe s
def PW (X : Cx) (e : Expr) (t : TT) : Prop :=
 ∀ (whole : Sem Value) (pins : List (Addr × Obj)) (s : Shared) (σ : St) (H : Hp) (Q : Bool → Hp → Prop), Inv X pins σ H s → t σ H Q → wpAny (model X.prog X.w) X.A (isTrue e X.env whole) (TP X pins σ Q) X.xe s
theorem PW.pt {X : Cx} {e : Expr} {t : TT} (h : PW X e t) : PT X e t := h _
def PA (X : Cx) (es : List Expr) (t : TA) : Prop :=
 ∀ (pos : Pos) (pins : List (Addr × Obj)) (s : Shared) (σ : St) (H : Hp) (Q : List V → Hp → Prop), Inv X pins σ H s → t σ H Q → wpAny (model X.prog X.w) X.A (spliced (backTo pos (starEach es X.env))) (AP X pins σ Q) X.xe s
def PS (X : Cx) (st : Stmt) (t : TS) : Prop :=
 ∀ (pins : List (Addr × Obj)) (s : Shared) (σ : St) (H : Hp) (D : Ends), Inv X pins σ H s → t D σ H → wpAny (model X.prog X.w) X.A (exec st X.env) (SP X pins D) X.xe s
def PSs (X : Cx) (st : List Stmt) (t : TS) : Prop :=
 ∀ (pins : List (Addr × Obj)) (s : Shared) (σ : St) (H : Hp) (D : Ends), Inv X pins σ H s → t D σ H → wpAny (model X.prog X.w) X.A (execs st X.env) (SP X pins D) X.xe s
theorem thn {α : Type} {t : Sem α} {Q Q' : α → Shared → Prop} {M : Model} {A : Around} {E : Value → Shared → Prop} {s : Shared} (h : wpAny M A t Q E s) (hQ : ∀ a s, Q a s → Q' a s) : wpAny M A t Q' E s := wpAny_mono h hQ fun _ _ x => x
end L2
namespace L2
open PySem PySem.Spec PyProof.Rows
section
variable {X : Cx}
def tVar (i : Nat) : TE := fun σ H Q => ∃ v, σ[i]? = some (some v) ∧ Q v H
def tC (v : V) : TE := fun _ H Q => Q v H
theorem pe_var {i : Nat} {x : Str} {pos : Pos} (hN : X.N[i]? = some x) (hv : Vis X.env.scope x) (hd : (x == ("__debug__" : Str)) = false := by decide) (hcd : (x == ("__classdict__" : Str)) = false := by decide) : PE X (.Name x pos) (tVar i) := by
 intro pins s σ H Q I h
 obtain ⟨v, e, h⟩ := h
 obtain ⟨m, hn, hl⟩ := I.loc
 obtain ⟨u, r, l⟩ := hl i x v hN e hv
 have fin : EP X pins σ Q u s := ⟨v, H, I, r, h⟩
 rcases l with ⟨hk, hm⟩ | ⟨hk, c, hc, hcell⟩
 ·exact wpAny_Name (wpAny_loadName_local I.ok.kind hk hn hm fin) hd
 ·rcases hk with hk | hk
  ·exact wpAny_Name (wpAny_loadName_cell I.ok.kind hk hc hcell fin) hd
  ·exact wpAny_Name (wpAny_loadName_free I.ok.kind hk hc hcell fin hcd) hd
theorem pe_int {i j pos} : PE X (.Constant (.int i) j pos) (tC (.int i)) := fun _ _ _ H _ I h => wpAny_Constant_int ⟨.int i, H, I.tok _, ⟨_, rfl⟩, h⟩
theorem pe_bl {b j pos} : PE X (.Constant (.bool b) j pos) (tC (.bl b)) := fun _ _ _ H _ I h => Constant_bool ⟨.bl b, H, I, rfl, h⟩
theorem pe_non {j pos} : PE X (.Constant .none j pos) (tC .non) := fun _ _ _ H _ I h => Constant_none ⟨.non, H, I, rfl, h⟩
def Gl (X : Cx) (x : Str) : Prop := X.env.kindOf x = some .globalImplicit
theorem ld_glob {E : Value → Shared → Prop} {pins : List (Addr × Obj)} {s : Shared} {σ : St} {H : Hp} {x : Str} {u : Value} {pos : Pos} {Q : Value → Shared → Prop} (I : Inv X pins σ H s) (hg : Gl X x) (hm : X.mg x = some u) (h : Q u s)
  (hd : (x == ("__debug__" : Str)) = false := by decide) : wpAny (model X.prog X.w) X.A (eval (.Name x pos) X.env) Q E s :=
 Calls.Name_function_global I.ok.kind hg (Calls.loadGlobal_global (by rw [I.ok.glob]; exact I.mod.glob.keeps I.bk) hm h) hd
theorem ld_blt {E : Value → Shared → Prop} {pins : List (Addr × Obj)} {s : Shared} {σ : St} {H : Hp} {x : Str} {u : Value} {pos : Pos} {Q : Value → Shared → Prop} (I : Inv X pins σ H s) (hg : Gl X x) (hm : X.mg x = none) (hv : bootBuiltins x = some u) (h : Q u s)
  (hn : x ≠ "__name__" := by decide) (hd : (x == ("__debug__" : Str)) = false := by decide) : wpAny (model X.prog X.w) X.A (eval (.Name x pos) X.env) Q E s := by
 obtain ⟨mb, h1, h2⟩ := I.mod.blt
 exact Calls.Name_function_global I.ok.kind hg (Calls.loadGlobal_builtin (by rw [I.ok.glob]; exact I.mod.glob.keeps I.bk) hm (by rw [I.ok.blt]; exact h1.keeps I.bk) ((h2 x hn).trans hv) h) hd
theorem pe_glob {x : Str} {v : V} {u : Value} {pos : Pos} (hg : Gl X x) (hm : X.mg x = some u) (r : RelV v u) (hd : (x == ("__debug__" : Str)) = false := by decide) : PE X (.Name x pos) (tC v) :=
 fun _ _ _ H _ I h => ld_glob I hg hm ⟨v, H, I, r, h⟩ hd
theorem pe_bltn {x : Str} {v : V} {u : Value} {pos : Pos} (hg : Gl X x) (hm : X.mg x = none) (hv : bootBuiltins x = some u) (r : RelV v u) (hn : x ≠ "__name__" := by decide) (hd : (x == ("__debug__" : Str)) = false := by decide) : PE X (.Name x pos) (tC v) :=
 fun _ _ _ H _ I h => ld_blt I hg hm hv ⟨v, H, I, r, h⟩ hn hd
variable {a b : Expr} {ta tb : TE} {pos : Pos}
def tB (t : TE) : TT := fun σ H Q => t σ H fun x H1 => ∃ c, x = .bl c ∧ Q c H1
theorem pt_val {e : Expr} {t : TE} (h : PE X e t) (he : ∀ whole, isTrue e X.env whole = (do let v ← whole; standAt e.pos; holding [v] (truthy v)) := by intro _; rfl) : PT X e (tB t) := by
 intro pins s σ H Q I hw
 refine isTrue_plain (thn (h pins s σ H _ I hw) fun v s1 ⟨x, H1, I1, r1, q1⟩ => ?_) (he _)
 obtain ⟨d, rfl, q⟩ := q1
 cases r1
 exact wpAny_truthy_bool ⟨H1, I1, q⟩
variable {tA tB' : TT} {rest : List Expr}
def tAnd (t u : TT) : TT := fun σ H Q => t σ H fun c H1 => if c = true then u σ H1 Q else Q false H1
def tOr (t u : TT) : TT := fun σ H Q => t σ H fun c H1 => if c = true then Q true H1 else u σ H1 Q
def tNot (t : TT) : TT := fun σ H Q => t σ H fun c H1 => Q (!c) H1
theorem pw_and1 (ha : PT X a tA) : PW X (.BoolOp .And [a] pos) tA := by
 intro wh pins s σ H Q I h
 refine isTrue_and (thn (ha pins s σ H Q I h) fun c s1 e => ?_)
 cases c with
 | true => exact isTrue_and_nil e
 | false => exact e
theorem pw_or1 (ha : PT X a tA) : PW X (.BoolOp .Or [a] pos) tA := by
 intro wh pins s σ H Q I h
 refine isTrue_or (thn (ha pins s σ H Q I h) fun c s1 e => ?_)
 cases c with
 | false => exact isTrue_or_nil e
 | true => exact e
theorem pw_and (ha : PT X a tA) (hb : PW X (.BoolOp .And (b :: rest) pos) tB') : PW X (.BoolOp .And (a :: b :: rest) pos) (tAnd tA tB') := by
 intro wh pins s σ H Q I h
 refine isTrue_and (thn (ha pins s σ H _ I h) fun c s1 ⟨H1, I1, q1⟩ => ?_)
 cases c with
 | true => exact hb wh pins s1 σ H1 Q I1 q1
 | false => exact ⟨H1, I1, q1⟩
theorem pw_or (ha : PT X a tA) (hb : PW X (.BoolOp .Or (b :: rest) pos) tB') : PW X (.BoolOp .Or (a :: b :: rest) pos) (tOr tA tB') := by
 intro wh pins s σ H Q I h
 refine isTrue_or (thn (ha pins s σ H _ I h) fun c s1 ⟨H1, I1, q1⟩ => ?_)
 cases c with
 | true => exact ⟨H1, I1, q1⟩
 | false => exact hb wh pins s1 σ H1 Q I1 q1
theorem pt_not (ha : PT X a tA) : PT X (.UnaryOp .Not a pos) (tNot tA) := by
 intro pins s σ H Q I h
 exact isTrue_not (ha pins s σ H (fun c H1 => Q (!c) H1) I h)
def tAndV (ta tb : TE) : TE := fun σ H Q => ta σ H fun x H1 => ∃ c, x = .bl c ∧ if c = true then tb σ H1 Q else Q (.bl false) H1
def tNotV (ta : TE) : TE := fun σ H Q => ta σ H fun x H1 => ∃ c, x = .bl c ∧ Q (.bl (!c)) H1
theorem pe_one {op} {t : TE} (h : PE X a t) : PE X (.BoolOp op [a] pos) t := fun pins s σ H Q I hw => BoolOp_one (h pins s σ H Q I hw)
theorem pe_and (ha : PE X a ta) (hb : PE X (.BoolOp .And (b :: rest) pos) tb) : PE X (.BoolOp .And (a :: b :: rest) pos) (tAndV ta tb) := by
 intro pins s σ H Q I h
 refine BoolOp_and (thn (ha pins s σ H _ I h) fun v s1 ⟨x, H1, I1, r1, q1⟩ => ?_)
 obtain ⟨c, rfl, q1⟩ := q1
 cases r1
 refine wpAny_truthy_bool ?_
 cases c with
 | true => exact hb pins s1 σ H1 Q I1 q1
 | false => exact ⟨.bl false, H1, I1, rfl, q1⟩
theorem pe_not (ha : PE X a ta) : PE X (.UnaryOp .Not a pos) (tNotV ta) := by
 intro pins s σ H Q I h
 refine UnaryOp_ (thn (ha pins s σ H _ I h) fun v s1 ⟨x, H1, I1, r1, q1⟩ => ?_)
 obtain ⟨c, rfl, q1⟩ := q1
 cases r1
 exact not_of (wpAny_truthy_bool ⟨.bl (!c), H1, I1, rfl, q1⟩)
end
end L2
namespace L2
open PySem PySem.Spec PyProof.Rows
def SqL (K : PySem.W.Frag) (H : Hp) (a : Addr) (xs : List V) : Prop :=
 Rd H a (.lst xs) ∨
  ∃ (o : Obj) (its : Array Value) (n : Nat), K.lookup a = some o ∧ o.cls = .type "list" ∧ o.dict = none ∧ o.data = .seq its n ∧ its.size ≤ sizeLine ∧ Vals xs its.toList
def SqT (K : PySem.W.Frag) (H : Hp) (a : Addr) (xs : List V) : Prop :=
 Rd H a (.tup xs) ∨
  ∃ (o : Obj) (its : Array Value) (n : Nat), K.lookup a = some o ∧ o.cls = .type "tuple" ∧ o.data = .seq its n ∧ its.size ≤ sizeLine ∧ Vals xs its.toList
def absV : Value → Option V
 | .none => some .non
 | .bool b => some (.bl b)
 | .int i _ => some (.int i)
 | .str x _ => some (.str x)
 | .bytes b _ => some (.byt b)
 | .float b _ => some (.flt b)
 | .ref a => some (.ref a)
 | .type n => some (.ty n)
 | _ => none
theorem RelV.abs {x : V} {u : Value} (r : RelV x u) : absV u = some x := by
 cases x with
 | non => cases r; rfl
 | bl _ => cases r; rfl
 | int _ => obtain ⟨t, rfl⟩ := r; rfl
 | str _ => obtain ⟨t, rfl⟩ := r; rfl
 | byt _ => obtain ⟨t, rfl⟩ := r; rfl
 | flt _ => obtain ⟨t, rfl⟩ := r; rfl
 | ref _ => cases r; rfl
 | ty _ => cases r; rfl
theorem RelV.inj {x y : V} {u : Value} (r : RelV x u) (q : RelV y u) : x = y := Option.some.inj (r.abs.symm.trans q.abs)
theorem Vals.inj : ∀ {xs ys : List V} {us : List Value}, Vals xs us → Vals ys us → xs = ys
 | _, _, _, .nil, .nil => rfl
 | _, _, _, .cons r t, .cons r' t' => by rw [r.inj r', Vals.inj t t']
section
variable {X : Cx} {pins : List (Addr × Obj)} {σ : St} {H : Hp} {s : Shared} {a : Addr} {xs ys : List V}
theorem SqL.of {K : PySem.W.Frag} (h : H a = some (.lst xs)) : SqL K H a xs := .inl (.inl h)
theorem SqT.of {K : PySem.W.Frag} (h : H a = some (.tup xs)) : SqT K H a xs := .inl (.inl h)
theorem Inv.list (I : Inv X pins σ H s) (h : SqL X.K H a xs) : ∃ its : List Value, Vals xs its ∧ PlainL s.heap a its.toArray ∧ xs.length ≤ sizeLine := by
 rcases h with h | ⟨o, its, n, hk, hc, hd, hs, hz, r⟩
 ·obtain ⟨z, its, n, r, e⟩ := h.ok I.hok
  exact ⟨its, r, ⟨_, n, e, rfl, rfl, rfl⟩, z⟩
 ·refine ⟨its.toList, r, ⟨o, n, I.kIn a o hk, hc, hd, by simpa using hs⟩, ?_⟩
  have e := r.length
  simp only [Array.length_toList] at e
  omega
theorem Inv.tuple (I : Inv X pins σ H s) (h : SqT X.K H a xs) : ∃ its : List Value, Vals xs its ∧ IsTup s.heap a its.toArray ∧ xs.length ≤ sizeLine := by
 rcases h with h | ⟨o, its, n, hk, hc, hs, hz, r⟩
 ·obtain ⟨z, its, r, p, _⟩ := h.ok I.hok
  exact ⟨its, r, p, z⟩
 ·refine ⟨its.toList, r, ⟨o, I.kIn a o hk, hc, n, by simpa using hs⟩, ?_⟩
  have e := r.length
  simp only [Array.length_toList] at e
  omega
theorem Inv.list_inj (I : Inv X pins σ H s) (h : SqL X.K H a xs) (h' : SqL X.K H a ys) : xs = ys := by
 obtain ⟨its, r, ⟨o, n, e, _, _, d⟩, _⟩ := I.list h
 obtain ⟨its', r', ⟨o', n', e', _, _, d'⟩, _⟩ := I.list h'
 rw [e] at e'; cases e'
 rw [d] at d'
 injection d' with d1 _
 have : its = its' := by simpa using congrArg Array.toList d1
 subst this
 exact r.inj r'
theorem Inv.tuple_inj (I : Inv X pins σ H s) (h : SqT X.K H a xs) (h' : SqT X.K H a ys) : xs = ys := by
 obtain ⟨its, r, ⟨o, e, _, n, d⟩, _⟩ := I.tuple h
 obtain ⟨its', r', ⟨o', e', _, n', d'⟩, _⟩ := I.tuple h'
 rw [e] at e'; cases e'
 rw [d] at d'
 injection d' with d1 _
 have : its = its' := by simpa using congrArg Array.toList d1
 subst this
 exact r.inj r'
end
abbrev Cx.wish (X : Cx) (E : Value → Shared → Prop) : Cx := { X with xe := E }
abbrev Cx.nox (X : Cx) : Cx := X.wish fun _ _ => False
theorem Cx.Ok.wish {X : Cx} (ok : X.Ok) (E : Value → Shared → Prop) : (X.wish E).Ok :=
 ⟨ok.mod, ok.kind, ok.glob, ok.blt, ok.above, ok.inj, ok.has, ok.cab, ok.hd, ok.frames, ok.stk, ok.exf, ok.bs, ok.bsz, ok.noex, ok.exfs, ok.funs, ok.frf⟩
theorem Cx.Ok.unwish {X : Cx} {E : Value → Shared → Prop} (ok : (X.wish E).Ok) : X.Ok :=
 ⟨ok.mod, ok.kind, ok.glob, ok.blt, ok.above, ok.inj, ok.has, ok.cab, ok.hd, ok.frames, ok.stk, ok.exf, ok.bs, ok.bsz, ok.noex, ok.exfs, ok.funs, ok.frf⟩
section
variable {X : Cx} {pins : List (Addr × Obj)} {σ : St} {H : Hp} {s : Shared} {E : Value → Shared → Prop}
theorem Inv.wish (I : Inv X pins σ H s) (E : Value → Shared → Prop) : Inv (X.wish E) pins σ H s := ⟨I.ok.wish E, I.os, I.bare, I.base, I.loc, I.cell, I.free, I.freeC, I.pin, I.hok, I.len⟩
theorem Inv.unwish (I : Inv (X.wish E) pins σ H s) : Inv X pins σ H s := ⟨I.ok.unwish, I.os, I.bare, I.base, I.loc, I.cell, I.free, I.freeC, I.pin, I.hok, I.len⟩
theorem SP.unwish {D : Ends} {f : Flow} {s' : Shared} (h : SP (X.wish E) pins D f s') : SP X pins D f s' := by
 cases f with
 | next => obtain ⟨σ', H', I, q⟩ := h; exact ⟨σ', H', I.unwish, q⟩
 | brk => obtain ⟨σ', H', I, q⟩ := h; exact ⟨σ', H', I.unwish, q⟩
 | cont => obtain ⟨σ', H', I, q⟩ := h; exact ⟨σ', H', I.unwish, q⟩
 | ret u => obtain ⟨v, σ', H', I, r, q⟩ := h; exact ⟨v, σ', H', I.unwish, r, q⟩
theorem PSs.nox {st : List Stmt} {t : TS} (h : PSs X.nox st t) : PSs X st t := fun pins s σ H D I hw =>
 wpAny_mono (h pins s σ H D (I.wish _) hw) (fun _ _ q => q.unwish) fun _ _ z => False.elim z
end
section
variable {X : Cx} {st : Stmt} {rest : List Stmt} {t u : TS} {e : Expr} {te : TE} {pos : Pos}
def tNext : TS := fun D σ H => D.nx σ H
def tSeq (t u : TS) : TS := fun D σ H => t { D with nx := u D } σ H
theorem pss_nil : PSs X [] tNext := fun _ _ σ H _ I h => wpAny_execs_nil ⟨σ, H, I, h⟩
theorem pss_cons (h1 : PS X st t) (h2 : PSs X rest u) : PSs X (st :: rest) (tSeq t u) := by
 intro pins s σ H D I h
 refine wpAny_execs_cons (thn (h1 pins s σ H { D with nx := u D } I h) fun f s1 q => ?_)
 cases f with
 | next =>
  obtain ⟨σ', H', I', q⟩ := q
  exact h2 pins s1 σ' H' D I' q
 | ret v => exact q
 | brk => exact q
 | cont => exact q
theorem pss_one (h1 : PS X st t) : PSs X [st] t := by
 intro pins s σ H D I h
 refine wpAny_execs_cons (thn (h1 pins s σ H D I h) fun f s1 q => ?_)
 cases f with
 | next => exact wpAny_execs_nil q
 | ret v => exact q
 | brk => exact q
 | cont => exact q
theorem Inv.quiet {pins : List (Addr × Obj)} {σ : St} {H : Hp} {s : Shared} (I : Inv X pins σ H s) : interactive X.env = false := by simp [interactive, I.ok.kind]
def tDrop (te : TE) : TS := fun D σ H => te σ H fun _ H1 => D.nx σ H1
theorem ps_expr (he : PE X e te) (hs : swapsWith e none pos.line X.env = pure false := by rfl) : PS X (.Expr e pos) (tDrop te) := by
 intro pins s σ H D I h
 exact wpAny_Expr_any (thn (he pins s σ H _ I h) fun v s1 ⟨x, H1, I1, r1, q1⟩ => ⟨σ, H1, I1, q1⟩) I.quiet hs
def tRet (te : TE) : TS := fun D σ H => te σ H D.rt
theorem ps_ret (he : PE X e te) : PS X (.Return (some e) pos) (tRet te) := by
 intro pins s σ H D I h
 exact wpAny_Return_some (thn (he pins s σ H _ I h) fun v s1 ⟨x, H1, I1, r1, q1⟩ => ⟨x, σ, H1, I1, r1, q1⟩)
def tIfS (c : TT) (t u : TS) : TS := fun D σ H => c σ H fun b H1 => if b = true then t D σ H1 else u D σ H1
theorem ps_if {c : Expr} {a b : List Stmt} {tc : TT} (hc : PT X c tc) (ha : PSs X a t) (hb : PSs X b u) : PS X (.If c a b pos) (tIfS tc t u) := by
 intro pins s σ H D I h
 refine wpAny_If (thn (hc pins s σ H _ I h) fun d s1 ⟨H1, I1, q1⟩ => ?_)
 cases d with
 | true => exact ha pins s1 σ H1 D I1 q1
 | false => exact hb pins s1 σ H1 D I1 q1
end
abbrev TG := V → St → Hp → (St → Hp → Prop) → Prop
abbrev TGs := List V → St → Hp → (St → Hp → Prop) → Prop
def PG (X : Cx) (target : Expr) (t : TG) : Prop :=
 ∀ (pins : List (Addr × Obj)) (s : Shared) (σ : St) (H : Hp) (v : V) (u : Value) (Q : St → Hp → Prop), Inv X pins σ H s → RelV v u → t v σ H Q →
  wpAny (model X.prog X.w) X.A (assign target X.env u) (fun _ s' => ∃ σ' H', Inv X pins σ' H' s' ∧ Q σ' H') X.xe s
def PGs (X : Cx) (ts : List Expr) (t : TGs) : Prop :=
 ∀ (pins : List (Addr × Obj)) (s : Shared) (σ : St) (H : Hp) (vs : List V) (us : List Value) (Q : St → Hp → Prop), Inv X pins σ H s → Vals vs us → t vs σ H Q →
  wpAny (model X.prog X.w) X.A (assignInOrder ((assignEach ts X.env).map (·.2)) us) (fun _ s' => ∃ σ' H', Inv X pins σ' H' s' ∧ Q σ' H') X.xe s
abbrev TSet := V → V → V → Hp → (Hp → Prop) → Prop
def PSet (X : Cx) (t : TSet) : Prop :=
 ∀ (pins : List (Addr × Obj)) (s : Shared) (σ : St) (H : Hp) (o i v : V) (ov iv u : Value) (Q : Hp → Prop), Inv X pins σ H s → RelV o ov → RelV i iv → RelV v u → t o i v H Q →
  wpAny (model X.prog X.w) X.A (setItem ov iv u) (fun _ s' => ∃ H', Inv X pins σ H' s' ∧ Q H') X.xe s
section
variable {X : Cx} {pos : Pos}
def gName (i : Nat) : TG := fun v σ H Q => Q (σ.set i (some v)) H
theorem pg_name {i : Nat} {x : Str} (hN : X.N.Nodup) (hi : X.N[i]? = some x) (hx : Loc X.env.scope x) (hf : X.fn x = true ∨ X.env.scope.names.lookup x = some .local := by first | exact .inl rfl | exact .inr rfl | assumption) : PG X (.Name x pos) (gName i) := by
 intro pins s σ H v u Q I r h
 exact wpAny_assign_Name (store_ok I hN hi hx r (fun s' I' => ⟨_, H, I', h⟩) hf)
def gNil : TGs := fun vs σ H Q => vs = [] ∧ Q σ H
def gCons (t : TG) (u : TGs) : TGs := fun vs σ H Q => ∃ v r, vs = v :: r ∧ t v σ H fun σ' H' => u r σ' H' Q
theorem pgs_nil : PGs X [] gNil := by
 intro pins s σ H vs us Q I r h
 obtain ⟨e, h⟩ := h
 subst e
 cases r
 exact assignInOrder_nil ⟨σ, H, I, h⟩
theorem pgs_cons {e : Expr} {es : List Expr} {t : TG} {u : TGs} (h1 : PG X e t) (h2 : PGs X es u)
  (hs : (assignEach (e :: es) X.env).map (·.2) = assign e X.env :: (assignEach es X.env).map (·.2) := by rfl) : PGs X (e :: es) (gCons t u) := by
 intro pins s σ H vs us Q I r h
 obtain ⟨v, vr, e1, h⟩ := h
 subst e1
 cases r with
 | cons r rr =>
  rw [hs]
  refine assignInOrder_cons (thn (h1 pins s σ H _ _ _ I r h) fun _ s1 ⟨σ1, H1, I1, q1⟩ => ?_)
  exact h2 pins s1 σ1 H1 _ _ Q I1 rr q1
def gTup (K : PySem.W.Frag) (n : Nat) (t : TGs) : TG := fun v σ H Q => ∃ a xs, v = .ref a ∧ SqT K H a xs ∧ xs.length = n ∧ t xs σ H Q
theorem pg_tup {es : List Expr} {k : Nat} {t : TGs} {n : Nat} (hc : X.calm = true) (h : PGs X es t)
  (hn : (assignEach es X.env).length = n := by rfl) (hst : (assignEach es X.env).findIdx? (·.1) = none := by rfl) : PG X (.Tuple es k pos) (gTup X.K n t) := by
 intro pins s σ H v u Q I r hw
 obtain ⟨a, xs, e1, hq, hl, hw⟩ := hw
 subst e1
 cases r
 obtain ⟨its, rv, ht, hz⟩ := I.tuple hq
 refine assign_Tuple_tuple (I.ok.hd hc) ht (by simp [hn, ← hl, rv.length]) hst fun h' hx => ?_
 have I1 : Inv X pins σ H { s with heap := h' } := I.kept (t' := s.toks) fun b o e => hx b o (Nat.ne_of_lt (Heap.lt_size e)) e
 exact h pins _ σ H xs _ Q I1 (by simpa using rv) hw
def gSub (to ti : TE) (t : TSet) : TG := fun v σ H Q => to σ H fun o H1 => ti σ H1 fun i H2 => t o i v H2 fun H3 => Q σ H3
theorem pg_sub {o i : Expr} {to ti : TE} {t : TSet} (ho : PE X o to) (hi : PE X i ti) (hs : PSet X t)
  (ha : ∀ v, assign (.Subscript o i pos) X.env v = (do
   let ov ← holding [v] (eval o X.env)
   let iv ← holding [v, ov] (eval i X.env)
   standAt pos
   holding [v, ov, iv] (setItem ov iv v)
   release [v, ov, iv] []) := by intro _; rfl) : PG X (.Subscript o i pos) (gSub to ti t) := by
 intro pins s σ H v u Q I r h
 rw [ha]
 refine wpAny_bind (wpAny_holding (thn (ho pins s σ H _ I h) fun ov s1 ⟨x, H1, I1, r1, q1⟩ => ?_))
 refine wpAny_bind (wpAny_holding (thn (hi pins s1 σ H1 _ I1 q1) fun iv s2 ⟨y, H2, I2, r2, q2⟩ => ?_))
 refine wpAny_bind (wpAny_standAt (wpAny_bind (wpAny_holding (thn (hs pins s2 σ H2 x y v ov iv u _ I2 r1 r2 r q2) fun _ s3 ⟨H3, I3, q3⟩ => ?_))))
 exact wpAny_release ⟨σ, H3, I3, q3⟩
def tAsg (te : TE) (g : TG) : TS := fun D σ H => te σ H fun x H1 => g x σ H1 D.nx
theorem ps_asg {tg e : Expr} {te : TE} {g : TG} (he : PE X e te) (hg : PG X tg g) (hs : swapsWithSole [tg] e pos.line X.env = pure false := by rfl) (hw : swappedStores [tg] e X.env = pure none := by rfl)
  (h1 : (assignEach [tg] X.env).map (·.2) = [assign tg X.env] := by rfl) : PS X (.Assign [tg] e pos) (tAsg te g) := by
 intro pins s σ H D I h
 refine wpAny_Assign_stores (thn (he pins s σ H _ I h) fun v s1 ⟨x, H1, I1, r1, q1⟩ => ?_) hs hw
 rw [h1]
 exact thn (hg pins s1 σ H1 x v _ I1 r1 q1) fun _ s2 q => q
theorem ps_set {i : Nat} {x : Str} {e : Expr} {te : TE} {pos' : Pos} (hN : X.N.Nodup) (hi : X.N[i]? = some x) (hx : Loc X.env.scope x) (he : PE X e te) (hs : swapsWith e (some (.Name x pos')) pos.line X.env = pure false := by rfl) (hf : X.fn x = true ∨ X.env.scope.names.lookup x = some .local := by first | exact .inl rfl | exact .inr rfl | assumption) :
  PS X (.Assign [.Name x pos'] e pos) (tAsg te (gName i)) := by
 intro pins s σ H D I h
 refine wpAny_Assign_Name (thn (he pins s σ H _ I h) fun v s1 ⟨y, H1, I1, r1, q1⟩ => ?_) hs
 exact store_ok I1 hN hi hx r1 (fun s2 I2 => ⟨_, H1, I2, q1⟩) hf
end
structure It where
 go : Nat → Hp → Prop
 yld : Nat → Hp → V → Hp → Prop
 stop : Nat → Hp → Prop
def FpOk (X : Cx) (pins : List (Addr × Obj)) (H : Hp) (b : Addr) : Prop :=
 H b = none ∧ b ≠ X.env.locals ∧ b ∉ X.fs ∧ (b ∈ X.ex ∨ X.s₀.heap.objs.size ≤ b) ∧ (∀ x c, X.env.cells.lookup x = some c → c ≠ b) ∧ ∀ p ∈ X.pn ++ pins, p.1 ≠ b
theorem Inv.fpOk {X : Cx} {pins : List (Addr × Obj)} {σ : St} {H H' : Hp} {s : Shared} {b : Addr} (I : Inv X pins σ H s) (hb : s.heap.objs.size ≤ b) (hn : H' b = none) : FpOk X pins H' b := by
 refine ⟨hn, Nat.ne_of_gt (Nat.lt_of_lt_of_le I.lt hb), I.nofs hb, .inr (Nat.le_trans I.sz hb), fun x c e z => ?_, fun p hp z => ?_⟩
 ·obtain ⟨v, q⟩ := I.cell x c e
  exact absurd (Nat.lt_of_lt_of_le q.lt (by rw [z]; exact hb)) (Nat.lt_irrefl _)
 ·exact absurd (Nat.lt_of_lt_of_le (Heap.lt_size (I.pin p hp).1) (by rw [z]; exact hb)) (Nat.lt_irrefl _)
structure Turn (P : Program) (w : World) (K : PySem.W.Frag) (tg : Expr) (J : It) (fp : List Addr) (it : Addr) (tn : Nat → Heap → Prop) : Prop where
 mem : it ∈ fp
 obj : ∀ i h, tn i h → ∀ b ∈ fp, ∃ o, h.get? b = some o ∧ ∀ v, o.data ≠ .cell v
 keep : ∀ i h h', tn i h → (∀ b ∈ fp, ∀ o, h.get? b = some o → h'.get? b = some o) → tn i h'
 item : ∀ (X : Cx), X.prog = P → X.w = w → X.K = K → X.calm = true → ∀ (i : Nat) (pins : List (Addr × Obj)) (s : Shared) (σ : St) (H : Hp) (E : Value → Shared → Prop), Inv X pins σ H s → (∀ b ∈ fp, FpOk X pins H b) → tn i s.heap → J.go i H →
  wpAny (model P w) X.A (pyNext (.ref it)) (fun r s1 => ∃ u, r = some u ∧
   wpAny (model P w) X.A (letOwnedTupleGo tg (.ref it) u) (fun _ s2 => ∃ x H', Inv X pins σ H' s2 ∧ RelV x u ∧ J.yld i H x H' ∧ tn (i + 1) s2.heap ∧ ∀ b ∈ fp, H' b = none) E s1) E s
 done : ∀ (X : Cx), X.prog = P → X.w = w → X.K = K → X.calm = true → ∀ (i : Nat) (pins : List (Addr × Obj)) (s : Shared) (σ : St) (H : Hp) (E : Value → Shared → Prop), Inv X pins σ H s → (∀ b ∈ fp, FpOk X pins H b) → tn i s.heap → J.stop i H →
  wpAny (model P w) X.A (pyNext (.ref it)) (fun r s1 => r = none ∧ Inv X pins σ H s1) E s
 self : ∀ (A : Around) (i : Nat) (s : Shared) (Q : Value → Shared → Prop) (E : Value → Shared → Prop), tn i s.heap → Q (.ref it) s → wpAny (model P w) A (pyIter (.ref it)) Q E s
abbrev TI := St → Hp → (It → Hp → Prop) → Prop
def PIE (X : Cx) (pins : List (Addr × Obj)) (σ : St) (tg : Expr) (R : It → Hp → Prop) (itv : Value) (s2 : Shared) : Prop :=
 ∃ (it : Addr) (fp : List Addr) (tn : Nat → Heap → Prop) (J : It) (H' : Hp), itv = .ref it ∧ Inv X pins σ H' s2 ∧ Turn X.prog X.w X.K tg J fp it tn ∧ tn 0 s2.heap ∧ (∀ b ∈ fp, FpOk X pins H' b) ∧ R J H'
def PI (X : Cx) (tg iter : Expr) (wi : TI) : Prop :=
 ∀ (pins : List (Addr × Obj)) (s : Shared) (σ : St) (H : Hp) (R : It → Hp → Prop), Inv X pins σ H s → wi σ H R →
  wpAny (model X.prog X.w) X.A (eval iter X.env) (fun v s1 => wpAny (model X.prog X.w) X.A (pyIter v) (PIE X pins σ tg R) X.xe s1) X.xe s
theorem go_of {M : Model} {A : Around} {E : Value → Shared → Prop} {s : Shared} {tg : Expr} {it : Addr} {u : Value} {o : Obj} {n : String} {vs : Array Value} {Q : Unit → Shared → Prop} (ho : s.heap.get? it = some o) (hc : o.cls = .type n) (hd : o.data = .fields vs)
  (hn : ["enumerate", "zip", "dict_itemiterator", "dict_reverseitemiterator", "odict_iterator", "itertools.zip_longest", "itertools.pairwise"].contains n = false) (hQ : Q () s) : wpAny M A (letOwnedTupleGo tg (.ref it) u) Q E s := by
 unfold letOwnedTupleGo
 cases tg <;> first
  | exact wpAny_pure hQ
  | (cases u <;> first
    | exact wpAny_pure hQ
    | (refine wpAny_bind (wpAny_load ho ?_); rw [hc, hd]; show wpAny M A (if (["enumerate", "zip", "dict_itemiterator", "dict_reverseitemiterator", "odict_iterator", "itertools.zip_longest", "itertools.pairwise"].contains n && vs[0]? == some (rawInt _)) = true then _ else _) Q E s; rw [if_neg (by intro h; rw [hn, Bool.false_and] at h; cases h)]; exact wpAny_pure hQ))
def Itl (K : PySem.W.Frag) (a : Addr) : It :=
 ⟨fun i H => ∃ xs x, SqL K H a xs ∧ xs[i]? = some x, fun i H x H' => H' = H ∧ ∀ xs, SqL K H a xs → xs[i]? = some x, fun i H => ∃ xs, SqL K H a xs ∧ xs.length ≤ i⟩
def Itr (lo : Int) (n : Nat) : It := ⟨fun i _ => i < n, fun i H x H' => H' = H ∧ x = .int (lo + i), fun i _ => n ≤ i⟩
theorem turn_list {P : Program} {w : World} {K : PySem.W.Frag} {tg : Expr} (a it : Addr) : Turn P w K tg (Itl K a) [it] it (fun i h => h.IsListIter it a i) where
 mem := by simp
 obj := fun i h st b hb => by
  have e : b = it := by simpa using hb
  subst e
  obtain ⟨o, e, c, d⟩ := st
  exact ⟨o, e, fun v z => by rw [d] at z; cases z⟩
 keep := fun i h h' st k => st.at fun o e => k it (by simp) o e
 item := by
  intro X hP hw hK hc i pins s σ H E I hf st hg
  subst hP hw hK
  obtain ⟨xs, x, hq, hx⟩ := hg
  obtain ⟨its, rv, p, hz⟩ := I.list hq
  obtain ⟨u, hu, ru⟩ := rv.get hx
  obtain ⟨f0, f1, f2, f3, f4, f5⟩ := hf it (by simp)
  refine wpAny_pyNext_list_item st p.isList (x := u) (by simpa using hu) fun h' st' sb => ?_
  have I1 : Inv X pins σ H { s with heap := h' } := I.turned (t' := s.toks) (fun b o hb e => (sb.2 b hb).trans e) f0 f1 f3 f4 f5
  obtain ⟨o, e, c, d⟩ := id st'
  exact ⟨u, rfl, go_of (s := { s with heap := h' }) e c d (by decide) ⟨x, H, I1, ru, ⟨rfl, fun ys hy => by rw [I.list_inj hy hq]; exact hx⟩, st', fun b hb => (hf b hb).1⟩⟩
 done := by
  intro X hP hw hK hc i pins s σ H E I hf st hg
  subst hP hw hK
  obtain ⟨xs, hq, hx⟩ := hg
  obtain ⟨its, rv, p, hz⟩ := I.list hq
  obtain ⟨f0, f1, f2, f3, f4, f5⟩ := hf it (by simp)
  have hl := rv.length
  exact wpAny_pyNext_list_end (I.ok.hd hc) st p.isList (by simp; omega) fun h' eb => ⟨rfl, I.turned (t' := s.toks) (fun b o hb e => eb b o hb e) f0 f1 f3 f4 f5⟩
 self := fun _ _ _ _ _ st h => wpAny_pyIter_listiter st h
theorem turn_range {P : Program} {w : World} {K : PySem.W.Frag} {tg : Expr} (it : Addr) (lo : Int) (n : Nat) : Turn P w K tg (Itr lo n) [it] it (fun i h => IsRangeIter h it (lo + (i : Nat) * 1) ((n : Int) - (i : Nat)) 1) where
 mem := by simp
 obj := fun i h st b hb => by
  have e : b = it := by simpa using hb
  subst e
  exact ⟨_, st, fun v z => by
   have z' : Data.fields _ = Data.cell v := z
   cases z'⟩
 keep := fun i h h' st k => k it (by simp) _ st
 item := by
  intro X hP hw hK hc i pins s σ H E I hf st hg
  subst hP hw hK
  obtain ⟨f0, f1, f2, f3, f4, f5⟩ := hf it (by simp)
  have W := Walks.range (prog := X.prog) (w := X.w) (I.ok.hd hc) it lo 1 n
  refine W.item i s _ _ hg st fun v h' tk hv st' kk => ?_
  obtain ⟨t, rfl⟩ := hv
  have I1 : Inv X pins σ H { s with heap := h', toks := tk } := I.turned (fun b o hb e => kk b o (by simpa using hb) e) f0 f1 f3 f4 f5
  refine ⟨_, rfl, go_of (s := { s with heap := h', toks := tk }) (n := "range_iterator") st' rfl rfl (by decide) ⟨.int (lo + i), H, I1, ⟨t, ?_⟩, ⟨rfl, rfl⟩, st', fun b hb => (hf b hb).1⟩⟩
  rw [Int.mul_one]
 done := by
  intro X hP hw hK hc i pins s σ H E I hf st hg
  subst hP hw hK
  obtain ⟨f0, f1, f2, f3, f4, f5⟩ := hf it (by simp)
  exact wpAny_pyNext_range_end (I.ok.hd hc) st (by have : n ≤ i := hg; omega) fun h' eb => ⟨rfl, I.turned (t' := s.toks) (fun b o hb e => eb b o hb e) f0 f1 f3 f4 f5⟩
 self := fun _ _ _ _ _ st h => wpAny_pyIter_rangeiter st h
end L2
namespace L2
open PySem PySem.Spec PyProof.Rows
section
variable {X : Cx} {tg : Expr}
def iList (K : PySem.W.Frag) (tl : TE) : TI := fun σ H R => tl σ H fun x H1 => ∃ a, x = .ref a ∧ (∃ xs, SqL K H1 a xs) ∧ R (Itl K a) H1
theorem pi_list {l : Expr} {tl : TE} (hl : PE X l tl) : PI X tg l (iList X.K tl) := by
 intro pins s σ H R I h
 refine thn (hl pins s σ H _ I h) fun v s1 ⟨x, H1, I1, r1, q1⟩ => ?_
 obtain ⟨a, e, ⟨xs, hq⟩, q⟩ := q1
 subst e
 cases r1
 obtain ⟨its, rv, p, hz⟩ := I1.list hq
 refine wpAny_pyIter_list p.isList ?_
 refine ⟨s1.heap.objs.size, [s1.heap.objs.size], _, _, H1, rfl, I1.kept (t' := s1.toks) fun b o e => Heap.get?_push_of_some _ e, turn_list a _, ⟨_, Heap.get?_push_size _ rfl, rfl, rfl⟩, fun b hb => ?_, q⟩
 have e : b = s1.heap.objs.size := by simpa using hb
 subst e
 exact I1.fpOk (Nat.le_refl _) (I1.hok.fresh (Nat.le_refl _))
theorem range_it {pins : List (Addr × Obj)} {σ : St} {H : Hp} {s : Shared} {R : It → Hp → Prop} {E : Value → Shared → Prop} {lo hi : Int} {t u v : Tok} {tk : Nat} (I : Inv X pins σ H s) (h1 : -(2 ^ 62) ≤ lo) (h2 : lo < 2 ^ 62) (h3 : -(2 ^ 62) ≤ hi) (h4 : hi < 2 ^ 62)
  (q : R (Itr lo (hi - lo).toNat) H) : wpAny (model X.prog X.w) X.A (pyIter (.ref s.heap.objs.size)) (PIE X pins σ tg R) E { s with heap := s.heap.push { cls := .type "range", data := .fields #[.int lo t, .int hi u, .int 1 v] }, toks := tk } := by
 refine wpAny_pyIter_range (IsRange.new ..) (small_one h1 h2 h3 h4) ?_
 have I1 : Inv X pins σ H { s with heap := s.heap.push { cls := .type "range", data := .fields #[.int lo t, .int hi u, .int 1 v] }, toks := tk } := I.kept fun b o e => Heap.get?_push_of_some _ e
 refine ⟨(s.heap.push { cls := .type "range", data := .fields #[.int lo t, .int hi u, .int 1 v] }).objs.size, [(s.heap.push { cls := .type "range", data := .fields #[.int lo t, .int hi u, .int 1 v] }).objs.size], _, _, H, rfl,
  I1.kept (t' := tk) fun b o e => Heap.get?_push_of_some _ e, turn_range _ lo (hi - lo).toNat, ?_, fun b hb => ?_, q⟩
 ·have e1 : lo + ((0 : Nat) : Int) * 1 = lo := by simp
  have e2 : (((hi - lo).toNat : Nat) : Int) - ((0 : Nat) : Int) = Builtin.Range.rangeSize lo hi 1 := by rw [rangeSize_one]; split <;> omega
  show IsRangeIter _ _ (lo + ((0 : Nat) : Int) * 1) ((((hi - lo).toNat : Nat) : Int) - ((0 : Nat) : Int)) 1
  rw [e1, e2]
  exact Heap.get?_push_size _ rfl
 ·have e : b = (s.heap.push { cls := .type "range", data := .fields #[.int lo t, .int hi u, .int 1 v] }).objs.size := by simpa using hb
  subst e
  exact I1.fpOk (Nat.le_refl _) (I1.hok.fresh (Nat.le_refl _))
def iRng1 (ta : TA) : TI := fun σ H R => ta σ H fun vs H1 => ∃ j : Int, vs = [.int j] ∧ -(2 ^ 62) ≤ j ∧ j < 2 ^ 62 ∧ R (Itr 0 j.toNat) H1
def iRng2 (ta : TA) : TI := fun σ H R => ta σ H fun vs H1 => ∃ i j : Int, vs = [.int i, .int j] ∧ (-(2 ^ 62) ≤ i ∧ i < 2 ^ 62 ∧ -(2 ^ 62) ≤ j ∧ j < 2 ^ 62) ∧ R (Itr i (j - i).toNat) H1
theorem pi_range1 {a : Expr} {ta : TA} {p pos : Pos} (hg : Gl X "range") (hm : X.mg "range" = none) (ha : PA X [a] ta) (hs : starEach [a] X.env = [(false, eval a X.env)] := by rfl) : PI X tg (.Call (.Name "range" p) [a] [] pos) (iRng1 ta) := by
 intro pins s σ H R I h
 refine Call_ (ld_blt I hg hm boot_range (PyProof.Rows.callWith_type1 (thn (ha pos pins s σ H _ I h) fun us s1 ⟨vs, H1, I1, r1, q1⟩ => ?_) hs rfl))
 obtain ⟨j, e, q1, q2, q⟩ := q1
 subst e
 cases r1 with
 | cons r rr =>
  cases rr
  obtain ⟨t, rfl⟩ := r
  exact call_range_1 (range_it I1 (by omega) (by omega) q1 q2 (by simpa using q))
theorem pi_range2 {a b : Expr} {ta : TA} {p pos : Pos} (hg : Gl X "range") (hm : X.mg "range" = none) (ha : PA X [a, b] ta) (hs : starEach [a, b] X.env = [(false, eval a X.env), (false, eval b X.env)] := by rfl) (hs2 : starEach [b] X.env = [(false, eval b X.env)] := by rfl) :
  PI X tg (.Call (.Name "range" p) [a, b] [] pos) (iRng2 ta) := by
 intro pins s σ H R I h
 refine Call_ (ld_blt I hg hm boot_range (PyProof.Rows.callWith_type1 (thn (ha pos pins s σ H _ I h) fun us s1 ⟨vs, H1, I1, r1, q1⟩ => ?_) (by rw [hs, hs2]) (by rw [hs2]; rfl)))
 obtain ⟨i, j, e, ⟨q1, q2, q3, q4⟩, q⟩ := q1
 subst e
 cases r1 with
 | cons r rr =>
  cases rr with
  | cons r' rr =>
   cases rr
   obtain ⟨t, rfl⟩ := r
   obtain ⟨t', rfl⟩ := r'
   exact call_range_2 (range_it I1 q1 q2 q3 q4 q)
def tFor (wi : TI) (g : TG) (tb : TS) : TS := fun D σ H => wi σ H fun J H1 => ∃ W : Nat → Nat → St → Hp → Prop, (∃ m, W 0 m σ H1) ∧ ∀ i m σ H, W i m σ H →
 (J.stop i H ∧ D.nx σ H) ∨ (J.go i H ∧ ∃ N : St → Hp → Prop, (∀ σ' H', N σ' H' → ∃ m', m' < m ∧ W (i + 1) m' σ' H') ∧ ∀ x H', J.yld i H x H' → g x σ H' fun σ2 H2 => tb { D with nx := N, ct := N, bk := D.nx } σ2 H2)
def pinsAt (fp : List Addr) (h : Heap) : List (Addr × Obj) := fp.filterMap fun b => (h.get? b).map fun o => (b, o)
theorem mem_pinsAt {fp : List Addr} {h : Heap} {b : Addr} {o : Obj} (hb : b ∈ fp) (e : h.get? b = some o) : (b, o) ∈ pinsAt fp h := List.mem_filterMap.mpr ⟨b, hb, by rw [e]; rfl⟩
theorem of_pinsAt {fp : List Addr} {h : Heap} {p : Addr × Obj} (hp : p ∈ pinsAt fp h) : p.1 ∈ fp ∧ h.get? p.1 = some p.2 := by
 obtain ⟨b, hb, e⟩ := List.mem_filterMap.mp hp
 cases q : h.get? b with
 | none => rw [q] at e; cases e
 | some o =>
  rw [q] at e
  have e' : (b, o) = p := Option.some.inj e
  subst e'
  exact ⟨hb, q⟩
theorem Inv.pinned {pins : List (Addr × Obj)} {σ : St} {H : Hp} {s : Shared} {fp : List Addr} (I : Inv X pins σ H s) (hf : ∀ b ∈ fp, FpOk X pins H b) (ho : ∀ b ∈ fp, ∃ o, s.heap.get? b = some o ∧ ∀ v, o.data ≠ .cell v) : Inv X (pins ++ pinsAt fp s.heap) σ H s :=
 I.pins_of fun p hp => (List.mem_append.mp hp).elim (fun z => I.pin p (List.mem_append_right _ z)) fun z => by
  obtain ⟨hb, e⟩ := of_pinsAt z
  obtain ⟨f0, f1, f2, _⟩ := hf p.1 hb
  obtain ⟨o, e', d⟩ := ho p.1 hb
  rw [e] at e'; cases e'
  exact ⟨e, f0, f1, f2, d⟩
theorem Inv.unpinned {pins pl : List (Addr × Obj)} {σ : St} {H : Hp} {s : Shared} (I : Inv X (pins ++ pl) σ H s) : Inv X pins σ H s := I.pins_of fun p hp => I.pin p (List.mem_append_right _ (List.mem_append_left _ hp))
theorem ps_for {iter : Expr} {body : List Stmt} {wi : TI} {g : TG} {tb : TS} {pos : Pos} (hp : PassesOwn (model X.prog X.w) X.A X.env X.xe) (hc : X.calm = true) (hi : PI X tg iter wi) (hg : PG X tg g) (hb : PSs X body tb)
  (hs : ∀ x, foldedSetIterable iter X.env x = pure x := by intro _; rfl) : PS X (.For tg iter body [] pos) (tFor wi g tb) := by
 intro pins s σ H D I h
 refine wpAny_For (thn (hi pins s σ H _ I h) fun v s1 h1 => thn h1 fun itv s2 h2 => ?_) hs
 obtain ⟨it, fp, tn, J, H2, e, I2, T, st2, f2, W, ⟨m0, w0⟩, turn⟩ := h2
 subst e
 have stat : ∀ {H' : Hp}, (∀ b ∈ fp, H' b = none) → ∀ b ∈ fp, FpOk X pins H' b := fun hn b hb => ⟨hn b hb, (f2 b hb).2⟩
 refine codeAny_forLoop_any (fun n s' => ∃ i σ' H', Inv X pins σ' H' s' ∧ tn i s'.heap ∧ (∀ b ∈ fp, H' b = none) ∧ W i n σ' H') ?_ m0 ⟨0, σ, H2, I2, st2, fun b hb => (f2 b hb).1, w0⟩
 rintro n s3 ⟨i, σ3, H3, I3, st3, fr3, w3⟩
 rcases turn i n σ3 H3 w3 with ⟨stop, qn⟩ | ⟨go, N, hN, step⟩
 ·refine wpAny_passesOwn hp (thn (T.done X rfl rfl rfl hc i pins s3 σ3 H3 X.xe I3 (stat fr3) st3 stop) fun r s4 ⟨hr, I4⟩ => ?_)
  subst hr
  exact wpAny_execs_nil ⟨σ3, H3, I4, qn⟩
 ·refine wpAny_passesOwn hp (thn (T.item X rfl rfl rfl hc i pins s3 σ3 H3 X.xe I3 (stat fr3) st3 go) fun r s4 ⟨u, hr, h4⟩ => ?_)
  subst hr
  refine wpAny_passesOwn hp (thn h4 fun _ s5 ⟨x, H5, I5, r5, y5, st5, fr5⟩ => ?_)
  have I5' := I5.pinned (stat fr5) (T.obj _ _ st5)
  refine wpAny_passesOwn hp (thn (hg _ s5 σ3 H5 x u _ I5' r5 (step x H5 y5)) fun _ s6 ⟨σ6, H6, I6, q6⟩ => ?_)
  refine wpAny_passesOwn hp (thn (hb _ s6 σ6 H6 _ I6 q6) fun f s7 q7 => ?_)
  have again : ∀ {σ7 : St} {H7 : Hp}, Inv X (pins ++ pinsAt fp s5.heap) σ7 H7 s7 → N σ7 H7 → ∃ m, m < n ∧ ∃ i σ' H', Inv X pins σ' H' s7 ∧ tn i s7.heap ∧ (∀ b ∈ fp, H' b = none) ∧ W i m σ' H' := fun {σ7 H7} I7 n7 => by
   obtain ⟨m', hm, w7⟩ := hN σ7 H7 n7
   refine ⟨m', hm, i + 1, σ7, H7, I7.unpinned, T.keep _ _ _ st5 fun b hb o e => (I7.pin (b, o) (List.mem_append_right _ (List.mem_append_right _ (mem_pinsAt hb e)))).1, fun b hb => ?_, w7⟩
   obtain ⟨o, e, d⟩ := T.obj _ _ st5 b hb
   exact (I7.pin (b, o) (List.mem_append_right _ (List.mem_append_right _ (mem_pinsAt hb e)))).2.1
  cases f with
  | next => obtain ⟨σ7, H7, I7, n7⟩ := q7; exact again I7 n7
  | cont => obtain ⟨σ7, H7, I7, n7⟩ := q7; exact again I7 n7
  | brk => obtain ⟨σ7, H7, I7, q7⟩ := q7; exact ⟨σ7, H7, I7.unpinned, q7⟩
  | ret v => obtain ⟨x7, σ7, H7, I7, r7, q7⟩ := q7; exact ⟨x7, σ7, H7, I7.unpinned, r7, q7⟩
end
end L2
namespace L2
open PySem PySem.Spec PyProof.Rows
abbrev R2 := V → V → Hp → VK → Prop
def OpR (X : Cx) (f : Value → Value → Sem Value) (r : R2) : Prop :=
 ∀ (pins : List (Addr × Obj)) (s : Shared) (σ : St) (H : Hp) (x y : V) (v u : Value) (Q : VK), Inv X pins σ H s → RelV x v → RelV y u → r x y H Q →
  wpAny (model X.prog X.w) X.A (f v u) (EP X pins σ Q) X.xe s
def UnR (X : Cx) (f : Value → Sem Value) (r : V → Hp → VK → Prop) : Prop :=
 ∀ (pins : List (Addr × Obj)) (s : Shared) (σ : St) (H : Hp) (x : V) (v : Value) (Q : VK), Inv X pins σ H s → RelV x v → r x H Q →
  wpAny (model X.prog X.w) X.A (f v) (EP X pins σ Q) X.xe s
def CallR (X : Cx) (f : Value) (r : List V → Hp → VK → Prop) : Prop :=
 ∀ (pins : List (Addr × Obj)) (s : Shared) (σ : St) (H : Hp) (xs : List V) (us : List Value) (Q : VK), Inv X pins σ H s → Vals xs us → r xs H Q →
  wpAny (model X.prog X.w) X.A (call f us) (EP X pins σ Q) X.xe s
def tOp (r : R2) (ta tb : TE) : TE := fun σ H Q => ta σ H fun x H1 => tb σ H1 fun y H2 => r x y H2 Q
def tUn (r : V → Hp → VK → Prop) (ta : TE) : TE := fun σ H Q => ta σ H fun x H1 => r x H1 Q
def rI (C : Int → Int → Prop) (g : Int → Int → V) : R2 := fun x y H Q => ∃ i j, x = .int i ∧ y = .int j ∧ C i j ∧ Q (g i j) H
def rI0 (g : Int → Int → V) : R2 := fun x y H Q => ∃ i j, x = .int i ∧ y = .int j ∧ Q (g i j) H
def rU (g : Int → V) : V → Hp → VK → Prop := fun x H Q => ∃ i, x = .int i ∧ Q (g i) H
section
variable {X : Cx} {a b c : Expr} {ta tb tc : TE} {pos : Pos}
theorem binT (ha : PE X a ta) (hb : PE X b tb) {pins : List (Addr × Obj)} {s : Shared} {σ : St} {H : Hp} {R : V → V → Hp → Prop} (I : Inv X pins σ H s)
  (h : ta σ H fun x H1 => tb σ H1 fun y H2 => R x y H2) {Q : Value → Shared → Prop} {f : Value → Value → Sem Value}
  (hf : ∀ v u s2 x y H2, Inv X pins σ H2 s2 → RelV x v → RelV y u → R x y H2 → wpAny (model X.prog X.w) X.A (f v u) Q X.xe s2) :
  wpAny (model X.prog X.w) X.A (eval a X.env) (fun v s₁ => wpAny (model X.prog X.w) X.A (eval b X.env) (fun u s₂ => wpAny (model X.prog X.w) X.A (f v u) Q X.xe s₂) X.xe s₁) X.xe s := by
 refine thn (ha pins s σ H _ I h) fun v s1 ⟨x, H1, I1, r1, q1⟩ => ?_
 refine thn (hb pins s1 σ H1 _ I1 q1) fun u s2 ⟨y, H2, I2, r2, q2⟩ => ?_
 exact hf v u s2 x y H2 I2 r1 r2 q2
theorem pe_op {op : Operator} {r : R2} (ho : OpR X (binaryOp op) r) (ha : PE X a ta) (hb : PE X b tb) : PE X (.BinOp a op b pos) (tOp r ta tb) := by
 intro pins s σ H Q I h
 exact wpAny_BinOp (binT ha hb I h fun v u s2 x y H2 I2 rx ry q => ho pins s2 σ H2 x y v u Q I2 rx ry q)
theorem pe_un {op : UnaryOp} {r : V → Hp → VK → Prop} (ho : UnR X (unaryOp op) r) (ha : PE X a ta) : PE X (.UnaryOp op a pos) (tUn r ta) := by
 intro pins s σ H Q I h
 exact UnaryOp_ (thn (ha pins s σ H _ I h) fun v s1 ⟨x, H1, I1, r1, q1⟩ => ho pins s1 σ H1 x v Q I1 r1 q1)
theorem opI {f : Value → Value → Sem Value} {C : Int → Int → Prop} {g : Int → Int → Int}
  (rule : ∀ (i j : Int) (t u : Tok) (s : Shared) (Q : Value → Shared → Prop) (E : Value → Shared → Prop), C i j → Q (.int (g i j) s.toks) { s with toks := s.toks + 1 } → wpAny (model X.prog X.w) X.A (f (.int i t) (.int j u)) Q E s) :
  OpR X f (rI C fun i j => .int (g i j)) := by
 intro pins s σ H x y v u Q I rx ry h
 obtain ⟨i, j, rfl, rfl, hc, q⟩ := h
 obtain ⟨t, rfl⟩ := rx
 obtain ⟨t', rfl⟩ := ry
 exact rule i j t t' s _ _ hc ⟨.int (g i j), H, I.tok _, ⟨_, rfl⟩, q⟩
theorem opI0 {f : Value → Value → Sem Value} {g : Int → Int → Int}
  (rule : ∀ (i j : Int) (t u : Tok) (s : Shared) (Q : Value → Shared → Prop) (E : Value → Shared → Prop), Q (.int (g i j) s.toks) { s with toks := s.toks + 1 } → wpAny (model X.prog X.w) X.A (f (.int i t) (.int j u)) Q E s) :
  OpR X f (rI0 fun i j => .int (g i j)) := by
 intro pins s σ H x y v u Q I rx ry h
 obtain ⟨i, j, rfl, rfl, q⟩ := h
 obtain ⟨t, rfl⟩ := rx
 obtain ⟨t', rfl⟩ := ry
 exact rule i j t t' s _ _ ⟨.int (g i j), H, I.tok _, ⟨_, rfl⟩, q⟩
theorem opB0 {f : Value → Value → Sem Value} {g : Int → Int → Bool}
  (rule : ∀ (i j : Int) (t u : Tok) (s : Shared) (Q : Value → Shared → Prop) (E : Value → Shared → Prop), Q (.bool (g i j)) s → wpAny (model X.prog X.w) X.A (f (.int i t) (.int j u)) Q E s) :
  OpR X f (rI0 fun i j => .bl (g i j)) := by
 intro pins s σ H x y v u Q I rx ry h
 obtain ⟨i, j, rfl, rfl, q⟩ := h
 obtain ⟨t, rfl⟩ := rx
 obtain ⟨t', rfl⟩ := ry
 exact rule i j t t' s _ _ ⟨.bl (g i j), H, I, rfl, q⟩
def CPow (i j : Int) : Prop := 0 ≤ j ∧ j ≤ 1000000 ∧ i.natAbs < 2 ^ 64
theorem two_pow_nn (k : Nat) : (0 : Int) ≤ 2 ^ k := by
 rw [two_pow_cast]
 exact Int.natCast_nonneg _
theorem op_add : OpR X (binaryOp .Add) (rI0 fun i j => .int (i + j)) := opI0 fun _ _ _ _ _ _ _ q => add_int q
theorem op_sub : OpR X (binaryOp .Sub) (rI0 fun i j => .int (i - j)) := opI0 fun _ _ _ _ _ _ _ q => sub_int q
theorem op_mod : OpR X (binaryOp .Mod) (rI (fun _ j => 0 < j) fun i j => .int (i % j)) := opI fun i j _ _ _ _ _ hc q => by
 have h1 : (0 : Int) < j := hc
 exact mod_int' (by omega) (by rw [Int.fmod_eq_emod_of_nonneg i (by omega)]; exact q)
theorem op_pow : OpR X (binaryOp .Pow) (rI CPow fun i j => .int (i ^ j.toNat)) := opI fun _ _ _ _ _ _ _ hc q => pow_int_small hc.1 hc.2.1 hc.2.2 q
theorem op_shl : OpR X (binaryOp .LShift) (rI CPow fun i j => .int (i * 2 ^ j.toNat)) := opI fun _ _ _ _ _ _ _ hc q => lshift_int_small hc.1 hc.2.1 hc.2.2 q
theorem op_shr : OpR X (binaryOp .RShift) (rI (fun _ j => 0 ≤ j) fun i j => .int (i / 2 ^ j.toNat)) := opI fun i j _ _ _ _ _ hc q =>
 rshift_int hc (by rw [Int.fdiv_eq_ediv_of_nonneg i (two_pow_nn _)]; exact q)
theorem op_and : OpR X (binaryOp .BitAnd) (rI0 fun i j => .int (Builtin.bitAnd i j)) := opI0 fun _ _ _ _ _ _ _ q => and_int q
theorem unI {f : Value → Sem Value} {g : Int → Int}
  (rule : ∀ (i : Int) (t : Tok) (s : Shared) (Q : Value → Shared → Prop) (E : Value → Shared → Prop), Q (.int (g i) s.toks) { s with toks := s.toks + 1 } → wpAny (model X.prog X.w) X.A (f (.int i t)) Q E s) :
  UnR X f (rU fun i => .int (g i)) := by
 intro pins s σ H x v Q I rx h
 obtain ⟨i, rfl, q⟩ := h
 obtain ⟨t, rfl⟩ := rx
 exact rule i t s _ _ ⟨.int (g i), H, I.tok _, ⟨_, rfl⟩, q⟩
theorem un_neg : UnR X (unaryOp .USub) (rU fun i => .int (-i)) := unI fun _ _ _ _ _ q => neg_int q
end
def scal : V → V → Bool
 | .non, .non => true | .non, .int _ => true | .int _, .non => true | .non, .bl _ => true | .bl _, .non => true | .non, .str _ => true | .str _, .non => true
 | .int _, .int _ => true | .bl _, .bl _ => true | .str _, .str _ => true | .byt _, .byt _ => true
 | .int _, .str _ => true | .str _, .int _ => true | .bl _, .str _ => true | .str _, .bl _ => true
 | _, _ => false
def rEq : R2 := fun x y H Q => scal x y = true ∧ Q (.bl (decide (x = y))) H
def rNe : R2 := fun x y H Q => scal x y = true ∧ Q (.bl (!decide (x = y))) H
theorem dec_int {i j : Int} : decide (V.int i = V.int j) = (i == j) := by
 rw [Bool.eq_iff_iff]
 simp
theorem dec_bl {i j : Bool} : decide (V.bl i = V.bl j) = (i == j) := by
 rw [Bool.eq_iff_iff]
 simp
theorem dec_str {i j : Str} : decide (V.str i = V.str j) = (i == j) := by
 rw [Bool.eq_iff_iff]
 simp
theorem dec_byt {i j : Array UInt8} : decide (V.byt i = V.byt j) = (i.toList == j.toList) := by
 rw [Bool.eq_iff_iff]
 cases i
 cases j
 simp
section
variable {X : Cx} {a b c : Expr} {ta tb tc : TE} {pos : Pos}
theorem fin_bl {pins : List (Addr × Obj)} {σ : St} {H : Hp} {s : Shared} {Q : VK} {k k' : Bool} (I : Inv X pins σ H s) (q : Q (.bl k) H) (e : k = k') : EP X pins σ Q (.bool k') s := by
 subst e
 exact ⟨.bl k, H, I, rfl, q⟩
theorem op_eq : OpR X (compareOp .Eq) rEq := by
 intro pins s σ H x y v u Q I rx ry h
 obtain ⟨hs, q⟩ := h
 cases x with
 | non =>
  cases rx
  cases y with
  | non => cases ry; exact PySem.EqNone.eq_none_none (fin_bl I q (by simp))
  | bl j => cases ry; exact PySem.EqNone.eq_none_bool (fin_bl I q (by simp))
  | int j => obtain ⟨t', rfl⟩ := ry; exact PySem.EqNone.eq_none_int (fin_bl I q (by simp))
  | str j => obtain ⟨t', rfl⟩ := ry; exact PySem.EqNone.eq_none_str (fin_bl I q (by simp))
  | _ => exact absurd (show false = true from hs) Bool.false_ne_true
 | bl i =>
  cases rx
  cases y with
  | non => cases ry; exact PySem.EqNone.eq_bool_none (fin_bl I q (by simp))
  | bl j => cases ry; exact eq_bool (fin_bl I q dec_bl)
  | str j => obtain ⟨t', rfl⟩ := ry; exact PySem.EqMixed.eq_bool_str (fin_bl I q (by simp))
  | _ => exact absurd (show false = true from hs) Bool.false_ne_true
 | int i =>
  obtain ⟨t, rfl⟩ := rx
  cases y with
  | non => cases ry; exact PySem.EqNone.eq_int_none (fin_bl I q (by simp))
  | int j => obtain ⟨t', rfl⟩ := ry; exact eq_int (fin_bl I q dec_int)
  | str j => obtain ⟨t', rfl⟩ := ry; exact PySem.EqMixed.eq_int_str (fin_bl I q (by simp))
  | _ => exact absurd (show false = true from hs) Bool.false_ne_true
 | str i =>
  obtain ⟨t, rfl⟩ := rx
  cases y with
  | non => cases ry; exact PySem.EqNone.eq_str_none (fin_bl I q (by simp))
  | bl j => cases ry; exact PySem.EqMixed.eq_str_bool (fin_bl I q (by simp))
  | int j => obtain ⟨t', rfl⟩ := ry; exact PySem.EqMixed.eq_str_int (fin_bl I q (by simp))
  | str j => obtain ⟨t', rfl⟩ := ry; exact eq_str (fin_bl I q dec_str)
  | _ => exact absurd (show false = true from hs) Bool.false_ne_true
 | byt i =>
  obtain ⟨t, rfl⟩ := rx
  cases y with
  | byt j => obtain ⟨t', rfl⟩ := ry; exact PySem.W.eq_bytes (fin_bl I q dec_byt)
  | _ => exact absurd (show false = true from hs) Bool.false_ne_true
 | _ => cases y <;> exact absurd (show false = true from hs) Bool.false_ne_true
theorem op_ne : OpR X (compareOp .NotEq) rNe := by
 intro pins s σ H x y v u Q I rx ry h
 obtain ⟨hs, q⟩ := h
 cases x with
 | non =>
  cases rx
  cases y with
  | non => cases ry; exact PySem.EqNone.ne_none_none (fin_bl I q (by simp))
  | bl j => cases ry; exact PySem.EqNone.ne_none_bool (fin_bl I q (by simp))
  | int j => obtain ⟨t', rfl⟩ := ry; exact PySem.EqNone.ne_none_int (fin_bl I q (by simp))
  | str j => obtain ⟨t', rfl⟩ := ry; exact PySem.EqNone.ne_none_str (fin_bl I q (by simp))
  | _ => exact absurd (show false = true from hs) Bool.false_ne_true
 | bl i =>
  cases rx
  cases y with
  | non => cases ry; exact PySem.EqNone.ne_bool_none (fin_bl I q (by simp))
  | bl j => cases ry; exact ne_bool (fin_bl I q (congrArg not dec_bl))
  | str j => obtain ⟨t', rfl⟩ := ry; exact PySem.EqMixed.ne_bool_str (fin_bl I q (by simp))
  | _ => exact absurd (show false = true from hs) Bool.false_ne_true
 | int i =>
  obtain ⟨t, rfl⟩ := rx
  cases y with
  | non => cases ry; exact PySem.EqNone.ne_int_none (fin_bl I q (by simp))
  | int j => obtain ⟨t', rfl⟩ := ry; exact ne_int (fin_bl I q (congrArg not dec_int))
  | str j => obtain ⟨t', rfl⟩ := ry; exact PySem.EqMixed.ne_int_str (fin_bl I q (by simp))
  | _ => exact absurd (show false = true from hs) Bool.false_ne_true
 | str i =>
  obtain ⟨t, rfl⟩ := rx
  cases y with
  | non => cases ry; exact PySem.EqNone.ne_str_none (fin_bl I q (by simp))
  | bl j => cases ry; exact PySem.EqMixed.ne_str_bool (fin_bl I q (by simp))
  | int j => obtain ⟨t', rfl⟩ := ry; exact PySem.EqMixed.ne_str_int (fin_bl I q (by simp))
  | str j => obtain ⟨t', rfl⟩ := ry; exact ne_str (fin_bl I q (congrArg not dec_str))
  | _ => exact absurd (show false = true from hs) Bool.false_ne_true
 | byt i =>
  obtain ⟨t, rfl⟩ := rx
  cases y with
  | byt j => obtain ⟨t', rfl⟩ := ry; exact PySem.W.ne_bytes (fin_bl I q (congrArg not dec_byt))
  | _ => exact absurd (show false = true from hs) Bool.false_ne_true
 | _ => cases y <;> exact absurd (show false = true from hs) Bool.false_ne_true
theorem op_lt : OpR X (compareOp .Lt) (rI0 fun i j => .bl (decide (i < j))) := opB0 fun _ _ _ _ _ _ _ q => lt_int q
theorem op_gt : OpR X (compareOp .Gt) (rI0 fun i j => .bl (decide (j < i))) := opB0 fun _ _ _ _ _ _ _ q => gt_int q
theorem op_ge : OpR X (compareOp .GtE) (rI0 fun i j => .bl (decide (j ≤ i))) := opB0 fun _ _ _ _ _ _ _ q => ge_int q
theorem op_isN : OpR X (compareOp .Is) (fun x y H Q => y = .non ∧ Q (.bl (decide (x = .non))) H) := by
 intro pins s σ H x y v u Q I rx ry h
 obtain ⟨rfl, q⟩ := h
 cases ry
 refine is_none_gen (fin_bl I q ?_)
 cases x <;> first
  | (cases rx; rfl)
  | (obtain ⟨t, rfl⟩ := rx; rfl)
theorem op_notN : OpR X (compareOp .IsNot) (fun x y H Q => y = .non ∧ Q (.bl (!decide (x = .non))) H) := by
 intro pins s σ H x y v u Q I rx ry h
 obtain ⟨rfl, q⟩ := h
 cases ry
 refine isnot_none_gen (fin_bl I q ?_)
 cases x <;> first
  | (cases rx; rfl)
  | (obtain ⟨t, rfl⟩ := rx; rfl)
theorem nomark (b : Expr) {op : CmpOp} (h : op ≠ .In := by decide) (h2 : op ≠ .NotIn := by decide) : behindInMarks op b = false := by
 have e1 : (op == CmpOp.In) = false := by cases op <;> first | rfl | exact absurd rfl h
 have e2 : (op == CmpOp.NotIn) = false := by cases op <;> first | rfl | exact absurd rfl h2
 cases b <;> simp [behindInMarks, e1, e2]
theorem pe_cmpR {op : CmpOp} {r : R2} (ho : OpR X (compareOp op) r) (ha : PE X a ta) (hb : PE X b tb) (hm : behindInMarks op b = false) : PE X (.Compare a [op] [b] pos) (tOp r ta tb) := by
 intro pins s σ H Q I h
 exact wpAny_Compare1 (binT ha hb I h fun v u s2 x y H2 I2 rx ry q => ho pins s2 σ H2 x y v u Q I2 rx ry q) hm
def tTest (t : TE) : TT := fun σ H Q => t σ H fun x H' => ∃ k, x = .bl k ∧ Q k H'
theorem pt_cmpR {op : CmpOp} {r : R2} (ho : OpR X (compareOp op) r) (ha : PE X a ta) (hb : PE X b tb) (hm : behindInMarks op b = false) : PT X (.Compare a [op] [b] pos) (tTest (tOp r ta tb)) := by
 intro pins s σ H Q I h
 refine wpAny_isTrue_Compare1 (thn (ha pins s σ H _ I h) fun v s1 ⟨x, H1, I1, r1, q1⟩ => thn (hb pins s1 σ H1 _ I1 q1) fun u s2 ⟨y, H2, I2, r2, q2⟩ =>
  thn (ho pins s2 σ H2 x y v u _ I2 r1 r2 q2) fun c s3 ⟨z, H3, I3, r3, k, e, q3⟩ => ?_) hm
 subst e
 cases r3
 exact wpAny_truthy_bool ⟨H3, I3, q3⟩
theorem line63 : (sizeLine : Nat) < 2 ^ 63 := by rw [sizeLine_eq]; decide
theorem vals1 {x : V} {us : List Value} (r : Vals [x] us) : ∃ u, us = [u] ∧ RelV x u := by
 cases r with
 | cons r1 r2 => cases r2; exact ⟨_, rfl, r1⟩
theorem vals2 {x y : V} {us : List Value} (r : Vals [x, y] us) : ∃ u w', us = [u, w'] ∧ RelV x u ∧ RelV y w' := by
 cases r with
 | cons r1 r2 =>
  cases r2 with
  | cons r3 r4 => cases r4; exact ⟨_, _, rfl, r1, r3⟩
theorem call_int1 : CallR X (.type "int") (fun xs H Q => (∃ i, xs = [.int i] ∧ Q (.int i) H) ∨ ∃ k, xs = [.bl k] ∧ Q (.int (if k then 1 else 0)) H) := by
 intro pins s σ H xs us Q I r h
 rcases h with ⟨i, rfl, q⟩ | ⟨k, rfl, q⟩
 ·obtain ⟨u, rfl, t, rfl⟩ := vals1 r
  exact call_int_int ⟨.int i, H, I, ⟨_, rfl⟩, q⟩
 ·obtain ⟨u, rfl, r1⟩ := vals1 r
  cases r1
  exact call_int_bool ⟨.int (if k then 1 else 0), H, I.tok _, ⟨_, rfl⟩, q⟩
end
end L2
namespace L2
open PySem PySem.Spec PyProof.Rows
structure ObjM (h : Heap) (x dx C : Addr) (mA : Str → Option Value) : Prop where
 obj : h.get? x = some (PySem.W.instObj C dx)
 ns : h.Ns1 dx mA
 ne : dx ≠ x
theorem lookIn_ns {h : Heap} {dx : Addr} {mA : Str → Option Value} (n : h.Ns1 dx mA) : ∃ od, h.get? dx = some od ∧ ∀ name, PySem.W.lookIn name od = some (mA name) := by
 obtain ⟨o, es, ep, ho, hd, hk, _, hm⟩ := n
 refine ⟨o, ho, fun name => ?_⟩
 have e := hm name
 unfold nsFind findBy at e
 rw [← Array.find?_toList] at e
 unfold PySem.W.lookIn
 rw [hd]
 dsimp only
 split
 ·rename_i y q
  rw [q] at e
  exact congrArg some e
 ·rename_i q
  rw [q] at e
  have a : es.toList.any (·.refKey) = false := by
   rw [List.any_eq_false]
   intro y hy
   obtain ⟨z, t, hkey⟩ := hk y (Array.mem_toList_iff.mp hy)
   simp [DictEntry.refKey, hkey]
  have a' : ¬ es.toList.any (·.refKey) = true := by rw [a]; exact Bool.false_ne_true
  rw [if_neg a']
  exact congrArg some e
theorem ObjM.look {h : Heap} {x dx C : Addr} {mA : Str → Option Value} (I : ObjM h x dx C mA) : ∃ od, PySem.W.InstAt h x (PySem.W.instObj C dx) C (some od) ∧ ∀ name, PySem.W.lookIn name od = some (mA name) :=
 let ⟨od, ho, hl⟩ := lookIn_ns I.ns
 ⟨od, ⟨I.obj, rfl, rfl, ho⟩, hl⟩
section
variable {P : Program} {w : World} {H H' : Hp} {h h' : Heap} {a C dx : Addr} {fs fs' : List (Str × V)}
theorem ins_get (hok : HOk P w H h) (e : H a = some (.ins C dx fs)) : ∃ mA, ObjM h a dx C mA ∧ (∀ f, RelO (fs.lookup f) (mA f)) ∧ PySem.Within mA (fs.map (·.1)) ∧ fs.length ≤ 1000 ∧ H dx = some (.own a) := by
 obtain ⟨d, z, ne, ob, mA, n, r, q⟩ := (show ObjOk P w H h a (.ins C dx fs) from hok a _ e)
 exact ⟨mA, ⟨ob, n, ne⟩, r, q, z, d⟩
end
structure Cls (K : PySem.W.Frag) (C : Addr) : Prop where
 pg : PySem.W.plainGet K C Str.empty = true
 hd : PySem.W.hasDictIn K C = true
 po : PySem.W.plainOver K C = true
 sa : PySem.W.findIn K (.ref C) "__setattr__" = some (some (.builtin "object.__setattr__"))
theorem Cls.get {K : PySem.W.Frag} {C : Addr} (c : Cls K C) (f : Str) : PySem.W.plainGet K C f = true := c.pg
section
variable {X : Cx} {pins : List (Addr × Obj)} {σ : St} {H : Hp} {s : Shared} {A : Around} {E : Value → Shared → Prop} {Q : Value → Shared → Prop} {c : Value} {b : Bool}
inductive TyOf (K : PySem.W.Frag) (H : Hp) : V → Value → Prop where
 | non : TyOf K H .non (.type "NoneType")
 | bl (x : Bool) : TyOf K H (.bl x) (.type "bool")
 | int (i : Int) : TyOf K H (.int i) (.type "int")
 | str (x : Str) : TyOf K H (.str x) (.type "str")
 | flt (x : UInt64) : TyOf K H (.flt x) (.type "float")
 | lst {a : Addr} {xs : List V} (e : H a = some (.lst xs)) : TyOf K H (.ref a) (.type "list")
 | frz {a : Addr} {o : Obj} {xs : List V} (e : H a = some (.frz o (.lst xs))) : TyOf K H (.ref a) (.type "list")
 | tup {a : Addr} {xs : List V} (e : H a = some (.tup xs)) : TyOf K H (.ref a) (.type "tuple")
 | dK {a : Addr} {kvs : List (Key × V)} (e : H a = some (.dK kvs)) : TyOf K H (.ref a) (.type "dict")
 | dT {a : Addr} {kvs : List (List Key × V)} (e : H a = some (.dT kvs)) : TyOf K H (.ref a) (.type "dict")
 | ins {a C dx : Addr} {fs : List (Str × V)} (e : H a = some (.ins C dx fs)) (cl : Cls K C) (ha : PySem.W.findIn K (.ref C) "__class__" = some (some (.builtin "object.__class__")))
   (hn : PySem.W.specialIn K (.builtin "object.__class__") "__get__" = some (some (.builtin "getset_descriptor.__get__"))) (htk : PySem.W.takesIn K (.builtin "object.__class__") = some true)
   (hm : PySem.W.mroIn K C (.type "object") = some true) : TyOf K H (.ref a) (.ref C)
theorem isinst_ok {x : V} {u t : Value} (I : Inv X pins σ H s) (rx : RelV x u) (ty : TyOf X.K H x t) (e : PySem.W.kitOne X.K t c = some b) (h : ∀ tk, Q (.bool b) { s with toks := tk }) :
  wpAny (model X.prog X.w) A (call (.builtin "isinstance") [u, c]) Q E s := by
 cases ty with
 | non => cases (show u = Value.none from rx); exact PySem.W.kia_one PySem.W.kitx_none I.kIn True.intro e (fun z => nomatch z) h
 | bl y => cases (show u = Value.bool y from rx); exact PySem.W.kia_one PySem.W.kitx_bool I.kIn True.intro e (fun z => nomatch z) h
 | int i => obtain ⟨t, q⟩ := (show ∃ t, u = Value.int i t from rx); cases q; exact PySem.W.kia_one PySem.W.kitx_int I.kIn True.intro e (fun z => nomatch z) h
 | str y => obtain ⟨t, q⟩ := (show ∃ t, u = Value.str y t from rx); cases q; exact PySem.W.kia_one PySem.W.kitx_str I.kIn True.intro e (fun z => nomatch z) h
 | flt y => obtain ⟨t, q⟩ := (show ∃ t, u = Value.float y t from rx); cases q; exact PySem.W.kia_one PySem.W.kitx_float I.kIn True.intro e (fun z => nomatch z) h
 | @lst a xs ea =>
  cases (show u = Value.ref a from rx)
  obtain ⟨_, _, n, _, h1⟩ := (show ObjOk X.prog X.w H s.heap a (.lst xs) from I.hok a _ ea)
  exact PySem.W.kia_one PySem.W.kitx_list I.kIn ⟨_, h1, rfl⟩ e (fun z => nomatch z) h
 | @frz a ob xs ea =>
  cases (show u = Value.ref a from rx)
  obtain ⟨_, _, _, n, _, h1⟩ := (show ObjOk X.prog X.w H s.heap a (.frz ob (.lst xs)) from I.hok a _ ea)
  exact PySem.W.kia_one PySem.W.kitx_list I.kIn ⟨_, h1, rfl⟩ e (fun z => nomatch z) h
 | @tup a xs ea =>
  cases (show u = Value.ref a from rx)
  obtain ⟨_, _, _, p, _⟩ := (show ObjOk X.prog X.w H s.heap a (.tup xs) from I.hok a _ ea)
  obtain ⟨o, h1, h2, _⟩ := p
  exact PySem.W.kia_one PySem.W.kitx_tuple I.kIn ⟨o, h1, h2⟩ e (fun z => nomatch z) h
 | @dK a kvs ea =>
  cases (show u = Value.ref a from rx)
  obtain ⟨_, _, vs, _, p⟩ := (show ObjOk X.prog X.w H s.heap a (.dK kvs) from I.hok a _ ea)
  obtain ⟨o, es, ep, h1, h2, _⟩ := p
  exact PySem.W.kia_one PySem.W.kitx_dict I.kIn ⟨o, h1, h2.1⟩ e (fun z => nomatch z) h
 | @dT a kvs ea =>
  cases (show u = Value.ref a from rx)
  obtain ⟨_, _, xs, _, o, es, ep, h1, h2, _⟩ := (show ObjOk X.prog X.w H s.heap a (.dT kvs) from I.hok a _ ea)
  exact PySem.W.kia_one PySem.W.kitx_dict I.kIn ⟨o, h1, h2.1⟩ e (fun z => nomatch z) h
 | @ins a C dx fs ea cl ha hn htk hm =>
  cases (show u = Value.ref a from rx)
  obtain ⟨mA, O, _⟩ := ins_get I.hok ea
  obtain ⟨od, J, _⟩ := O.look
  exact PySem.W.kia_one (PySem.W.kitx_own (cl.get _) cl.hd ha hn htk hm) I.kIn J e (fun z => nomatch z) h
end
end L2
namespace L2
open PySem PySem.Spec PyProof.Rows
structure Room (k : Nat) (A : Around) : Prop where
 hd : A.handled = none
 dp : A.depth + 3 * k + 5 < recursionLimit
 un : A.units + 16 * k + 200 < cLine
theorem Room.mono {j k : Nat} {A : Around} (r : Room k A) (h : j ≤ k) : Room j A := ⟨r.hd, by have := r.dp; omega, by have := r.un; omega⟩
theorem Room.deeper {k : Nat} {A : Around} (r : Room (k + 1) A) (env : Env) : Room k (A.deeper env) :=
 ⟨r.hd, by have := r.dp; show A.depth + 1 + 3 * k + 5 < _; omega, by have := r.un; show A.units + 3 + 16 * k + 200 < _; omega⟩
theorem Room.depth {k : Nat} {A : Around} (r : Room k A) : A.depth < recursionLimit := by have := r.dp; omega
theorem Room.units {k : Nat} {A : Around} (r : Room k A) : A.units + 64 < cLine := by have := r.un; omega
def tNil : TA := fun _ H Q => Q [] H
def tCons (ta : TE) (tr : TA) : TA := fun σ H Q => ta σ H fun x H1 => tr σ H1 fun xs H2 => Q (x :: xs) H2
section
variable {X : Cx} {e : Expr} {es : List Expr} {te : TE} {t : TA} {pos : Pos}
theorem pa_nil : PA X [] tNil := fun _ _ _ _ H Q I h => Calls.spliced_nil ⟨[], H, I, .nil, h⟩
theorem pa_cons (ha : PE X e te) (hr : PA X es t) (hs : starEach (e :: es) X.env = (false, eval e X.env) :: starEach es X.env := by rfl) : PA X (e :: es) (tCons te t) := by
 intro pos pins s σ H Q I h
 rw [hs]
 show wpAny _ _ (spliced ((false, eval e X.env) :: backTo pos (starEach es X.env))) _ _ s
 refine Calls.spliced_cons (thn (ha pins s σ H _ I h) fun u s1 ⟨x, H1, I1, r1, q1⟩ => ?_)
 exact thn (hr pos pins s1 σ H1 _ I1 q1) fun us s2 ⟨xs, H2, I2, r2, q2⟩ => ⟨x :: xs, H2, I2, .cons r1 r2, q2⟩
def tTup (t : TA) : TE := fun σ H Q => t σ H fun xs H1 => xs.length ≤ sizeLine ∧ ∀ p, H1 p = none → Q (.ref p) (upd H1 p (.tup xs))
def tLst (t : TA) : TE := fun σ H Q => t σ H fun xs H1 => xs.length ≤ sizeLine ∧ ∀ p, H1 p = none → Q (.ref p) (upd H1 p (.lst xs))
theorem pe_tup {x1} (h : PA X es t) : PE X (.Tuple es x1 pos) (tTup t) := by
 intro pins s σ H Q I hq
 refine wpAny_Tuple_spliced (thn (h pos pins s σ H _ I hq) fun us s1 ⟨xs, H1, I1, r, z, q⟩ => ⟨by rw [← r.length]; exact z, ?_⟩)
 have hf : H1 s1.heap.objs.size = none := I1.hok.fresh (Nat.le_refl _)
 refine ⟨.ref s1.heap.objs.size, upd H1 s1.heap.objs.size (.tup xs), I1.laid (t' := s1.toks) (fun b u e => Heap.get?_push_of_some _ e) (Nat.le_refl _) ?_, rfl, q _ hf⟩
 exact ⟨z, us, r, ⟨_, Heap.get?_push_size _ rfl, rfl, _, rfl⟩, _, Heap.get?_push_size _ rfl, rfl⟩
theorem pe_lst (h : PA X es t) : PE X (.List es pos) (tLst t) := by
 intro pins s σ H Q I hq
 refine wpAny_List_spliced (thn (h pos pins s σ H _ I hq) fun us s1 ⟨xs, H1, I1, r, z, q⟩ => ⟨by rw [← r.length]; exact z, ?_⟩)
 have hf : H1 s1.heap.objs.size = none := I1.hok.fresh (Nat.le_refl _)
 refine ⟨.ref s1.heap.objs.size, upd H1 s1.heap.objs.size (.lst xs), I1.laid (t' := s1.toks) (fun b u e => Heap.get?_push_of_some _ e) (Nat.le_refl _) ?_, rfl, q _ hf⟩
 exact ⟨z, us, 0, r, Heap.get?_push_size _ rfl⟩
end
abbrev Sp := List V → Hp → VK → XK → Prop
abbrev CXT := List Env → Hp → Shared → XK → Value → Shared → Prop
structure Env0 (P : Program) (w : World) (K : PySem.W.Frag) (mg : Str → Option Value) (base : Heap) (A : Around) (outer : List Env) (s : Shared) (H : Hp) : Prop where
 frames : A.frames = some outer
 mod : Mod K mg base
 bs : ∀ b o, base.get? b = some o → s.heap.get? b = some o ∧ H b = none
 bsz : base.objs.size ≤ s.heap.objs.size
 funs : s.heap.FunFrames base outer
 frf : ∀ b ∈ frs outer, H b = none
 hok : HOk P w H s.heap
 bare : AllBare s.gens
def CE (outer : List Env) (P : Program) (w : World) (H : Hp) (s : Shared) (Q : VK) (u : Value) (s' : Shared) : Prop :=
 ∃ v H', s'.os = s.os ∧ AllBare s'.gens ∧ Un (frs outer) [] H H' s.heap s'.heap ∧ HOk P w H' s'.heap ∧ RelV v u ∧ Q v H'
def CR (CX : CXT) (outer : List Env) (P : Program) (w : World) (H : Hp) (s : Shared) (Q : VK) (E : XK) (r : Result) (s' : Shared) : Prop :=
 match r with
 | .ok (.ret u) => CE outer P w H s Q u s'
 | .ok _ => False
 | .error e => CX outer H s E e s'
structure FnOk (P : Program) (w : World) (K : PySem.W.Frag) (mg : Str → Option Value) (base : Heap) (CX : CXT) (k : Nat) (f : Addr) (fd : FuncData) (ps : List Str) (sp : Sp) : Prop where
 len : ∀ vs H Q E, sp vs H Q E → vs.length = ps.length
 run : ∀ (A : Around) (outer : List Env) (s : Shared) (H : Hp) (args : Args) (us : List Value) (vs : List V) (Q : VK) (E : XK), Room k A → Env0 P w K mg base A outer s H → BindsTo s fd args (ps.zip us) → Vals vs us → sp vs H Q E →
  codeAny (model P w) A (.call (.ref f) args) (CR CX outer P w H s Q E) s
theorem FnOk.mono {P : Program} {w : World} {K : PySem.W.Frag} {mg : Str → Option Value} {base : Heap} {CX : CXT} {j k : Nat} {f : Addr} {fd : FuncData} {ps : List Str} {sp : Sp} (F : FnOk P w K mg base CX j f fd ps sp) (h : j ≤ k) :
  FnOk P w K mg base CX k f fd ps sp := ⟨F.len, fun A outer s H args us vs Q E hr => F.run A outer s H args us vs Q E (hr.mono h)⟩
theorem FnOk.imp {P : Program} {w : World} {K : PySem.W.Frag} {mg : Str → Option Value} {base : Heap} {CX : CXT} {k : Nat} {f : Addr} {fd : FuncData} {ps : List Str} {sp sp' : Sp} (F : FnOk P w K mg base CX k f fd ps sp)
  (h : ∀ vs H Q E, sp' vs H Q E → sp vs H Q E) : FnOk P w K mg base CX k f fd ps sp' :=
 ⟨fun vs H Q E q => F.len vs H Q E (h _ _ _ _ q), fun A outer s H args us vs Q E hr he hb hv hs => F.run A outer s H args us vs Q E hr he hb hv (h _ _ _ _ hs)⟩
section
variable {X : Cx} {pins : List (Addr × Obj)} {σ : St} {H : Hp} {s s' : Shared}
theorem Inv.env0 (I : Inv X pins σ H s) : Env0 X.prog X.w X.K X.mg X.base X.A X.stack s H :=
 ⟨I.ok.frames, I.ok.mod, I.bs, Nat.le_trans I.ok.bsz I.sz, I.stack, I.stkFree, I.hok, I.bare⟩
theorem Inv.after {Q : VK} {u : Value} (I : Inv X pins σ H s) (h : CE X.stack X.prog X.w H s Q u s') : EP X pins σ Q u s' := by
 obtain ⟨v, H', os, bare, un, hok, r, q⟩ := h
 obtain ⟨hh, g, d, t, os'⟩ := s'
 obtain rfl : os' = s.os := os
 exact ⟨v, H', I.call (h' := hh) (g' := g) (d' := d) (t' := t) (ch := []) un hok bare (fun b z => absurd z (by simp)), r, q⟩
end
def tCall (sp : Sp) (dvs : List V) (E : XK) (t : TA) : TE := fun σ H Q => t σ H fun vs H1 => sp (vs ++ dvs) H1 Q E
def Binds (K : PySem.W.Frag) (fd : FuncData) (ps : List Str) (ds : List Value) : Prop :=
 ∀ (s : Shared) (us : List Value), K.In s.heap → (us ++ ds).length = ps.length → BindsTo s fd ⟨us, []⟩ (ps.zip (us ++ ds))
theorem Binds.all {K : PySem.W.Frag} {fd : FuncData} {ps : List Str} (h : ∀ us : List Value, us.length = ps.length → bindArgs fd ⟨us, []⟩ = pure (ps.zip us)) : Binds K fd ps [] := fun s us _ hl => by
 rw [List.append_nil] at hl ⊢
 exact .of_eq (h us hl)
def Passes (CX : CXT) (X : Cx) (E : XK) : Prop := ∀ (pins : List (Addr × Obj)) (σ : St) (H : Hp) (s : Shared) (e : Value) (s' : Shared), Inv X pins σ H s → CX X.stack H s E e s' → X.xe e s'
section
variable {X : Cx} {CX : CXT} {k : Nat} {f C : Addr} {fd : FuncData} {ps : List Str} {sp : Sp} {dvs : List V} {ds : List Value} {E : XK} {x m : Str} {p pos apos : Pos} {e o : Expr} {es : List Expr} {ta : TE} {t : TA}
theorem run_fn {pins : List (Addr × Obj)} {σ : St} {H : Hp} {s : Shared} {Q : VK} {us : List Value} {vs : List V} (F : FnOk X.prog X.w X.K X.mg X.base CX k f fd ps sp) (hr : Room k X.A) (hb : Binds X.K fd ps ds) (hd : Vals dvs ds) (hx : Passes CX X E)
  (I : Inv X pins σ H s) (r : Vals vs us) (h : sp (vs ++ dvs) H Q E) : wpAny (model X.prog X.w) X.A (call (.ref f) us) (EP X pins σ Q) X.xe s := by
 have r2 : Vals (vs ++ dvs) (us ++ ds) := r.append hd
 have hl : (us ++ ds).length = ps.length := by rw [← r2.length]; exact F.len _ _ _ _ h
 refine wpAny_call (codeAny_mono (F.run X.A X.stack s H ⟨us, []⟩ (us ++ ds) (vs ++ dvs) Q E hr I.env0 (hb s us I.kIn hl) r2 h) fun r s' hq => ?_)
 cases r with
 | error e => exact hx pins σ H s e s' I hq
 | ok fl =>
  cases fl with
  | ret u => exact I.after hq
  | next => exact False.elim hq
  | brk => exact False.elim hq
  | cont => exact False.elim hq
theorem pe_call (F : FnOk X.prog X.w X.K X.mg X.base CX k f fd ps sp) (hr : Room k X.A) (hg : Gl X x) (hm : X.mg x = some (.ref f)) (hk : PySem.W.keepIn X.K (.ref f) = true) (hb : Binds X.K fd ps ds) (hd : Vals dvs ds) (hx : Passes CX X E)
  (ha : PA X (e :: es) t) (hdb : (x == ("__debug__" : Str)) = false := by decide) (he : starEach (e :: es) X.env = (false, eval e X.env) :: starEach es X.env := by rfl) (hpl : (backTo pos (starEach es X.env)).any (·.1) = false := by rfl) :
  PE X (.Call (.Name x p) (e :: es) [] pos) (tCall sp dvs E t) := by
 intro pins s σ H Q I h
 refine wpAny_Call_Name_kw (ld_glob I hg hm ?_ hdb)
 refine PySem.W.callWith_K (h₀ := X.base) I.ok.mod.kin hk (thn (ha pos pins s σ H _ I h) fun us s1 ⟨vs, H1, I1, r, q⟩ => ⟨I1.kIn, ?_⟩) he hpl
 exact run_fn F hr hb hd hx I1 r q
end
structure FnScope (N P : List Str) (sc : Scope) : Prop where
 kind : sc.kind = .function
 co : sc.isCoroutine = false
 gen : sc.isGenerator = false
 nd : N.Nodup
 pre : N.take P.length = P
 par : ∀ x ∈ P, sc.names.lookup x = some .local ∨ sc.names.lookup x = some .cell
 nofree : ∀ y ∈ sc.names, y.2 ≠ .free
theorem bindL_out {kindOf : Str → Option NameKind} {x : Str} : ∀ {binds : List (Str × Value)} {m : Str → Option Value}, (∀ v, (x, v) ∉ binds) → bindL kindOf binds m x = m x
 | [], _, _ => rfl
 | (n, v) :: r, m, h => by
  unfold bindL
  rw [bindL_out fun w hw => h w (List.mem_cons_of_mem _ hw)]
  split
  ·have : x ≠ n := by rintro rfl; exact h v List.mem_cons_self
   simp [this]
  ·rfl
theorem bindC_out {kindOf : Str → Option NameKind} {x : Str} : ∀ {binds : List (Str × Value)} {m : Str → Option Value}, (∀ v, (x, v) ∉ binds) → bindC kindOf binds m x = m x
 | [], _, _ => rfl
 | (n, v) :: r, m, h => by
  unfold bindC
  rw [bindC_out fun w hw => h w (List.mem_cons_of_mem _ hw)]
  split
  ·rfl
  ·have : x ≠ n := by rintro rfl; exact h v List.mem_cons_self
   simp [this]
theorem bindL_get {kindOf : Str → Option NameKind} {x : Str} {v : Value} : ∀ {P : List Str} {vs : List Value} {i : Nat} {m : Str → Option Value}, P.Nodup → P[i]? = some x → vs[i]? = some v → kindOf x = some .local →
  bindL kindOf (P.zip vs) m x = some v
 | [], _, _, _, _, h, _, _ => by simp at h
 | _ :: _, [], _, _, _, _, h, _ => by simp at h
 | p :: P, w :: vs, 0, m, nd, h1, h2, hk => by
  simp at h1 h2; subst h1; subst h2
  show bindL kindOf ((p, w) :: P.zip vs) m p = _
  unfold bindL
  rw [bindL_out fun v hv => (List.nodup_cons.mp nd).1 (List.of_mem_zip hv).1, if_pos hk]
  simp
 | p :: P, w :: vs, i + 1, m, nd, h1, h2, hk => by
  show bindL kindOf ((p, w) :: P.zip vs) m x = _
  unfold bindL
  exact bindL_get (i := i) (List.nodup_cons.mp nd).2 (by simpa using h1) (by simpa using h2) hk
theorem bindC_get {kindOf : Str → Option NameKind} {x : Str} {v : Value} : ∀ {P : List Str} {vs : List Value} {i : Nat} {m : Str → Option Value}, P.Nodup → P[i]? = some x → vs[i]? = some v → kindOf x ≠ some .local →
  bindC kindOf (P.zip vs) m x = some v
 | [], _, _, _, _, h, _, _ => by simp at h
 | _ :: _, [], _, _, _, _, h, _ => by simp at h
 | p :: P, w :: vs, 0, m, nd, h1, h2, hk => by
  simp at h1 h2; subst h1; subst h2
  show bindC kindOf ((p, w) :: P.zip vs) m p = _
  unfold bindC
  rw [bindC_out fun v hv => (List.nodup_cons.mp nd).1 (List.of_mem_zip hv).1, if_neg hk]
  simp
 | p :: P, w :: vs, i + 1, m, nd, h1, h2, hk => by
  show bindC kindOf ((p, w) :: P.zip vs) m x = _
  unfold bindC
  exact bindC_get (i := i) (List.nodup_cons.mp nd).2 (by simpa using h1) (by simpa using h2) hk
def start (N : List Str) (vs : List V) : St := vs.map some ++ List.replicate (N.length - vs.length) none
def cxOf (CX : CXT) (P : Program) (w : World) (K : PySem.W.Frag) (mg : Str → Option Value) (base : Heap) (N : List Str) (qual : Str) (scope : Scope) (f : Addr) (cd : Value) (A : Around) (outer : List Env) (s : Shared) (H : Hp) (E : XK) : Cx where
 prog := P
 w := w
 K := K
 mg := mg
 base := base
 A := A.deeper (envOfC qual scope s.heap.objs.size f cd)
 N := N
 s₀ := s
 H₀ := H
 env := envOfC qual scope s.heap.objs.size f cd
 outer := outer
 stack := envOfC qual scope s.heap.objs.size f cd :: outer
 ex := []
 calm := true
 fn := fun _ => true
 pn := []
 xe := fun e s' => wpAny (model P w) (A.deeper (envOfC qual scope s.heap.objs.size f cd)) (leaving (envOfC qual scope s.heap.objs.size f cd) e) (fun _ s'' => CX outer H s E e s'') (fun e' s'' => CX outer H s E e' s'') s'
theorem cell_has {sc : Scope} {n : Nat} {x : Str} (h : sc.names.lookup x = some .cell) : ∃ c, (cellsFrom n sc.names []).lookup x = some c := by
 have q := PySem.W.cellsFrom_some sc.names n [] (.inl h)
 exact Option.isSome_iff_exists.mp q
theorem inv_start {CX : CXT} {P : Program} {w : World} {K : PySem.W.Frag} {mg : Str → Option Value} {base : Heap} {N ps : List Str} {qual : Str} {scope : Scope} {f : Addr} {cd : Value} {A : Around} {outer : List Env} {s s1 : Shared} {H : Hp} {E : XK} {us : List Value} {vs : List V}
  (S : FnScope N ps scope) (hd : A.handled = none) (e0 : Env0 P w K mg base A outer s H) (hl : vs.length = ps.length) (r : Vals vs us)
  (x : InCallC s s.heap.objs.size (bindL (envOfC qual scope s.heap.objs.size f cd).kindOf (ps.zip us) fun _ => none) (cellsFrom (s.heap.objs.size + 1) scope.names []) (bindC (envOfC qual scope s.heap.objs.size f cd).kindOf (ps.zip us) fun _ => none) s1) :
  Inv (cxOf CX P w K mg base N qual scope f cd A outer s H E) [] (start N vs) H s1 := by
 have hpl : ps.length ≤ N.length := by have := congrArg List.length S.pre; rw [List.length_take] at this; omega
 obtain ⟨h1, tk, rfl, hk⟩ := x.done
 have noA : ∀ b : Addr, b ∉ (cxOf CX P w K mg base N qual scope f cd A outer s H E).ex := fun b z => absurd (show b ∈ ([] : List Addr) from z) (by simp)
 refine ⟨⟨e0.mod, S.kind, rfl, rfl, Nat.le_refl _, fun y z c h1 h2 => ?_, fun y hy => ?_, fun y c _ h => ?_, fun _ => hd, Around.frames_deeper e0.frames, .inr ⟨rfl, rfl⟩, fun b z => absurd z (noA b), e0.bs, e0.bsz, fun b _ _ => noA b, fun b z => absurd z (noA b), e0.funs, e0.frf⟩,
  rfl, e0.bare, Un.kept hk, ⟨_, x.toInCall.ns, fun i y v h1 h2 h3 => ?_⟩, fun y c h => ⟨_, x.cell y c h⟩, e0.hok.fresh (Nat.le_refl _), fun y c h => ?_, fun p hp => absurd (show p ∈ ([] : List (Addr × Obj)) from hp) (by simp), e0.hok.kept hk, ?_⟩
 ·exact name_of_addr x.apart (PySem.mem_of_lookup h1) (PySem.mem_of_lookup h2)
 ·have hy : scope.names.lookup y = some .cell ∨ scope.names.lookup y = some .free := hy
  rcases hy with hy | hy
  ·exact cell_has hy
  ·exact absurd rfl (S.nofree _ (PySem.mem_of_lookup hy))
 ·exact Nat.le_of_lt (x.above y c (PySem.mem_of_lookup h))
 ·have hi : i < vs.length := by
   unfold start at h2
   by_cases hi : i < vs.length
   ·exact hi
   ·rw [List.getElem?_append_right (by simpa using hi)] at h2
    rw [List.getElem?_replicate] at h2
    split at h2 <;> cases h2
  have ha : vs[i]? = some v := by
   unfold start at h2
   rw [List.getElem?_append_left (by simpa using hi), List.getElem?_map] at h2
   cases e : vs[i]? with
   | none => rw [e] at h2; cases h2
   | some a => rw [e] at h2; cases h2; rfl
  obtain ⟨u, hu, rv⟩ := r.get ha
  have hp : ps[i]? = some y := by
   rw [← S.pre, List.getElem?_take_of_lt (by omega)]; exact h1
  have ndP : ps.Nodup := by rw [← S.pre]; exact S.nd.sublist (List.take_sublist _ _)
  refine ⟨u, rv, ?_⟩
  rcases S.par y (List.mem_of_getElem? hp) with k | k
  ·exact .inl ⟨k, bindL_get ndP hp hu k⟩
  ·obtain ⟨c, e⟩ := cell_has (n := s.heap.objs.size + 1) k
   refine .inr ⟨.inl k, c, e, ?_⟩
   have q := x.cell y c e
   rw [bindC_get ndP hp hu (by show scope.names.lookup y ≠ _; rw [k]; decide)] at q
   exact q
 ·exact e0.hok.fresh (Nat.le_of_lt (x.above y c (PySem.mem_of_lookup h)))
 ·unfold start
  show _ = N.length
  rw [List.length_append, List.length_map, List.length_replicate]
  omega
theorem fn_of {CX : CXT} {P : Program} {w : World} {K : PySem.W.Frag} {mg : Str → Option Value} {base : Heap} {k : Nat} {f : Addr} {name qual : Str} {params : Arguments} {body : List Stmt} {scope : Scope} {dV kV doc pm cdv ct oc : Value} {an od : Option Addr}
  {osl : Array (Option Value)} {N ps : List Str} {sp : Sp} (lk : K.lookup f = some ⟨oc, od, .func (PySem.W.fnOf name qual params body scope dV kV doc pm an cdv ct), osl⟩) (hcd : PySem.W.codeIn K cdv qual = true) (S : FnScope N ps scope)
  (len : ∀ vs H Q E, sp vs H Q E → vs.length = ps.length)
  (hbody : ∀ (A : Around) (outer : List Env) (s : Shared) (H : Hp) (vs : List V) (Q : VK) (E : XK), Room k (A.deeper (envOfC qual scope s.heap.objs.size f cdv)) → sp vs H Q E →
   ∃ t, PSs (cxOf CX P w K mg base N qual scope f cdv A outer s H E) body t ∧ t { nx := fun _ H' => Q .non H', rt := Q } (start N vs) H) :
  FnOk P w K mg base CX (k + 1) f (PySem.W.fnOf name qual params body scope dV kV doc pm an cdv ct) ps sp := by
 refine ⟨len, fun A outer s H args us vs Q E hr e0 hb r hsp => ?_⟩
 have hl := len _ _ _ _ hsp
 have KX : K.In s.heap := e0.mod.kin.keeps fun b o e => (e0.bs b o e).1
 have lim : s.heap.NoLimit := e0.mod.nolimit.keeps fun b o e => (e0.bs b o e).1
 have hkind : ∀ y ∈ ps.zip us, scope.names.lookup y.1 = some .local ∨ (scope.names.lookup y.1 = some .cell ∧ ((cellsFrom (s.heap.objs.size + 1) scope.names []).lookup y.1).isSome = true) := fun ⟨n, v⟩ hy => by
  rcases S.par n (List.of_mem_zip hy).1 with q | q
  ·exact .inl q
  ·exact .inr ⟨q, PySem.W.cellsFrom_some _ _ _ (.inl q)⟩
 refine codeAny_call_function hr.depth (KX _ _ lk) rfl S.co S.gen rfl (PySem.W.codeRec_of KX hcd) (hb _ _ _ _ ?_)
 refine wpAny_newFunctionEnv_cells S.kind hkind fun env he s1 x => ?_
 subst he
 refine ⟨lim.keeps x.toInCall.keep, codeAny_func ?_⟩
 obtain ⟨t, ht, hq⟩ := hbody A outer s H vs Q E (hr.deeper _) hsp
 have I : Inv (cxOf CX P w K mg base N qual scope f cdv A outer s H E) [] (start N vs) H s1 := inv_start S hr.hd e0 hl r x
 refine wpAny_mono (ht [] s1 (start N vs) H _ I hq) (fun fl s' hs => ?_) fun e s' hs => hs
 have fin : ∀ {σ' : St} {H' : Hp} {v : V} {u : Value}, Inv (cxOf CX P w K mg base N qual scope f cdv A outer s H E) [] σ' H' s' → RelV v u → Q v H' → CE outer P w H s Q u s' :=
  fun {σ' H' v u} J rv q => ⟨v, H', J.os, J.bare, J.base, J.hok, rv, q⟩
 cases fl with
 | ret u =>
  obtain ⟨v, σ', H', J, rv, q⟩ := hs
  exact fin J rv q
 | next =>
  obtain ⟨σ', H', J, q⟩ := hs
  exact fin (v := V.non) (u := Value.none) J rfl q
 | brk =>
  obtain ⟨_, _, _, q⟩ := hs
  exact False.elim q
 | cont =>
  obtain ⟨_, _, _, q⟩ := hs
  exact False.elim q
end L2
namespace L2
open PySem PySem.Spec PyProof.Rows
section
variable {X : Cx} {x : Str} {p pos : Pos} {e : Expr} {es : List Expr} {t : TA} {id T : String} {r : List V → Hp → VK → Prop}
def tCB (r : List V → Hp → VK → Prop) (t : TA) : TE := fun σ H Q => t σ H fun vs H1 => r vs H1 Q
theorem pe_callB (hc : CallR X (.builtin id) r) (hg : Gl X x) (hm : X.mg x = none) (hv : bootBuiltins x = some (.builtin id)) (ha : PA X (e :: es) t) (hn : x ≠ "__name__" := by decide) (hdb : (x == ("__debug__" : Str)) = false := by decide)
  (he : starEach (e :: es) X.env = (false, eval e X.env) :: starEach es X.env := by rfl) (hpl : (backTo pos (starEach es X.env)).any (·.1) = false := by rfl) : PE X (.Call (.Name x p) (e :: es) [] pos) (tCB r t) := by
 intro pins s σ H Q I h
 refine wpAny_Call_Name_kw (ld_blt I hg hm hv ?_ hn hdb)
 exact PyProof.Rows.callWith_builtin1 (thn (ha pos pins s σ H _ I h) fun us s1 ⟨vs, H1, I1, r1, q1⟩ => hc pins s1 σ H1 vs us Q I1 r1 q1) he hpl
theorem pe_callTy (hc : CallR X (.type T) r) (hg : Gl X x) (hm : X.mg x = none) (hv : bootBuiltins x = some (.type T)) (ha : PA X (e :: es) t) (hn : x ≠ "__name__" := by decide) (hdb : (x == ("__debug__" : Str)) = false := by decide)
  (he : starEach (e :: es) X.env = (false, eval e X.env) :: starEach es X.env := by rfl) (hpl : (backTo pos (starEach es X.env)).any (·.1) = false := by rfl) : PE X (.Call (.Name x p) (e :: es) [] pos) (tCB r t) := by
 intro pins s σ H Q I h
 refine wpAny_Call_Name_kw (ld_blt I hg hm hv ?_ hn hdb)
 exact PyProof.Rows.callWith_type1 (thn (ha pos pins s σ H _ I h) fun us s1 ⟨vs, H1, I1, r1, q1⟩ => hc pins s1 σ H1 vs us Q I1 r1 q1) he hpl
end
end L2
namespace HT
open PySem PyProof.Rows
section
variable {prog : Program} {w : World} {A : Around} {E : Value → Shared → Prop} {s : Shared}
theorem cat_tup {t b : Addr} {vs ws : List Value} {Q : Value → Shared → Prop} (ht : IsTup s.heap t vs.toArray) (hb : IsTup s.heap b ws.toArray) (hv : vs ≠ [])
  (h1 : ws = [] → Q (.ref t) s) (h2 : ws ≠ [] → Q (.ref s.heap.objs.size) { s with heap := s.heap.push { cls := .type "tuple", data := .seq (vs ++ ws).toArray } })
  (hsz : vs.length + ws.length ≤ sizeLine) : wpAny (model prog w) A (binaryOp .Add (.ref t) (.ref b)) Q E s := by
 obtain ⟨⟨cls, dd, data, sl⟩, ho, hc, n, hd⟩ := id ht
 obtain ⟨⟨cls2, dd2, data2, sl2⟩, ho2, hc2, n2, hd2⟩ := id hb
 simp only at hc hd hc2 hd2
 subst hc hd hc2 hd2
 have e : vs.toArray ++ ws.toArray = (vs ++ ws).toArray := by simp
 by_cases hw : ws = []
 ·exact concat_meets ⟨_, ho, rfl⟩ ⟨_, ho2, rfl⟩ noFill_tuple_add seq_tuple_add PySem.F.slot_tuple_add PySem.F.entry_tuple_add (PySem.F.args_tuple_add_2 _ _)
   (tuple_addW1 t b vs.toArray ws.toArray n n2 dd dd2 sl sl2 (by simpa using hv) (by simp [hw])) ⟨ho, ho2, h1 hw⟩
 ·refine concat_meets ⟨_, ho, rfl⟩ ⟨_, ho2, rfl⟩ noFill_tuple_add seq_tuple_add PySem.F.slot_tuple_add PySem.F.entry_tuple_add (PySem.F.args_tuple_add_2 _ _)
   (tuple_addW2 t b vs.toArray ws.toArray n n2 dd dd2 sl sl2 (by simpa using hv) (by simpa using hw) (by rw [List.size_toArray, List.size_toArray]; exact hsz)) ⟨ho, ho2, ?_⟩
  rw [e]
  exact h2 hw
def sIx (n d : Nat) : Option Int → Nat
 | none => d
 | some v => if v < 0 then (v + (n : Int)).toNat else min v.toNat n
theorem sIx_none (n d : Nat) : sIx n d none = d := rfl
theorem sIx_nat (n d k : Nat) : sIx n d (some (k : Int)) = min k n := by
 show (if (k : Int) < 0 then ((k : Int) + (n : Int)).toNat else min (k : Int).toNat n) = min k n
 rw [if_neg (by omega), Int.toNat_natCast]
theorem sIx_le (n d : Nat) (hd : d ≤ n) (o : Option Int) : sIx n d o ≤ n := by
 cases o with
 | none => exact hd
 | some v =>
  show (if v < 0 then (v + (n : Int)).toNat else min v.toNat n) ≤ n
  by_cases hv : v < 0
  ·rw [if_pos hv]; omega
  ·rw [if_neg hv]; exact Nat.min_le_right _ _
theorem clip_eq (v : Int) (n d : Nat) : (if v < 0 then max (v + (n : Int)) 0 else min v (n : Int)) = ((sIx n d (some v) : Nat) : Int) := by
 show (if v < 0 then max (v + (n : Int)) 0 else min v (n : Int)) = (((if v < 0 then (v + (n : Int)).toNat else min v.toNat n) : Nat) : Int)
 by_cases hv : v < 0
 ·simp only [if_pos hv]; omega
 ·simp only [if_neg hv]; omega
theorem adjust_gen (lo hi : Option Int) (n : Nat) : Builtin.Slice.sliceAdjust lo hi 1 (n : Int) = (((sIx n 0 lo : Nat) : Int), ((sIx n n hi : Nat) : Int)) := by
 have h1 : ¬ ((1 : Int) < 0) := by omega
 unfold Builtin.Slice.sliceAdjust
 simp only [h1, if_false]
 refine Prod.ext ?_ ?_
 ·cases lo with
  | none => rfl
  | some v => exact clip_eq v n 0
 ·cases hi with
  | none => rfl
  | some v => exact clip_eq v n n
theorem places_gen (i j : Nat) : Builtin.Slice.slicePlaces (i : Int) (j : Int) 1 = j - i := by
 unfold Builtin.Slice.slicePlaces
 have h1 : (1 : Int) > 0 := by omega
 simp only [h1, if_true, Int.ediv_one]
 split <;> omega
theorem slicePart_ {v : Value} {o : Option Int} {Q : Option Int → Shared → Prop} (p : IsPart v o) (h : Q o s) : wpAny (model prog w) A (Builtin.Slice.slicePartIndex v) Q E s := by
 cases p with
 | none => exact slicePart_none h
 | int i t => exact slicePart_int h
theorem sliceApplied_gen {sl : Addr} {vl vu : Value} {lo hi : Option Int} {n : Nat} {Q : Int × Int × Nat → Shared → Prop} (hs : s.heap.IsSliceOf sl vl vu .none) (pl : IsPart vl lo) (pu : IsPart vu hi)
  (h : Q (((sIx n 0 lo : Nat) : Int), 1, sIx n n hi - sIx n 0 lo) s) : wpAny (model prog w) A (Builtin.Slice.sliceApplied (.ref sl) (pure (n : Int))) Q E s := by
 obtain ⟨os, hos, hcs, hds⟩ := id hs
 unfold Builtin.Slice.sliceApplied Builtin.Slice.sliceFields
 refine wpAny_bind (wpAny_bind (wpAny_field hos hds (x := vl) rfl (wpAny_bind (wpAny_field hos hds (x := vu) rfl (wpAny_bind (wpAny_field hos hds (x := .none) rfl (wpAny_pure ?_)))))))
 refine wpAny_bind (slicePart_none ?_)
 show wpAny _ _ (if ((1 : Int) == 0) = true then _ else _) _ _ s
 rw [if_neg (by decide)]
 refine wpAny_bind (slicePart_ pl (wpAny_bind (slicePart_ pu (wpAny_bind (wpAny_pure ?_)))))
 show wpAny _ _ (match Builtin.Slice.sliceAdjust lo hi 1 (n : Int) with | (lo, hi) => pure (lo, (1 : Int), Builtin.Slice.slicePlaces lo hi 1)) _ _ s
 rw [adjust_gen lo hi n]
 show wpAny _ _ (pure (((sIx n 0 lo : Nat) : Int), (1 : Int), Builtin.Slice.slicePlaces ((sIx n 0 lo : Nat) : Int) ((sIx n n hi : Nat) : Int) 1)) _ _ s
 rw [places_gen]
 exact wpAny_pure h
theorem pick_gen (xs : Array Value) (i k : Nat) : ((List.range k).filterMap fun (m : Nat) => xs[((i : Int) + (m : Int) * 1).toNat]?).toArray = ((xs.toList.drop i).take k).toArray := by
 have e : (fun (m : Nat) => xs[((i : Int) + (m : Int) * 1).toNat]?) = fun m => xs[i + m]? := by
  funext m
  have : ((i : Int) + (m : Int) * 1).toNat = i + m := by omega
  rw [this]
 rw [e]
 have := pick_run xs i k
 rw [List.filterMap_map] at this
 have e2 : ((fun x => xs[x]?) ∘ fun x => i + x) = fun m => xs[i + m]? := rfl
 rw [e2] at this
 rw [this]
theorem getItem_tuple_cut {t sl : Addr} {items : Array Value} {vl vu : Value} {lo hi : Option Int} {Q : Value → Shared → Prop} (ht : IsTup s.heap t items) (hs : s.heap.IsSliceOf sl vl vu .none) (pl : IsPart vl lo) (pu : IsPart vu hi)
  (hw : ¬ (sIx items.size 0 lo = 0 ∧ sIx items.size items.size hi = items.size))
  (h : Q (.ref s.heap.objs.size) { s with heap := s.heap.push { cls := .type "tuple", data := .seq ((items.toList.drop (sIx items.size 0 lo)).take (sIx items.size items.size hi - sIx items.size 0 lo)).toArray } })
  (hsz : items.size ≤ sizeLine) : wpAny (model prog w) A (getItem (.ref t) (.ref sl)) Q E s := by
 have htake : sizeOk (.seq ((items.toList.drop (sIx items.size 0 lo)).take (sIx items.size items.size hi - sIx items.size 0 lo)).toArray) := by
  show ((items.toList.drop (sIx items.size 0 lo)).take (sIx items.size items.size hi - sIx items.size 0 lo)).toArray.size ≤ sizeLine
  rw [List.size_toArray, List.length_take, List.length_drop, Array.length_toList]
  omega
 have hj : sIx items.size items.size hi ≤ items.size := sIx_le _ _ (Nat.le_refl _) hi
 obtain ⟨os, hos, hcs, hds⟩ := id hs
 have hTs : s.TypeIs (.ref sl) "slice" := ⟨os, hos, hcs⟩
 unfold getItem
 try with_reducible refine wpAny_holding ?_
 first | refine wpAny_bind (wpAny_pure ?_) | skip
 refine wpAny_bind (wpAny_sequenceKey ht.typeIs (by decide) ?_)
 refine wpAny_bind (wpAny_callSpecial?_slot (name := Str.ofString "__getitem__") ht.typeIs PyProof.Rows.slot_tuple_getitem
  (wpAny_call_entry PyProof.Rows.slot_tuple_getitem ht.typeIs entry_tuple_getitem ?_ (args_tuple_getitem _ _)))
 show wpAny _ _ (Builtin.Tuple.tupleItemsOf (.ref t) >>= _) _ _ s
 refine wpAny_bind (tupleItemsOf_ ht ?_)
 refine wpAny_bind (wpAny_typeOf hTs ?_)
 rw [if_pos (by decide)]
 refine wpAny_bind (sliceApplied_gen hs pl pu ?_)
 have hno : ¬ ((((sIx items.size 0 lo : Nat) : Int) == 0 && (1 : Int) == 1 && (sIx items.size items.size hi - sIx items.size 0 lo) == items.size) = true) := by
  intro q
  rw [Bool.and_eq_true, Bool.and_eq_true] at q
  have q1 : ((sIx items.size 0 lo : Nat) : Int) = 0 := eq_of_beq q.1.1
  have q2 : sIx items.size items.size hi - sIx items.size 0 lo = items.size := eq_of_beq q.2
  exact hw ⟨by omega, by omega⟩
 show wpAny _ _ (if (((sIx items.size 0 lo : Nat) : Int) == 0 && (1 : Int) == 1 && (sIx items.size items.size hi - sIx items.size 0 lo) == items.size) = true then _ else _) _ _ s
 rw [if_neg hno, pick_gen]
 first
  | exact wpAny_bind (m := Builtin.Tuple.tupleExact _) (wpAny_newObj_type (wpAny_pure ⟨_, rfl, wpAny_pure h⟩) htake)
  | exact wpAny_bind (m := Builtin.Tuple.tupleExact _) (wpAny_newObj_type (wpAny_bind (wpAny_pure (wpAny_pure ⟨_, rfl, wpAny_pure h⟩))) htake)
  | exact wpAny_bind (wpAny_bind (m := Builtin.Tuple.tupleExact _) (wpAny_newObj_type (wpAny_pure (wpAny_pure ⟨_, rfl, wpAny_pure h⟩)) htake))
  | exact wpAny_bind (wpAny_bind (m := Builtin.Tuple.tupleExact _) (wpAny_newObj_type (wpAny_pure ⟨_, rfl, wpAny_pure h⟩) htake))
end
end HT
namespace L2
open PySem PySem.Spec PyProof.Rows
abbrev TO := St → Hp → (Option Int → Hp → Prop) → Prop
def PO (X : Cx) (e : Option Expr) (t : TO) : Prop :=
 ∀ (pins : List (Addr × Obj)) (s : Shared) (σ : St) (H : Hp) (Q : Option Int → Hp → Prop), Inv X pins σ H s → t σ H Q →
  wpAny (model X.prog X.w) X.A (evalPart e X.env) (fun u s' => ∃ o H', Inv X pins σ H' s' ∧ IsPart u o ∧ Q o H') X.xe s
def tNoPart : TO := fun _ H Q => Q none H
def tPart (t : TE) : TO := fun σ H Q => t σ H fun x H1 => ∃ i, x = .int i ∧ Q (some i) H1
theorem intsAre_of {ns : List Int} : ∀ {us : List Value}, Vals (ns.map V.int) us → IntsAre us ns := by
 induction ns with
 | nil => intro us r; rw [List.map_nil] at r; cases r; exact .nil
 | cons n ns ih =>
  intro us r
  rw [List.map_cons] at r
  cases r with
  | cons r1 r2 =>
   obtain ⟨t, e⟩ := r1
   subst e
   exact .cons n t (ih r2)
section
variable {X : Cx} {e : Expr} {te : TE} {lo hi : Option Expr} {tl th : TO} {pos p2 : Pos}
theorem po_none : PO X none tNoPart := by
 intro pins s σ H Q I h
 rw [evalPart_none]
 exact wpAny_pure ⟨none, H, I, .none, h⟩
theorem po_some (h : PE X e te) : PO X (some e) (tPart te) := by
 intro pins s σ H Q I hw
 rw [evalPart_some]
 refine thn (h pins s σ H _ I hw) fun u s1 ⟨x, H1, I1, r1, q1⟩ => ?_
 obtain ⟨i, rfl, q⟩ := q1
 obtain ⟨t, rfl⟩ := r1
 exact ⟨some i, H1, I1, .int i t, q⟩
def SlR (X : Cx) (r : V → Option Int → Option Int → Hp → VK → Prop) : Prop :=
 ∀ (pins : List (Addr × Obj)) (s : Shared) (σ : St) (H : Hp) (x : V) (v vl vu : Value) (lo hi : Option Int) (sl : Addr) (Q : VK), Inv X pins σ H s → RelV x v → s.heap.IsSliceOf sl vl vu .none → IsPart vl lo → IsPart vu hi → r x lo hi H Q →
  ∃ T id, typeLookup (.type T) "__getitem__" = pure (some (.builtin id)) ∧ s.TypeIs v T ∧ wpAny (model X.prog X.w) X.A (getItem v (.ref sl)) (EP X pins σ Q) X.xe s
def tSl (r : V → Option Int → Option Int → Hp → VK → Prop) (te : TE) (tl th : TO) : TE := fun σ H Q => te σ H fun x H1 => tl σ H1 fun l H2 => th σ H2 fun u H3 => r x l u H3 Q
theorem pe_slice {r : V → Option Int → Option Int → Hp → VK → Prop} (hr : SlR X r) (he : PE X e te) (hl : PO X lo tl) (hu : PO X hi th) : PE X (.Subscript e (.Slice lo hi none p2) pos) (tSl r te tl th) := by
 intro pins s σ H Q I h
 refine Subscript_ (thn (he pins s σ H _ I h) fun v s1 ⟨x, H1, I1, r1, q1⟩ => ?_)
 refine wpAny_Slice (thn (hl pins s1 σ H1 _ I1 q1) fun vl s2 ⟨l, H2, I2, pl, q2⟩ => thn (hu pins s2 σ H2 _ I2 q2) fun vu s3 ⟨u, H3, I3, pu, q3⟩ => ?_)
 rw [evalPart_none]
 refine wpAny_pure ?_
 have I4 : Inv X pins σ H3 { s3 with heap := s3.heap.push { cls := .type "slice", data := .fields #[vl, vu, .none] } } := I3.kept (t' := s3.toks) fun b ob q => Heap.get?_push_of_some _ q
 obtain ⟨T, id, hT, ht, hg⟩ := hr pins { s3 with heap := s3.heap.push { cls := .type "slice", data := .fields #[vl, vu, .none] } } σ H3 x v vl vu l u s3.heap.objs.size Q I4 r1 (Heap.IsSliceOf.new ..) pl pu q3
 show wpAny (model X.prog X.w) X.A (subscriptTail e (.Slice lo hi none p2) v (.ref s3.heap.objs.size)) (EP X pins σ Q) X.xe { s3 with heap := s3.heap.push { cls := .type "slice", data := .fields #[vl, vu, .none] } }
 exact tail_any (ops := [.ref s3.heap.objs.size, v]) ht hT hg (by with_unfolding_all rfl)
def cutV (xs : List V) (lo hi : Option Int) : List V := (xs.drop (HT.sIx xs.length 0 lo)).take (HT.sIx xs.length xs.length hi - HT.sIx xs.length 0 lo)
theorem cutV_length (xs : List V) (lo hi : Option Int) : (cutV xs lo hi).length ≤ xs.length := by
 unfold cutV
 rw [List.length_take, List.length_drop]
 omega
def rSlT (K : PySem.W.Frag) : V → Option Int → Option Int → Hp → VK → Prop := fun x lo hi H Q => ∃ a xs, x = .ref a ∧ SqT K H a xs ∧
 ¬ (HT.sIx xs.length 0 lo = 0 ∧ HT.sIx xs.length xs.length hi = xs.length) ∧ ∀ p, H p = none → Q (.ref p) (upd H p (.tup (cutV xs lo hi)))
theorem sl_tup : SlR X (rSlT X.K) := by
 intro pins s σ H x v vl vu lo hi sl Q I rx hs pl pu h
 obtain ⟨a, xs, rfl, hx, hw, q⟩ := h
 cases rx
 obtain ⟨its, r, ht, hz⟩ := I.tuple hx
 have hlen : its.toArray.size = xs.length := by rw [List.size_toArray]; exact r.length.symm
 refine ⟨"tuple", _, PyProof.Rows.slot_tuple_getitem.lookup, ht.typeIs, ?_⟩
 refine HT.getItem_tuple_cut ht hs pl pu (by rw [hlen]; exact hw) ?_ (by rw [hlen]; exact hz)
 rw [hlen]
 refine ⟨.ref s.heap.objs.size, _, I.laid (t' := s.toks) (o := .tup (cutV xs lo hi)) (fun b ob q => Heap.get?_push_of_some _ q) (Nat.le_refl _) ?_, rfl, q _ (I.hok.fresh (Nat.le_refl _))⟩
 exact ⟨Nat.le_trans (cutV_length xs lo hi) hz, _, (r.drop (HT.sIx xs.length 0 lo)).take (HT.sIx xs.length xs.length hi - HT.sIx xs.length 0 lo), IsTup.new _ _, _, Heap.get?_push_size _ rfl, rfl⟩
def rCatT (K : PySem.W.Frag) : R2 := fun x y H Q => ∃ a b xs ys, x = .ref a ∧ y = .ref b ∧ SqT K H a xs ∧ SqT K H b ys ∧ xs ≠ [] ∧ xs.length + ys.length ≤ sizeLine ∧
 (ys = [] → Q (.ref a) H) ∧ (ys ≠ [] → ∀ p, H p = none → Q (.ref p) (upd H p (.tup (xs ++ ys))))
theorem Vals.nil_iff {xs : List V} {us : List Value} (r : Vals xs us) : us = [] ↔ xs = [] := by
 cases r with
 | nil => simp
 | cons _ _ => simp
theorem op_catT : OpR X (binaryOp .Add) (rCatT X.K) := by
 intro pins s σ H x y v u Q I rx ry h
 obtain ⟨a, b, xs, ys, rfl, rfl, ha, hb, hx, hz, q1, q2⟩ := h
 cases rx
 cases ry
 obtain ⟨its, r1, p1, _⟩ := I.tuple ha
 obtain ⟨its2, r2, p2, _⟩ := I.tuple hb
 refine HT.cat_tup p1 p2 (fun z => hx (r1.nil_iff.mp z)) (fun z => ⟨.ref a, H, I, rfl, q1 (r2.nil_iff.mp z)⟩) (fun z => ?_) (by rw [← r1.length, ← r2.length]; exact hz)
 refine ⟨.ref s.heap.objs.size, _, I.laid (t' := s.toks) (o := .tup (xs ++ ys)) (fun b ob q => Heap.get?_push_of_some _ q) (Nat.le_refl _) ?_, rfl, q2 (fun w => z (r2.nil_iff.mpr w)) _ (I.hok.fresh (Nat.le_refl _))⟩
 exact ⟨by rw [List.length_append]; exact hz, _, r1.append r2, IsTup.new _ _, _, Heap.get?_push_size _ rfl, rfl⟩
end
end L2
namespace L2
open PySem PySem.Spec PyProof.Rows
def ixN (n : Nat) (i : Int) : Option Nat := if 0 ≤ i then (if i < n then some i.toNat else none) else if -(n : Int) ≤ i then some (i + n).toNat else none
def atI {α : Type} (xs : List α) (i : Int) : Option α := (ixN xs.length i).bind fun j => xs[j]?
theorem ixN_seq {n : Nat} {i : Int} {j : Nat} (h : ixN n i = some j) : seqIndex? i n = some j ∧ j < n ∧ -(n : Int) ≤ i ∧ i < n := by
 unfold ixN at h
 by_cases h0 : 0 ≤ i
 ·rw [if_pos h0] at h
  by_cases h1 : i < n
  ·rw [if_pos h1] at h
   have e : i.toNat = j := Option.some.inj h
   exact ⟨by rw [seqIndex_of h0 h1, e], by omega, by omega, h1⟩
  ·rw [if_neg h1] at h; cases h
 ·rw [if_neg h0] at h
  by_cases h1 : -(n : Int) ≤ i
  ·rw [if_pos h1] at h
   have e : (i + n).toNat = j := Option.some.inj h
   exact ⟨by rw [seqIndex_neg (by omega) h1, e], by omega, h1, by omega⟩
  ·rw [if_neg h1] at h; cases h
theorem atI_get {α : Type} {xs : List α} {i : Int} {v : α} (h : atI xs i = some v) : ∃ j, seqIndex? i xs.length = some j ∧ xs[j]? = some v ∧ j < xs.length ∧ -(xs.length : Int) ≤ i ∧ i < xs.length := by
 unfold atI at h
 cases e : ixN xs.length i with
 | none => rw [e] at h; cases h
 | some j =>
  rw [e] at h
  obtain ⟨h1, h2, h3, h4⟩ := ixN_seq e
  exact ⟨j, h1, h, h2, h3, h4⟩
def PlainIx (b : Expr) : Prop := ∀ o i, subscripted b false o i = operate [o, i] (getItem o i)
def IxR (X : Cx) (r : R2) : Prop :=
 ∀ (value slice : Expr) (pins : List (Addr × Obj)) (s : Shared) (σ : St) (H : Hp) (x y : V) (v u : Value) (Q : VK), Inv X pins σ H s → RelV x v → RelV y u → r x y H Q →
  subscripted slice false v u = operate [v, u] (getItem v u) → wpAny (model X.prog X.w) X.A (subscriptTail value slice v u) (EP X pins σ Q) X.xe s
def MtR (X : Cx) (id : String) (r : V → List V → Hp → VK → Prop) : Prop :=
 ∀ (pins : List (Addr × Obj)) (s : Shared) (σ : St) (H : Hp) (x : V) (xs : List V) (v : Value) (us : List Value) (Q : VK), Inv X pins σ H s → RelV x v → Vals xs us → r x xs H Q →
  wpAny (model X.prog X.w) X.A (call (.builtin id) (v :: us)) (EP X pins σ Q) X.xe s
section
variable {X : Cx} {a b : Expr} {ta tb : TE} {pos : Pos}
theorem pe_ix {r : R2} (hr : IxR X r) (ha : PE X a ta) (hb : PE X b tb) (hs : PlainIx b) : PE X (.Subscript a b pos) (tOp r ta tb) := by
 intro pins s σ H Q I h
 exact Subscript_ (binT ha hb I h fun v u s2 x y H2 I2 rx ry q => hr a b pins s2 σ H2 x y v u Q I2 rx ry q (hs _ _))
def rIxL (K : PySem.W.Frag) : R2 := fun x y H Q => ∃ p xs i v, x = .ref p ∧ y = .int i ∧ SqL K H p xs ∧ atI xs i = some v ∧ Q v H
def rIxT (K : PySem.W.Frag) : R2 := fun x y H Q => ∃ p xs i v, x = .ref p ∧ y = .int i ∧ SqT K H p xs ∧ atI xs i = some v ∧ Q v H
theorem ix_list : IxR X (rIxL X.K) := by
 intro value slice pins s σ H x y v u Q I rx ry h hs
 obtain ⟨p, xs, i, z, rfl, rfl, hq, he, q⟩ := h
 cases rx
 obtain ⟨t, rfl⟩ := ry
 obtain ⟨its, r, pl, hz⟩ := I.list hq
 obtain ⟨j, h1, h2, h3, h4, h5⟩ := atI_get he
 obtain ⟨w, ew, rw'⟩ := r.get h2
 have hl := r.length
 have hn := line63
 have fin : EP X pins σ Q w s := ⟨z, H, I, rw', q⟩
 by_cases h0 : 0 ≤ i
 ·have hj : i.toNat = j := by
   rw [seqIndex_of h0 h5] at h1
   exact Option.some.inj h1
  exact item_listR pl.isList h0 (by omega) (by rw [hj]; simpa using ew) fin hs
 ·have hj : (i + (its.toArray.size : Int)).toNat = j := by
   rw [seqIndex_neg (by omega) h4] at h1
   rw [List.size_toArray, ← hl]
   exact Option.some.inj h1
  exact subscriptTail_builtinR (x := w) pl.isList.typeIs slot_list_getitem.lookup
   (wpAny_getItem_list_neg (Q := fun r s' => r = w ∧ EP X pins σ Q r s') pl.isList (by omega) (by rw [List.size_toArray] <;> omega) (by omega) (by rw [hj]; simpa using ew) ⟨rfl, fin⟩) hs
theorem ix_tup : IxR X (rIxT X.K) := by
 intro value slice pins s σ H x y v u Q I rx ry h hs
 obtain ⟨p, xs, i, z, rfl, rfl, hq, he, q⟩ := h
 cases rx
 obtain ⟨t, rfl⟩ := ry
 obtain ⟨its, r, pl, hz⟩ := I.tuple hq
 obtain ⟨j, h1, h2, h3, h4, h5⟩ := atI_get he
 obtain ⟨w, ew, rw'⟩ := r.get h2
 have hl := r.length
 have hn := line63
 have fin : EP X pins σ Q w s := ⟨z, H, I, rw', q⟩
 exact subscriptTail_builtinR (x := w) pl.typeIs slot_tuple_getitem.lookup
  (getItem_tuple (j := j) (Q := fun r s' => r = w ∧ EP X pins σ Q r s') pl (by omega) (by omega) (by rw [List.size_toArray, ← hl]; exact h1) (by simpa using ew) ⟨rfl, fin⟩) hs
theorem mapSeq_set (its : List Value) (n j : Nat) (u : Value) : Obj.mapSeq (·.setIfInBounds j u) { cls := .type "list", data := .seq its.toArray n } = { cls := .type "list", data := .seq (its.set j u).toArray n } := by
 simp [Obj.mapSeq]
theorem Inv.lst {pins : List (Addr × Obj)} {σ : St} {H : Hp} {s : Shared} {p : Addr} {xs : List V} (I : Inv X pins σ H s) (h : H p = some (.lst xs)) :
  ∃ (its : List Value) (n : Nat), Vals xs its ∧ s.heap.get? p = some { cls := .type "list", data := .seq its.toArray n } ∧ xs.length ≤ sizeLine := by
 obtain ⟨z, its, n, r, e⟩ := I.hok p _ h
 exact ⟨its, n, r, e, z⟩
theorem Inv.lstUpd {pins : List (Addr × Obj)} {σ : St} {H : Hp} {s : Shared} {p : Addr} {xs ys : List V} {its its' : List Value} {n n' : Nat} {f : Obj → Obj} (I : Inv X pins σ H s) (h : H p = some (.lst xs))
  (ho : s.heap.get? p = some { cls := .type "list", data := .seq its.toArray n }) (hf : f { cls := .type "list", data := .seq its.toArray n } = { cls := .type "list", data := .seq its'.toArray n' }) (r : Vals ys its') (hz : ys.length ≤ sizeLine) (t : Nat) :
  Inv X pins σ (upd H p (.lst ys)) { s with heap := s.heap.update p f, toks := t } := by
 have e : (s.heap.update p f).get? p = some { cls := .type "list", data := .seq its'.toArray n' } := by
  rw [Heap.get?_update_self f ho (by rw [hf] <;> rfl), hf]
 refine I.write (x := p) (e := p) (by rw [h]; trivial) (.inl rfl) (fun b u hb q => (Heap.get?_update_other _ _ (Ne.symm hb)).trans q) ⟨_, e⟩ ?_
 exact ⟨hz, its', n', r, e⟩
def rSetL : V → V → V → Hp → (Hp → Prop) → Prop := fun o i v H Q => ∃ p xs k j, o = .ref p ∧ i = .int k ∧ H p = some (.lst xs) ∧ ixN xs.length k = some j ∧ Q (upd H p (.lst (xs.set j v)))
theorem set_list : PSet X rSetL := by
 intro pins s σ H o i v ov iv u Q I ro ri rv h
 obtain ⟨p, xs, k, j, rfl, rfl, hp, hj, q⟩ := h
 cases ro
 obtain ⟨t, rfl⟩ := ri
 obtain ⟨its, n, r, ho, hz⟩ := I.lst hp
 obtain ⟨h1, h2, h3, h4⟩ := ixN_seq hj
 have hl := r.length
 have hn := line63
 have I' : Inv X pins σ (upd H p (.lst (xs.set j v))) { s with heap := s.heap.update p (Obj.mapSeq (·.setIfInBounds j u)) } :=
  I.lstUpd hp ho (mapSeq_set its n j u) (r.set rv j) (by rw [List.length_set]; exact hz) s.toks
 by_cases h0 : 0 ≤ k
 ·have hk : k.toNat = j := by
   rw [seqIndex_of h0 h4] at h1
   exact Option.some.inj h1
  exact PySem.W.ki_setAt ho h0 (by omega) (by rw [List.size_toArray, ← hl]; exact h4) (by rw [hk]; exact ⟨_, I', q⟩)
 ·have hk : (k + (its.toArray.size : Int)).toNat = j := by
   rw [seqIndex_neg (by omega) h3] at h1
   rw [List.size_toArray, ← hl]
   exact Option.some.inj h1
  exact PySem.W.ki_setBack ho (by omega) (by rw [List.size_toArray, ← hl]; exact h3) (by omega) (by rw [hk]; exact ⟨_, I', q⟩)
theorem slice_bounds (lo hi : Option Int) (n : Nat) : (sliceBounds lo hi none n).1 = ((HT.sIx n 0 lo : Nat) : Int) ∧ (sliceBounds lo hi none n).2.1 = ((HT.sIx n n hi : Nat) : Int) ∧ (sliceBounds lo hi none n).2.2 = 1 := by
 refine ⟨?_, ?_, rfl⟩
 ·cases lo with
  | none => simp [sliceBounds, HT.sIx]
  | some i =>
   simp only [sliceBounds, HT.sIx, Option.getD_none, show (1 : Int) > 0 by decide, if_true]
   by_cases h : i < 0
   ·simp only [h, if_true] <;> omega
   ·simp only [h, if_false] <;> omega
 ·cases hi with
  | none => simp [sliceBounds, HT.sIx]
  | some i =>
   simp only [sliceBounds, HT.sIx, Option.getD_none, show (1 : Int) > 0 by decide, if_true]
   by_cases h : i < 0
   ·simp only [h, if_true] <;> omega
   ·simp only [h, if_false] <;> omega
theorem slicePick_cut (its : List Value) (lo hi : Option Int) : slicePick its.toArray lo hi none = ((its.drop (HT.sIx its.length 0 lo)).take (HT.sIx its.length its.length hi - HT.sIx its.length 0 lo)).toArray := by
 obtain ⟨h1, h2, h3⟩ := slice_bounds lo hi its.toArray.size
 unfold slicePick
 rw [h1, h2, h3]
 simp only [sliceRange_one, pick_run, List.size_toArray] <;> rfl
def rSlL (K : PySem.W.Frag) : V → Option Int → Option Int → Hp → VK → Prop := fun x lo hi H Q => ∃ a xs, x = .ref a ∧ SqL K H a xs ∧ ∀ p, H p = none → Q (.ref p) (upd H p (.lst (cutV xs lo hi)))
theorem sl_list : SlR X (rSlL X.K) := by
 intro pins s σ H x v vl vu lo hi sl Q I rx hs pl pu h
 obtain ⟨a, xs, rfl, hx, q⟩ := h
 cases rx
 obtain ⟨its, r, ht, hz⟩ := I.list hx
 have hlen := r.length
 refine ⟨"list", _, slot_list_getitem.lookup, ht.isList.typeIs, ?_⟩
 refine wpAny_getItem_list_slice ht.isList hs pl pu .none (by simp) ?_ (by rw [List.size_toArray] <;> omega)
 rw [slicePick_cut, ← hlen]
 refine ⟨.ref s.heap.objs.size, _, I.laid (t' := s.toks) (o := .lst (cutV xs lo hi)) (fun b ob q => Heap.get?_push_of_some _ q) (Nat.le_refl _) ?_, rfl, q _ (I.hok.fresh (Nat.le_refl _))⟩
 exact ⟨Nat.le_trans (cutV_length xs lo hi) hz, _, 0, (r.drop (HT.sIx xs.length 0 lo)).take (HT.sIx xs.length xs.length hi - HT.sIx xs.length 0 lo), Heap.get?_push_size _ rfl⟩
theorem call_len_seq : CallR X (.builtin "len") (fun xs H Q => ∃ p ys, xs = [.ref p] ∧ (SqL X.K H p ys ∨ SqT X.K H p ys) ∧ Q (.int ys.length) H) := by
 intro pins s σ H xs us Q I r h
 obtain ⟨p, ys, rfl, hq, q⟩ := h
 obtain ⟨u, rfl, rx⟩ := vals1 r
 cases rx
 have hn := line63
 rcases hq with hq | hq
 ·obtain ⟨its, r', pl, hz⟩ := I.list hq
  have hlen := r'.length
  exact Calls.call_len_list pl.isList (by simp only [List.size_toArray] <;> omega) ⟨.int ys.length, H, I.tok _, ⟨s.toks + 1, by rw [List.size_toArray, hlen]⟩, q⟩
 ·obtain ⟨its, r', pl, hz⟩ := I.tuple hq
  have hlen := r'.length
  exact len_tuple pl (by simp only [List.size_toArray] <;> omega) ⟨.int ys.length, H, I.tok _, ⟨s.toks + 1, by rw [List.size_toArray, hlen]⟩, q⟩
theorem call_list_of : CallR X (.type "list") (fun xs H Q => ∃ p ys, xs = [.ref p] ∧ (SqL X.K H p ys ∨ SqT X.K H p ys) ∧ ∀ l, H l = none → Q (.ref l) (upd H l (.lst ys))) := by
 intro pins s σ H xs us Q I r h
 obtain ⟨p, ys, rfl, hq, q⟩ := h
 obtain ⟨u, rfl, rx⟩ := vals1 r
 cases rx
 have fin : ∀ (its : List Value), Vals ys its → ys.length ≤ sizeLine → ∀ (h' : Heap) (c' : Nat), (∀ b o', s.heap.get? b = some o' → h'.get? b = some o') →
   h'.get? s.heap.objs.size = some { cls := .type "list", dict := none, data := .seq its.toArray c', slots := #[] } → EP X pins σ Q (.ref s.heap.objs.size) { s with heap := h' } := fun its r' hz h' c' kp e =>
  ⟨.ref s.heap.objs.size, _, I.laid (t' := s.toks) kp (Nat.le_refl _) (show ObjOk X.prog X.w _ h' _ (.lst ys) from ⟨hz, its, c', r', e⟩), rfl, q _ (I.hok.fresh (Nat.le_refl _))⟩
 rcases hq with hq | hq
 ·obtain ⟨its, r', pl, hz⟩ := I.list hq
  have hlen := r'.length
  obtain ⟨o, ho, hc, n, hd⟩ := pl.isList
  exact call_list_seq p (.inl rfl) ho hc hd (fun h' c' kp e => fin its r' hz h' c' kp e) (by simp only [List.size_toArray] <;> omega)
 ·obtain ⟨its, r', pl, hz⟩ := I.tuple hq
  have hlen := r'.length
  obtain ⟨o, ho, hc, n, hd⟩ := pl
  exact call_list_seq p (.inr rfl) ho hc hd (fun h' c' kp e => fin its r' hz h' c' kp e) (by simp only [List.size_toArray] <;> omega)
theorem call_tuple_of : CallR X (.type "tuple") (fun xs H Q => ∃ p ys, xs = [.ref p] ∧ ((SqL X.K H p ys ∧ ∀ l, H l = none → Q (.ref l) (upd H l (.tup ys))) ∨ (SqT X.K H p ys ∧ Q (.ref p) H))) := by
 intro pins s σ H xs us Q I r h
 obtain ⟨p, ys, rfl, h⟩ := h
 obtain ⟨u, rfl, rx⟩ := vals1 r
 cases rx
 rcases h with ⟨hq, q⟩ | ⟨hq, q⟩
 ·obtain ⟨its, r', pl, hz⟩ := I.list hq
  have hlen := r'.length
  refine call_tuple_list pl.isList (fun h' kp => ?_) (by simp only [List.size_toArray] <;> omega)
  have I1 : Inv X pins σ H { s with heap := h' } := I.kept (t' := s.toks) kp
  have I2 : Inv X pins σ (upd H h'.objs.size (.tup ys)) { s with heap := h'.push { cls := .type "tuple", data := .seq its.toArray } } :=
   I1.laid (t' := s.toks) (fun b o e => Heap.get?_push_of_some _ e) (Nat.le_refl _) (show ObjOk X.prog X.w _ _ _ (.tup ys) from ⟨hz, its, r', IsTup.new _ _, _, Heap.get?_push_size _ rfl, rfl⟩)
  exact ⟨.ref h'.objs.size, _, I2, rfl, q _ (I1.hok.fresh (Nat.le_refl _))⟩
 ·obtain ⟨its, r', pl, hz⟩ := I.tuple hq
  exact call_tuple_same pl ⟨.ref p, H, I, rfl, q⟩
def tyV (K : PySem.W.Frag) (T : String) (x : V) (H : Hp) : Prop := match x with
 | .str _ => T = "str"
 | .int _ => T = "int"
 | .ref p => (T = "list" ∧ ∃ xs, SqL K H p xs) ∨ (T = "tuple" ∧ ∃ o, K.lookup p = some o ∧ o.cls = .type "tuple" ∧ o.dict = none) ∨
   (T = "dict" ∧ ((∃ kvs, H p = some (.dK kvs)) ∨ ∃ kvs, H p = some (.dT kvs))) ∨ (T = "set" ∧ ∃ S n, H p = some (.set S n))
 | _ => False
theorem tyV_is {pins : List (Addr × Obj)} {σ : St} {H : Hp} {s : Shared} {T : String} {x : V} {v : Value} (I : Inv X pins σ H s) (r : RelV x v) (ty : tyV X.K T x H) :
  s.TypeIs v T ∧ ∀ a, v = .ref a → ∃ ob, s.heap.get? a = some ob ∧ ob.dict = none := by
 cases x with
 | str z =>
  obtain ⟨t, rfl⟩ := r
  cases (show T = "str" from ty)
  exact ⟨typeIs_str s z t, fun _ e => nomatch e⟩
 | int i =>
  obtain ⟨t, rfl⟩ := r
  cases (show T = "int" from ty)
  exact ⟨typeIs_int s i t, fun _ e => nomatch e⟩
 | ref p =>
  cases r
  rcases ty with ⟨rfl, xs, hq⟩ | ⟨rfl, o, hk, hc, hd⟩ | ⟨rfl, hk⟩ | ⟨rfl, S, n, hk⟩
  ·obtain ⟨its, _, pl, _⟩ := I.list hq
   refine ⟨pl.isList.typeIs, fun a e => ?_⟩
   cases e
   obtain ⟨o, n, e, c, hd, _⟩ := pl
   exact ⟨o, e, hd⟩
  ·refine ⟨⟨o, I.kIn p o hk, hc⟩, fun a e => ?_⟩
   cases e
   exact ⟨o, I.kIn _ o hk, hd⟩
  ·have z : ∃ o, s.heap.get? p = some o ∧ o.ExactDict := by
    rcases hk with ⟨kvs, hk⟩ | ⟨kvs, hk⟩
    ·obtain ⟨_, _, _, _, o, _, _, e, ex, _⟩ := I.hok p _ hk
     exact ⟨o, e, ex⟩
    ·obtain ⟨_, _, _, _, o, _, _, e, ex, _⟩ := I.hok p _ hk
     exact ⟨o, e, ex⟩
   obtain ⟨o, e, ex⟩ := z
   refine ⟨⟨o, e, ex.1⟩, fun a e2 => ?_⟩
   cases e2
   exact ⟨o, e, ex.2.1⟩
  ·obtain ⟨o, _, _, _, e, ex, _⟩ := I.hok p _ hk
   refine ⟨⟨o, e, ex.1⟩, fun a e2 => ?_⟩
   cases e2
   exact ⟨o, e, ex.2.1⟩
 | _ => exact False.elim ty
def tBM (K : PySem.W.Frag) (T : String) (r : V → List V → Hp → VK → Prop) (to : TE) (t : TA) : TE := fun σ H Q => to σ H fun x H1 => tyV K T x H1 ∧ t σ H1 fun xs H2 => r x xs H2 Q
variable {o e : Expr} {es : List Expr} {to : TE} {t : TA} {name : Str} {apos cpos : Pos} {T id : String} {r : V → List V → Hp → VK → Prop}
theorem pe_bm (pa : PlainAttrs T) (slot : Slot T name id) (hty : typeOf (.builtin id) = pure (.type "method_descriptor")) (hm : MtR X id r) (ho : PE X o to) (ha : PA X (e :: es) t)
  (hbase : attributeBase o name X.env (eval o X.env) = eval o X.env := by rfl)
  (hfew : ((backTo cpos (starEach (e :: es) X.env)).all (fun x => !x.1) && (backToKw cpos (keywordEach [] X.env)).all (fun x => x.1.isSome)
   && decide ((e :: es).length + ([] : List Keyword).length + (if ([] : List Keyword).isEmpty then 0 else 1) < 30)) = true := by rfl)
  (hline : (apos.endLine == cpos.line) = true := by rfl) (hs : starEach (e :: es) X.env = (false, eval e X.env) :: starEach es X.env := by rfl) (hplain : (backTo cpos (starEach es X.env)).any (·.1) = false := by rfl) :
  PE X (.Call (.Attribute o name apos) (e :: es) [] cpos) (tBM X.K T r to t) := by
 intro pins s σ H Q I h
 refine wpAny_Call_method_late hbase hfew hline rfl (thn (ho pins s σ H _ I h) fun v s1 ⟨x, H1, I1, r1, ty, q1⟩ => ?_)
 obtain ⟨h1, h2⟩ := tyV_is I1 r1 ty
 refine ⟨T, id, pa, slot, hty, h1, h2, ?_⟩
 have hA := ha cpos pins s1 σ H1 _ I1 q1
 rw [hs] at hA ⊢
 refine Calls.callWith_builtin (by show (false || (backTo cpos (starEach es X.env)).any (·.1)) = false; rw [hplain] <;> rfl) (Calls.evalArgs_plain ?_)
 exact thn hA fun us s2 ⟨vs, H2, I2, r2, q2⟩ => hm pins s2 σ H2 x vs v us Q I2 r1 r2 q2
end
end L2
namespace L2
open PySem PySem.Spec PyProof.Rows
def MtM (X : Cx) (id : String) (r : V → List V → Hp → VK → Prop) : Prop :=
 ∀ (pins : List (Addr × Obj)) (s : Shared) (σ : St) (H : Hp) (x : V) (xs : List V) (v : Value) (us : List Value) (Q : VK), Inv X pins σ H s → RelV x v → Vals xs us → r x xs H Q →
  wpAny (model X.prog X.w) X.A (call (.builtin id) (v :: us)) (EP X pins σ Q) X.xe s
theorem Vals.one : ∀ {x : V} {us : List Value}, Vals [x] us → ∃ u, us = [u] ∧ RelV x u
 | _, _, .cons r .nil => ⟨_, rfl, r⟩
theorem Vals.rep {xs : List V} {us : List Value} (h : Vals xs us) : ∀ k : Nat, Vals (List.replicate k xs).flatten (List.replicate k us).flatten
 | 0 => .nil
 | k + 1 => by
  rw [List.replicate_succ, List.replicate_succ, List.flatten_cons, List.flatten_cons]
  exact Vals.append h (Vals.rep h k)
theorem foldl_rep (its : List Value) : ∀ (k : Nat) (acc : List Value),
  List.foldl (fun x1 x2 => x1 ++ x2) acc.toArray (List.replicate k its.toArray) = (acc ++ (List.replicate k its).flatten).toArray
 | 0, acc => by simp
 | k + 1, acc => by
  have e : acc.toArray ++ its.toArray = (acc ++ its).toArray := by simp
  have e2 : (acc ++ its) ++ (List.replicate k its).flatten = acc ++ (List.replicate (k + 1) its).flatten := by
   rw [List.replicate_succ, List.flatten_cons, List.append_assoc]
  rw [← e2, ← foldl_rep its k (acc ++ its), ← e, List.replicate_succ, List.foldl_cons]
section
variable {X : Cx} {pins : List (Addr × Obj)} {σ : St} {H : Hp} {s : Shared} {l b : Addr} {xs ys zs : List V}
theorem Inv.lset {its its' : List Value} {n : Nat} {f : Array Value → Array Value} {t' : Nat} (I : Inv X pins σ H s) (hH : H l = some (.lst xs))
  (e : s.heap.get? l = some { cls := .type "list", data := .seq its.toArray n }) (hf : f its.toArray = its'.toArray) (hv : Vals ys its') (hz : ys.length ≤ sizeLine) :
  Inv X pins σ (upd H l (.lst ys)) { s with heap := s.heap.update l (Obj.mapSeq f), toks := t' } := by
 have q := PySem.IsL.update e f
 rw [hf] at q
 refine I.write (x := l) (e := l) (by rw [hH]; exact trivial) (.inl rfl) (fun b' u hb hu => (Heap.get?_update_other s.heap (Obj.mapSeq f) (Ne.symm hb)).trans hu) ⟨_, q⟩ ?_
 exact ⟨hz, its', _, hv, q⟩
theorem Inv.lnew {its : List Value} {t' : Nat} (I : Inv X pins σ H s) (hv : Vals ys its) (hz : ys.length ≤ sizeLine) :
  Inv X pins σ (upd H s.heap.objs.size (.lst ys)) { s with heap := s.heap.push { cls := .type "list", data := .seq its.toArray }, toks := t' } :=
 I.laid (fun _ _ q => Heap.get?_push_of_some _ q) (Nat.le_refl _) ⟨hz, its, 0, hv, Heap.get?_push_size _ rfl⟩
theorem Inv.fresh (I : Inv X pins σ H s) : H s.heap.objs.size = none := I.hok.fresh (Nat.le_refl _)
theorem Inv.lstM (I : Inv X pins σ H s) (hH : H l = some (.lst xs)) : xs.length ≤ sizeLine ∧ ∃ (its : List Value) (n : Nat), Vals xs its ∧ xs.length = its.length ∧ s.heap.get? l = some { cls := .type "list", data := .seq its.toArray n } := by
 obtain ⟨z, its, n, r, e⟩ := I.hok l _ hH
 exact ⟨z, its, n, r, r.length, e⟩
theorem notLongL {n : Nat} (h : n ≤ sizeLine) : Builtin.List.listTooLong n = false := by
 unfold Builtin.List.listTooLong
 exact decide_eq_false (by omega)
end
section
variable {X : Cx}
def rAppend : V → List V → Hp → VK → Prop := fun x vs H Q => ∃ l xs y, x = .ref l ∧ vs = [y] ∧ H l = some (.lst xs) ∧ xs.length < sizeLine ∧ Q .non (upd H l (.lst (xs ++ [y])))
theorem mt_append : MtM X "list.append" rAppend := by
 intro pins s σ H x vs v us Q I rx rv h
 obtain ⟨l, xs, y, rfl, rfl, hH, hz, q⟩ := h
 cases rx
 obtain ⟨u, rfl, ru⟩ := rv.one
 obtain ⟨z, its, n, r, hl, e⟩ := I.lstM hH
 refine call_meets F.slot_list_append ⟨_, e, rfl⟩ F.entry_list_append (F.args_list_append_2 _ _) (PySem.list_append l its.toArray n u (by rw [List.size_toArray]; omega)) ⟨e, ?_⟩
 refine ⟨.non, _, I.lset (its' := its ++ [u]) hH e (by simp) (r.append (.cons ru .nil)) ?_, rfl, q⟩
 rw [List.length_append, List.length_singleton]
 omega
def rCat : R2 := fun x y H Q => ∃ l b xs zs, x = .ref l ∧ y = .ref b ∧ H l = some (.lst xs) ∧ H b = some (.lst zs) ∧ xs.length + zs.length ≤ sizeLine ∧ ∀ p, H p = none → Q (.ref p) (upd H p (.lst (xs ++ zs)))
theorem op_cat : OpR X (binaryOp .Add) rCat := by
 intro pins s σ H x y v u Q I rx ry h
 obtain ⟨l, b, xs, zs, rfl, rfl, hH, hB, hz, q⟩ := h
 cases rx
 cases ry
 obtain ⟨z, its, n, r, hl, e⟩ := I.lstM hH
 obtain ⟨z2, its2, n2, r2, hl2, e2⟩ := I.lstM hB
 refine PySem.P.add_list e e2 ?_ (by rw [List.size_toArray, List.size_toArray]; omega)
 have ea : its.toArray ++ its2.toArray = (its ++ its2).toArray := by simp
 rw [ea]
 exact ⟨.ref _, _, I.lnew (t' := s.toks) (r.append r2) (by rw [List.length_append]; omega), rfl, q _ I.fresh⟩
def rRep : R2 := fun x y H Q => ∃ l k xs, x = .ref l ∧ y = .int k ∧ H l = some (.lst xs) ∧ -(2 ^ 63) ≤ k ∧ k < 2 ^ 63 ∧ xs.length * k.toNat ≤ sizeLine ∧
 ∀ p, H p = none → Q (.ref p) (upd H p (.lst (List.replicate k.toNat xs).flatten))
theorem len_rep {α : Type} (xs : List α) (k : Nat) : (List.replicate k xs).flatten.length = k * xs.length := by
 induction k with
 | zero => simp
 | succ k ih => rw [List.replicate_succ, List.flatten_cons, List.length_append, ih, Nat.succ_mul, Nat.add_comm]
theorem op_rep : OpR X (binaryOp .Mult) rRep := by
 intro pins s σ H x y v u Q I rx ry h
 obtain ⟨l, k, xs, rfl, rfl, hH, h1, h2, hz, q⟩ := h
 cases rx
 obtain ⟨t, rfl⟩ := ry
 obtain ⟨z, its, n, r, hl, e⟩ := I.lstM hH
 have hlen : its.toArray.size * k.toNat ≤ sizeLine := by rw [List.size_toArray, ← hl]; exact hz
 have hcap : ¬ its.toArray.size * k.toNat > (2 ^ 63 - 1) / 8 := by
  have : (sizeLine : Nat) ≤ (2 ^ 63 - 1) / 8 := by decide
  omega
 have hfit : ¬ (!Builtin.List.listFitsIndex k) = true := by
  rw [fitsIndex_both h1 h2]
  exact Bool.false_ne_true
 have hlong : ¬ Builtin.List.listTooLong (its.toArray.size * k.toNat) = true := by
  rw [notLongL hlen]
  exact Bool.false_ne_true
 have hnew : List.foldl (fun x1 x2 => x1 ++ x2) #[] (List.replicate (if its.toArray.isEmpty = true then 0 else k.toNat) its.toArray) = (List.replicate k.toNat its).flatten.toArray := by
  have f0 : ∀ m : Nat, List.foldl (fun x1 x2 => x1 ++ x2) #[] (List.replicate m its.toArray) = (List.replicate m its).flatten.toArray := fun m => by
   have := foldl_rep its m []
   rw [List.nil_append] at this
   exact this
  rw [f0]
  cases its with
  | nil => simp
  | cons a r' => rw [if_neg (by simp)]
 refine wpAny_binaryOp_repeat_ref (T := "list") (U := "int") (by decide) ⟨_, e, rfl⟩ (fun s' => typeIs_int s' k t) noFill_list_mul F.fills_int_mul F.slot_int_rmul repeat_list F.slot_int_index.lookup
  (call_meets F.slot_int_rmul (typeIs_int s k t) F.entry_int_rmul (F.args_int_rmul_2 _ _) (int___rmul___int_list k t l its.toArray n)
   ⟨e, rfl, ⟨_, e, rfl⟩, call_meets F.slot_list_mul ⟨_, e, rfl⟩ F.entry_list_mul (F.args_list_mul_2 _ _) (AutoListH.list___mul___list_int_3 l its.toArray n k t hfit hcap hlong) ⟨e, ?_⟩⟩)
 rw [hnew]
 exact ⟨.ref _, _, I.lnew (t' := s.toks) (r.rep k.toNat) (by rw [len_rep, Nat.mul_comm]; exact hz), rfl, q _ I.fresh⟩
end
section
variable {prog : Program} {w : World} {A : Around} {E : Value → Shared → Prop} {s : Shared}
set_option maxRecDepth 100000 in
end
end L2
namespace Att
open PySem PySem.W PySem.Calls PyProof.Rows
theorem ints_of_wellAll {P : Params} {h : Heap} : ∀ (ns : List Int) (vs : List Value), WellAll P h vs (ns.map WData.int) → IntsAre vs ns := by
 intro ns
 induction ns with
 | nil =>
  intro vs w
  rw [List.map_nil] at w
  cases w
  exact .nil
 | cons n ns ih =>
  intro vs w
  rw [List.map_cons] at w
  cases w with
  | cons a b =>
   cases a
   exact .cons _ _ (ih _ b)
theorem script_of {l : OpenLaw} {n : Nat} (hn : l.most = some n) {P : Params} {h : Heap} {args : List WData} {vals : List Value}
  (hpre : l.row.toRowW.claim.pre args = true) (hwl : WellAll P h vals args) :
  ∃ a vs ns, vals = [Value.ref a] ∧ args = [WData.list (ns.map WData.int)] ∧ h.get? a = some { cls := .type "list", data := .seq vs.toArray } ∧ IntsAre vs ns ∧ ns.length ≤ n := by
 have hsh : WShape.hasAll [] args [.list .int] = true := (pre_splitW hpre).1
 have hc : l.pre.holds [] { args := args } = true := (pre_splitW hpre).2
 obtain ⟨d, r, rfl, h1, h2⟩ := hasAllW_cons hsh
 obtain rfl := hasAllW_nil h2
 obtain ⟨xs, rfl, h3⟩ := hasW_list h1
 obtain ⟨ns, rfl⟩ := items_int h3
 have hlen : ns.length ≤ n := by
  unfold OpenLaw.pre at hc
  have h4 : (WTm.not (.lt (.lit (.int (n : Int))) (.len (.arg 0)))).holds [] { args := [.list (ns.map .int)] } = true := by
   have h4 := (holds_andW hc).1
   rw [hn] at h4
   exact h4
  have h5 := condW_of h4 (w_not (w_lt w_lit (w_len_list (w_arg rfl))))
  rw [List.length_map] at h5
  refine Nat.le_of_not_lt fun q => ?_
  have q' : (n : Int) < ((ns.length : Nat) : Int) := by omega
  first
   | (rw [decide_eq_true q'] at h5; exact absurd h5 (by decide))
   | (simp at h5; omega)
 cases hwl with
 | cons w1 w2 =>
  cases w2
  cases w1 with
  | list ho hall => exact ⟨_, _, ns, rfl, rfl, ho, ints_of_wellAll ns _ hall, hlen⟩
theorem post_true (l : OpenLaw) (args : List WData) : l.row.toRowW.claim.post args (.bool true) args = true :=
 postW_of (r := l.row.toRowW) (X := (true == true))
  (show WShape.has [] (.bool true) .bool = true by first | rfl | decide | simp [WShape.has, WShape.arms, WShape.armsAll])
  (show (WTm.eq .res (.lit (.bool true))).value [] { args := args, res := some (.bool true), after := args } = some (.bool (true == true)) from w_eq_bool (w_res rfl) w_lit) rfl
theorem attach_call {l : OpenLaw} {n : Nat} {q : Program} {loose : List Str} {XP : (Str → Option Value) → Heap → Prop} {YP : World → Heap → Prop} {d : DefRec}
  (hn : l.most = some n) (hdf : d.params.defaults = [])
  (call : ∀ (w : World) (s₀ s₁ : Shared) (mg mb : Str → Option Value) (fa : Addr) (o : Obj) (pm cd doc : Value) (a : Addr) (vs : List Value) (ns : List Int),
   Ground q loose [] XP w s₀ mg mb s₁.heap → YP w s₁.heap →
   s₁.heap.get? fa = some o → o.data = .func (docDef d.name d.params d.body d.scope pm cd doc) → s₁.heap.CodeRec cd d.name → mg d.name = some (.ref fa) →
   s₁.heap.get? a = some { cls := .type "list", data := .seq vs.toArray } → IntsAre vs ns → ns.length ≤ n → s₁.gens = #[] →
   codeAny (model l.prog w) callerA (.call (.ref fa) ⟨[.ref a], []⟩) (fun r s' => r = .ok (.ret (.bool true)) ∧ OldK s₁.heap s'.heap ∧ s'.os = s₁.os ∧ AllBare s'.gens) s₁) :
  WalkO q loose XP YP l.row.toRowW d [] (fun f vs => PySem.call f vs) := by
 intro w s₀ s₁ mg mb G Y fa o pm cd doc dV kV ho hd hcd hD hmg hg args vals as hpre hlay hrd hwl hlo
 obtain rfl : dV = .none := Dflts.none hD hdf
 obtain rfl : kV = .none := Dflts.noKw hD
 obtain ⟨a, vs, ns, rfl, rfl, hobj, hints, hlen⟩ := script_of hn hpre hwl
 refine enter_call (codeAny_mono (call w s₀ s₁ mg mb fa o pm cd doc a vs ns G Y ho (fd_plain hd) hcd hmg hobj hints hlen hg) fun r s' hq => ?_)
 obtain ⟨rfl, h2, h3, h4⟩ := hq
 exact ⟨.inl ⟨.bool true, .bool true, [], rfl, fun _ => rfl, .bool true, post_true l _, fun _ => ⟨List.Pairwise.nil, fun _ hm => (nomatch hm)⟩⟩, h2, h3, h4⟩
end Att
namespace L2
open PySem PySem.Spec PyProof.Rows
theorem vals_ints : ∀ {vs : List Value} {ns : List Int}, IntsAre vs ns → Vals (ns.map V.int) vs
 | _, _, .nil => .nil
 | _, _, .cons n t h => .cons ⟨t, rfl⟩ (vals_ints h)
def Only (H : Hp) : Prop := ∀ b, H b = none ∨ ∃ o xs, H b = some (.frz o (.lst xs))
theorem law_call {P : Program} {w : World} {K : PySem.W.Frag} {mg mb : Str → Option Value} {CX : CXT} {k : Nat} {fa a : Addr} {fd : FuncData} {x : Str} {sp : Sp} {s₁ : Shared} {vs : List Value} {ns : List Int}
  (KX : K.In s₁.heap) (hns : s₁.heap.Ns mainGlobals mg) (hb : s₁.heap.Ns builtinsNs mb) (hbb : ∀ x : Str, x ≠ "__name__" → mb x = bootBuiltins x) (hlim : s₁.heap.NoLimit) (hg : s₁.gens = #[])
  (ha : s₁.heap.get? a = some { cls := .type "list", data := .seq vs.toArray }) (hi : IntsAre vs ns) (hl : ns.length ≤ sizeLine) (hr : Room k callerA)
  (F : ∀ base : Heap, K.In base → base.Ns mainGlobals mg → FnOk P w K mg base CX k fa fd [x] sp) (hbind : ∀ (s : Shared) (u : Value), BindsTo s fd ⟨[u], []⟩ [(x, u)])
  (hsp : ∀ H : Hp, Only H → SqL K H a (ns.map V.int) → sp [.ref a] H (fun v _ => v = .bl true) fun _ _ _ => False)
  (hCX : ∀ H e s', CX [] H s₁ (fun _ _ _ => False) e s' → False) :
  codeAny (model P w) callerA (.call (.ref fa) ⟨[.ref a], []⟩) (fun r s' => r = .ok (.ret (.bool true)) ∧ OldK s₁.heap s'.heap ∧ s'.os = s₁.os ∧ AllBare s'.gens) s₁ := by
 have rv := vals_ints hi
 have lenV := hi.length
 have core : ∀ H : Hp, Only H → SqL K H a (ns.map V.int) → HOk P w H s₁.heap → (∀ b, H b ≠ none → b = a) → (H a ≠ none → K.lookup a = none) →
   codeAny (model P w) callerA (.call (.ref fa) ⟨[.ref a], []⟩) (fun r s' => r = .ok (.ret (.bool true)) ∧ OldK s₁.heap s'.heap ∧ s'.os = s₁.os ∧ AllBare s'.gens) s₁ := by
  intro H hO hS hok hA hK
  have base_of : ∀ {b : Addr} {o : Obj}, s₁.heap.get? b = some o → H b = none → (hidT s₁.heap H).get? b = some o := fun e n => hidT_get e n
  have noA : ∀ {b : Addr} {o : Obj} {es : Array DictEntry} {ep : Nat}, s₁.heap.get? b = some o → o.data = .dict es ep → H b = none := fun {b o es ep} e d => by
   cases q : H b with
   | none => rfl
   | some u =>
    have e' : b = a := hA b (by rw [q]; simp)
    subst e'
    rw [ha] at e; cases e
    have d' : Data.seq vs.toArray _ = Data.dict es ep := d
    cases d'
  have nsK : ∀ {b : Addr} {m : Str → Option Value}, s₁.heap.Ns b m → (hidT s₁.heap H).Ns b m := fun {b m} ⟨o, es, ep, e, d, r⟩ => ⟨o, es, ep, base_of e (noA e d), d, r⟩
  have hKb : K.In (hidT s₁.heap H) := fun b o e => base_of (KX b o e) (by
   cases q : H b with
   | none => rfl
   | some u =>
    have e' : b = a := hA b (by rw [q]; simp)
    subst e'
    rw [hK (by rw [q]; simp)] at e; cases e)
  have hM : Mod K mg (hidT s₁.heap H) := ⟨hKb, nsK hns, ⟨mb, nsK hb, hbb⟩, let ⟨mc, h1, h2⟩ := hlim; ⟨mc, nsK h1, h2⟩⟩
  have e0 : Env0 P w K mg (hidT s₁.heap H) callerA [] s₁ H := ⟨rfl, hM, fun b o e => of_hidT e, Nat.le_of_eq (hidT_size _ _), trivial, fun b hb => absurd (show b ∈ ([] : List Addr) from hb) (by simp), hok, .of_eq hg⟩
  refine codeAny_mono ((F _ hKb (nsK hns)).run callerA [] s₁ H ⟨[.ref a], []⟩ [.ref a] [.ref a] _ _ hr e0 (hbind s₁ (.ref a)) (.cons rfl .nil) (hsp H hO hS)) fun r s' h => ?_
  cases r with
  | error e => exact (hCX H e s' h).elim
  | ok fl =>
   cases fl with
   | next => exact False.elim h
   | brk => exact False.elim h
   | cont => exact False.elim h
   | ret u =>
    obtain ⟨v, H', os, bare, un, hok', r', q⟩ := h
    have q' : v = .bl true := q
    subst q'
    obtain rfl : u = Value.bool true := r'
    refine ⟨rfl, OldK.of_keep fun b o e => ?_, os, bare⟩
    cases q : H b with
    | none => exact un.keep b o e q (by intro z; exact absurd (show b ∈ ([] : List Addr) from z) (by simp)) (by simp)
    | some u =>
     rcases hO b with z | ⟨ob, xs, z⟩
     ·rw [q] at z; cases z
     ·have z2 := un.frzs b ob _ z
      obtain ⟨e1, _⟩ := hok b _ z
      obtain ⟨e2, _⟩ := hok' b _ z2
      rw [e] at e1; cases e1
      exact e2
 cases hk : K.lookup a with
 | some o =>
  have e := KX a o hk
  rw [ha] at e
  cases e
  refine core (fun _ => none) (fun _ => .inl rfl) (.inr ⟨_, vs.toArray, _, hk, rfl, rfl, rfl, by rw [List.size_toArray, lenV]; exact hl, by simpa using rv⟩) (fun b u z => by have z' : (none : Option HO) = some u := z; cases z') (fun b z => absurd rfl z) fun z => absurd rfl z
 | none =>
  refine core (fun b => if b = a then some (.frz { cls := .type "list", data := .seq vs.toArray } (.lst (ns.map V.int))) else none) (fun b => ?_) (.inl (.inr ⟨{ cls := .type "list", data := .seq vs.toArray }, if_pos rfl⟩)) (fun b u z => ?_) (fun b z => ?_) fun _ => hk
  ·by_cases hb : b = a
   ·exact .inr ⟨_, _, if_pos hb⟩
   ·exact .inl (if_neg hb)
  ·by_cases hb : b = a
   ·have z' := (if_pos hb).symm.trans z
    cases z'
    subst hb
    exact ⟨ha, by rw [List.length_map]; exact hl, vs, _, rv, ha⟩
   ·have z' := (if_neg hb).symm.trans z
    cases z'
  ·by_cases hb : b = a
   ·exact hb
   ·exact absurd (if_neg hb) z
end L2
namespace L2
open PySem PySem.Spec PyProof.Rows
theorem walk_of {l : PySem.W.OpenLaw} {n k : Nat} {q : Program} {loose : List Str} {XP : (Str → Option Value) → Heap → Prop} {YP : World → Heap → Prop} {d : DefRec} {K : Params → PySem.W.Frag} {CX : World → CXT} {sp : World → Sp} {x : Str}
  (hn : l.most = some n) (hn2 : n ≤ sizeLine) (hdf : d.params.defaults = []) (hr : Room k callerA)
  (hY : ∀ (w : World) (h : Heap), YP w h → (K w.params).In h)
  (F : ∀ (w : World) (mg : Str → Option Value) (fa : Addr) (h : Heap), (K w.params).In h → h.Ns mainGlobals mg → mg d.name = some (.ref fa) →
   ∃ fd : FuncData, (∀ (s : Shared) (u : Value), BindsTo s fd ⟨[u], []⟩ [(x, u)]) ∧
    ∀ base : Heap, (K w.params).In base → base.Ns mainGlobals mg → FnOk l.prog w (K w.params) mg base (CX w) k fa fd [x] (sp w))
  (hsp : ∀ (w : World) (H : Hp) (a : Addr) (ns : List Int), ns.length ≤ n → Only H → SqL (K w.params) H a (ns.map V.int) → sp w [.ref a] H (fun v _ => v = .bl true) fun _ _ _ => False)
  (hCX : ∀ (w : World) (H : Hp) (s : Shared) (e : Value) (s' : Shared), CX w [] H s (fun _ _ _ => False) e s' → False) :
  PySem.W.WalkO q loose XP YP l.row.toRowW d [] (fun f vs => PySem.call f vs) := by
 refine Att.attach_call hn hdf fun w s₀ s₁ mg mb fa o pm cd doc a vs ns G Y ho hd hcd hmg hobj hints hlen hg => ?_
 have KX := hY w _ Y
 obtain ⟨fd, hb, hF⟩ := F w mg fa _ KX G.T.g hmg
 exact law_call KX G.T.g G.T.b G.T.builtins G.T.nolimit hg hobj hints (Nat.le_trans hlen hn2) hr hF hb (fun H hO hS => hsp w H a ns hlen hO hS) fun H e s' => hCX w H s₁ e s'
end L2
namespace L2
open PySem PySem.Spec PyProof.Rows
def defArgs (s : Stmt) : Arguments := match s with
 | .FunctionDef _ a _ _ _ _ _ _ _ _ => a
 | _ => { posonlyargs := [], args := [], vararg := none, kwonlyargs := [], kw_defaults := [], kwarg := none, defaults := [] }
def defBody (s : Stmt) : List Stmt := match s with
 | .FunctionDef _ _ b _ _ _ _ _ _ _ => b
 | _ => []
def defScope (s : Stmt) : Scope := match s with
 | .FunctionDef _ _ _ _ _ _ sc _ _ _ => sc
 | _ => { kind := .function, names := [], isGenerator := false, isCoroutine := false }
abbrev CX0 : CXT := fun _ _ _ _ _ _ => False
abbrev E0 : XK := fun _ _ _ => False
theorem pass0 {X : Cx} : Passes CX0 X E0 := fun _ _ _ _ _ _ _ h => h.elim
structure Fun (K : PySem.W.Frag) (x qual : Str) (st : Stmt) (f : Addr) (fd : FuncData) : Prop where
 ex : ∃ (oc : Value) (od : Option Addr) (kV doc pm : Value) (an : Option Addr) (cdv ct : Value) (osl : Array (Option Value)),
  fd = PySem.W.fnOf x qual (defArgs st) (defBody st) (defScope st) .none kV doc pm an cdv ct ∧ K.lookup f = some ⟨oc, od, .func fd, osl⟩ ∧ PySem.W.codeIn K cdv qual = true
 kp : PySem.W.keepIn K (.ref f) = true
section
variable {P : Program} {w : World} {K : PySem.W.Frag} {mg : Str → Option Value} {base : Heap}
theorem Fun.ok {x qual : Str} {st : Stmt} {f : Addr} {fd : FuncData} {N ps : List Str} {k : Nat} {sp : Sp} (F : Fun K x qual st f fd) (S : FnScope N ps (defScope st)) (len : ∀ vs H Q E, sp vs H Q E → vs.length = ps.length)
  (hbody : ∀ (cdv : Value) (A : Around) (outer : List Env) (s : Shared) (H : Hp) (vs : List V) (Q : VK) (E : XK), Room k (A.deeper (envOfC qual (defScope st) s.heap.objs.size f cdv)) → sp vs H Q E →
   ∃ t, PSs (cxOf CX0 P w K mg base N qual (defScope st) f cdv A outer s H E).nox (defBody st) t ∧ t { nx := fun _ H' => Q .non H', rt := Q } (start N vs) H) : FnOk P w K mg base CX0 (k + 1) f fd ps sp := by
 obtain ⟨oc, od, kV, doc, pm, an, cdv, ct, osl, rfl, lk, hcd⟩ := F.ex
 refine fn_of lk hcd S len fun A outer s H vs Q E hr hsp => ?_
 obtain ⟨t, h, q⟩ := hbody cdv A outer s H vs Q E hr hsp
 exact ⟨t, h.nox, q⟩
theorem Fun.binds {x qual : Str} {st : Stmt} {f : Addr} {fd : FuncData} {ps : List Str} (F : Fun K x qual st f fd)
  (h : ∀ (kV doc pm : Value) (an : Option Addr) (cdv ct : Value) (us : List Value), us.length = ps.length → bindArgs (PySem.W.fnOf x qual (defArgs st) (defBody st) (defScope st) .none kV doc pm an cdv ct) ⟨us, []⟩ = pure (ps.zip us)) : Binds K fd ps [] := by
 obtain ⟨oc, od, kV, doc, pm, an, cdv, ct, osl, rfl, lk, hcd⟩ := F.ex
 exact .all (h kV doc pm an cdv ct)
theorem fun_mk {x qual : Str} {st : Stmt} {f : Addr} {oc : Value} {od an : Option Addr} {osl : Array (Option Value)} {kV doc pm cdv ct : Value} (l : K.lookup f = some ⟨oc, od, .func (PySem.W.fnOf x qual (defArgs st) (defBody st) (defScope st) .none kV doc pm an cdv ct), osl⟩)
  (c : PySem.W.codeIn K cdv qual = true) (k : PySem.W.keepIn K (.ref f) = true) : Fun K x qual st f (PySem.W.fnOf x qual (defArgs st) (defBody st) (defScope st) .none kV doc pm an cdv ct) := ⟨⟨oc, od, kV, doc, pm, an, cdv, ct, osl, rfl, l, c⟩, k⟩
end
section
variable {X : Cx}
theorem pv (i : Nat) {x : Str} {pos : Pos} (hN : X.N[i]? = some x := by rfl) (hv : Vis X.env.scope x := by first | exact Or.inl rfl | exact Or.inr (Or.inl rfl) | exact Or.inr (Or.inr rfl)) (hd : (x == ("__debug__" : Str)) = false := by decide)
  (hcd : (x == ("__classdict__" : Str)) = false := by decide) : PE X (.Name x pos) (tVar i) := pe_var hN hv hd hcd
end
def Same (H H' : Hp) : Prop := ∀ b o, H b = some o → H' b = some o
theorem Same.refl (H : Hp) : Same H H := fun _ _ h => h
theorem Same.trans {H H1 H2 : Hp} (a : Same H H1) (b : Same H1 H2) : Same H H2 := fun c o h => b c o (a c o h)
theorem Same.free {H H' : Hp} (e : Same H H') {l : Addr} (h : H' l = Option.none) : H l = Option.none := by
 cases q : H l with
 | none => rfl
 | some o =>
  rw [e l o q] at h
  cases h
theorem Same.seq {K : PySem.W.Frag} {H H' : Hp} {a : Addr} {xs : List V} (e : Same H H') (h : SqL K H a xs) : SqL K H' a xs := by
 rcases h with (h | ⟨o, h⟩) | h
 ·exact .inl (.inl (e _ _ h))
 ·exact .inl (.inr ⟨o, e _ _ h⟩)
 ·exact .inr h
end L2
namespace L2
open PySem PySem.Spec PyProof.Rows
section
variable {X : Cx}
def CMulW (i j : Int) : Prop := i.natAbs < 2 ^ 4000 ∧ j.natAbs < 2 ^ 4000
theorem CMulW.ok {i j : Int} (h : CMulW i j) : IntMulOk i j :=
 IntMulOk.of_le (m := 4000) (n := 4000) (intBits_le_iff.mpr h.1) (intBits_le_iff.mpr h.2) (by decide)
theorem op_mulW : OpR X (binaryOp .Mult) (rI CMulW fun i j => .int (i * j)) := opI fun _ _ _ _ _ _ _ hc q => mul_int q hc.ok
def CDivW (i j : Int) : Prop := j ≠ 0 ∧ j.natAbs < 2 ^ 4000
theorem noPy {i j : Int} (h : CDivW i j) : Builtin.divisionGoesByPylong i j = false := by
 refine PyProof.noPylong_of_log2 ?_
 have h0 : j.natAbs ≠ 0 := by have := h.1; omega
 have := (Nat.log2_lt h0).mpr h.2
 omega
def CDivP (i j : Int) : Prop := 0 < j ∧ j.natAbs < 2 ^ 4000
theorem op_fdivP : OpR X (binaryOp .FloorDiv) (rI CDivP fun i j => .int (i / j)) := opI fun i j _ _ _ _ _ hc q => by
 refine floordiv_int (by have := hc.1; omega) ?_ (.inl (noPy ⟨by have := hc.1; omega, hc.2⟩))
 rw [Int.fdiv_eq_ediv_of_nonneg i (by have := hc.1; omega)]
 exact q
theorem call_sum (hc : X.calm = true) : CallR X (.builtin "sum") (fun xs H Q => ∃ (p : Addr) (ns : List Int), xs = [.ref p] ∧ SqL X.K H p (ns.map V.int) ∧ Q (.int ns.sum) H) := by
 intro pins s σ H xs us Q I r h
 obtain ⟨p, ns, rfl, hq, q⟩ := h
 obtain ⟨u, rfl, r1⟩ := vals1 r
 cases r1
 obtain ⟨its, rv, pl, hz⟩ := I.list hq
 have hi : IntsAre its ns := intsAre_of rv
 have hl : s.heap.IsList p its.toArray := by
  obtain ⟨o, n, e, c, _, d⟩ := pl
  exact ⟨o, e, c, n, d⟩
 obtain ⟨xs, hx⟩ := hi.allInts.items
 have hl' : s.heap.IsList p (intItems xs) := hx ▸ hl
 refine sum_intListG (I.ok.hd hc) hl' fun h' tk t' hk => ?_
 have e1 : ns = xs.toList.map (·.1) := by
  rw [← nums_intItems, ← hx]
  exact (show numsOf its.toArray.toList = ns from hi.numsOf).symm
 have e2 : preSum (numAt xs) xs.size = ns.sum := by
  rw [preSum_eq, List.take_of_length_le (by simp), e1]
 rw [e2]
 exact ⟨.int ns.sum, H, I.kept hk, ⟨_, rfl⟩, q⟩
theorem plainIs {h : Heap} {p : Addr} {its : Array Value} (pl : PlainL h p its) : h.IsList p its := by
 obtain ⟨o, n, e, c, _, d⟩ := pl
 exact ⟨o, e, c, n, d⟩
end
end L2
namespace L2
open PySem PySem.Spec PyProof.Rows
def clOf (env : Env) : List (Str × NameKind) → List (Str × Addr) → List (Str × Addr)
 | [], acc => acc
 | (n, k) :: r, acc => clOf env r (if (k == NameKind.free) = true then (n, (env.cells.lookup n).getD 0) :: acc else acc)
theorem closure_eq {env : Env} : ∀ (names : List (Str × NameKind)) (acc : List (Str × Addr)), (∀ p ∈ names, p.2 = .free → ∃ c, env.cells.lookup p.1 = some c) →
  (forIn names acc fun (x : Str × NameKind) (cs : List (Str × Addr)) => (match x with
   | (name, kind) => if (kind == NameKind.free) = true then (do let __do_lift ← cellOf env name; pure (ForInStep.yield ((name, __do_lift) :: cs))) else pure (ForInStep.yield cs) : Sem (ForInStep (List (Str × Addr))))) = pure (clOf env names acc) := by
 intro names
 induction names with
 | nil => intro acc _; rfl
 | cons p r ih =>
  intro acc h
  obtain ⟨n, k⟩ := p
  rw [List.forIn_cons]
  have hr := fun acc => ih acc fun q hq => h q (List.mem_cons_of_mem _ hq)
  by_cases hk : k = .free
  ·subst hk
   obtain ⟨c, hc⟩ := h (n, .free) List.mem_cons_self rfl
   have e : cellOf env n = pure c := by unfold cellOf; rw [hc]
   simp only [beq_self_eq_true, if_true, e, pure_bind]
   rw [hr]
   simp only [clOf, beq_self_eq_true, if_true, hc, Option.getD_some]
  ·have hb : (k == NameKind.free) = false := by simpa using hk
   simp only [hb, Bool.false_eq_true, if_false, pure_bind]
   rw [hr]
   simp only [clOf, hb, Bool.false_eq_true, if_false]
theorem closureFor_eq {env : Env} {scope : Scope} (h : ∀ p ∈ scope.names, p.2 = .free → ∃ c, env.cells.lookup p.1 = some c) : closureFor scope env = pure (clOf env scope.names []) := by
 unfold closureFor
 have e := closure_eq (env := env) scope.names [] h
 simp only [e, pure_bind]
theorem clOf_mem {env : Env} {y : Str} {c : Addr} : ∀ {names : List (Str × NameKind)} {acc : List (Str × Addr)}, (∀ p ∈ names, p.2 = .free → ∃ c, env.cells.lookup p.1 = some c) → (∀ y c, acc.lookup y = some c → env.cells.lookup y = some c) →
  (clOf env names acc).lookup y = some c → env.cells.lookup y = some c
 | [], _, _, ha, e => ha _ _ e
 | (n, k) :: r, acc, h, ha, e => by
  refine clOf_mem (names := r) (fun p hp => h p (List.mem_cons_of_mem _ hp)) (fun y c q => ?_) e
  by_cases hk : (k == NameKind.free) = true
  ·rw [if_pos hk] at q
   obtain ⟨c', hc'⟩ := h (n, k) List.mem_cons_self (by simpa using hk)
   rw [List.lookup_cons] at q
   cases hy : y == n with
   | true =>
    rw [hy] at q
    have hy' : y = n := by simpa using hy
    subst hy'
    rw [hc'] at q
    cases q
    exact hc'
   | false =>
    rw [hy] at q
    exact ha y c q
  ·rw [if_neg hk] at q
   exact ha y c q
theorem clOf_acc {env : Env} {y : Str} : ∀ {names : List (Str × NameKind)} {acc : List (Str × Addr)}, (acc.lookup y).isSome = true → ((clOf env names acc).lookup y).isSome = true
 | [], _, h => h
 | (n, k) :: r, acc, h => by
  refine clOf_acc (names := r) ?_
  split
  ·rw [List.lookup_cons]
   split
   ·rfl
   ·exact h
  ·exact h
theorem clOf_has {env : Env} {y : Str} : ∀ {names : List (Str × NameKind)} {acc : List (Str × Addr)}, (y, NameKind.free) ∈ names → ((clOf env names acc).lookup y).isSome = true
 | (n, k) :: r, acc, h => by
  rcases List.mem_cons.mp h with e | h
  ·cases e
   refine clOf_acc (names := r) ?_
   rw [if_pos (by simp), List.lookup_cons]
   simp
  ·exact clOf_has (names := r) h
abbrev compCx (X : Cx) (scope : Scope) (Nc : List Str) (C : Addr) (s0 : Shared) (H0 : Hp) (ex : List Addr) : Cx :=
 { X with N := Nc, s₀ := s0, H₀ := H0, env := compEnvC scope (clOf X.env scope.names []) C X.env, outer := X.stack, ex := ex, fn := fun _ => false, pn := [], xe := fun _ _ => False }
structure CompScopeN (fr sc : Scope) (xs cap : List Str) : Prop where
 kind : sc.kind = .function
 cell : ∀ p ∈ sc.names, p.2 ≠ .cell
 names : ∀ p ∈ sc.names, p.2 = .local → sc.names.lookup p.1 = some .local
 free : ∀ p ∈ sc.names, p.2 = .free → fr.names.lookup p.1 = some .cell
 caps : ∀ y ∈ cap, (y, NameKind.free) ∈ sc.names
 noboth : ∀ y ∈ cap, sc.names.lookup y ≠ some .local
structure CompScope (fr sc : Scope) (x : Str) (cap : List Str) : Prop where
 kind : sc.kind = .function
 cell : ∀ p ∈ sc.names, p.2 ≠ .cell
 names : ∀ p ∈ sc.names, p.2 = .local → sc.names.lookup p.1 = some .local
 tgt : sc.names.lookup x = some .local
 free : ∀ p ∈ sc.names, p.2 = .free → fr.names.lookup p.1 = some .cell
 caps : ∀ y ∈ cap, (y, NameKind.free) ∈ sc.names
 nd : (x :: cap).Nodup
 noboth : ∀ y ∈ cap, sc.names.lookup y ≠ some .local
theorem relabel_mem {sc : Scope} {env : Env} {y : Str} {k : NameKind} (h : (y, k) ∈ (relabel sc env).names) : ∃ k', (y, k') ∈ sc.names ∧ (k = k' ∨ (k' = .free ∧ k = .cell)) := by
 unfold relabel at h
 obtain ⟨⟨n, k'⟩, hm, e⟩ := List.mem_map.mp h
 by_cases hc : (k' == NameKind.free && env.scope.kind == .function && env.kindOf n == some .cell) = true
 ·have e : (n, NameKind.cell) = (y, k) := by simpa [hc] using e
  cases e
  refine ⟨k', hm, .inr ⟨?_, rfl⟩⟩
  rw [Bool.and_eq_true, Bool.and_eq_true] at hc
  simpa using hc.1.1
 ·have e : (n, k') = (y, k) := by simpa [hc] using e
  cases e
  exact ⟨k, hm, .inl rfl⟩
section
variable {X : Cx} {pins : List (Addr × Obj)} {σ : St} {H : Hp} {s : Shared} {sc : Scope} {xs cap : List Str}
theorem CompScopeN.cells (S : CompScopeN X.env.scope sc xs cap) (ok : X.Ok) : ∀ p ∈ sc.names, p.2 = .free → ∃ c, X.env.cells.lookup p.1 = some c :=
 fun p hp e => ok.has p.1 (.inl (S.free p hp e))
theorem CompScopeN.sub (S : CompScopeN X.env.scope sc xs cap) (ok : X.Ok) {y : Str} {c : Addr} (h : (clOf X.env sc.names []).lookup y = some c) : X.env.cells.lookup y = some c :=
 clOf_mem (S.cells ok) (fun _ _ z => by simp at z) h
theorem neLt {a b : Addr} (h : a < b) : a ≠ b := Nat.ne_of_lt h
theorem neGt {a b : Addr} (h : b < a) : a ≠ b := Nat.ne_of_gt h
def capV (σ : St) (js : List Nat) : St := js.map fun j => (σ[j]?).join
theorem comp_invN (S : CompScopeN X.env.scope sc xs cap) {js : List Nat} (hjs : js.map (fun j => X.N[j]?) = cap.map some) (I : Inv X pins σ H s) {fp : List Addr} (hf : ∀ b ∈ fp, FpOk X pins H b) (hlt : ∀ b ∈ fp, b < s.heap.objs.size)
  {h1 : Heap} {tk : Nat} {D C : Addr} {oD : Obj} {m : Str → Option Value} (hD : D = s.heap.objs.size) (hC : C = s.heap.objs.size + 1) (keep : ∀ b o, s.heap.get? b = some o → h1.get? b = some o) (hoD : h1.get? D = some oD) (hnc : ∀ v, oD.data ≠ .cell v) (hns : h1.Ns C m) :
  Inv (compCx X sc (xs ++ cap) C s H fp) [(D, oD)] (xs.map (fun _ => none) ++ capV σ js) H { s with heap := h1, toks := tk } := by
 subst hD hC
 have lenJ : js.length = cap.length := by have := congrArg List.length hjs; simpa using this
 have ok := I.ok
 refine ⟨⟨ok.mod, S.kind, ok.glob, ok.blt, ?_, fun y z c h1 h2 => ok.inj y z c (S.sub ok h1) (S.sub ok h2), fun y hy => ?_, (fun y c h => Bool.noConfusion h), ok.hd, ok.frames, .inl rfl, fun b hb => ⟨?_, fun y c e => (hf b hb).2.2.2.2.1 y c (S.sub ok e)⟩, I.bs, Nat.le_trans ok.bsz I.sz, fun b o e hb => ?_, fun b hb hb' => ?_, I.stack, I.stkFree⟩,
  rfl, I.bare, Un.kept keep, ⟨m, hns, fun i y v e1 e2 e3 => ?_⟩, fun y c e => ?_, I.hok.fresh (Nat.le_succ _), fun y c e => I.freeC y c (S.sub ok e), fun p hp => ?_, I.hok.kept keep, ?_⟩
 ·exact Nat.le_succ _
 ·have hy' : ∃ k, (y, k) ∈ (relabel sc X.env).names ∧ (k = .cell ∨ k = .free) := by
   rcases hy with hy | hy
   ·exact ⟨_, PySem.mem_of_lookup hy, .inl rfl⟩
   ·exact ⟨_, PySem.mem_of_lookup hy, .inr rfl⟩
  obtain ⟨k, hm, hk⟩ := hy'
  obtain ⟨k', hm', hk'⟩ := relabel_mem hm
  have hfree : k' = .free := by
   rcases hk' with e | ⟨e, _⟩
   ·subst e
    rcases hk with e | e
    ·exact absurd e (S.cell _ hm')
    ·exact e
   ·exact e
  subst hfree
  exact Option.isSome_iff_exists.mp (clOf_has hm')
 ·exact neLt (Nat.lt_succ_of_lt (hlt b hb))
 ·obtain ⟨_, _, _, z, _⟩ := hf b hb
  rcases z with z | z
  ·exact ok.noex b o e z
  ·have := Heap.lt_size (ok.bs b o e).1
   exact absurd (Nat.lt_of_lt_of_le this z) (Nat.lt_irrefl _)
 ·obtain ⟨_, z1, z2, _⟩ := hf b hb
  rcases List.mem_cons.mp (I.stkSub b hb') with z | z
  ·exact z1 z
  ·exact z2 z
 ·have e2 : (xs.map (fun _ => (none : Option V)) ++ capV σ js)[i]? = some (some v) := e2
  have e1 : (xs ++ cap)[i]? = some y := e1
  by_cases hi : i < xs.length
  ·rw [List.getElem?_append_left (by rw [List.length_map]; exact hi), List.getElem?_map, List.getElem?_eq_getElem hi] at e2
   cases e2
  ·obtain ⟨i, rfl⟩ : ∃ i', i = xs.length + i' := ⟨i - xs.length, by omega⟩
   rw [List.getElem?_append_right (by rw [List.length_map]; omega), List.length_map, Nat.add_sub_cancel_left] at e2
   rw [List.getElem?_append_right (by omega), Nat.add_sub_cancel_left] at e1
   have e1' := e1
   have e2' := e2
   have hy : y ∈ cap := List.mem_of_getElem? e1'
   unfold capV at e2'
   rw [List.getElem?_map] at e2'
   cases ej : js[i]? with
   | none => rw [ej] at e2'; cases e2'
   | some j =>
    rw [ej] at e2'
    have e2'' : (σ[j]?).join = some v := Option.some.inj e2'
    have eN : X.N[j]? = some y := by
     have := congrArg (fun l => l[i]?) hjs
     simp only [List.getElem?_map, ej, e1', Option.map_some] at this
     exact Option.some.inj this
    have eσ : σ[j]? = some (some v) := by
     cases q : σ[j]? with
     | none => rw [q] at e2''; cases e2''
     | some w' =>
      rw [q] at e2''
      have : w' = some v := by simpa using e2''
      rw [this]
    have kc : X.env.scope.names.lookup y = some .cell := S.free (y, .free) (S.caps y hy) rfl
    obtain ⟨m0, hn0, hl0⟩ := I.loc
    obtain ⟨u, ru, lk⟩ := hl0 j y v eN eσ (.inr (.inl kc))
    refine ⟨u, ru, ?_⟩
    rcases lk with ⟨k, _⟩ | ⟨_, c, ec, hc⟩
    ·have k' : X.env.scope.names.lookup y = some .local := k
     rw [kc] at k'; cases k'
    ·obtain ⟨c', hc'⟩ := Option.isSome_iff_exists.mp (clOf_has (env := X.env) (acc := []) (S.caps y hy))
     have hcc : c' = c := Option.some.inj ((S.sub ok hc').symm.trans ec)
     subst hcc
     refine .inr ⟨?_, c', hc', ?_⟩
     ·rcases e3 with e3 | e3 | e3
      ·exfalso
       have hm := PySem.mem_of_lookup e3
       obtain ⟨k', hm', hk'⟩ := relabel_mem hm
       rcases hk' with e | ⟨_, e⟩
       ·subst e
        exact S.noboth y hy (S.names _ hm' rfl)
       ·cases e
      ·exact .inl e3
      ·exact .inr e3
     ·obtain ⟨o, ho, hd⟩ := hc
      exact ⟨o, keep _ o ho, hd⟩
 ·obtain ⟨v, o, ho, hd⟩ := I.cell y c (S.sub ok e)
  exact ⟨v, o, keep _ o ho, hd⟩
 ·have hp' : p = (s.heap.objs.size, oD) := by simpa using hp
  subst hp'
  refine ⟨hoD, I.hok.fresh (Nat.le_refl _), neLt (Nat.lt_succ_self _), fun hb => ?_, hnc⟩
  obtain ⟨_, o, ho, _⟩ := I.stack.mem hb
  exact Nat.lt_irrefl _ (Heap.lt_size ho)
 ·show (xs.map (fun _ => (none : Option V)) ++ capV σ js).length = (xs ++ cap).length
  unfold capV
  simp [lenJ]
theorem comp_endN (S : CompScopeN X.env.scope sc xs cap) (I : Inv X pins σ H s) {fp : List Addr} (hf : ∀ b ∈ fp, FpOk X pins H b) {D C : Addr} {pn' : List (Addr × Obj)} {σ' : St} {H' : Hp} {s' : Shared} {ys : List V} {its : List Value} {k : Nat} {h' : Heap}
  (hD : D = s.heap.objs.size) (hC : C = s.heap.objs.size + 1) (J : Inv (compCx X sc (xs ++ cap) C s H fp) pn' σ' H' s') (hnD : H' D = none) (hoD : s'.heap.get? D = some { cls := .type "list", data := .seq its.toArray k }) (rv : Vals ys its) (hz : ys.length ≤ sizeLine)
  (hs : Heap.SameBut C s'.heap h') : Inv X pins σ (upd H' D (.lst ys)) { s' with heap := h' } := by
 subst hD hC
 have base : Un (frs X.stack) fp H H' s.heap s'.heap := J.base
 have hnC : H' (s.heap.objs.size + 1) = none := J.free
 have neC : ∀ {b : Addr} {o : Obj}, s.heap.get? b = some o → b ≠ s.heap.objs.size + 1 := fun e => neLt (Nat.lt_succ_of_lt (Heap.lt_size e))
 have neD : ∀ {b : Addr} {o : Obj}, s.heap.get? b = some o → b ≠ s.heap.objs.size := fun e => neLt (Heap.lt_size e)
 have neDH : ∀ {b : Addr} {o : HO}, H b = some o → b ≠ s.heap.objs.size := fun e => neLt (I.hok.lt e)
 refine I.call' (s' := { s' with heap := h' }) (ch := fp) J.os ⟨fun b o e n hb hx => ?_, fun b o e n hb hx => ?_, fun b o e n hx => ?_, fun b o e hx => ?_, fun b xs e => ?_, fun b o u e => ?_, fun b ps e => ?_⟩ (fun b u e => ?_) J.bare fun b hb => ?_
 ·exact (hs.2 b (neC e)).trans (base.keep b o e n hb hx)
 ·obtain ⟨sl, q⟩ := base.slot b o e n hb hx
  exact ⟨sl, (hs.2 b (neC e)).trans q⟩
 ·rw [upd_ne (neD e)]; exact base.free b o e n hx
 ·obtain ⟨o', q⟩ := base.there b o e hx
  exact ⟨o', (hs.2 b (neC e)).trans q⟩
 ·rw [upd_ne (neDH e)]; exact base.tups b xs e
 ·rw [upd_ne (neDH e)]; exact base.frzs b o u e
 ·rw [upd_ne (neDH e)]; exact base.tbls b ps e
 ·by_cases hb : b = s.heap.objs.size
  ·subst hb
   rw [upd_same] at e
   cases e
   exact ⟨hz, its, k, rv, (hs.2 _ (neLt (Nat.lt_succ_self _))).trans hoD⟩
  ·rw [upd_ne hb] at e
   have J' : ObjOk X.prog X.w H' s'.heap b u := J.hok b u e
   refine J'.stay (fun c v hc q => (hs.2 c ?_).trans q) (fun c q => ?_) (fun c xs q => ?_) fun c o u q => ?_
   ·rintro rfl
    rcases hc with rfl | hc
    ·rw [hnC] at e; cases e
    ·rw [hnC] at hc; cases hc
   ·rw [upd_ne (ne_of_none q hnD)]; exact q
   ·rw [upd_ne (ne_of_none q hnD)]; exact q
   ·rw [upd_ne (ne_of_none q hnD)]; exact q
 ·obtain ⟨_, z1, _, z3, z4, z5⟩ := hf b hb
  exact ⟨z3, z1, z4, z5⟩
end
section
variable {X : Cx} {pins : List (Addr × Obj)} {σ : St} {H : Hp} {s : Shared} {sc : Scope} {x : Str} {cap : List Str}
def PIf (X : Cx) (ifs : List Expr) (t : TT) : Prop :=
 ∀ (pins : List (Addr × Obj)) (s : Shared) (σ : St) (H : Hp) (Q : Bool → Hp → Prop), Inv X pins σ H s → t σ H Q →
  wpAny (model X.prog X.w) X.A (forIn ifs true fun c r => if r = true then do let ok ← isTrue c X.env (eval c X.env); pure (ForInStep.yield ok) else pure (ForInStep.yield r)) (TP X pins σ Q) X.xe s
def tNoIf : TT := fun _ H Q => Q true H
theorem pif_nil {X : Cx} : PIf X [] tNoIf := fun _ _ _ H _ I h => wpAny_tests_nil ⟨H, I, h⟩
theorem pif_one {X : Cx} {c : Expr} {t : TT} (h : PT X c t) : PIf X [c] t := fun pins s σ H Q I q => wpAny_tests_one (h pins s σ H Q I q)
end
section
variable {prog : Program} {w : World} {A : Around} {R : Result → Shared → Prop} {s : Shared}
theorem comp_turns {elt target iter : Expr} {ifs : List Expr} {scope : Scope} {pos : Pos} {it acc : Value} {env : Env} (J : Nat → Shared → Prop)
  (turn : ∀ n s, J n s → wpAny (model prog w) A (pyNext it) (fun r s₁ => match r with
   | none => R (.ok .next) s₁
   | some v => wpAny (model prog w) A (letOwnedTupleGo target it v) (fun _ s₂ => wpAny (model prog w) A (assign target env v) (fun _ s₃ =>
     wpAny (model prog w) A (forIn ifs true fun c r => if r = true then do let ok ← isTrue c env (eval c env); pure (ForInStep.yield ok) else pure (ForInStep.yield r)) (fun ok s₄ =>
      if ok = true then wpAny (model prog w) A (eval elt env) (fun x s₅ =>
       wpAny (model prog w) A (call (.builtin "list.append") [acc, x]) (fun _ s₆ => ∃ m, m < n ∧ J m s₆) (fun _ _ => False) s₅) (fun _ _ => False) s₄
      else ∃ m, m < n ∧ J m s₄) (fun _ _ => False) s₃) (fun _ _ => False) s₂) (fun _ _ => False) s₁) (fun _ _ => False) s)
  (n : Nat) (h : J n s) : codeAny (model prog w) A (.compLoop (.ListComp elt [⟨target, iter, ifs, 0⟩] scope pos) 0 it acc env) R s := by
 refine codeAny_loop rfl J (fun n s hJ => ?_) n h
 show wpAny _ A ((compTurn (.ListComp elt [⟨target, iter, ifs, 0⟩] scope pos) 0 it acc env).onRaise (fun x => do noteFrame x env; theTreesLotGoes x)) _ _ s
 refine wpAny_noted ?_
 rw [compTurn_list]
 refine wpAny_bind (wpAny_standAt (wpAny_bind (wpAny_mono (turn n s hJ) (fun r s₁ h₁ => ?_) fun _ _ z => z.elim)))
 cases r with
 | none => exact wpAny_pure h₁
 | some v =>
  refine wpAny_bind (wpAny_mono h₁ (fun _ s₂ h₂ => ?_) fun _ _ z => z.elim)
  refine wpAny_bind (wpAny_mono h₂ (fun _ s₃ h₃ => wpAny_bind (wpAny_mono h₃ (fun ok s₄ h₄ => ?_) fun _ _ z => z.elim)) fun _ _ z => z.elim)
  cases ok with
  | false => exact wpAny_pure ⟨rfl, h₄⟩
  | true =>
   exact wpAny_bind (wpAny_bind (wpAny_mono h₄ (fun x s₅ h₅ => wpAny_bind (wpAny_mono h₅ (fun _ s₆ h₆ => wpAny_pure (wpAny_pure ⟨rfl, h₆⟩)) fun _ _ z => z.elim)) fun _ _ z => z.elim))
end
section
variable {X : Cx} {pins : List (Addr × Obj)} {σ : St} {H : Hp} {s : Shared} {sc : Scope} {x : Str} {cap : List Str}
def LCw (J : It) (js : List Nat) (σ : St) (tt : TT) (te : TE) (Q : VK) (W : Nat → Nat → List V → Hp → Prop) : Prop :=
 ∀ i m ys H, W i m ys H → ys.length < sizeLine ∧
  ((J.stop i H ∧ ∀ p, H p = none → Q (.ref p) (upd H p (.lst ys))) ∨
   (J.go i H ∧ ∀ x H', J.yld i H x H' → tt (some x :: capV σ js) H' fun b H2 => if b = true then te (some x :: capV σ js) H2 fun v H3 => ∃ m', m' < m ∧ W (i + 1) m' (ys ++ [v]) H3 else ∃ m', m' < m ∧ W (i + 1) m' ys H2))
def tLC (wi : TI) (js : List Nat) (tt : TT) (te : TE) : TE := fun σ H Q => wi σ H fun J H1 => ∃ W : Nat → Nat → List V → Hp → Prop, (∃ m, W 0 m [] H1) ∧ LCw J js σ tt te Q W
def LCwN (n : Nat) (J : It) (js : List Nat) (σ : St) (g : TG) (tt : TT) (te : TE) (Q : VK) (W : Nat → Nat → List V → Hp → Prop) : Prop :=
 ∀ i m ys H, W i m ys H → ys.length < sizeLine ∧
  ((J.stop i H ∧ ∀ p, H p = none → Q (.ref p) (upd H p (.lst ys))) ∨
   (J.go i H ∧ ∀ x H', J.yld i H x H' → ∀ ws : List (Option V), ws.length = n → g x (ws ++ capV σ js) H' fun σ2 H2 => ∃ ws', σ2 = ws' ++ capV σ js ∧ ws'.length = n ∧ tt σ2 H2 fun b H3 => if b = true then te σ2 H3 fun v H4 => ∃ m', m' < m ∧ W (i + 1) m' (ys ++ [v]) H4 else ∃ m', m' < m ∧ W (i + 1) m' ys H3))
end
section
variable {X : Cx} {pins : List (Addr × Obj)} {σ : St} {H : Hp} {s : Shared} {sc : Scope} {xs cap : List Str}
theorem comp_runN (S : CompScopeN X.env.scope sc xs cap) {js : List Nat} (hjs : js.map (fun j => X.N[j]?) = cap.map some) (hc : X.calm = true) {elt iter : Expr} {ifs : List Expr} {pos : Pos} {tg : Expr} {g : TG} {tt : TT} {te : TE} (hg : ∀ C s0 H0 ex, PG (compCx X sc (xs ++ cap) C s0 H0 ex) tg g)
  (hb : ∀ C s0 H0 ex, PIf (compCx X sc (xs ++ cap) C s0 H0 ex) ifs tt ∧ PE (compCx X sc (xs ++ cap) C s0 H0 ex) elt te)
  (I : Inv X pins σ H s) {J : It} {fp : List Addr} {it : Addr} {tn : Nat → Heap → Prop} (T : Turn X.prog X.w X.K tg J fp it tn) (st : tn 0 s.heap) (hf : ∀ b ∈ fp, FpOk X pins H b)
  {Q : VK} {W : Nat → Nat → List V → Hp → Prop} (w0 : ∃ m, W 0 m [] H) (turn : LCwN xs.length J js σ g tt te Q W) {RR : Value → Addr → Result → Shared → Prop} {E : Value → Shared → Prop}
  (hR : ∀ D C s' σ' H' ys its k, D = s.heap.objs.size → C = s.heap.objs.size + 1 → Inv (compCx X sc (xs ++ cap) C s H fp) [(D, { cls := .type "list", data := .seq its.toArray k })] σ' H' s' → Vals ys its → ys.length ≤ sizeLine → (∀ p, H' p = none → Q (.ref p) (upd H' p (.lst ys))) → RR (.ref D) C (.ok .next) s') :
  wpAny (model X.prog X.w) X.A (newList []) (fun acc s₃ => wpAny (model X.prog X.w) X.A (newFunctionEnv sc X.env.globals (clOf X.env sc.names []) [] X.env.qual none .none (some X.env)) (fun cenv s₄ =>
   codeAny (model X.prog X.w) X.A (.compStart (.ListComp elt [⟨tg, iter, ifs, 0⟩] sc pos) 0 (.ref it) acc { cenv with scope := relabel sc X.env }) (RR acc cenv.locals) s₄) E s₃) E s := by
 refine wpAny_newObj_type (wpAny_newFunctionEnv S.cell (by intro y hy; simp at hy) (fun h₁ hns₁ hsb₁ => ?_) S.kind)
 dsimp only at hns₁ hsb₁ ⊢
 have hlt : ∀ b ∈ fp, b < s.heap.objs.size := fun b hb' => by
  obtain ⟨o, e, _⟩ := T.obj 0 _ st b hb'
  exact Heap.lt_size e
 generalize hH2 : s.heap.push { cls := .type "list", dict := none, data := .seq ([] : List Value).toArray } = H2 at hns₁ hsb₁ ⊢
 have hC : H2.objs.size = s.heap.objs.size + 1 := by rw [← hH2, Heap.size_push]
 have old : ∀ b o, s.heap.get? b = some o → h₁.get? b = some o := fun b o e =>
  hsb₁.extBut b o (by rw [hC]; exact neLt (Nat.lt_succ_of_lt (Heap.lt_size e))) (Heap.get?_push_of_some _ (hH2 ▸ Heap.get?_push_of_some _ e))
 have hacc : h₁.get? s.heap.objs.size = some { cls := .type "list", data := .seq ([] : List Value).toArray } :=
  hsb₁.extBut _ _ (by rw [hC]; exact neLt (Nat.lt_succ_self _)) (Heap.get?_push_of_some _ (hH2 ▸ Heap.get?_push_size _ rfl))
 have st₁ : tn 0 h₁ := T.keep _ _ _ st fun b _ o e => old b o e
 obtain ⟨m0, w0⟩ := w0
 rw [hC] at hns₁ hsb₁ ⊢
 generalize hCe : s.heap.objs.size + 1 = C at hns₁ hsb₁ hR ⊢
 generalize hDe : s.heap.objs.size = D at hacc hR ⊢
 have hDe' := hDe.symm
 have hC' : C = s.heap.objs.size + 1 := hCe.symm
 have ltD : ∀ {b : Addr}, b < s.heap.objs.size → b ≠ D := fun h => by rw [← hDe]; exact neLt h
 have loop : ∀ s₃ : Shared, s₃ = { s with heap := h₁, toks := s.toks + ([] : List (Str × Value)).length } →
   codeAny (model X.prog X.w) X.A (.compLoop (.ListComp elt [⟨tg, iter, ifs, 0⟩] sc pos) 0 (.ref it) (.ref D) (compEnvC sc (clOf X.env sc.names []) C X.env)) (RR (.ref D) C) s₃ := by
  rintro s₃ rfl
  have I0 : Inv (compCx X sc (xs ++ cap) C s H fp) [(D, { cls := .type "list", data := .seq ([] : List Value).toArray })] (xs.map (fun _ => none) ++ capV σ js) H { s with heap := h₁, toks := s.toks + ([] : List (Str × Value)).length } :=
   comp_invN S hjs I hf hlt hDe' hC' old hacc (fun v z => by cases z) hns₁
  have fpD : ∀ b ∈ fp, b ≠ D := fun b hb' => ltD (hlt b hb')
  refine comp_turns (fun n s' => ∃ i ws H' ys its k, ws.length = xs.length ∧ Inv (compCx X sc (xs ++ cap) C s H fp) [(D, { cls := .type "list", data := .seq its.toArray k })] (ws ++ capV σ js) H' s' ∧ tn i s'.heap ∧ (∀ b ∈ fp, H' b = none) ∧ Vals ys its ∧ W i n ys H')
   ?_ m0 ⟨0, xs.map (fun _ => none), H, [], [], 0, List.length_map _, I0, st₁, fun b hb' => (hf b hb').1, .nil, w0⟩
  rintro n s3 ⟨i, ws, H3, ys, its, k, hws, I3, st3, fr3, rv, w3⟩
  obtain ⟨hlen, hor⟩ := turn i n ys H3 w3
  have stat : ∀ {H' : Hp} {o : Obj}, (∀ b ∈ fp, H' b = none) → ∀ b ∈ fp, FpOk (compCx X sc (xs ++ cap) C s H fp) [(D, o)] H' b := fun {H' o} hn b hb' =>
   ⟨hn b hb', (I3.ok.exf b hb').1, I3.ok.exfs b hb', .inl hb', (I3.ok.exf b hb').2, fun p hp => by
    have hp' : p = (D, o) := by simpa using hp
    rw [hp']
    exact Ne.symm (fpD b hb')⟩
  rcases hor with ⟨stop, qn⟩ | ⟨go, step⟩
  ·refine thn (T.done (compCx X sc (xs ++ cap) C s H fp) rfl rfl rfl hc i _ s3 _ H3 _ I3 (stat fr3) st3 stop) fun r s4 ⟨hr, I4⟩ => ?_
   subst hr
   exact hR D C s4 _ H3 ys its k rfl rfl I4 rv (Nat.le_of_lt hlen) qn
  ·refine thn (T.item (compCx X sc (xs ++ cap) C s H fp) rfl rfl rfl hc i _ s3 _ H3 _ I3 (stat fr3) st3 go) fun r s4 ⟨u, hr, h4⟩ => ?_
   subst hr
   refine thn h4 fun _ s5 ⟨xv, H5, I5, r5, y5, st5, fr5⟩ => ?_
   have I5' := I5.pinned (stat fr5) (T.obj _ _ st5)
   refine thn (hg C s H fp _ s5 _ H5 xv u _ I5' r5 (step xv H5 y5 ws hws)) fun _ s6 ⟨σ6, H6, I6, ws', e6, hws', q6⟩ => ?_
   subst e6
   refine thn ((hb C s H fp).1 _ s6 _ H6 _ I6 q6) fun ok s7 ⟨H7, I7, q7⟩ => ?_
   have fin : ∀ {s8 : Shared} {H8 : Hp} {σ8 : St}, Inv (compCx X sc (xs ++ cap) C s H fp) ([(D, { cls := .type "list", data := .seq its.toArray k })] ++ pinsAt fp s5.heap) σ8 H8 s8 → tn (i + 1) s8.heap ∧ (∀ b ∈ fp, H8 b = none) ∧ s8.heap.get? D = some { cls := .type "list", data := .seq its.toArray k } ∧ H8 D = none ∧ D ≠ C := fun {s8 H8 σ8} I8 => by
    have pinD := I8.pin (D, { cls := .type "list", data := .seq its.toArray k }) (List.mem_append_right _ (List.mem_append_left _ (List.mem_singleton.mpr rfl)))
    have pinF : ∀ b ∈ fp, ∀ o, s5.heap.get? b = some o → s8.heap.get? b = some o ∧ H8 b = none := fun b hb' o e =>
     have z := I8.pin (b, o) (List.mem_append_right _ (List.mem_append_right _ (mem_pinsAt hb' e)))
     ⟨z.1, z.2.1⟩
    refine ⟨T.keep _ _ _ st5 fun b hb' o e => (pinF b hb' o e).1, fun b hb' => ?_, pinD.1, pinD.2.1, pinD.2.2.1⟩
    obtain ⟨o, e, _⟩ := T.obj _ _ st5 b hb'
    exact (pinF b hb' o e).2
   cases ok with
   | false =>
    rw [if_neg Bool.false_ne_true] at q7 ⊢
    obtain ⟨m', hm, w7⟩ := q7
    obtain ⟨f1, f2, _⟩ := fin I7
    exact ⟨m', hm, i + 1, ws', H7, ys, its, k, hws', I7.unpinned, f1, f2, rv, w7⟩
   | true =>
    rw [if_pos rfl] at q7 ⊢
    refine thn ((hb C s H fp).2 _ s7 _ H7 _ I7 q7) fun u8 s8 ⟨v, H8, I8, r8, q8⟩ => ?_
    obtain ⟨f1, f2, f3, f4, f5⟩ := fin I8
    obtain ⟨m', hm, w8⟩ := q8
    have rv' : Vals (ys ++ [v]) (its ++ [u8]) := rv.append (.cons r8 .nil)
    refine wpAny_list_append_plain ⟨k, f3⟩ (fun h9 hl9 hs9 => ?_) (by rw [List.size_toArray, ← rv.length]; exact Nat.le_of_lt hlen)
    obtain ⟨k9, e9⟩ := hl9
    have e9' : h9.get? D = some { cls := .type "list", data := .seq (its ++ [u8]).toArray k9 } := by rw [e9]; simp
    have In : Inv (compCx X sc (xs ++ cap) C s H fp) (pinsAt fp s5.heap) (ws' ++ capV σ js) H8 s8 := I8.pins_of fun p hp => I8.pin p (List.mem_append_right _ (List.mem_append_right _ hp))
    have It' : Inv (compCx X sc (xs ++ cap) C s H fp) (pinsAt fp s5.heap) (ws' ++ capV σ js) H8 { s8 with heap := h9 } :=
     In.turned (it := D) (h' := h9) (t' := s8.toks) (fun b o hb' e => hs9.extBut b o hb' e) f4 f5 (.inr (Nat.le_of_eq hDe)) (fun y c e z => by
      obtain ⟨v', o, ho, _⟩ := I.cell y c (S.sub I.ok e)
      exact ltD (Heap.lt_size ho) z) fun p hp z => by
      have hp' : p ∈ pinsAt fp s5.heap := by simpa using hp
      exact fpD p.1 (of_pinsAt hp').1 z
    refine ⟨m', hm, i + 1, ws', H8, ys ++ [v], its ++ [u8], k9, hws', It'.pins_of fun p hp => ?_, T.keep _ _ _ f1 fun b hb' o e => hs9.extBut b o (fpD b hb') e, f2, rv', w8⟩
    have hp' : p = (D, { cls := .type "list", data := .seq (its ++ [u8]).toArray k9 }) := by simpa using hp
    subst hp'
    refine ⟨e9', f4, f5, fun hb' => ?_, fun v z => by cases z⟩
    obtain ⟨_, o, ho, _⟩ := I.stack.mem hb'
    exact ltD (Heap.lt_size ho) rfl
 exact codeAny_compStart_list (loop _ rfl) (T.self X.A 0 _ _ _ st₁ (loop _ rfl))
theorem lcw_n {J : It} {js : List Nat} {tt : TT} {te : TE} {Q : VK} {W : Nat → Nat → List V → Hp → Prop} (h : LCw J js σ tt te Q W) : LCwN 1 J js σ (gName 0) tt te Q W := fun i m ys H w => by
 obtain ⟨a, b⟩ := h i m ys H w
 refine ⟨a, b.imp id fun ⟨go, st⟩ => ⟨go, fun x H' y ws hw => ?_⟩⟩
 match ws, hw with
 | [v], _ => exact ⟨[some x], rfl, rfl, st x H' y⟩
end
section
variable {X : Cx} {pins : List (Addr × Obj)} {σ : St} {H : Hp} {s : Shared} {sc : Scope} {x : Str} {cap : List Str}
theorem CompScope.n {fr : Scope} (S : CompScope fr sc x cap) : CompScopeN fr sc [x] cap := ⟨S.kind, S.cell, S.names, S.free, S.caps, S.noboth⟩
theorem CompScope.pg (S : CompScope X.env.scope sc x cap) {px : Pos} (C : Addr) (s0 : Shared) (H0 : Hp) (ex : List Addr) : PG (compCx X sc ([x] ++ cap) C s0 H0 ex) (.Name x px) (gName 0) := pg_name S.nd rfl (.inl (lookup_relabel_local S.tgt)) (.inr (lookup_relabel_local S.tgt))
theorem pe_lc (S : CompScope X.env.scope sc x cap) {js : List Nat} (hjs : js.map (fun j => X.N[j]?) = cap.map some) (hc : X.calm = true) (hxe : ∀ e s, ¬ X.xe e s) {elt iter : Expr} {ifs : List Expr} {pos px : Pos} {wi : TI} {tt : TT} {te : TE}
  (hi : PI X (.Name x px) iter wi) (hb : ∀ C s0 H0 ex, PIf (compCx X sc (x :: cap) C s0 H0 ex) ifs tt ∧ PE (compCx X sc (x :: cap) C s0 H0 ex) elt te)
  (hs : ∀ x, foldedSetIterable iter X.env x = pure x := by intro _; rfl) : PE X (.ListComp elt [⟨.Name x px, iter, ifs, 0⟩] sc pos) (tLC wi js tt te) := by
 intro pins s σ H Q I h
 rw [eval_ListComp]
 refine wpAny_comprehension_free (use := none) rfl hs (closureFor_eq (S.n.cells I.ok)) S.kind S.names (thn (hi pins s σ H _ I h) fun xv s₁ h₁ => thn h₁ fun itv s₂ h₂ => ?_)
 obtain ⟨it, fp, tn, J, H2, e, I2, T, st2, f2, W, w0, turn⟩ := h₂
 subst e
 refine comp_runN (xs := [x]) (Q := Q) (RR := fun acc C => compPost (model X.prog X.w) X.A X.xe none (EP X pins σ Q) acc C) S.n hjs hc S.pg hb I2 T st2 f2 w0 (lcw_n turn) ?_
 intro D C s' σ' H' ys its k hD hC J' rv hz q
 obtain ⟨m, hn, _⟩ := J'.loc
 have pinD := J'.pin (D, { cls := .type "list", data := .seq its.toArray k }) (List.mem_append_right _ (List.mem_singleton.mpr rfl))
 exact ⟨m, hn, fun h' hs' => ⟨.ref D, _, comp_endN (xs := [x]) S.n I2 f2 hD hC J' pinD.2.1 pinD.1 rv hz hs', rfl, q D pinD.2.1⟩⟩
end
end L2
namespace L2
open PySem PySem.Spec PyProof.Rows
section
variable {X : Cx} {pins : List (Addr × Obj)} {σ : St} {H : Hp} {s : Shared} {sc : Scope} {x : Str} {cap : List Str}
def tLCs (i : Nat) (wi : TI) (js : List Nat) (tt : TT) (te : TE) : TS := fun D σ H => tLC wi js tt te σ H fun v H' => D.nx (σ.set i (some v)) H'
theorem ps_lc (S : CompScope X.env.scope sc x cap) {js : List Nat} (hjs : js.map (fun j => X.N[j]?) = cap.map some) (hc : X.calm = true) (hxe : ∀ e s, ¬ X.xe e s) {elt iter : Expr} {ifs : List Expr} {pos px py spos : Pos} {wi : TI} {tt : TT} {te : TE} {i : Nat} {y : Str}
  (hN : X.N.Nodup) (hi' : X.N[i]? = some y) (hy : X.env.scope.names.lookup y = some .local)
  (hi : PI X (.Name x px) iter wi) (hb : ∀ C s0 H0 ex, PIf (compCx X sc (x :: cap) C s0 H0 ex) ifs tt ∧ PE (compCx X sc (x :: cap) C s0 H0 ex) elt te)
  (hsw : swapsWith (.ListComp elt [⟨.Name x px, iter, ifs, 0⟩] sc pos) (some (.Name y py)) spos.line X.env = pure true := by rfl)
  (hs : ∀ x, foldedSetIterable iter X.env x = pure x := by intro _; rfl) : PS X (.Assign [.Name y py] (.ListComp elt [⟨.Name x px, iter, ifs, 0⟩] sc pos) spos) (tLCs i wi js tt te) := by
 intro pins s σ H D0 I h
 rw [exec_Assign_Name_used _ _ _ _ hsw]
 refine wpAny_bind (wpAny_standAt (wpAny_bind ?_))
 show wpAny _ X.A (do let _ ← comprehension (.ListComp elt [⟨.Name x px, iter, ifs, 0⟩] sc pos) sc X.env _ (newList []) false (eval iter X.env) (some (assign (.Name y py) X.env))) _ _ s
 refine wpAny_bind (wpAny_mono (wpAny_comprehension_free (use := some (assign (.Name y py) X.env)) (Q := fun _ s' => SP X pins D0 .next s') rfl hs (closureFor_eq (S.n.cells I.ok)) S.kind S.names
  (thn (hi pins s σ H _ I h) fun xv s₁ h₁ => thn h₁ fun itv s₂ h₂ => ?_)) (fun _ s' hq => wpAny_pure (wpAny_pure hq)) fun _ _ e => e)
 obtain ⟨it, fp, tn, J, H2, e, I2, T, st2, f2, W, w0, turn⟩ := h₂
 subst e
 refine comp_runN (xs := [x]) (Q := fun v H' => D0.nx (σ.set i (some v)) H') (RR := fun acc C => compPost (model X.prog X.w) X.A X.xe (some (assign (.Name y py) X.env)) (fun _ s' => SP X pins D0 .next s') acc C) S.n hjs hc S.pg hb I2 T st2 f2 w0 (lcw_n turn) ?_
 intro D C s' σ' H' ys its k hD hC J' rv hz q
 have gtC : ∀ {b : Addr}, b < s₂.heap.objs.size → b ≠ C := fun h => by rw [hC]; exact neLt (Nat.lt_succ_of_lt h)
 have pinD := J'.pin (D, { cls := .type "list", data := .seq its.toArray k }) (List.mem_append_right _ (List.mem_singleton.mpr rfl))
 obtain ⟨m, hn, _⟩ := id J'.loc
 have hn : s'.heap.Ns C m := hn
 obtain ⟨oC, es, ep, hoC, hdC, rest⟩ := id hn
 have hCn : C ∉ X.fs ∧ C ≠ X.env.locals := by
  constructor
  ·intro hb'
   obtain ⟨_, o, ho, _⟩ := I2.funs.mem hb'
   exact gtC (Heap.lt_size ho) rfl
  ·exact fun z => gtC I2.lt z.symm
 have I3 : Inv X pins σ (upd H' D (.lst ys)) s' := comp_endN (xs := [x]) (h' := s'.heap) S.n I2 f2 hD hC J' pinD.2.1 pinD.1 rv hz (.refl ..)
 have hDC : C ≠ D := by rw [hC, hD]; exact neGt (Nat.lt_succ_self _)
 have hH'C : H' C = none := J'.free
 have I4 : Inv X [(C, oC)] σ (upd H' D (.lst ys)) s' := I3.pins_of fun p hp => by
  have hp' : p = (C, oC) := by simpa using hp
  subst hp'
  exact ⟨hoC, by rw [upd_ne hDC]; exact hH'C, hCn.2, hCn.1, fun v z => by rw [hdC] at z; cases z⟩
 have I5 : Inv X (pins ++ [(C, oC)]) σ (upd H' D (.lst ys)) s' := I3.pins_of fun p hp => by
  rcases List.mem_append.mp hp with hp | hp
  ·exact I3.pin p (List.mem_append_right _ hp)
  ·exact I4.pin p (List.mem_append_right _ hp)
 show wpAny _ X.A (assign (.Name y py) X.env (.ref D)) _ _ _
 refine wpAny_assign_Name (store_ok I5 hN hi' (.inl hy) (v := .ref D) rfl (fun s6 I6 => ?_) (.inr hy))
 have pinC := I6.pin (C, oC) (List.mem_append_right _ (List.mem_append_right _ (List.mem_singleton.mpr rfl)))
 refine ⟨m, ⟨oC, es, ep, pinC.1, hdC, rest⟩, fun h' hs' => ⟨_, _, ?_, q D pinD.2.1⟩⟩
 refine I6.unpinned.turned (it := C) (h' := h') (t' := s6.toks) (fun b o hb' e => hs'.extBut b o hb' e) pinC.2.1 hCn.2 (.inr ?_) (fun y' c e z => ?_) fun p hp z => ?_
 ·rw [hC]; exact Nat.le_succ_of_le I2.sz
 ·obtain ⟨v', o, ho, _⟩ := I2.cell y' c e
  exact gtC (Heap.lt_size ho) z
 ·exact gtC (Heap.lt_size (I2.pin p hp).1) z
end
section
variable {X : Cx}
theorem call_all (hc : X.calm = true) : CallR X (.builtin "all") (fun xs H Q => ∃ (p : Addr) (bs : List Bool), xs = [.ref p] ∧ SqL X.K H p (bs.map V.bl) ∧ Q (.bl (bs.all id)) H) := by
 intro pins s σ H xs us Q I r h
 obtain ⟨p, bs, rfl, hq, q⟩ := h
 obtain ⟨u, rfl, r1⟩ := vals1 r
 cases r1
 obtain ⟨its, rv, pl, hz⟩ := I.list hq
 have hl := plainIs pl
 have hlt : p < s.heap.objs.size := by obtain ⟨_, e, _⟩ := hl; exact Heap.lt_size e
 have hlen : its.length = bs.length := by rw [← rv.length, List.length_map]
 refine call_all_walk (wpAny_pyIter_list hl ?_)
 refine ⟨s.heap.objs.size, [s.heap.objs.size, p], [s.heap.objs.size], its.toArray.size, _, _, fun i => (bs[i]?).getD true, rfl, Walks.list (A := X.A.in1) (I.ok.hd hc) _ p (Nat.ne_of_lt hlt) its.toArray,
  ⟨⟨_, Heap.get?_push_size _ rfl, rfl, rfl⟩, hl.push _⟩, fun i v s' Q' E' hP hQ => ?_, fun h' tk hk => ?_⟩
 ·have hP' : its[i]? = some v := by simpa using hP
  have hi : i < bs.length := by rw [← hlen]; exact (List.getElem?_eq_some_iff.mp hP').1
  obtain ⟨u, hu, ru⟩ := rv.get (i := i) (x := V.bl bs[i]) (by rw [List.getElem?_map, List.getElem?_eq_getElem hi]; rfl)
  rw [hP'] at hu
  cases hu
  cases (show v = Value.bool bs[i] from ru)
  simp only [List.getElem?_eq_getElem hi, Option.getD_some] at hQ
  exact wpAny_truthy_bool hQ
 ·have e : ((List.range its.toArray.size).all fun i => (bs[i]?).getD true) = bs.all id := by
   rw [List.size_toArray, hlen]; exact PyProof.Rows.LSm.range_all bs
  rw [e]
  exact ⟨.bl (bs.all id), H, I.kept fun b o e => hk b o (fun hm => by rw [List.mem_singleton.mp hm] at e; exact Nat.lt_irrefl _ (Heap.lt_size e)) (Heap.get?_push_of_some _ e), rfl, q⟩
end
end L2
namespace L2
open PySem PySem.Spec PyProof.Rows
mutual
def Dat (K : PySem.W.Frag) (G : Hp) : V → PyData → Prop
 | v, .none => v = .non
 | v, .bool b => v = .bl b
 | v, .int i => v = .int i
 | v, .str x => v = .str x
 | v, .list ds => ∃ p xs, v = .ref p ∧ G p = some (.lst xs) ∧ Dats K G xs ds
 | v, .tuple ds => ∃ p xs, v = .ref p ∧ SqT K G p xs ∧ Dats K G xs ds
 | _, .dict _ => False
def Dats (K : PySem.W.Frag) (G : Hp) : List V → List PyData → Prop
 | xs, [] => xs = []
 | xs, d :: ds => ∃ y ys, xs = y :: ys ∧ Dat K G y d ∧ Dats K G ys ds
end
theorem Same.tup {K : PySem.W.Frag} {H H' : Hp} {a : Addr} {xs : List V} (e : Same H H') (h : SqT K H a xs) : SqT K H' a xs := by
 rcases h with (h | ⟨o, h⟩) | h
 ·exact .inl (.inl (e _ _ h))
 ·exact .inl (.inr ⟨o, e _ _ h⟩)
 ·exact .inr h
section
variable {K : PySem.W.Frag} {G G' : Hp}
theorem dat_int (i : Int) : Dat K G (.int i) (.int i) := by unfold Dat; rfl
theorem dat_str (x : Str) : Dat K G (.str x) (.str x) := by unfold Dat; rfl
theorem dat_bl (b : Bool) : Dat K G (.bl b) (.bool b) := by unfold Dat; rfl
theorem dat_non : Dat K G .non .none := by unfold Dat; rfl
theorem dat_tup {p : Addr} {xs : List V} {ds : List PyData} (h : SqT K G p xs) (r : Dats K G xs ds) : Dat K G (.ref p) (.tuple ds) := by unfold Dat; exact ⟨p, xs, rfl, h, r⟩
theorem dat_lst {p : Addr} {xs : List V} {ds : List PyData} (h : G p = some (.lst xs)) (r : Dats K G xs ds) : Dat K G (.ref p) (.list ds) := by unfold Dat; exact ⟨p, xs, rfl, h, r⟩
theorem dats_nil : Dats K G [] [] := by unfold Dats; rfl
theorem dats_cons {x : V} {xs : List V} {d : PyData} {ds : List PyData} (h : Dat K G x d) (r : Dats K G xs ds) : Dats K G (x :: xs) (d :: ds) := by
 unfold Dats; exact ⟨x, xs, rfl, h, r⟩
theorem Dat.int {v : V} {i : Int} (h : Dat K G v (.int i)) : v = .int i := by unfold Dat at h; exact h
theorem Dat.str {v : V} {x : Str} (h : Dat K G v (.str x)) : v = .str x := by unfold Dat at h; exact h
theorem Dat.bl {v : V} {x : Bool} (h : Dat K G v (.bool x)) : v = .bl x := by unfold Dat at h; exact h
theorem Dat.non {v : V} (h : Dat K G v .none) : v = .non := by unfold Dat at h; exact h
theorem Dat.tup {v : V} {ds : List PyData} (h : Dat K G v (.tuple ds)) : ∃ p xs, v = .ref p ∧ SqT K G p xs ∧ Dats K G xs ds := by unfold Dat at h; exact h
theorem Dat.lst {v : V} {ds : List PyData} (h : Dat K G v (.list ds)) : ∃ p xs, v = .ref p ∧ G p = some (.lst xs) ∧ Dats K G xs ds := by unfold Dat at h; exact h
theorem Dats.nil {xs : List V} (h : Dats K G xs []) : xs = [] := by unfold Dats at h; exact h
theorem Dats.cons {xs : List V} {d : PyData} {ds : List PyData} (h : Dats K G xs (d :: ds)) : ∃ y ys, xs = y :: ys ∧ Dat K G y d ∧ Dats K G ys ds := by unfold Dats at h; exact h
theorem Dats.length : ∀ {ds : List PyData} {xs : List V}, Dats K G xs ds → xs.length = ds.length
 | [], _, h => by rw [h.nil]; rfl
 | d :: ds, _, h => by
  obtain ⟨y, ys, rfl, _, r⟩ := h.cons
  show ys.length + 1 = ds.length + 1
  rw [r.length]
theorem Dats.get : ∀ {ds : List PyData} {xs : List V} {i : Nat} {d : PyData}, Dats K G xs ds → ds[i]? = some d → ∃ x, xs[i]? = some x ∧ Dat K G x d
 | [], _, _, _, _, e => by simp at e
 | d :: ds, _, 0, _, h, e => by
  obtain ⟨y, ys, rfl, hd, r⟩ := h.cons
  simp at e; subst e; exact ⟨y, rfl, hd⟩
 | d :: ds, _, i + 1, d', h, e => by
  obtain ⟨y, ys, rfl, hd, r⟩ := h.cons
  obtain ⟨x, h1, h2⟩ := Dats.get (i := i) (d := d') r (by simpa using e)
  exact ⟨x, by simpa using h1, h2⟩
theorem dats_append : ∀ {ds es : List PyData} {xs ys : List V}, Dats K G xs ds → Dats K G ys es → Dats K G (xs ++ ys) (ds ++ es)
 | [], _, _, _, h, r => by rw [h.nil]; exact r
 | d :: ds, _, _, _, h, r => by
  obtain ⟨y, ys, rfl, hd, r'⟩ := h.cons
  exact dats_cons hd (dats_append r' r)
theorem dats_snoc {ds : List PyData} {d : PyData} {xs : List V} {x : V} (h : Dats K G xs ds) (r : Dat K G x d) : Dats K G (xs ++ [x]) (ds ++ [d]) := dats_append h (dats_cons r dats_nil)
theorem dats_take : ∀ {ds : List PyData} {xs : List V} (n : Nat), Dats K G xs ds → Dats K G (xs.take n) (ds.take n)
 | _, _, 0, _ => dats_nil
 | [], _, n + 1, h => by rw [h.nil]; exact dats_nil
 | d :: ds, _, n + 1, h => by
  obtain ⟨y, ys, rfl, hd, r⟩ := h.cons
  exact dats_cons hd (dats_take n r)
theorem dats_drop : ∀ {ds : List PyData} {xs : List V} (n : Nat), Dats K G xs ds → Dats K G (xs.drop n) (ds.drop n)
 | _, _, 0, h => h
 | [], _, n + 1, h => by rw [h.nil]; exact dats_nil
 | d :: ds, _, n + 1, h => by
  obtain ⟨y, ys, rfl, hd, r⟩ := h.cons
  exact dats_drop n r
theorem dats_set : ∀ {ds : List PyData} {xs : List V} {x : V} {d : PyData} (n : Nat), Dats K G xs ds → Dat K G x d → Dats K G (xs.set n x) (ds.set n d)
 | [], _, _, _, _, h, _ => by rw [h.nil]; exact dats_nil
 | d :: ds, _, _, _, 0, h, e => by
  obtain ⟨y, ys, rfl, hd, r⟩ := h.cons
  exact dats_cons e r
 | d :: ds, _, _, _, n + 1, h, e => by
  obtain ⟨y, ys, rfl, hd, r⟩ := h.cons
  exact dats_cons hd (dats_set n r e)
theorem dats_ints : ∀ ns : List Int, Dats K G (ns.map V.int) (ns.map PyData.int)
 | [] => dats_nil
 | n :: ns => dats_cons (dat_int n) (dats_ints ns)
theorem Dats.ints : ∀ {ns : List Int} {xs : List V}, Dats K G xs (ns.map PyData.int) → xs = ns.map V.int
 | [], _, h => h.nil
 | n :: ns, _, h => by
  obtain ⟨y, ys, rfl, hd, r⟩ := h.cons
  rw [hd.int, Dats.ints r]; rfl
end
mutual
theorem Dat.same {K : PySem.W.Frag} {G G' : Hp} (e : Same G G') : ∀ {d : PyData} {v : V}, Dat K G v d → Dat K G' v d
 | .none, _, h => by rw [h.non]; exact dat_non
 | .bool b, _, h => by rw [h.bl]; exact dat_bl b
 | .int i, _, h => by rw [h.int]; exact dat_int i
 | .str x, _, h => by rw [h.str]; exact dat_str x
 | .list ds, _, h => by
  obtain ⟨p, xs, rfl, h1, h2⟩ := h.lst
  exact dat_lst (e _ _ h1) (Dats.same e h2)
 | .tuple ds, _, h => by
  obtain ⟨p, xs, rfl, h1, h2⟩ := h.tup
  exact dat_tup (e.tup h1) (Dats.same e h2)
 | .dict _, _, h => by unfold Dat at h; exact h.elim
theorem Dats.same {K : PySem.W.Frag} {G G' : Hp} (e : Same G G') : ∀ {ds : List PyData} {xs : List V}, Dats K G xs ds → Dats K G' xs ds
 | [], _, h => by rw [h.nil]; exact dats_nil
 | d :: ds, _, h => by
  obtain ⟨y, ys, rfl, hd, r⟩ := h.cons
  exact dats_cons (Dat.same e hd) (Dats.same e r)
end
section
variable {X : Cx} {pins : List (Addr × Obj)} {σ : St} {H G : Hp} {s : Shared}
mutual
theorem Dat.reads (I : Inv X pins σ H s) (e : Same G H) : ∀ {d : PyData} {v : V} {u : Value}, Dat X.K G v d → RelV v u → ∃ as, Reads s.heap u d as
 | .none, _, u, h, r => by
  rw [h.non] at r
  cases (show u = Value.none from r)
  exact ⟨_, .none⟩
 | .bool b, _, u, h, r => by
  rw [h.bl] at r
  cases (show u = Value.bool b from r)
  exact ⟨_, .bool b⟩
 | .int i, _, u, h, r => by
  rw [h.int] at r
  obtain ⟨t, q⟩ := (show ∃ t, u = Value.int i t from r)
  subst q
  exact ⟨_, .int i t⟩
 | .str x, _, u, h, r => by
  rw [h.str] at r
  obtain ⟨t, q⟩ := (show ∃ t, u = Value.str x t from r)
  subst q
  exact ⟨_, .str x t⟩
 | .list ds, _, u, h, r => by
  obtain ⟨p, xs, rfl, h1, h2⟩ := h.lst
  cases (show u = Value.ref p from r)
  obtain ⟨its, rv, ⟨o, n, e1, c, _, d1⟩, _⟩ := I.list (SqL.of (e _ _ h1))
  obtain ⟨as, ra⟩ := Dats.reads I e h2 rv
  exact ⟨_, Reads.list e1 c d1 (by simpa using ra)⟩
 | .tuple ds, _, u, h, r => by
  obtain ⟨p, xs, rfl, h1, h2⟩ := h.tup
  cases (show u = Value.ref p from r)
  obtain ⟨its, rv, ⟨o, e1, c, n, d1⟩, _⟩ := I.tuple (e.tup h1)
  obtain ⟨as, ra⟩ := Dats.reads I e h2 rv
  exact ⟨_, Reads.tuple e1 c d1 (by simpa using ra)⟩
 | .dict _, _, _, h, _ => by unfold Dat at h; exact h.elim
theorem Dats.reads (I : Inv X pins σ H s) (e : Same G H) : ∀ {ds : List PyData} {xs : List V} {us : List Value}, Dats X.K G xs ds → Vals xs us → ∃ as, ReadsAll s.heap us ds as
 | [], _, us, h, r => by
  rw [h.nil] at r
  cases r
  exact ⟨_, .nil⟩
 | d :: ds, _, us, h, r => by
  obtain ⟨y, ys, rfl, hd, hr⟩ := h.cons
  cases r with
  | cons r1 r2 =>
   obtain ⟨as, ra⟩ := Dat.reads I e hd r1
   obtain ⟨bs, rb⟩ := Dats.reads I e hr r2
   exact ⟨_, .cons ra rb⟩
end
end
mutual
def noBool : PyData → Bool
 | .bool _ => false
 | .dict _ => false
 | .list xs => noBools xs
 | .tuple xs => noBools xs
 | .none | .int _ | .str _ => true
def noBools : List PyData → Bool
 | [] => true
 | x :: xs => noBool x && noBools xs
end
mutual
theorem noMix_of : ∀ a b : PyData, noBool a = true → noBool b = true → SeqAt.noMix a b = true
 | .list xs, .list ys, h, k => by rw [SeqAt.noMix]; exact noMixs_of xs ys (by simpa [noBool] using h) (by simpa [noBool] using k)
 | .tuple xs, .tuple ys, h, k => by rw [SeqAt.noMix]; exact noMixs_of xs ys (by simpa [noBool] using h) (by simpa [noBool] using k)
 | .bool _, _, h, _ => by simp [noBool] at h
 | .dict _, _, h, _ => by simp [noBool] at h
 | .none, .bool _, _, k | .int _, .bool _, _, k | .str _, .bool _, _, k | .list _, .bool _, _, k | .tuple _, .bool _, _, k => by simp [noBool] at k
 | .none, .dict _, _, k | .int _, .dict _, _, k | .str _, .dict _, _, k | .list _, .dict _, _, k | .tuple _, .dict _, _, k => by simp [noBool] at k
 | .none, .none, _, _ | .none, .int _, _, _ | .none, .str _, _, _ | .none, .list _, _, _ | .none, .tuple _, _, _ => by simp [SeqAt.noMix]
 | .int _, .none, _, _ | .int _, .int _, _, _ | .int _, .str _, _, _ | .int _, .list _, _, _ | .int _, .tuple _, _, _ => by simp [SeqAt.noMix]
 | .str _, .none, _, _ | .str _, .int _, _, _ | .str _, .str _, _, _ | .str _, .list _, _, _ | .str _, .tuple _, _, _ => by simp [SeqAt.noMix]
 | .list _, .none, _, _ | .list _, .int _, _, _ | .list _, .str _, _, _ | .list _, .tuple _, _, _ => by simp [SeqAt.noMix]
 | .tuple _, .none, _, _ | .tuple _, .int _, _, _ | .tuple _, .str _, _, _ | .tuple _, .list _, _, _ => by simp [SeqAt.noMix]
theorem noMixs_of : ∀ a b : List PyData, noBools a = true → noBools b = true → SeqAt.noMixAll a b = true
 | [], [], _, _ | [], _ :: _, _, _ | _ :: _, [], _, _ => by simp [SeqAt.noMixAll]
 | x :: xs, y :: ys, h, k => by
  have h' : noBool x = true ∧ noBools xs = true := by simpa [noBools] using h
  have k' : noBool y = true ∧ noBools ys = true := by simpa [noBools] using k
  rw [SeqAt.noMixAll, noMix_of x y h'.1 k'.1, noMixs_of xs ys h'.2 k'.2]; rfl
end
structure Pl (n : Nat) (d : PyData) : Prop where
 lay : d.canLay0 = true
 dep : d.depth ≤ n
 nb : noBool d = true
theorem Pl.shaped {n : Nat} {d : PyData} (h : Pl n d) (k : n ≤ 64) : SeqAt.shaped d = true := by
 show (PyData.canLay0 d && decide (PyData.depth d ≤ 64)) = true
 rw [Bool.and_eq_true]
 exact ⟨h.lay, decide_eq_true (Nat.le_trans h.dep k)⟩
theorem Pl.mix {n : Nat} {a b : PyData} (h : Pl n a) (k : Pl n b) : SeqAt.noMix a b = true := noMix_of a b h.nb k.nb
mutual
theorem same_eq : ∀ {a b : PyData}, PySem.Spec.same a b = true → a = b
 | .none, b, h => by cases b <;> first | rfl | simp [PySem.Spec.same] at h
 | .bool x, b, h => by cases b <;> simp [PySem.Spec.same] at h <;> rw [h]
 | .int x, b, h => by cases b <;> simp [PySem.Spec.same] at h <;> rw [h]
 | .str x, b, h => by cases b <;> simp [PySem.Spec.same] at h <;> rw [h]
 | .list x, b, h => by
  cases b <;> simp [PySem.Spec.same] at h
  rw [sameAll_eq h]
 | .tuple x, b, h => by
  cases b <;> simp [PySem.Spec.same] at h
  rw [sameAll_eq h]
 | .dict x, b, h => by
  cases b <;> simp [PySem.Spec.same] at h
  rw [samePairs_eq h]
theorem sameAll_eq : ∀ {a b : List PyData}, PySem.Spec.sameAll a b = true → a = b
 | [], [], _ => rfl
 | [], _ :: _, h => by simp [PySem.Spec.sameAll] at h
 | _ :: _, [], h => by simp [PySem.Spec.sameAll] at h
 | x :: xs, y :: ys, h => by
  have h' : PySem.Spec.same x y = true ∧ PySem.Spec.sameAll xs ys = true := by simpa [PySem.Spec.sameAll] using h
  rw [same_eq h'.1, sameAll_eq h'.2]
theorem samePairs_eq : ∀ {a b : List (PyData × PyData)}, PySem.Spec.samePairs a b = true → a = b
 | [], [], _ => rfl
 | [], _ :: _, h => by simp [PySem.Spec.samePairs] at h
 | _ :: _, [], h => by simp [PySem.Spec.samePairs] at h
 | (x, z) :: xs, (y, w) :: ys, h => by
  have h' : (PySem.Spec.same x y = true ∧ PySem.Spec.same z w = true) ∧ PySem.Spec.samePairs xs ys = true := by simpa [PySem.Spec.samePairs] using h
  rw [same_eq h'.1.1, same_eq h'.1.2, samePairs_eq h'.2]
end
section
variable {X : Cx}
def rEqD (K : PySem.W.Frag) (g : Bool → Bool) : R2 := fun x y H Q => ∃ (G : Hp) (a b : PyData), Same G H ∧ Dat K G x a ∧ Dat K G y b ∧ (SeqAt.shaped a = true ∧ SeqAt.shaped b = true ∧ SeqAt.noMix a b = true) ∧ Q (.bl (g (PySem.Spec.same a b))) H
theorem op_eqD (hu : X.A.units + 64 < cLine) : OpR X (compareOp .Eq) (rEqD X.K fun b => b) := by
 intro pins s σ H x y v u Q I rx ry h
 obtain ⟨G, a, b, e, ha, hb, ⟨sa, sb, nm⟩, q⟩ := h
 obtain ⟨as, ra⟩ := Dat.reads I e ha rx
 obtain ⟨bs, rb⟩ := Dat.reads I e hb ry
 exact eq_dataH_same ra rb sa sb hu nm ⟨.bl (PySem.Spec.same a b), H, I, rfl, q⟩
theorem op_neD (hu : X.A.units + 64 < cLine) : OpR X (compareOp .NotEq) (rEqD X.K fun b => !b) := by
 intro pins s σ H x y v u Q I rx ry h
 obtain ⟨G, a, b, e, ha, hb, ⟨sa, sb, nm⟩, q⟩ := h
 obtain ⟨as, ra⟩ := Dat.reads I e ha rx
 obtain ⟨bs, rb⟩ := Dat.reads I e hb ry
 exact ne_dataH_same ra rb sa sb hu nm ⟨.bl (!PySem.Spec.same a b), H, I, rfl, q⟩
end
theorem pl_int (i : Int) {n : Nat} : Pl n (.int i) := ⟨by unfold PyData.canLay0; rfl, by unfold PyData.depth; omega, by unfold noBool; rfl⟩
theorem canLayAll0_of : ∀ {ds : List PyData}, (∀ d ∈ ds, d.canLay0 = true) → PyData.canLayAll0 ds = true
 | [], _ => rfl
 | d :: ds, h => by
  unfold PyData.canLayAll0
  rw [h d (by simp), canLayAll0_of fun e he => h e (by simp [he])]; rfl
theorem depthAll_of : ∀ {ds : List PyData} {n : Nat}, (∀ d ∈ ds, d.depth ≤ n) → PyData.depthAll ds ≤ n
 | [], _, _ => by unfold PyData.depthAll; omega
 | d :: ds, n, h => by
  have h1 := h d (by simp)
  have h2 := depthAll_of (ds := ds) (n := n) fun e he => h e (by simp [he])
  unfold PyData.depthAll
  omega
theorem noBools_of : ∀ {ds : List PyData}, (∀ d ∈ ds, noBool d = true) → noBools ds = true
 | [], _ => rfl
 | d :: ds, h => by
  unfold noBools
  rw [h d (by simp), noBools_of fun e he => h e (by simp [he])]; rfl
theorem pl_lst {n : Nat} {ds : List PyData} (h : ∀ d ∈ ds, Pl n d) : Pl (n + 1) (.list ds) := by
 refine ⟨?_, ?_, ?_⟩
 ·unfold PyData.canLay0; exact canLayAll0_of fun d hd => (h d hd).lay
 ·have := depthAll_of fun d hd => (h d hd).dep
  unfold PyData.depth; omega
 ·unfold noBool; exact noBools_of fun d hd => (h d hd).nb
end L2
namespace L2
open PySem PySem.Spec PyProof.Rows
structure Grow (G H G' H' : Hp) : Prop where
 gg : Same G G'
 gh : Same G' H'
 hh : Same H H'
 fr : ∀ b o, G' b = some o → G b = some o ∨ H b = none
theorem Grow.refl {G H : Hp} (s : Same G H) : Grow G H G H := ⟨Same.refl _, s, Same.refl _, fun _ _ h => .inl h⟩
theorem Grow.trans {G H G1 H1 G2 H2 : Hp} (a : Grow G H G1 H1) (b : Grow G1 H1 G2 H2) : Grow G H G2 H2 :=
 ⟨a.gg.trans b.gg, b.gh, a.hh.trans b.hh, fun x o h => by
  rcases b.fr x o h with h | h
  ·exact a.fr x o h
  ·exact .inr (a.hh.free h)⟩
theorem grow_new {G H : Hp} {p : Addr} {o : HO} (s : Same G H) (hp : H p = none) : Grow G H (upd G p o) (upd H p o) := by
 have hg : G p = none := s.free hp
 refine ⟨fun b u e => ?_, fun b u e => ?_, fun b u e => ?_, fun b u e => ?_⟩
 ·rw [upd_ne (ne_of_none e hg)]; exact e
 ·by_cases h : b = p
  ·subst h; rw [upd_same] at e ⊢; exact e
  ·rw [upd_ne h] at e ⊢; exact s b u e
 ·rw [upd_ne (ne_of_none e hp)]; exact e
 ·by_cases h : b = p
  ·subst h; exact .inr hp
  ·rw [upd_ne h] at e; exact .inl e
theorem grow_h {G H H' : Hp} (s : Same G H) (h : Same H H') : Grow G H G H' := ⟨Same.refl _, s.trans h, h, fun _ _ e => .inl e⟩
theorem Grow.out {G H G' H' : Hp} (a : Grow G H G' H') {p : Addr} {o : HO} (hp : H p = some o) (hg : G p = none) : G' p = none := by
 cases e : G' p with
 | none => rfl
 | some u =>
  rcases a.fr p u e with h | h
  ·rw [hg] at h; cases h
  ·rw [hp] at h; cases h
def Ev (K : PySem.W.Frag) (t : TE) (σ : St) (G : Hp) (d : PyData) : Prop :=
 ∀ G1 H, Same G G1 → Same G1 H → ∀ Q : VK, (∀ v G' H', Grow G1 H G' H' → Dat K G' v d → Q v H') → t σ H Q
def EvT (t : TT) (σ : St) (G : Hp) (b : Bool) : Prop :=
 ∀ G1 H, Same G G1 → Same G1 H → ∀ Q : Bool → Hp → Prop, (∀ G' H', Grow G1 H G' H' → Q b H') → t σ H Q
def EvA (K : PySem.W.Frag) (t : TA) (σ : St) (G : Hp) (ds : List PyData) : Prop :=
 ∀ G1 H, Same G G1 → Same G1 H → ∀ Q : List V → Hp → Prop, (∀ vs G' H', Grow G1 H G' H' → Dats K G' vs ds → Q vs H') → t σ H Q
section
variable {K : PySem.W.Frag} {σ : St} {G : Hp} {ta tb tc : TE} {a b d : PyData}
theorem ev_var {i : Nat} {v : V} (h : σ[i]? = some (some v)) (hd : Dat K G v d) : Ev K (tVar i) σ G d := fun G1 H s1 s2 Q k => ⟨v, h, k v G1 H (Grow.refl s2) (hd.same s1)⟩
theorem ev_c {v : V} (hd : Dat K G v d) : Ev K (tC v) σ G d := fun G1 H s1 s2 Q k => k v G1 H (Grow.refl s2) (hd.same s1)
theorem ev_int {i : Int} : Ev K (tC (.int i)) σ G (.int i) := ev_c (dat_int i)
theorem ev_non : Ev K (tC .non) σ G .none := ev_c dat_non
theorem ev_op {r : R2} (ha : Ev K ta σ G a) (hb : Ev K tb σ G b) (hr : ∀ G1 H x y (Q : VK), Same G G1 → Same G1 H → Dat K G1 x a → Dat K G1 y b → (∀ v G' H', Grow G1 H G' H' → Dat K G' v d → Q v H') → r x y H Q) : Ev K (tOp r ta tb) σ G d :=
 fun G1 H s1 s2 Q k => ha G1 H s1 s2 _ fun x G2 H2 g2 hx => hb G2 H2 (s1.trans g2.gg) g2.gh _ fun y G3 H3 g3 hy =>
  hr G3 H3 x y Q ((s1.trans g2.gg).trans g3.gg) g3.gh (hx.same g3.gg) hy fun v G' H' g hv => k v G' H' ((g2.trans g3).trans g) hv
theorem ev_i0 {g : Int → Int → V} {i j : Int} (ha : Ev K ta σ G (.int i)) (hb : Ev K tb σ G (.int j)) (hg : Dat K G (g i j) d) : Ev K (tOp (rI0 g) ta tb) σ G d :=
 ev_op ha hb fun G1 H x y Q s1 s2 hx hy k => by
  rw [hx.int, hy.int]
  exact ⟨i, j, rfl, rfl, k _ G1 H (Grow.refl s2) (hg.same s1)⟩
theorem ev_iC {C : Int → Int → Prop} {g : Int → Int → V} {i j : Int} (ha : Ev K ta σ G (.int i)) (hb : Ev K tb σ G (.int j)) (hc : C i j) (hg : Dat K G (g i j) d) : Ev K (tOp (rI C g) ta tb) σ G d :=
 ev_op ha hb fun G1 H x y Q s1 s2 hx hy k => by
  rw [hx.int, hy.int]
  exact ⟨i, j, rfl, rfl, hc, k _ G1 H (Grow.refl s2) (hg.same s1)⟩
theorem ev_ixT {ds : List PyData} {i : Int} {n : Nat} (ha : Ev K ta σ G (.tuple ds)) (hb : Ev K tb σ G (.int i)) (hn : ixN ds.length i = some n) (hd : ds[n]? = some d) : Ev K (tOp (rIxT K) ta tb) σ G d :=
 ev_op ha hb fun G1 H x y Q s1 s2 hx hy k => by
  obtain ⟨p, xs, rfl, hp, hxs⟩ := hx.tup
  obtain ⟨z, hz, hzd⟩ := hxs.get hd
  rw [hy.int]
  exact ⟨p, xs, i, z, rfl, rfl, s2.tup hp, by unfold atI; rw [hxs.length, hn]; exact hz, k z G1 H (Grow.refl s2) hzd⟩
theorem ev_ixL {ds : List PyData} {i : Int} {n : Nat} (ha : Ev K ta σ G (.list ds)) (hb : Ev K tb σ G (.int i)) (hn : ixN ds.length i = some n) (hd : ds[n]? = some d) : Ev K (tOp (rIxL K) ta tb) σ G d :=
 ev_op ha hb fun G1 H x y Q s1 s2 hx hy k => by
  obtain ⟨p, xs, rfl, hp, hxs⟩ := hx.lst
  obtain ⟨z, hz, hzd⟩ := hxs.get hd
  rw [hy.int]
  exact ⟨p, xs, i, z, rfl, rfl, SqL.of (s2 _ _ hp), by unfold atI; rw [hxs.length, hn]; exact hz, k z G1 H (Grow.refl s2) hzd⟩
theorem ev_eqD {g : Bool → Bool} {n : Nat} (ha : Ev K ta σ G a) (hb : Ev K tb σ G b) (pa : Pl n a) (pb : Pl n b) (hn : n ≤ 64) : Ev K (tOp (rEqD K g) ta tb) σ G (.bool (g (PySem.Spec.same a b))) :=
 ev_op ha hb fun G1 H x y Q s1 s2 hx hy k => ⟨G1, a, b, s2, hx, hy, ⟨pa.shaped hn, pb.shaped hn, pa.mix pb⟩, k _ G1 H (Grow.refl s2) (dat_bl _)⟩
theorem eva_nil : EvA K tNil σ G [] := fun G1 H s1 s2 Q k => k [] G1 H (Grow.refl s2) dats_nil
theorem eva_cons {t : TA} {ds : List PyData} (ha : Ev K ta σ G a) (hb : EvA K t σ G ds) : EvA K (tCons ta t) σ G (a :: ds) :=
 fun G1 H s1 s2 Q k => ha G1 H s1 s2 _ fun x G2 H2 g2 hx => hb G2 H2 (s1.trans g2.gg) g2.gh _ fun ys G3 H3 g3 hy => k (x :: ys) G3 H3 (g2.trans g3) (dats_cons (hx.same g3.gg) hy)
theorem ev_tup {t : TA} {ds : List PyData} (h : EvA K t σ G ds) (hl : ds.length ≤ sizeLine) : Ev K (tTup t) σ G (.tuple ds) :=
 fun G1 H s1 s2 Q k => h G1 H s1 s2 _ fun vs G2 H2 g2 hv => ⟨by rw [hv.length]; exact hl, fun p hp => by
  have g := grow_new (o := .tup vs) g2.gh hp
  exact k _ _ _ (g2.trans g) (dat_tup (SqT.of upd_same) (hv.same g.gg))⟩
theorem ev_lst {t : TA} {ds : List PyData} (h : EvA K t σ G ds) (hl : ds.length ≤ sizeLine) : Ev K (tLst t) σ G (.list ds) :=
 fun G1 H s1 s2 Q k => h G1 H s1 s2 _ fun vs G2 H2 g2 hv => ⟨by rw [hv.length]; exact hl, fun p hp => by
  have g := grow_new (o := .lst vs) g2.gh hp
  exact k _ _ _ (g2.trans g) (dat_lst upd_same (hv.same g.gg))⟩
theorem ev_cb {r : List V → Hp → VK → Prop} {t : TA} {ds : List PyData} (h : EvA K t σ G ds) (hr : ∀ G1 H xs (Q : VK), Same G G1 → Same G1 H → Dats K G1 xs ds → (∀ v G' H', Grow G1 H G' H' → Dat K G' v d → Q v H') → r xs H Q) : Ev K (tCB r t) σ G d :=
 fun G1 H s1 s2 Q k => h G1 H s1 s2 _ fun vs G2 H2 g2 hv => hr G2 H2 vs Q (s1.trans g2.gg) g2.gh hv fun v G' H' g hd => k v G' H' (g2.trans g) hd
theorem ev_lenL {t : TA} {ds : List PyData} (h : EvA K t σ G [.list ds]) : Ev K (tCB (fun xs H Q => ∃ p ys, xs = [.ref p] ∧ (SqL K H p ys ∨ SqT K H p ys) ∧ Q (.int ys.length) H) t) σ G (.int ds.length) :=
 ev_cb h fun G1 H xs Q s1 s2 hx k => by
  obtain ⟨y, ys, rfl, hy, r⟩ := hx.cons
  rw [r.nil]
  obtain ⟨p, zs, rfl, hp, hz⟩ := hy.lst
  refine ⟨p, zs, rfl, .inl (SqL.of (s2 _ _ hp)), ?_⟩
  rw [hz.length]
  exact k _ G1 H (Grow.refl s2) (dat_int _)
theorem ev_lenT {t : TA} {ds : List PyData} (h : EvA K t σ G [.tuple ds]) : Ev K (tCB (fun xs H Q => ∃ p ys, xs = [.ref p] ∧ (SqL K H p ys ∨ SqT K H p ys) ∧ Q (.int ys.length) H) t) σ G (.int ds.length) :=
 ev_cb h fun G1 H xs Q s1 s2 hx k => by
  obtain ⟨y, ys, rfl, hy, r⟩ := hx.cons
  rw [r.nil]
  obtain ⟨p, zs, rfl, hp, hz⟩ := hy.tup
  refine ⟨p, zs, rfl, .inr (s2.tup hp), ?_⟩
  rw [hz.length]
  exact k _ G1 H (Grow.refl s2) (dat_int _)
theorem ev_tupleL {t : TA} {ds : List PyData} (h : EvA K t σ G [.list ds]) : Ev K (tCB (fun xs H Q => ∃ p ys, xs = [.ref p] ∧ ((SqL K H p ys ∧ ∀ l, H l = none → Q (.ref l) (upd H l (.tup ys))) ∨ (SqT K H p ys ∧ Q (.ref p) H))) t) σ G (.tuple ds) :=
 ev_cb h fun G1 H xs Q s1 s2 hx k => by
  obtain ⟨y, ys, rfl, hy, r⟩ := hx.cons
  rw [r.nil]
  obtain ⟨p, zs, rfl, hp, hz⟩ := hy.lst
  refine ⟨p, zs, rfl, .inl ⟨SqL.of (s2 _ _ hp), fun l hl => ?_⟩⟩
  have g := grow_new (o := .tup zs) s2 hl
  exact k _ _ _ g (dat_tup (SqT.of upd_same) (hz.same g.gg))
theorem evt_test {t : TE} {c : Bool} (h : Ev K t σ G (.bool c)) : EvT (tTest t) σ G c := fun G1 H s1 s2 Q k => h G1 H s1 s2 _ fun v G' H' g hv => ⟨c, hv.bl, k G' H' g⟩
theorem evt_b {t : TE} {c : Bool} (h : Ev K t σ G (.bool c)) : EvT (tB t) σ G c := fun G1 H s1 s2 Q k => h G1 H s1 s2 _ fun v G' H' g hv => ⟨c, hv.bl, k G' H' g⟩
theorem evt_not {t : TT} {c : Bool} (h : EvT t σ G c) : EvT (tNot t) σ G (!c) := fun G1 H s1 s2 Q k => h G1 H s1 s2 _ fun G' H' g => k G' H' g
theorem evt_or {t u : TT} {c e : Bool} (h : EvT t σ G c) (h' : c = false → EvT u σ G e) : EvT (tOr t u) σ G (c || e) := fun G1 H s1 s2 Q k => h G1 H s1 s2 _ fun G' H' g => by
 cases c with
 | true => rw [if_pos rfl]; exact k G' H' g
 | false =>
  rw [if_neg Bool.false_ne_true]
  exact h' rfl G' H' (s1.trans g.gg) g.gh _ fun G2 H2 g2 => k G2 H2 (g.trans g2)
theorem evt_and {t u : TT} {c e : Bool} (h : EvT t σ G c) (h' : c = true → EvT u σ G e) : EvT (tAnd t u) σ G (c && e) := fun G1 H s1 s2 Q k => h G1 H s1 s2 _ fun G' H' g => by
 cases c with
 | false => rw [if_neg Bool.false_ne_true]; exact k G' H' g
 | true =>
  rw [if_pos rfl]
  exact h' rfl G' H' (s1.trans g.gg) g.gh _ fun G2 H2 g2 => k G2 H2 (g.trans g2)
theorem ev_and {c e : Bool} (h : Ev K ta σ G (.bool c)) (h' : c = true → Ev K tb σ G (.bool e)) : Ev K (tAndV ta tb) σ G (.bool (c && e)) := fun G1 H s1 s2 Q k => h G1 H s1 s2 _ fun v G' H' g hv => ⟨c, hv.bl, by
 cases c with
 | false => rw [if_neg Bool.false_ne_true]; exact k _ G' H' g (dat_bl _)
 | true => rw [if_pos rfl]; exact h' rfl G' H' (s1.trans g.gg) g.gh _ fun w G2 H2 g2 hw => k w G2 H2 (g.trans g2) hw⟩
def spP (K : PySem.W.Frag) (R : List PyData → PyData → Prop) : Sp := fun vs H Q _ => ∃ (G : Hp) (ds : List PyData) (d : PyData), Same G H ∧ Dats K G vs ds ∧ R ds d ∧ ∀ v G' H', Grow G H G' H' → Dat K G' v d → Q v H'
theorem ev_call {R : List PyData → PyData → Prop} {E : XK} {t : TA} {ds : List PyData} (h : EvA K t σ G ds) (hR : R ds d) : Ev K (tCall (spP K R) [] E t) σ G d :=
 fun G1 H s1 s2 Q k => h G1 H s1 s2 _ fun vs G2 H2 g2 hv => by
  refine ⟨G2, ds, d, g2.gh, ?_, hR, fun v G' H' g hd => k v G' H' (g2.trans g) hd⟩
  rw [List.append_nil]; exact hv
theorem evt_noif : EvT tNoIf σ G true := fun G1 H s1 s2 Q k => k G1 H (Grow.refl s2)
end
end L2
namespace L2
open PySem PySem.Spec PyProof.Rows
section
variable {K : PySem.W.Frag} {σ : St} {G H : Hp} {te : TE} {d : PyData} {D : Ends}
theorem ixN_nat {n i : Nat} (h : i < n) : ixN n (i : Int) = some i := by unfold ixN; rw [if_pos (by omega), if_pos (by omega)]; simp
end
end L2
namespace L2
open PySem PySem.Spec PyProof.Rows
section
variable {K : PySem.W.Frag} {σ : St} {G H : Hp} {ta tb : TE}
theorem ev_ne {i j : Int} (ha : Ev K ta σ G (.int i)) (hb : Ev K tb σ G (.int j)) : Ev K (tOp rNe ta tb) σ G (.bool (!decide (i = j))) :=
 ev_op ha hb fun G1 H x y Q s1 s2 hx hy k => by
  rw [hx.int, hy.int]
  refine ⟨rfl, ?_⟩
  have e : decide (V.int i = V.int j) = decide (i = j) := by
   by_cases h : i = j
   ·rw [decide_eq_true h, decide_eq_true (by rw [h])]
   ·rw [decide_eq_false h, decide_eq_false fun z => h (by injection z)]
  rw [e]
  exact k _ G1 H (Grow.refl s2) (dat_bl _)
theorem ev_eqI {i j : Int} (ha : Ev K ta σ G (.int i)) (hb : Ev K tb σ G (.int j)) : Ev K (tOp rEq ta tb) σ G (.bool (decide (i = j))) :=
 ev_op ha hb fun G1 H x y Q s1 s2 hx hy k => by
  rw [hx.int, hy.int]
  refine ⟨rfl, ?_⟩
  have e : decide (V.int i = V.int j) = decide (i = j) := by
   by_cases h : i = j
   ·rw [decide_eq_true h, decide_eq_true (by rw [h])]
   ·rw [decide_eq_false h, decide_eq_false fun z => h (by injection z)]
  rw [e]
  exact k _ G1 H (Grow.refl s2) (dat_bl _)
theorem same_upd {d : Addr} {o : HO} (s : Same G H) (n : G d = none) : Same G (upd H d o) := fun b u e => by
 rw [upd_ne (ne_of_none e n)]; exact s b u e
end
end L2
namespace L2
open PySem PySem.Spec PyProof.Rows
section
variable {X : Cx} {pins : List (Addr × Obj)} {σ : St} {H : Hp} {s : Shared} {h' : Heap}
theorem Inv.turnsNew {t' : Nat} {fp : List Addr} {T : Addr} {o : HO} (I : Inv X pins σ H s) (k : ∀ b u, b ∉ fp → s.heap.get? b = some u → h'.get? b = some u) (hf : ∀ b ∈ fp, FpOk X pins H b)
  (hT : s.heap.objs.size ≤ T) (new : ObjOk X.prog X.w (upd H T o) h' T o) : Inv X pins σ (upd H T o) { s with heap := h', toks := t' } := by
 have nfp : ∀ b u, H b = some u → b ∉ fp := fun b u e z => by rw [(hf b z).1] at e; cases e
 have nT : ∀ b u, H b = some u → b ≠ T := fun b u e => Nat.ne_of_lt (Nat.lt_of_lt_of_le (I.hok.lt e) hT)
 have nT' : ∀ b u, s.heap.get? b = some u → b ≠ T := fun b u e => Nat.ne_of_lt (Nat.lt_of_lt_of_le (Heap.lt_size e) hT)
 refine I.step (g' := s.gens) (d' := s.drawn) (ch := fp) (fun b hb => ?_) (fun b u _ _ hc e _ => k b u hc e) (fun b u _ _ hc e _ => ⟨u.slots, k b u hc e⟩) (fun b u _ e n => by rw [upd_ne (nT' b u e)]; exact n)
  (fun b u hc e => ⟨u, k b u hc e⟩) (fun b xs e => by rw [upd_ne (nT b _ e)]; exact e) (fun b u v e => by rw [upd_ne (nT b _ e)]; exact e) (fun b cr e => by rw [upd_ne (nT b _ e)]; exact e) (fun m hm => ?_) (fun b u e => ?_) I.bare
 ·obtain ⟨f0, f1, f2, f3, f4, f5⟩ := hf b hb
  exact ⟨f3, f1, f4, f5⟩
 ·obtain ⟨ob, es, ep, ho, r⟩ := hm
  exact ⟨ob, es, ep, k _ ob (fun z => (hf _ z).2.1 rfl) ho, r⟩
 ·by_cases hb : b = T
  ·subst hb; rw [upd_same] at e; cases e; exact new
  ·rw [upd_ne hb] at e
   refine (I.hok b u e).stay (fun c v hc q => k c v ?_ q) (fun c q => by rw [upd_ne (nT c _ q)]; exact q) (fun c xs q => by rw [upd_ne (nT c _ q)]; exact q) fun c o u q => by rw [upd_ne (nT c _ q)]; exact q
   rcases hc with z | z
   ·rw [z]; exact nfp b u e
   ·exact nfp c _ z
theorem Inv.turns {t' : Nat} {fp : List Addr} (I : Inv X pins σ H s) (k : ∀ b u, b ∉ fp → s.heap.get? b = some u → h'.get? b = some u) (hf : ∀ b ∈ fp, FpOk X pins H b) : Inv X pins σ H { s with heap := h', toks := t' } := by
 have nfp : ∀ b u, H b = some u → b ∉ fp := fun b u e z => by rw [(hf b z).1] at e; cases e
 refine I.step (g' := s.gens) (d' := s.drawn) (ch := fp) (fun b hb => ?_) (fun b u _ _ hc e _ => k b u hc e) (fun b u _ _ hc e _ => ⟨u.slots, k b u hc e⟩) (fun b u _ e n => n)
  (fun b u hc e => ⟨u, k b u hc e⟩) (fun b xs e => e) (fun b u v e => e) (fun _ _ e => e) (fun m hm => ?_) (fun b u e => ?_) I.bare
 ·obtain ⟨f0, f1, f2, f3, f4, f5⟩ := hf b hb
  exact ⟨f3, f1, f4, f5⟩
 ·obtain ⟨ob, es, ep, ho, r⟩ := hm
  exact ⟨ob, es, ep, k _ ob (fun z => (hf _ z).2.1 rfl) ho, r⟩
 ·refine (I.hok b u e).stay (fun c v hc q => k c v ?_ q) (fun c q => q) (fun c xs q => q) fun c o u q => q
  rcases hc with z | z
  ·rw [z]; exact nfp b u e
  ·exact nfp c _ z
end
section
variable {prog : Program} {w : World} {A : Around} {E : Value → Shared → Prop} {s : Shared}
theorem tup_nextOf {it t : Addr} {i : Nat} {items : Array Value} {x : Value} {Q : Value → Shared → Prop} (q1 : s.heap.IsTupleIter it t i) (q2 : s.heap.IsTuple t items) (q3 : items[i]? = some x)
  (k : ∀ h', h'.IsTupleIter it t (i + 1) → Heap.SameBut it s.heap h' → Q x { s with heap := h' }) : wpAny (model prog w) A (Builtin.SmallTypes.nextOf (.ref it)) Q E s := by
 obtain ⟨oi, e1, e2, e3⟩ := id q1
 obtain ⟨ot, e4, _, nt, e5⟩ := q2
 unfold Builtin.SmallTypes.nextOf
 refine wpAny_bind (wpAny_callSpecial?_slot (name := Str.ofString "__next__") q1.typeIs F.slot_tuple_iterator_next (wpAny_call_entry F.slot_tuple_iterator_next q1.typeIs F.entry_tuple_iterator_next ?_ (F.args_tuple_iterator_next_1 _)))
 show wpAny (model prog w) _ (field (.ref it) 0 >>= _) _ _ s
 refine wpAny_bind (wpAny_field e1 e3 (x := .ref t) rfl ?_)
 rw [if_neg (show ¬ ((Value.ref t == Value.none) = true) from Bool.false_ne_true)]
 refine wpAny_bind (wpAny_field e1 e3 (x := .int i 0) rfl ?_)
 refine wpAny_bind (wpAny_seqItems e4 e5 ?_)
 simp only [Int.toNat_natCast, q3]
 refine wpAny_bind (wpAny_setField e1 e3 (by simp) (wpAny_pure ⟨x, rfl, wpAny_pure (k _ ⟨_, Heap.get?_update_self _ e1 (Obj.isFreed_of_fields (Obj.data_mapFields e3 _)), (Obj.cls_mapFields ..).trans e2, by rw [Obj.data_mapFields e3]; simp [rawInt]⟩ (Heap.SameBut.update ..))⟩))
theorem tup_nextOf_end {it t : Addr} {i : Nat} {items : Array Value} {Q : Value → Shared → Prop} (q0 : A.handled = none) (q1 : s.heap.IsTupleIter it t i) (q2 : s.heap.IsTuple t items) (q3 : items[i]? = none)
  (k : ∀ h' e, Heap.ExtBut it s.heap h' → (∃ o, h'.get? e = some o ∧ o.cls = .type "StopIteration") → E (.ref e) { s with heap := h' }) : wpAny (model prog w) A (Builtin.SmallTypes.nextOf (.ref it)) Q E s := by
 obtain ⟨oi, e1, e2, e3⟩ := id q1
 obtain ⟨ot, e4, _, nt, e5⟩ := q2
 unfold Builtin.SmallTypes.nextOf
 refine wpAny_bind (wpAny_callSpecial?_slot (name := Str.ofString "__next__") q1.typeIs F.slot_tuple_iterator_next (wpAny_call_entry F.slot_tuple_iterator_next q1.typeIs F.entry_tuple_iterator_next ?_ (F.args_tuple_iterator_next_1 _)))
 show wpAny (model prog w) _ (field (.ref it) 0 >>= _) _ _ s
 refine wpAny_bind (wpAny_field e1 e3 (x := .ref t) rfl ?_)
 rw [if_neg (show ¬ ((Value.ref t == Value.none) = true) from Bool.false_ne_true)]
 refine wpAny_bind (wpAny_field e1 e3 (x := .int i 0) rfl ?_)
 refine wpAny_bind (wpAny_seqItems e4 e5 ?_)
 simp only [Int.toNat_natCast, q3]
 refine wpAny_bind (wpAny_rule (wpAny_bind (wpAny_setField e1 e3 (by simp) (wpAny_bind ?_))))
 simp only [newExc, newTuple]
 refine wpAny_bind (wpAny_newObj_type (wpAny_bind (m := firstArgMember _ _) (wpAny_of_eq (a := Value.none) (by first | rfl | (simp only [firstArgMember]; rfl)) (wpAny_newObj_type ?_ (by size_fits)))) (by size_fits))
 simp only [raiseNew]
 refine wpAny_bind (wpAny_handled (?_ : wpAny _ _ _ _ _ _))
 first | rw [show A.in1.handled = none from q0] | rw [q0]
 exact wpAny_bind (wpAny_pure (wpAny_throw (k _ _ (((Heap.SameBut.update ..).extBut.push _).push _) ⟨_, Heap.get?_push_size _ rfl, rfl⟩)))
theorem draws_tup (hh : A.handled = none) (it l : Addr) (hne : l ≠ it) (items : Array Value) :
  Draws prog w A it [it, l] items.size (fun i v => items[i]? = some v) (fun i h => h.IsTupleIter it l i ∧ h.IsTuple l items) where
 live := fun _ _ st => let ⟨o, ho, _⟩ := st.1; ⟨o, ho⟩
 frame := fun _ _ _ st hk => ⟨let ⟨o, ho, r⟩ := st.1; ⟨o, hk it (by simp) o ho, r⟩, let ⟨o, ho, r⟩ := st.2; ⟨o, hk l (by simp) o ho, r⟩⟩
 item := fun i s Q E hi st hQ => tup_nextOf st.1 st.2 (x := items[i]) (by simp [hi]) fun h' hit' hs' => hQ _ h' s.toks (by simp [hi]) ⟨hit', let ⟨o, ho, r⟩ := st.2; ⟨o, (hs'.2 l hne).trans ho, r⟩⟩ hs'
 done := fun s Q E st hE => tup_nextOf_end hh st.1 st.2 (by simp) hE
end
def IteT (K : PySem.W.Frag) (a : Addr) : It :=
 ⟨fun i H => ∃ xs x, SqT K H a xs ∧ xs[i]? = some x, fun i H v H' => ∃ p x, H p = none ∧ v = .ref p ∧ H' = upd H p (.tup [.int i, x]) ∧ ∀ xs, SqT K H a xs → xs[i]? = some x, fun i H => ∃ xs, SqT K H a xs ∧ xs.length ≤ i⟩
theorem cls_ne {h : Heap} {a b : Addr} {o u : Obj} (e : h.get? a = some o) (e' : h.get? b = some u) (n : o.cls ≠ u.cls) : a ≠ b := by
 rintro rfl; rw [e] at e'; cases e'; exact n rfl
theorem turn_enumT {P : Program} {w : World} {K : PySem.W.Frag} {elts : List Expr} {tk : Nat} {tpos : Pos} (a e it : Addr) : Turn P w K (.Tuple elts tk tpos) (IteT K a) [e, it] e (fun i h => (∃ old, IsEnum h e it i old) ∧ h.IsTupleIter it a i) where
 mem := by simp
 obj := fun i h st b hb => by
  obtain ⟨⟨old, he⟩, o, ho, hc, hd⟩ := st
  rcases List.mem_cons.mp hb with rfl | hb
  ·exact ⟨_, he, fun v z => by cases z⟩
  ·have eb : b = it := by simpa using hb
   subst eb
   exact ⟨o, ho, fun v z => by rw [hd] at z; cases z⟩
 keep := fun i h h' st k => by
  obtain ⟨⟨old, he⟩, o, ho, r⟩ := st
  exact ⟨⟨old, k e (by simp) _ he⟩, o, k it (by simp) o ho, r⟩
 item := by
  intro X hP hw hK hc i pins s σ H E I hf st hg
  subst hP hw hK
  obtain ⟨xs, x, hq, hx⟩ := hg
  obtain ⟨its, rv, p, hz⟩ := I.tuple hq
  obtain ⟨u, hu, ru⟩ := rv.get hx
  obtain ⟨⟨old, he⟩, hit⟩ := st
  obtain ⟨oi, hoi, hci, hdi⟩ := id hit
  obtain ⟨ot, hot, hct, nt, hdt⟩ := id p
  have hei : e ≠ it := cls_ne he hoi (by rw [hci]; show Value.type "enumerate" ≠ Value.type "tuple_iterator"; decide)
  have hea : e ≠ a := cls_ne he hot (by rw [hct]; show Value.type "enumerate" ≠ Value.type "tuple"; decide)
  have hai : a ≠ it := cls_ne hot hoi (by rw [hci, hct]; decide)
  have hlt : i < its.toArray.size := by
   have := (List.getElem?_eq_some_iff.mp hu).1
   simpa using this
  refine wpAny_pyNext_enum_itemD (draws_tup (show X.A.in1.handled = none from I.ok.hd hc) it a hai its.toArray) he ⟨hit, p⟩ hlt hei (by simp [hei, hea]) fun x' h' tk' hP ho hs' hT hsz hk => ?_
  have ex : x' = u := by
   have hP' : its.toArray[i]? = some x' := hP
   have : its[i]? = some x' := by simpa using hP'
   rw [hu] at this; exact (Option.some.inj this).symm
  subst ex
  refine ⟨_, rfl, wpAny_letOwnedTupleGo_enum ho fun h2 he2 hs2 => ?_⟩
  have het : e ≠ s.heap.objs.size := Nat.ne_of_lt (Heap.lt_size he)
  have new : ObjOk X.prog X.w (upd H s.heap.objs.size (.tup [.int i, x])) h2 s.heap.objs.size (.tup [.int i, x]) :=
   ⟨by show 2 ≤ sizeLine; decide, [.int i tk', x'], .cons ⟨tk', rfl⟩ (.cons ru .nil), ⟨_, (hs2.2 _ (Ne.symm het)).trans hT, rfl, _, rfl⟩, _, (hs2.2 _ (Ne.symm het)).trans hT, rfl⟩
  have kk : ∀ b o, b ∉ [e, it] → s.heap.get? b = some o → h2.get? b = some o := fun b o hb q => by
   have h1 : b ≠ e := fun z => hb (by simp [z])
   have h2' : b ≠ it := fun z => hb (by simp [z])
   exact (hs2.2 b h1).trans (hk b o h1 h2' q)
  have fresh := I.hok.fresh (Nat.le_refl s.heap.objs.size)
  refine ⟨.ref s.heap.objs.size, _, I.turnsNew (t' := tk' + 1) kk hf (Nat.le_refl _) new, rfl, ⟨_, x, fresh, rfl, rfl, fun ys hy => by rw [I.tuple_inj hy hq]; exact hx⟩, ⟨⟨_, he2⟩, ?_⟩, fun b hb => ?_⟩
  ·obtain ⟨o3, g1, g2, g3⟩ := hs'.1
   exact ⟨o3, (hs2.2 it (Ne.symm hei)).trans g1, g2, g3⟩
  ·have hb' : b ≠ s.heap.objs.size := by
    rcases List.mem_cons.mp hb with rfl | hb
    ·exact het
    ·rw [List.mem_singleton.mp hb]; exact Nat.ne_of_lt (Heap.lt_size hoi)
   rw [upd_ne hb']; exact (hf b hb).1
 done := by
  intro X hP hw hK hc i pins s σ H E I hf st hg
  subst hP hw hK
  obtain ⟨xs, hq, hx⟩ := hg
  obtain ⟨its, rv, p, hz⟩ := I.tuple hq
  obtain ⟨⟨old, he⟩, hit⟩ := st
  obtain ⟨oi, hoi, hci, hdi⟩ := id hit
  obtain ⟨ot, hot, hct, nt, hdt⟩ := id p
  have hai : a ≠ it := cls_ne hot hoi (by rw [hci, hct]; decide)
  have hl := rv.length
  unfold pyNext
  have hTy : s.TypeIs (.ref e) "enumerate" := ⟨_, he, rfl⟩
  refine wpAny_bind (wpAny_attempt (wpAny_callSpecial?_slot (name := Str.ofString "__next__") hTy F.slot_enumerate_next (wpAny_call_entry F.slot_enumerate_next hTy F.entry_enumerate_next ?_ (F.args_enumerate_next_1 _))))
  show wpAny (model X.prog X.w) X.A.in1 (field (.ref e) 2 >>= _) _ _ s
  refine wpAny_bind (wpAny_field he rfl (x := .ref it) rfl (wpAny_bind (tup_nextOf_end (I.ok.hd hc) hit p (by simp; omega) fun h' y g1 g2 => ?_)))
  obtain ⟨o, ho, hcl⟩ := g2
  refine wpAny_bind (wpAny_isInstance (T := "StopIteration") (b := true) ⟨o, ho, hcl⟩ isSubtype_stop (wpAny_pure ?_))
  exact ⟨rfl, I.turns (t' := s.toks) (fun b u hb q => g1 b u (fun z => hb (by simp [z])) q) hf⟩
 self := fun _ _ _ _ _ st h => by
  obtain ⟨⟨old, he⟩, _⟩ := st
  exact wpAny_pyIter_enum he h
theorem enum_newT (l : Addr) (items : Array Value) (n : Nat) (dct : Option Addr) (sl : Array (Option Value)) :
  Meets (Builtin.«enumerate.__new__» ⟨[.type "enumerate", .ref l], []⟩) (fun _ R s => s.heap.get? l = some { cls := .type "tuple", dict := dct, data := .seq items n, slots := sl } ∧
   R (.ok (.ret (.ref (s.heap.push { cls := .type "tuple_iterator", data := .fields #[.ref l, .int 0 0] }).objs.size)))
    { s with heap := (s.heap.push { cls := .type "tuple_iterator", data := .fields #[.ref l, .int 0 0] }).push { cls := .type "enumerate", data := .fields #[.none, .bool false, .ref s.heap.objs.size, rawInt 0, .none, .none] } }) :=
 .of_wp fun prog w A R s h => by
  obtain ⟨hp, g, d, tk, os⟩ := s; obtain ⟨q1, h⟩ := h
  have q0 := sub_enumerate
  have q2 : Heap.IsTuple (Shared.heap ⟨hp, g, d, tk, os⟩) l items := ⟨_, q1, rfl, n, rfl⟩
  wp_walk using AutoSeq1.wpAny_loadPart' q1
  refine wpAny_stack_any fun st0 => wpAny_pure ?_
  split
  ·rename_i c0 _ _ _ _ _
   cases (c0 == Value.type "enumerate") <;> (wp_walk using AutoSeq1.wpAny_loadPart' q1, wpAny_pyIter_tuple q2; exact ⟨_, rfl, h⟩)
  ·wp_walk using AutoSeq1.wpAny_loadPart' q1, wpAny_pyIter_tuple q2
   exact ⟨_, rfl, h⟩
section
variable {prog : Program} {w : World} {A : Around} {E : Value → Shared → Prop} {s : Shared}
theorem call_enumT {l : Addr} {items : Array Value} {Q : Value → Shared → Prop} (q2 : s.heap.IsTuple l items)
  (h : ∀ h', IsEnum h' (s.heap.objs.size + 1) s.heap.objs.size 0 .none → h'.IsTupleIter s.heap.objs.size l 0 → (∀ b o, s.heap.get? b = some o → h'.get? b = some o) → Q (.ref (s.heap.objs.size + 1)) { s with heap := h' }) :
  wpAny (model prog w) A (call (.type "enumerate") [.ref l]) Q E s := by
 obtain ⟨⟨c, dct, dt, sl⟩, q1, e1, n, e2⟩ := q2
 replace e1 : c = .type "tuple" := e1
 replace e2 : dt = .seq items n := e2
 subst e1 e2
 refine callType_new F.called_enumerate (by decide) (F.typeCall_enumerate_1 _) (F.newCall_enumerate_1 _) (fun obj => F.args_object_init_2 obj _) F.entry_enumerate_new (enum_newT l items n dct sl) ⟨q1, ?_⟩
 have z1 : (s.heap.push { cls := .type "tuple_iterator", data := .fields #[.ref l, .int 0 0] }).objs.size = s.heap.objs.size + 1 := Heap.size_push ..
 show _ ∧ _
 rw [z1]
 have q3 : IsEnum ((s.heap.push { cls := .type "tuple_iterator", data := .fields #[.ref l, .int 0 0] }).push { cls := .type "enumerate", data := .fields #[.none, .bool false, .ref s.heap.objs.size, rawInt 0, .none, .none] }) (s.heap.objs.size + 1) s.heap.objs.size 0 .none := by
  have := Heap.get?_push_size (s.heap.push { cls := .type "tuple_iterator", data := .fields #[.ref l, .int 0 0] }) (o := { cls := .type "enumerate", data := .fields #[.none, .bool false, .ref s.heap.objs.size, rawInt 0, .none, .none] }) rfl
  rw [z1] at this; exact this
 exact ⟨⟨_, q3, rfl⟩, h _ q3 ⟨_, Heap.get?_push_of_some _ (Heap.get?_push_size _ rfl), rfl, rfl⟩ fun b o x => Heap.get?_push_of_some _ (Heap.get?_push_of_some _ x)⟩
end
section
variable {X : Cx}
def iEnT (K : PySem.W.Frag) (ta : TA) : TI := fun σ H R => ta σ H fun vs H1 => ∃ a, vs = [.ref a] ∧ (∃ xs, SqT K H1 a xs) ∧ R (IteT K a) H1
theorem boot_enum : bootBuiltins "enumerate" = some (.type "enumerate") := by decide +kernel
theorem pi_enumT {a : Expr} {ta : TA} {p pos : Pos} {elts : List Expr} {tk : Nat} {tpos : Pos} (hg : Gl X "enumerate") (hm : X.mg "enumerate" = none) (ha : PA X [a] ta) (hs : starEach [a] X.env = [(false, eval a X.env)] := by rfl) : PI X (.Tuple elts tk tpos) (.Call (.Name "enumerate" p) [a] [] pos) (iEnT X.K ta) := by
 intro pins s σ H R I h
 refine Call_ (ld_blt I hg hm boot_enum (PyProof.Rows.callWith_type1 (thn (ha pos pins s σ H _ I h) fun us s1 ⟨vs, H1, I1, r1, q1⟩ => ?_) hs rfl))
 obtain ⟨l, e, ⟨xs, hq⟩, q⟩ := q1
 subst e
 obtain ⟨u, rfl, r⟩ := Vals.one r1
 cases (show u = Value.ref l from r)
 obtain ⟨its, rv, pt, hz⟩ := I1.tuple hq
 refine call_enumT (show s1.heap.IsTuple l its.toArray from pt) fun h' he hi hk => ?_
 refine wpAny_pyIter_enum he ⟨s1.heap.objs.size + 1, [s1.heap.objs.size + 1, s1.heap.objs.size], _, _, H1, rfl, I1.kept (t' := s1.toks) hk, turn_enumT l _ _, ⟨⟨_, he⟩, hi⟩, fun b hb => ?_, q⟩
 have hb' : s1.heap.objs.size ≤ b := by
  rcases List.mem_cons.mp hb with rfl | hb
  ·exact Nat.le_succ _
  ·rw [List.mem_singleton.mp hb]; exact Nat.le_refl _
 exact I1.fpOk hb' (I1.hok.fresh hb')
end
end L2
namespace L2
open PySem PySem.Spec PyProof.Rows
def Itr3 (lo c : Int) (n : Nat) : It := ⟨fun i _ => i < n, fun i H x H' => H' = H ∧ x = .int (lo + i * c), fun i _ => n ≤ i⟩
theorem turn_range3 {P : Program} {w : World} {K : PySem.W.Frag} {tg : Expr} (it : Addr) (lo c : Int) (n : Nat) : Turn P w K tg (Itr3 lo c n) [it] it (fun i h => IsRangeIter h it (lo + (i : Nat) * c) ((n : Int) - (i : Nat)) c) where
 mem := by simp
 obj := fun i h st b hb => by
  have e : b = it := by simpa using hb
  subst e
  refine ⟨_, st, fun v z => ?_⟩
  have z' : Data.fields _ = Data.cell v := z
  cases z'
 keep := fun i h h' st k => k it (by simp) _ st
 item := by
  intro X hP hw hK hc i pins s σ H E I hf st hg
  subst hP hw hK
  obtain ⟨f0, f1, f2, f3, f4, f5⟩ := hf it (by simp)
  refine (Walks.range (prog := X.prog) (w := X.w) (I.ok.hd hc) it lo c n).item i s _ _ hg st fun v h' tk hv st' kk => ?_
  obtain ⟨t, rfl⟩ := hv
  have I1 : Inv X pins σ H { s with heap := h', toks := tk } := I.turned (fun b o hb e => kk b o (by simpa using hb) e) f0 f1 f3 f4 f5
  exact ⟨_, rfl, go_of (s := { s with heap := h', toks := tk }) (n := "range_iterator") st' rfl rfl (by decide) ⟨.int (lo + i * c), H, I1, ⟨t, rfl⟩, ⟨rfl, rfl⟩, st', fun b hb => (hf b hb).1⟩⟩
 done := by
  intro X hP hw hK hc i pins s σ H E I hf st hg
  subst hP hw hK
  obtain ⟨f0, f1, f2, f3, f4, f5⟩ := hf it (by simp)
  have hg' : n ≤ i := hg
  exact wpAny_pyNext_range_end (I.ok.hd hc) st (by omega) fun h' eb => ⟨rfl, I.turned (t' := s.toks) (fun b o hb e => eb b o hb e) f0 f1 f3 f4 f5⟩
 self := fun _ _ _ _ _ st h => wpAny_pyIter_rangeiter st h
section
variable {X : Cx}
theorem boot_lst : bootBuiltins "list" = some (.type "list") := by decide +kernel
end
end L2
namespace L2
open PySem PySem.Spec PyProof.Rows
section
variable {X : Cx} {K : PySem.W.Frag}
theorem ix_tupK (e : X.K = K) : IxR X (rIxT K) := by subst e; exact ix_tup
theorem ix_listK (e : X.K = K) : IxR X (rIxL K) := by subst e; exact ix_list
theorem sl_listK (e : X.K = K) : SlR X (rSlL K) := by subst e; exact sl_list
theorem op_eqDK (e : X.K = K) (hu : X.A.units + 64 < cLine) : OpR X (compareOp .Eq) (rEqD K fun b => b) := by subst e; exact op_eqD hu
theorem op_neDK (e : X.K = K) (hu : X.A.units + 64 < cLine) : OpR X (compareOp .NotEq) (rEqD K fun b => !b) := by subst e; exact op_neD hu
theorem call_lenK (e : X.K = K) : CallR X (.builtin "len") (fun xs H Q => ∃ p ys, xs = [.ref p] ∧ (SqL K H p ys ∨ SqT K H p ys) ∧ Q (.int ys.length) H) := by subst e; exact call_len_seq
theorem call_tupleK (e : X.K = K) : CallR X (.type "tuple") (fun xs H Q => ∃ p ys, xs = [.ref p] ∧ ((SqL K H p ys ∧ ∀ l, H l = none → Q (.ref l) (upd H l (.tup ys))) ∨ (SqT K H p ys ∧ Q (.ref p) H))) := by subst e; exact call_tuple_of
end
theorem st_BinOp {a : Expr} {op : Operator} {b : Expr} {p : Pos} {es : List Expr} {env : Env} : starEach (.BinOp a op b p :: es) env = (false, eval (.BinOp a op b p) env) :: starEach es env := rfl
theorem st_UnaryOp {op : UnaryOp} {a : Expr} {p : Pos} {es : List Expr} {env : Env} : starEach (.UnaryOp op a p :: es) env = (false, eval (.UnaryOp op a p) env) :: starEach es env := rfl
theorem st_ListComp {a : Expr} {g : List Comprehension} {sc : Scope} {p : Pos} {es : List Expr} {env : Env} : starEach (.ListComp a g sc p :: es) env = (false, eval (.ListComp a g sc p) env) :: starEach es env := rfl
theorem st_Compare {a : Expr} {ops : List CmpOp} {cs : List Expr} {p : Pos} {es : List Expr} {env : Env} : starEach (.Compare a ops cs p :: es) env = (false, eval (.Compare a ops cs p) env) :: starEach es env := rfl
theorem st_Call {f : Expr} {as : List Expr} {kw : List Keyword} {p : Pos} {es : List Expr} {env : Env} : starEach (.Call f as kw p :: es) env = (false, eval (.Call f as kw p) env) :: starEach es env := rfl
theorem st_Constant {c : Const} {k : Nat} {p : Pos} {es : List Expr} {env : Env} : starEach (.Constant c k p :: es) env = (false, eval (.Constant c k p) env) :: starEach es env := rfl
theorem st_Subscript {a b : Expr} {p : Pos} {es : List Expr} {env : Env} : starEach (.Subscript a b p :: es) env = (false, eval (.Subscript a b p) env) :: starEach es env := rfl
theorem st_Name {n : Str} {p : Pos} {es : List Expr} {env : Env} : starEach (.Name n p :: es) env = (false, eval (.Name n p) env) :: starEach es env := rfl
theorem st_List {as : List Expr} {p : Pos} {es : List Expr} {env : Env} : starEach (.List as p :: es) env = (false, eval (.List as p) env) :: starEach es env := rfl
theorem st_Tuple {as : List Expr} {k : Nat} {p : Pos} {es : List Expr} {env : Env} : starEach (.Tuple as k p :: es) env = (false, eval (.Tuple as k p) env) :: starEach es env := rfl
def tyN : PyData → String
 | .none => "NoneType"
 | .bool _ => "bool"
 | .int _ => "int"
 | .str _ => "str"
 | .list _ => "list"
 | .tuple _ => "tuple"
 | .dict _ => "dict"
def rIsD (K : PySem.W.Frag) : List V → Hp → VK → Prop := fun xs H Q => ∃ G x d n b, xs = [x, .ty n] ∧ Same G H ∧ Dat K G x d ∧ PySem.W.kitOne K (.type (tyN d)) (.type n) = some b ∧ Q (.bl b) H
theorem call_isD {X : Cx} {K : PySem.W.Frag} (eK : X.K = K) : CallR X (.builtin "isinstance") (rIsD K) := by
 subst eK
 intro pins s σ H xs us Q I r h
 obtain ⟨G, x, d, n, b, rfl, sg, hd, e, q⟩ := h
 obtain ⟨u, w', rfl, rx, ry⟩ := vals2 r
 cases (show w' = Value.type n from ry)
 have fin : ∀ tk, EP X pins σ Q (.bool b) { s with toks := tk } := fun tk => ⟨.bl b, H, I.tok _, rfl, q⟩
 cases d with
 | none => rw [hd.non] at rx; exact isinst_ok I rx .non e fin
 | bool y => rw [hd.bl] at rx; exact isinst_ok I rx (.bl y) e fin
 | int i => rw [hd.int] at rx; exact isinst_ok I rx (.int i) e fin
 | str y => rw [hd.str] at rx; exact isinst_ok I rx (.str y) e fin
 | list ds =>
  obtain ⟨p, ys, rfl, hp, _⟩ := hd.lst
  cases (show u = Value.ref p from rx)
  obtain ⟨its, _, ⟨o, n', e1, c, _⟩, _⟩ := I.list (SqL.of (sg _ _ hp))
  exact PySem.W.kia_one PySem.W.kitx_list I.kIn ⟨o, e1, c⟩ e (fun z => nomatch z) fin
 | tuple ds =>
  obtain ⟨p, ys, rfl, hp, _⟩ := hd.tup
  cases (show u = Value.ref p from rx)
  obtain ⟨its, _, ⟨o, e1, c, _⟩, _⟩ := I.tuple (sg.tup hp)
  exact PySem.W.kia_one PySem.W.kitx_tuple I.kIn ⟨o, e1, c⟩ e (fun z => nomatch z) fin
 | dict _ => unfold Dat at hd; exact hd.elim
theorem ev_isD {K : PySem.W.Frag} {σ : St} {G : Hp} {ta : TE} {d : PyData} {n : String} {b : Bool} (ha : Ev K ta σ G d) (e : PySem.W.kitOne K (.type (tyN d)) (.type n) = some b) : Ev K (tCB (rIsD K) (tCons ta (tCons (tC (.ty n)) tNil))) σ G (.bool b) :=
 fun G1 H s1 s2 Q k => ha G1 H s1 s2 _ fun x G2 H2 g2 hx => ⟨G2, x, d, n, b, rfl, g2.gh, hx, e, k _ G2 H2 g2 (dat_bl b)⟩
end L2
namespace L2
open PySem PySem.Spec PyProof.Rows
section
variable {prog : Program} {w : World} {A : Around} {E : Value → Shared → Prop} {s : Shared}
abbrev pz (vs : List Value) : Array Keyed := vs.toArray.zip vs.toArray
end
end L2
namespace Big
open PySem PyProof.Rows
noncomputable section
abbrev P (α : Type) := SortSt → Option (α × SortSt)
def lab (k : Keyed) : Nat := match k.1 with
 | .int n _ => n.toNat
 | _ => 0
structure Cf where
 prog : Program
 w : World
 A : Around
 E : Value → Shared → Prop
 s : Shared
 g : Keyed → Keyed
 κ : SortKind
 N : Nat
 ltk : ∀ {x y : Keyed} {st : SortSt} {Q : Option Bool → SortSt → Prop}, lab x < N → lab y < N → kindOf st = κ → Q (some (decide (lab x < lab y))) st → wpS (model prog w) A E s (lt' (g x) (g y)) Q st
def stG (C : Cf) (st : SortSt) : SortSt := SortSt.mk' C.κ ((arrOf st).map C.g) (pendingOf st) (gallopOf st) none
class Rep (C : Cf) (α : Type) where
 γ : α → α
instance rNat {C : Cf} : Rep C Nat := ⟨fun x => x⟩
instance rBool {C : Cf} : Rep C Bool := ⟨fun x => x⟩
instance rUnit {C : Cf} : Rep C PUnit.{1} := ⟨fun x => x⟩
instance rProd {C : Cf} {α β : Type} [Rep C α] [Rep C β] : Rep C (α × β) := ⟨fun x => (Rep.γ C x.1, Rep.γ C x.2)⟩
instance rOpt {C : Cf} {α : Type} [Rep C α] : Rep C (Option α) := ⟨Option.map (Rep.γ C)⟩
instance rStep {C : Cf} {α : Type} [Rep C α] : Rep C (ForInStep α) := ⟨fun
 | .done x => .done (Rep.γ C x)
 | .yield x => .yield (Rep.γ C x)⟩
instance rKey {C : Cf} : Rep C Keyed := ⟨fun x => C.g x⟩
instance rArr {C : Cf} : Rep C (Array Keyed) := ⟨fun a => a.map C.g⟩
instance rSt {C : Cf} : Rep C SortSt := ⟨fun x => stG C x⟩
structure Wit (C : Cf) {α : Type} [Rep C α] (b : α) where
 a : α
 h : b = Rep.γ C a
section
variable {C : Cf} {α β : Type} [Rep C α] [Rep C β]
def wNat {n : Nat} : Wit C n := ⟨n, rfl⟩
def wBool {n : Bool} : Wit C n := ⟨n, rfl⟩
def wUnit {n : PUnit.{1}} : Wit C n := ⟨n, rfl⟩
def wPair {x : α} {y : β} (X : Wit C x) (Y : Wit C y) : Wit C (x, y) := ⟨(X.a, Y.a), by obtain ⟨X, rfl⟩ := X; obtain ⟨Y, rfl⟩ := Y; rfl⟩
def wNone : Wit C (none : Option α) := ⟨none, rfl⟩
def wSome {x : α} (X : Wit C x) : Wit C (some x) := ⟨some X.a, by obtain ⟨X, rfl⟩ := X; rfl⟩
def wDone {x : α} (X : Wit C x) : Wit C (ForInStep.done x) := ⟨.done X.a, by obtain ⟨X, rfl⟩ := X; rfl⟩
def wYield {x : α} (X : Wit C x) : Wit C (ForInStep.yield x) := ⟨.yield X.a, by obtain ⟨X, rfl⟩ := X; rfl⟩
def wKey {x : Keyed} : Wit C (C.g x) := ⟨x, rfl⟩
def wArr {x : Array Keyed} : Wit C (x.map C.g) := ⟨x, rfl⟩
def wPush {x : Array Keyed} {y : Keyed} (X : Wit C x) (Y : Wit C y) : Wit C (x.push y) := ⟨X.a.push Y.a, by obtain ⟨X, rfl⟩ := X; obtain ⟨Y, rfl⟩ := Y; exact Array.map_push.symm⟩
def wOne {y : Keyed} (Y : Wit C y) : Wit C #[y] := ⟨#[Y.a], by obtain ⟨Y, rfl⟩ := Y; show #[C.g Y] = (#[Y] : Array Keyed).map C.g; simp⟩
def wApp {x y : Array Keyed} (X : Wit C x) (Y : Wit C y) : Wit C (x ++ y) := ⟨⟨X.a.toList ++ Y.a.toList⟩, by obtain ⟨X, rfl⟩ := X; obtain ⟨Y, rfl⟩ := Y; apply Array.toList_inj.mp; show (X.map C.g ++ Y.map C.g).toList = ((⟨X.toList ++ Y.toList⟩ : Array Keyed).map C.g).toList; simp⟩
def wExt {x : Array Keyed} {i j : Nat} (X : Wit C x) : Wit C (x.extract i j) := ⟨⟨(X.a.toList.drop i).take (j - i)⟩, by obtain ⟨X, rfl⟩ := X; apply Array.toList_inj.mp; show ((X.map C.g).extract i j).toList = ((⟨(X.toList.drop i).take (j - i)⟩ : Array Keyed).map C.g).toList; rw [Array.toList_extract, List.extract_eq_drop_take, Array.toList_map, Array.toList_map, List.map_take, List.map_drop]⟩
def wRev {x : Array Keyed} (X : Wit C x) : Wit C x.reverse := ⟨X.a.reverse, by obtain ⟨X, rfl⟩ := X; show (X.map C.g).reverse = X.reverse.map C.g; simp⟩
end
structure Sim (C : Cf) {α : Type} [Rep C α] (m : StateT SortSt Sem α) where
 p : P α
 ok : ∀ {sp a sp'}, p sp = some (a, sp') → ∀ {Q : α → SortSt → Prop}, Q (Rep.γ C a) (stG C sp') → wpS (model C.prog C.w) C.A C.E C.s m Q (stG C sp)
variable {C : Cf} {α β : Type} [Rep C α] [Rep C β]
def simE {m m' : StateT SortSt Sem α} (h : m = m') (S : Sim C m') : Sim C m := ⟨S.p, by rw [h]; exact S.ok⟩
def simPure {b : α} (W : Wit C b) : Sim C (pure b) := ⟨fun sp => some (W.a, sp), fun e Q q => by cases e; exact wpS_pure (by rw [W.h]; exact q)⟩
def simBind {m : StateT SortSt Sem α} {f : α → StateT SortSt Sem β} (S : Sim C m) (F : ∀ a, Sim C (f (Rep.γ C a))) : Sim C (m >>= f) :=
 ⟨fun sp => match S.p sp with
  | none => none
  | some (a, sp') => (F a).p sp', fun {sp a sp'} e Q q => by
  refine wpS_bind ?_
  split at e
  ·exact absurd e (by simp)
  ·rename_i b s1 h
   exact S.ok h ((F b).ok e q)⟩
def simIte {c : Prop} {inst : Decidable c} {m m' : StateT SortSt Sem α} (S : Sim C m) (S' : Sim C m') : Sim C (if c then m else m') :=
 ⟨fun sp => if c then S.p sp else S'.p sp, fun {sp a sp'} e Q q => by
  by_cases h : c
  ·rw [if_pos h] at e ⊢; exact S.ok e q
  ·rw [if_neg h] at e ⊢; exact S'.ok e q⟩
def simGet : Sim C (get : StateT SortSt Sem SortSt) := ⟨fun sp => some (sp, sp), fun e Q q => by cases e; exact wpS_get q⟩
def simModify {f : SortSt → SortSt} (f' : SortSt → SortSt) (h : ∀ sp, f (stG C sp) = stG C (f' sp)) : Sim C (modify f : StateT SortSt Sem PUnit) := ⟨fun sp => some (⟨⟩, f' sp), fun e Q q => by cases e; exact wpS_modify (by rw [h]; exact q)⟩
def simRule (r : String) : Sim C (liftM (rule r) : StateT SortSt Sem Unit) := ⟨fun sp => some ((), sp), fun e Q q => by cases e; exact wpS_lift (wpAny_rule ⟨rfl, q⟩)⟩
def simNone {m : StateT SortSt Sem α} : Sim C m := ⟨fun _ => none, fun e => by cases e⟩
def pList (F : Nat → β → P (ForInStep β)) : List Nat → β → P β
 | [], b, sp => some (b, sp)
 | i :: l, b, sp => match F i b sp with
  | none => none
  | some (.done c, sp') => some (c, sp')
  | some (.yield c, sp') => pList F l c sp'
theorem list_ok {f : Nat → β → StateT SortSt Sem (ForInStep β)} (F : ∀ i b, Sim C (f i (Rep.γ C b))) : ∀ {l : List Nat} {b : β} {sp a sp'}, pList (fun i b => (F i b).p) l b sp = some (a, sp') → ∀ {Q : β → SortSt → Prop}, Q (Rep.γ C a) (stG C sp') → wpS (model C.prog C.w) C.A C.E C.s (forIn l (Rep.γ C b) f) Q (stG C sp)
 | [], b, sp, a, sp', e, Q, q => by cases e; rw [List.forIn_nil]; exact wpS_pure q
 | i :: l, b, sp, a, sp', e, Q, q => by
  rw [List.forIn_cons]
  rw [pList] at e
  refine wpS_bind ?_
  split at e
  ·exact absurd e (by simp)
  ·rename_i c s1 h
   cases e
   exact (F i b).ok h (wpS_pure q)
  ·rename_i c s1 h
   exact (F i b).ok h (list_ok F e q)
def simFor {x y : Nat} {b' : β} {f : Nat → β → StateT SortSt Sem (ForInStep β)} (W : Wit C b') (F : ∀ i b, Sim C (f i (Rep.γ C b))) : Sim C (forIn [x:y] b' f) :=
 ⟨pList (fun i b => (F i b).p) (List.range' x (y - x) 1) W.a, fun {sp a sp'} e Q q => by
  rw [Std.Legacy.Range.forIn_eq_forIn_range', W.h]
  have hsz : ([x:y] : Std.Legacy.Range).size = y - x := by simp [Std.Legacy.Range.size]
  show wpS _ _ _ _ (forIn (List.range' x ([x:y] : Std.Legacy.Range).size 1) _ f) Q _
  rw [hsz]
  exact list_ok F e q⟩
def simModId {f : SortSt → SortSt} (h : ∀ sp, f (stG C sp) = stG C (f sp)) : Sim C (modify f : StateT SortSt Sem PUnit) := simModify f h
def simSet {x : SortSt} (y : SortSt) (h : x = stG C y) : Sim C (set x : StateT SortSt Sem PUnit) := ⟨fun sp => some (⟨⟩, y), fun e Q q => by cases e; rw [h]; exact wpS_modify (f := fun _ => stG C y) q⟩
def simLt {x y : Keyed} : Sim C (lt' (C.g x) (C.g y)) := ⟨fun sp => if lab x < C.N ∧ lab y < C.N then some (some (decide (lab x < lab y)), sp) else none, fun {sp a sp'} e Q q => by
 split at e
 ·rename_i h
  cases e
  exact C.ltk h.1 h.2 rfl q
 ·cases e⟩
def nthR (l : List Keyed) : Nat → Option Keyed := List.rec (motive := fun _ => Nat → Option Keyed) (fun _ => none) (fun x _ ih i => Nat.rec (some x) (fun j _ => ih j) i) l
theorem nthR_eq : ∀ (l : List Keyed) (i : Nat), nthR l i = l[i]?
 | [], _ => rfl
 | _ :: _, 0 => rfl
 | x :: l, i + 1 => (show nthR l i = _ from nthR_eq l i)
def simElem {a : Array Keyed} {i : Nat} : Sim C (elem' (a.map C.g) i) := ⟨fun sp => match nthR a.toList i with
  | none => none
  | some p => some (p, sp), fun {sp b sp'} e Q q => by
 rw [elem'_eq, Array.getElem?_map]
 rw [nthR_eq, Array.getElem?_toList] at e
 split at e
 ·cases e
 ·rename_i h
  cases e
  rw [h]
  exact wpS_pure q⟩
def simLtAt {i j : Nat} : Sim C (ltAt' i j) := simE (ltAt'_eq i j) (simBind simGet fun st => simBind simElem fun x => simBind simElem fun y => simLt)
theorem map_swaps {ι : Type} (g : Keyed → Keyed) (p q : ι → Nat) : ∀ (l : List ι) (a : Array Keyed), l.foldl (fun a k => a.swapIfInBounds (p k) (q k)) (a.map g) = (l.foldl (fun a k => a.swapIfInBounds (p k) (q k)) a).map g
 | [], _ => rfl
 | k :: l, a => by
  rw [List.foldl_cons, List.foldl_cons, ← map_swaps g p q l]
  congr 1
  apply Array.ext_getElem?
  intro i
  by_cases h1 : p k < a.size
  ·by_cases h2 : q k < a.size
   ·rw [getElem?_swapIB (by simpa using h1) (by simpa using h2)]
    simp only [Array.getElem?_map]
    rw [getElem?_swapIB h1 h2]
    split
    ·rfl
    ·split <;> rfl
   ·rw [Array.swapIfInBounds_def, dif_pos (by simpa using h1), dif_neg (by simpa using h2), Array.swapIfInBounds_def, dif_pos h1, dif_neg h2]
  ·rw [Array.swapIfInBounds_def, dif_neg (by simpa using h1), Array.swapIfInBounds_def, dif_neg h1]
def simRev {i j : Nat} : Sim C (reverseSlice' i j) := simE (reverseSlice'_eq i j) (simModify (fun s => setArr s (mirror (arrOf s) i j ((j - i) / 2))) fun sp => by
 show SortSt.mk' _ (mirror ((arrOf sp).map C.g) i j ((j - i) / 2)) _ _ _ = SortSt.mk' _ ((mirror (arrOf sp) i j ((j - i) / 2)).map C.g) _ _ _
 unfold mirror; rw [map_swaps]; rfl)
theorem mk_at (l : List Keyed) (k : Nat) : (Array.mk l)[k]? = l[k]? := by rw [← Array.getElem?_toList]
theorem bubble_list {a : Array Keyed} {i j : Nat} {x : Keyed} (h : a.toList[i]? = some x) (hj : j ≤ i) : bubble a i (i - j) = ⟨a.toList.take j ++ (x :: ((a.toList.drop j).take (i - j) ++ a.toList.drop (i + 1)))⟩ := by
 obtain ⟨hi, hx⟩ := List.getElem?_eq_some_iff.mp h
 have hi' : i < a.size := by simpa using hi
 apply Array.ext_getElem?
 intro k
 rw [getElem?_bubble hi' _ (by omega)]
 refine Eq.trans ?_ (mk_at _ k).symm
 have hl : a.toList.length = a.size := Array.length_toList
 by_cases c1 : k < j
 ·rw [if_neg (by omega), if_neg (by omega), List.getElem?_append_left (by rw [List.length_take]; omega), List.getElem?_take, if_pos c1, Array.getElem?_toList]
 ·rw [List.getElem?_append_right (by rw [List.length_take]; omega), List.length_take, Nat.min_eq_left (by omega)]
  by_cases c2 : k = j
  ·subst c2
   rw [if_pos (by omega), Nat.sub_self, List.getElem?_cons_zero, ← h, Array.getElem?_toList]
  ·obtain ⟨q, hq⟩ : ∃ q, k - j = q + 1 := ⟨k - j - 1, by omega⟩
   rw [if_neg (by omega), hq, List.getElem?_cons_succ]
   by_cases c3 : k ≤ i
   ·rw [if_pos ⟨by omega, c3⟩, List.getElem?_append_left (by rw [List.length_take, List.length_drop]; omega), List.getElem?_take, if_pos (by omega), List.getElem?_drop, Array.getElem?_toList]
    congr 1; omega
   ·rw [if_neg (by omega), List.getElem?_append_right (by rw [List.length_take, List.length_drop]; omega), List.length_take, List.length_drop, Nat.min_eq_left (by omega), List.getElem?_drop, Array.getElem?_toList]
    congr 1; omega
def simDown {i j : Nat} : Sim C (moveDown' i j) := ⟨fun sp => match nthR (arrOf sp).toList i with
  | none => none
  | some x => if j ≤ i then some ((), setArr sp ⟨(arrOf sp).toList.take j ++ (x :: (((arrOf sp).toList.drop j).take (i - j) ++ (arrOf sp).toList.drop (i + 1)))⟩) else none, fun {sp a sp'} e Q q => by
 rw [nthR_eq] at e
 split at e
 ·cases e
 ·rename_i x h
  split at e
  ·rename_i hj
   cases e
   rw [← bubble_list h hj] at q
   rw [moveDown'_eq]
   refine wpS_modify ?_
   have e1 : setArr (stG C sp) (bubble (arrOf (stG C sp)) i (i - j)) = stG C (setArr sp (bubble (arrOf sp) i (i - j))) := by
    show SortSt.mk' _ (bubble ((arrOf sp).map C.g) i (i - j)) _ _ _ = SortSt.mk' _ ((bubble (arrOf sp) i (i - j)).map C.g) _ _ _
    unfold bubble; rw [map_swaps]; rfl
   rw [e1]
   exact q
  ·cases e⟩
def simCount {lo n : Nat} : Sim C (countRun' lo n) := by
 refine simBind ?_ (fun | (none, b) => ?_ | (some r, b) => ?_)
 all_goals repeat' ((try dsimp only [Rep.γ, rNat, rBool, rUnit, rProd, rOpt, rStep, rKey, rArr, rSt, Option.map, stG, SortSt.mk', kindOf, arrOf, pendingOf, gallopOf, failedOf]); first | with_reducible refine simBind ?_ (fun | (none, b) => ?_ | (some r, b) => ?_) | with_reducible refine simBind ?_ (fun | none => ?_ | some b => ?_) | with_reducible refine simBind ?_ (fun b => ?_) | with_reducible refine simIte ?_ ?_ | ((with_reducible refine simFor ?W (fun i b => ?_)); (case W => (repeat' first | exact wNat | exact wBool | exact wUnit | with_reducible exact wNone | with_reducible exact wArr | with_reducible exact wKey | with_reducible refine wPair ?_ ?_ | with_reducible refine wSome ?_ | with_reducible refine wDone ?_ | with_reducible refine wYield ?_ | with_reducible refine wPush ?_ ?_ | with_reducible refine wApp ?_ ?_ | with_reducible refine wExt ?_ | with_reducible refine wRev ?_ | with_reducible refine wOne ?_); done)) | ((with_reducible refine simPure ?_); ((repeat' first | exact wNat | exact wBool | exact wUnit | with_reducible exact wNone | with_reducible exact wArr | with_reducible exact wKey | with_reducible refine wPair ?_ ?_ | with_reducible refine wSome ?_ | with_reducible refine wDone ?_ | with_reducible refine wYield ?_ | with_reducible refine wPush ?_ ?_ | with_reducible refine wApp ?_ ?_ | with_reducible refine wExt ?_ | with_reducible refine wRev ?_ | with_reducible refine wOne ?_); done)) | with_reducible exact simRule _ | exact simLtAt | exact simRev | exact simDown | exact simLt | exact simElem | exact simNone)
def simBinary {lo n k : Nat} : Sim C (binarySort' lo n k) := by
 refine simBind ?_ (fun | (none, b) => ?_ | (some r, b) => ?_)
 all_goals repeat' ((try dsimp only [Rep.γ, rNat, rBool, rUnit, rProd, rOpt, rStep, rKey, rArr, rSt, Option.map, stG, SortSt.mk', kindOf, arrOf, pendingOf, gallopOf, failedOf]); first | with_reducible refine simBind ?_ (fun | (none, b) => ?_ | (some r, b) => ?_) | with_reducible refine simBind ?_ (fun | none => ?_ | some b => ?_) | with_reducible refine simBind ?_ (fun b => ?_) | with_reducible refine simIte ?_ ?_ | ((with_reducible refine simFor ?W (fun i b => ?_)); (case W => (repeat' first | exact wNat | exact wBool | exact wUnit | with_reducible exact wNone | with_reducible exact wArr | with_reducible exact wKey | with_reducible refine wPair ?_ ?_ | with_reducible refine wSome ?_ | with_reducible refine wDone ?_ | with_reducible refine wYield ?_ | with_reducible refine wPush ?_ ?_ | with_reducible refine wApp ?_ ?_ | with_reducible refine wExt ?_ | with_reducible refine wRev ?_ | with_reducible refine wOne ?_); done)) | ((with_reducible refine simPure ?_); ((repeat' first | exact wNat | exact wBool | exact wUnit | with_reducible exact wNone | with_reducible exact wArr | with_reducible exact wKey | with_reducible refine wPair ?_ ?_ | with_reducible refine wSome ?_ | with_reducible refine wDone ?_ | with_reducible refine wYield ?_ | with_reducible refine wPush ?_ ?_ | with_reducible refine wApp ?_ ?_ | with_reducible refine wExt ?_ | with_reducible refine wRev ?_ | with_reducible refine wOne ?_); done)) | with_reducible exact simRule _ | exact simLtAt | exact simRev | exact simDown | exact simLt | exact simElem | exact simNone)
def gallop' : Bool → Keyed → Array Keyed → Nat → Nat → Nat → StateT SortSt Sem (Option Nat) := sortPriv% PySem.Builtin.gallop
def simGallop {left : Bool} {key : Keyed} {arr : Array Keyed} {base n hint : Nat} : Sim C (gallop' left (C.g key) (arr.map C.g) base n hint) := by
 refine simBind ?_ (fun | none => ?_ | some b => ?_)
 all_goals repeat' ((try dsimp only [Rep.γ, rNat, rBool, rUnit, rProd, rOpt, rStep, rKey, rArr, rSt, Option.map, stG, SortSt.mk', kindOf, arrOf, pendingOf, gallopOf, failedOf]); first | with_reducible refine simBind ?_ (fun | (none, b) => ?_ | (some r, b) => ?_) | with_reducible refine simBind ?_ (fun | none => ?_ | some b => ?_) | with_reducible refine simBind ?_ (fun b => ?_) | with_reducible refine simIte ?_ ?_ | ((with_reducible refine simFor ?W (fun i b => ?_)); (case W => (repeat' first | exact wNat | exact wBool | exact wUnit | with_reducible exact wNone | with_reducible exact wArr | with_reducible exact wKey | with_reducible refine wPair ?_ ?_ | with_reducible refine wSome ?_ | with_reducible refine wDone ?_ | with_reducible refine wYield ?_ | with_reducible refine wPush ?_ ?_ | with_reducible refine wApp ?_ ?_ | with_reducible refine wExt ?_ | with_reducible refine wRev ?_ | with_reducible refine wOne ?_); done)) | ((with_reducible refine simPure ?_); ((repeat' first | exact wNat | exact wBool | exact wUnit | with_reducible exact wNone | with_reducible exact wArr | with_reducible exact wKey | with_reducible refine wPair ?_ ?_ | with_reducible refine wSome ?_ | with_reducible refine wDone ?_ | with_reducible refine wYield ?_ | with_reducible refine wPush ?_ ?_ | with_reducible refine wApp ?_ ?_ | with_reducible refine wExt ?_ | with_reducible refine wRev ?_ | with_reducible refine wOne ?_); done)) | with_reducible exact simRule _ | exact simLtAt | exact simRev | exact simDown | exact simLt | exact simElem | exact simNone)
def simCut {f : Unit → StateT SortSt Sem α} : Sim C ((liftM (rule "list.sort.gallop") : StateT SortSt Sem Unit) >>= f) := simNone
def mergeLo' : Array Keyed → Array Keyed → StateT SortSt Sem (Array Keyed) := sortPriv% PySem.Builtin.mergeLo
def mergeHi' : Array Keyed → Array Keyed → StateT SortSt Sem (Array Keyed) := sortPriv% PySem.Builtin.mergeHi
def simLo {x y : Array Keyed} : Sim C (mergeLo' (x.map C.g) (y.map C.g)) := by
 refine simBind (simRule _) (fun b => ?_)
 refine simE (m' := ?m) ?h ?s
 case h => (conv => lhs; simp only [Array.size_map])
 all_goals repeat' ((try dsimp only [Rep.γ, rNat, rBool, rUnit, rProd, rOpt, rStep, rKey, rArr, rSt, Option.map, stG, SortSt.mk', kindOf, arrOf, pendingOf, gallopOf, failedOf]); first | with_reducible exact simCut | with_reducible refine simBind ?_ (fun | (none, b) => ?_ | (some r, b) => ?_) | with_reducible refine simBind ?_ (fun | none => ?_ | some b => ?_) | with_reducible refine simBind ?_ (fun b => ?_) | with_reducible refine simIte ?_ ?_ | ((with_reducible refine simFor ?W (fun i b => ?_)); (case W => (repeat' first | exact wNat | exact wBool | exact wUnit | with_reducible exact wNone | with_reducible exact wArr | with_reducible exact wKey | with_reducible refine wPair ?_ ?_ | with_reducible refine wSome ?_ | with_reducible refine wDone ?_ | with_reducible refine wYield ?_ | with_reducible refine wPush ?_ ?_ | with_reducible refine wApp ?_ ?_ | with_reducible refine wExt ?_ | with_reducible refine wRev ?_ | with_reducible refine wOne ?_); done)) | ((with_reducible refine simPure ?_); ((repeat' first | exact wNat | exact wBool | exact wUnit | with_reducible exact wNone | with_reducible exact wArr | with_reducible exact wKey | with_reducible refine wPair ?_ ?_ | with_reducible refine wSome ?_ | with_reducible refine wDone ?_ | with_reducible refine wYield ?_ | with_reducible refine wPush ?_ ?_ | with_reducible refine wApp ?_ ?_ | with_reducible refine wExt ?_ | with_reducible refine wRev ?_ | with_reducible refine wOne ?_); done)) | with_reducible exact simRule _ | exact simElem | exact simLt | exact simGallop | exact simGet | exact simSetG | exact simNone)
def simHi {x y : Array Keyed} : Sim C (mergeHi' (x.map C.g) (y.map C.g)) := by
 refine simBind (simRule _) (fun b => ?_)
 refine simE (m' := ?m) ?h ?s
 case h => (conv => lhs; simp only [Array.size_map])
 all_goals repeat' ((try dsimp only [Rep.γ, rNat, rBool, rUnit, rProd, rOpt, rStep, rKey, rArr, rSt, Option.map, stG, SortSt.mk', kindOf, arrOf, pendingOf, gallopOf, failedOf]); first | with_reducible exact simCut | with_reducible refine simBind ?_ (fun | (none, b) => ?_ | (some r, b) => ?_) | with_reducible refine simBind ?_ (fun | none => ?_ | some b => ?_) | with_reducible refine simBind ?_ (fun b => ?_) | with_reducible refine simIte ?_ ?_ | ((with_reducible refine simFor ?W (fun i b => ?_)); (case W => (repeat' first | exact wNat | exact wBool | exact wUnit | with_reducible exact wNone | with_reducible exact wArr | with_reducible exact wKey | with_reducible refine wPair ?_ ?_ | with_reducible refine wSome ?_ | with_reducible refine wDone ?_ | with_reducible refine wYield ?_ | with_reducible refine wPush ?_ ?_ | with_reducible refine wApp ?_ ?_ | with_reducible refine wExt ?_ | with_reducible refine wRev ?_ | with_reducible refine wOne ?_); done)) | ((with_reducible refine simPure ?_); ((repeat' first | exact wNat | exact wBool | exact wUnit | with_reducible exact wNone | with_reducible exact wArr | with_reducible exact wKey | with_reducible refine wPair ?_ ?_ | with_reducible refine wSome ?_ | with_reducible refine wDone ?_ | with_reducible refine wYield ?_ | with_reducible refine wPush ?_ ?_ | with_reducible refine wApp ?_ ?_ | with_reducible refine wExt ?_ | with_reducible refine wRev ?_ | with_reducible refine wOne ?_); done)) | with_reducible exact simRule _ | exact simElem | exact simLt | exact simGallop | exact simGet | exact simSetG | exact simNone)
theorem map_sets (g : Keyed → Keyed) (o : Nat) : ∀ (l : List (Keyed × Nat)) (a : Array Keyed), (l.map fun x => (g x.1, x.2)).foldl (fun a x => a.setIfInBounds (o + x.snd) x.fst) (a.map g) = (l.foldl (fun a x => a.setIfInBounds (o + x.snd) x.fst) a).map g
 | [], _ => rfl
 | k :: l, a => by
  rw [List.map_cons, List.foldl_cons, List.foldl_cons, ← map_sets g o l]
  congr 1
  simp
theorem map_idx (g : Keyed → Keyed) (m : Array Keyed) : (m.map g).toList.zipIdx = m.toList.zipIdx.map fun x => (g x.1, x.2) := by
 rw [Array.toList_map, List.zipIdx_map]; rfl
def simLoE {x y : Array Keyed} (X : Wit C x) (Y : Wit C y) : Sim C (mergeLo' x y) := simE (by obtain ⟨X, rfl⟩ := X; obtain ⟨Y, rfl⟩ := Y; rfl) (simLo (x := X.a) (y := Y.a))
def simHiE {x y : Array Keyed} (X : Wit C x) (Y : Wit C y) : Sim C (mergeHi' x y) := simE (by obtain ⟨X, rfl⟩ := X; obtain ⟨Y, rfl⟩ := Y; rfl) (simHi (x := X.a) (y := Y.a))
theorem sets_list {o : Nat} : ∀ {m : List Keyed} {k : Nat} {a : Array Keyed}, o + k + m.length ≤ a.size → (m.zipIdx k).foldl (fun a x => a.setIfInBounds (o + x.snd) x.fst) a = ⟨a.toList.take (o + k) ++ (m ++ a.toList.drop (o + k + m.length))⟩
 | [], k, a, h => by
  apply Array.toList_inj.mp
  show a.toList = a.toList.take (o + k) ++ ([] ++ a.toList.drop (o + k + 0))
  rw [List.nil_append, Nat.add_zero, List.take_append_drop]
 | x :: m, k, a, h => by
  rw [List.length_cons] at h
  rw [List.zipIdx_cons, List.foldl_cons, sets_list (by rw [Array.size_setIfInBounds]; omega)]
  apply Array.toList_inj.mp
  show (a.setIfInBounds (o + k) x).toList.take (o + (k + 1)) ++ (m ++ (a.setIfInBounds (o + k) x).toList.drop (o + (k + 1) + m.length)) = a.toList.take (o + k) ++ (x :: m ++ a.toList.drop (o + k + (x :: m).length))
  have hl : a.toList.length = a.size := Array.length_toList
  rw [Array.toList_setIfInBounds, List.drop_set_of_lt (by omega), List.length_cons, show o + (k + 1) + m.length = o + k + (m.length + 1) by omega]
  have e1 : (a.toList.set (o + k) x).take (o + (k + 1)) = a.toList.take (o + k) ++ [x] := by
   rw [show o + (k + 1) = (o + k) + 1 by omega, List.take_add_one, List.take_set_of_le (by omega), List.getElem?_set_self (by omega)]
   rfl
  rw [e1, List.append_assoc]
  rfl
def simPut {o : Nat} {m : Array Keyed} : Sim C (modify fun s : SortSt => setArr s ((m.map C.g).toList.zipIdx.foldl (fun a x => a.setIfInBounds (o + x.snd) x.fst) (arrOf s))) :=
 ⟨fun sp => if o + 0 + m.toList.length ≤ (arrOf sp).toList.length then some (⟨⟩, setArr sp ⟨(arrOf sp).toList.take (o + 0) ++ (m.toList ++ (arrOf sp).toList.drop (o + 0 + m.toList.length))⟩) else none, fun {sp a sp'} e Q q => by
  split at e
  ·rename_i h
   cases e
   rw [← sets_list (by simpa using h)] at q
   refine wpS_modify ?_
   have e1 : setArr (stG C sp) ((m.map C.g).toList.zipIdx.foldl (fun a x => a.setIfInBounds (o + x.snd) x.fst) (arrOf (stG C sp))) = stG C (setArr sp (m.toList.zipIdx.foldl (fun a x => a.setIfInBounds (o + x.snd) x.fst) (arrOf sp))) := by
    show SortSt.mk' _ ((m.map C.g).toList.zipIdx.foldl (fun a x => a.setIfInBounds (o + x.snd) x.fst) ((arrOf sp).map C.g)) _ _ _ = SortSt.mk' _ ((m.toList.zipIdx.foldl (fun a x => a.setIfInBounds (o + x.snd) x.fst) (arrOf sp)).map C.g) _ _ _
    rw [map_idx, map_sets]; rfl
   rw [e1]
   exact q
  ·cases e⟩
def simAt {i : Nat} : Sim C (mergeAt' i) := by
 refine simBind simGet (fun b => ?_)
 (try dsimp only [Rep.γ, rNat, rBool, rUnit, rProd, rOpt, rStep, rKey, rArr, rSt, Option.map, stG, SortSt.mk', kindOf, arrOf, pendingOf, gallopOf, failedOf])
 generalize (pendingOf b)[i]? = o1
 generalize (pendingOf b)[i + 1]? = o2
 rcases o1 with _ | ⟨sa, na, pw⟩
 ·exact simNone
 rcases o2 with _ | ⟨sb, nb, pw2⟩
 ·exact simNone
 (try dsimp only [Rep.γ, rNat, rBool, rUnit, rProd, rOpt, rStep, rKey, rArr, rSt, Option.map, stG, SortSt.mk', kindOf, arrOf, pendingOf, gallopOf, failedOf])
 refine simBind (simSet (SortSt.mk' (kindOf b) (arrOf b) _ (gallopOf b) none) rfl) fun _ => ?_
 (try dsimp only [Rep.γ, rNat, rBool, rUnit, rProd, rOpt, rStep, rKey, rArr, rSt, Option.map, stG, SortSt.mk', kindOf, arrOf, pendingOf, gallopOf, failedOf])
 refine simBind simElem fun x => ?_
 (try dsimp only [Rep.γ, rNat, rBool, rUnit, rProd, rOpt, rStep, rKey, rArr, rSt, Option.map, stG, SortSt.mk', kindOf, arrOf, pendingOf, gallopOf, failedOf])
 refine simBind simGallop (fun | none => simNone | some k => ?_)
 (try dsimp only [Rep.γ, rNat, rBool, rUnit, rProd, rOpt, rStep, rKey, rArr, rSt, Option.map, stG, SortSt.mk', kindOf, arrOf, pendingOf, gallopOf, failedOf])
 refine simIte (simPure wBool) ?_
 refine simBind simElem fun x => ?_
 (try dsimp only [Rep.γ, rNat, rBool, rUnit, rProd, rOpt, rStep, rKey, rArr, rSt, Option.map, stG, SortSt.mk', kindOf, arrOf, pendingOf, gallopOf, failedOf])
 refine simBind simGallop (fun | none => simNone | some k2 => ?_)
 (try dsimp only [Rep.γ, rNat, rBool, rUnit, rProd, rOpt, rStep, rKey, rArr, rSt, Option.map, stG, SortSt.mk', kindOf, arrOf, pendingOf, gallopOf, failedOf])
 refine simIte (simPure wBool) (simIte ?_ ?_)
 ·refine simBind (simLoE (wExt wArr) (wExt wArr)) fun m => ?_
  (try dsimp only [Rep.γ, rNat, rBool, rUnit, rProd, rOpt, rStep, rKey, rArr, rSt, Option.map, stG, SortSt.mk', kindOf, arrOf, pendingOf, gallopOf, failedOf])
  refine simBind simPut fun _ => ?_
  (try dsimp only [Rep.γ, rNat, rBool, rUnit, rProd, rOpt, rStep, rKey, rArr, rSt, Option.map, stG, SortSt.mk', kindOf, arrOf, pendingOf, gallopOf, failedOf])
  refine simBind simGet fun _ => ?_
  (try dsimp only [Rep.γ, rNat, rBool, rUnit, rProd, rOpt, rStep, rKey, rArr, rSt, Option.map, stG, SortSt.mk', kindOf, arrOf, pendingOf, gallopOf, failedOf])
  exact simPure wBool
 ·refine simBind (simHiE (wExt wArr) (wExt wArr)) fun m => ?_
  (try dsimp only [Rep.γ, rNat, rBool, rUnit, rProd, rOpt, rStep, rKey, rArr, rSt, Option.map, stG, SortSt.mk', kindOf, arrOf, pendingOf, gallopOf, failedOf])
  refine simBind simPut fun _ => ?_
  (try dsimp only [Rep.γ, rNat, rBool, rUnit, rProd, rOpt, rStep, rKey, rArr, rSt, Option.map, stG, SortSt.mk', kindOf, arrOf, pendingOf, gallopOf, failedOf])
  refine simBind simGet fun _ => ?_
  (try dsimp only [Rep.γ, rNat, rBool, rUnit, rProd, rOpt, rStep, rKey, rArr, rSt, Option.map, stG, SortSt.mk', kindOf, arrOf, pendingOf, gallopOf, failedOf])
  exact simPure wBool
def simRuns : Sim C sortRuns' := by
 (try dsimp only [Rep.γ, rNat, rBool, rUnit, rProd, rOpt, rStep, rKey, rArr, rSt, Option.map, stG, SortSt.mk', kindOf, arrOf, pendingOf, gallopOf, failedOf])
 refine simBind simGet (fun b => ?_)
 (try dsimp only [Rep.γ, rNat, rBool, rUnit, rProd, rOpt, rStep, rKey, rArr, rSt, Option.map, stG, SortSt.mk', kindOf, arrOf, pendingOf, gallopOf, failedOf])
 refine simE (m' := ?m) ?h ?s
 case h => (conv => lhs; simp only [Array.size_map])
 refine simBind (simFor (wPair wNone wNat) fun i c => ?_) (fun | (none, c) => ?_ | (some r, c) => simNone)
 ·(try dsimp only [Rep.γ, rNat, rBool, rUnit, rProd, rOpt, rStep, rKey, rArr, rSt, Option.map, stG, SortSt.mk', kindOf, arrOf, pendingOf, gallopOf, failedOf])
  refine simIte (simPure (by (repeat' first | exact wNat | exact wBool | exact wUnit | with_reducible exact wNone | with_reducible exact wArr | with_reducible exact wKey | with_reducible refine wPair ?_ ?_ | with_reducible refine wSome ?_ | with_reducible refine wDone ?_ | with_reducible refine wYield ?_ | with_reducible refine wPush ?_ ?_ | with_reducible refine wApp ?_ ?_ | with_reducible refine wExt ?_ | with_reducible refine wRev ?_ | with_reducible refine wOne ?_))) ?_
  refine simBind simCount (fun | none => simNone | some found => ?_)
  (try dsimp only [Rep.γ, rNat, rBool, rUnit, rProd, rOpt, rStep, rKey, rArr, rSt, Option.map, stG, SortSt.mk', kindOf, arrOf, pendingOf, gallopOf, failedOf])
  refine simIte ?_ ?_
  ·refine simBind (simRule _) fun _ => ?_
   refine simBind simBinary fun ok => ?_
   (try dsimp only [Rep.γ, rNat, rBool, rUnit, rProd, rOpt, rStep, rKey, rArr, rSt, Option.map, stG, SortSt.mk', kindOf, arrOf, pendingOf, gallopOf, failedOf])
   refine simIte (simPure (by (repeat' first | exact wNat | exact wBool | exact wUnit | with_reducible exact wNone | with_reducible exact wArr | with_reducible exact wKey | with_reducible refine wPair ?_ ?_ | with_reducible refine wSome ?_ | with_reducible refine wDone ?_ | with_reducible refine wYield ?_ | with_reducible refine wPush ?_ ?_ | with_reducible refine wApp ?_ ?_ | with_reducible refine wExt ?_ | with_reducible refine wRev ?_ | with_reducible refine wOne ?_))) ?_
   refine simBind simGet (fun b => ?_)
   (try dsimp only [Rep.γ, rNat, rBool, rUnit, rProd, rOpt, rStep, rKey, rArr, rSt, Option.map, stG, SortSt.mk', kindOf, arrOf, pendingOf, gallopOf, failedOf])
   generalize (pendingOf b).back? = o
   rcases o with _ | ⟨s1, n1, pw⟩
   ·(try dsimp only [Rep.γ, rNat, rBool, rUnit, rProd, rOpt, rStep, rKey, rArr, rSt, Option.map, stG, SortSt.mk', kindOf, arrOf, pendingOf, gallopOf, failedOf])
    refine simBind (simModId fun _ => rfl) fun _ => ?_
    exact simPure (by (try dsimp only [Rep.γ, rNat, rBool, rUnit, rProd, rOpt, rStep, rKey, rArr, rSt, Option.map, stG, SortSt.mk', kindOf, arrOf, pendingOf, gallopOf, failedOf]); (repeat' first | exact wNat | exact wBool | exact wUnit | with_reducible exact wNone | with_reducible exact wArr | with_reducible exact wKey | with_reducible refine wPair ?_ ?_ | with_reducible refine wSome ?_ | with_reducible refine wDone ?_ | with_reducible refine wYield ?_ | with_reducible refine wPush ?_ ?_ | with_reducible refine wApp ?_ ?_ | with_reducible refine wExt ?_ | with_reducible refine wRev ?_ | with_reducible refine wOne ?_))
   ·(try dsimp only [Rep.γ, rNat, rBool, rUnit, rProd, rOpt, rStep, rKey, rArr, rSt, Option.map, stG, SortSt.mk', kindOf, arrOf, pendingOf, gallopOf, failedOf])
    refine simBind (simFor (wPair wNone wUnit) fun i c => ?_) (fun | (none, c) => ?_ | (some r, c) => simNone)
    ·refine simBind simGet (fun b => ?_)
     (try dsimp only [Rep.γ, rNat, rBool, rUnit, rProd, rOpt, rStep, rKey, rArr, rSt, Option.map, stG, SortSt.mk', kindOf, arrOf, pendingOf, gallopOf, failedOf])
     generalize (if (pendingOf b).size > 1 then (pendingOf b)[(pendingOf b).size - 2]? else none) = o
     rcases o with _ | ⟨s2, n2, old⟩
     ·(try dsimp only [Rep.γ, rNat, rBool, rUnit, rProd, rOpt, rStep, rKey, rArr, rSt, Option.map, stG, SortSt.mk', kindOf, arrOf, pendingOf, gallopOf, failedOf])
      exact simPure (by (try dsimp only [Rep.γ, rNat, rBool, rUnit, rProd, rOpt, rStep, rKey, rArr, rSt, Option.map, stG, SortSt.mk', kindOf, arrOf, pendingOf, gallopOf, failedOf]); (repeat' first | exact wNat | exact wBool | exact wUnit | with_reducible exact wNone | with_reducible exact wArr | with_reducible exact wKey | with_reducible refine wPair ?_ ?_ | with_reducible refine wSome ?_ | with_reducible refine wDone ?_ | with_reducible refine wYield ?_ | with_reducible refine wPush ?_ ?_ | with_reducible refine wApp ?_ ?_ | with_reducible refine wExt ?_ | with_reducible refine wRev ?_ | with_reducible refine wOne ?_))
     ·(try dsimp only [Rep.γ, rNat, rBool, rUnit, rProd, rOpt, rStep, rKey, rArr, rSt, Option.map, stG, SortSt.mk', kindOf, arrOf, pendingOf, gallopOf, failedOf])
      refine simIte (simPure (by (repeat' first | exact wNat | exact wBool | exact wUnit | with_reducible exact wNone | with_reducible exact wArr | with_reducible exact wKey | with_reducible refine wPair ?_ ?_ | with_reducible refine wSome ?_ | with_reducible refine wDone ?_ | with_reducible refine wYield ?_ | with_reducible refine wPush ?_ ?_ | with_reducible refine wApp ?_ ?_ | with_reducible refine wExt ?_ | with_reducible refine wRev ?_ | with_reducible refine wOne ?_))) ?_
      refine simBind simAt fun b => ?_
      (try dsimp only [Rep.γ, rNat, rBool, rUnit, rProd, rOpt, rStep, rKey, rArr, rSt, Option.map, stG, SortSt.mk', kindOf, arrOf, pendingOf, gallopOf, failedOf])
      exact simIte (simPure (by (repeat' first | exact wNat | exact wBool | exact wUnit | with_reducible exact wNone | with_reducible exact wArr | with_reducible exact wKey | with_reducible refine wPair ?_ ?_ | with_reducible refine wSome ?_ | with_reducible refine wDone ?_ | with_reducible refine wYield ?_ | with_reducible refine wPush ?_ ?_ | with_reducible refine wApp ?_ ?_ | with_reducible refine wExt ?_ | with_reducible refine wRev ?_ | with_reducible refine wOne ?_))) (simPure (by (repeat' first | exact wNat | exact wBool | exact wUnit | with_reducible exact wNone | with_reducible exact wArr | with_reducible exact wKey | with_reducible refine wPair ?_ ?_ | with_reducible refine wSome ?_ | with_reducible refine wDone ?_ | with_reducible refine wYield ?_ | with_reducible refine wPush ?_ ?_ | with_reducible refine wApp ?_ ?_ | with_reducible refine wExt ?_ | with_reducible refine wRev ?_ | with_reducible refine wOne ?_)))
    ·(try dsimp only [Rep.γ, rNat, rBool, rUnit, rProd, rOpt, rStep, rKey, rArr, rSt, Option.map, stG, SortSt.mk', kindOf, arrOf, pendingOf, gallopOf, failedOf])
     refine simBind (simModId fun _ => rfl) fun _ => ?_
     (try dsimp only [Rep.γ, rNat, rBool, rUnit, rProd, rOpt, rStep, rKey, rArr, rSt, Option.map, stG, SortSt.mk', kindOf, arrOf, pendingOf, gallopOf, failedOf])
     refine simBind (simModId fun _ => rfl) fun _ => ?_
     exact simPure (by (try dsimp only [Rep.γ, rNat, rBool, rUnit, rProd, rOpt, rStep, rKey, rArr, rSt, Option.map, stG, SortSt.mk', kindOf, arrOf, pendingOf, gallopOf, failedOf]); (repeat' first | exact wNat | exact wBool | exact wUnit | with_reducible exact wNone | with_reducible exact wArr | with_reducible exact wKey | with_reducible refine wPair ?_ ?_ | with_reducible refine wSome ?_ | with_reducible refine wDone ?_ | with_reducible refine wYield ?_ | with_reducible refine wPush ?_ ?_ | with_reducible refine wApp ?_ ?_ | with_reducible refine wExt ?_ | with_reducible refine wRev ?_ | with_reducible refine wOne ?_))
  ·refine simBind simGet (fun b => ?_)
   (try dsimp only [Rep.γ, rNat, rBool, rUnit, rProd, rOpt, rStep, rKey, rArr, rSt, Option.map, stG, SortSt.mk', kindOf, arrOf, pendingOf, gallopOf, failedOf])
   generalize (pendingOf b).back? = o
   rcases o with _ | ⟨s1, n1, pw⟩
   ·(try dsimp only [Rep.γ, rNat, rBool, rUnit, rProd, rOpt, rStep, rKey, rArr, rSt, Option.map, stG, SortSt.mk', kindOf, arrOf, pendingOf, gallopOf, failedOf])
    refine simBind (simModId fun _ => rfl) fun _ => ?_
    exact simPure (by (try dsimp only [Rep.γ, rNat, rBool, rUnit, rProd, rOpt, rStep, rKey, rArr, rSt, Option.map, stG, SortSt.mk', kindOf, arrOf, pendingOf, gallopOf, failedOf]); (repeat' first | exact wNat | exact wBool | exact wUnit | with_reducible exact wNone | with_reducible exact wArr | with_reducible exact wKey | with_reducible refine wPair ?_ ?_ | with_reducible refine wSome ?_ | with_reducible refine wDone ?_ | with_reducible refine wYield ?_ | with_reducible refine wPush ?_ ?_ | with_reducible refine wApp ?_ ?_ | with_reducible refine wExt ?_ | with_reducible refine wRev ?_ | with_reducible refine wOne ?_))
   ·(try dsimp only [Rep.γ, rNat, rBool, rUnit, rProd, rOpt, rStep, rKey, rArr, rSt, Option.map, stG, SortSt.mk', kindOf, arrOf, pendingOf, gallopOf, failedOf])
    refine simBind (simFor (wPair wNone wUnit) fun i c => ?_) (fun | (none, c) => ?_ | (some r, c) => simNone)
    ·refine simBind simGet (fun b => ?_)
     (try dsimp only [Rep.γ, rNat, rBool, rUnit, rProd, rOpt, rStep, rKey, rArr, rSt, Option.map, stG, SortSt.mk', kindOf, arrOf, pendingOf, gallopOf, failedOf])
     generalize (if (pendingOf b).size > 1 then (pendingOf b)[(pendingOf b).size - 2]? else none) = o
     rcases o with _ | ⟨s2, n2, old⟩
     ·(try dsimp only [Rep.γ, rNat, rBool, rUnit, rProd, rOpt, rStep, rKey, rArr, rSt, Option.map, stG, SortSt.mk', kindOf, arrOf, pendingOf, gallopOf, failedOf])
      exact simPure (by (try dsimp only [Rep.γ, rNat, rBool, rUnit, rProd, rOpt, rStep, rKey, rArr, rSt, Option.map, stG, SortSt.mk', kindOf, arrOf, pendingOf, gallopOf, failedOf]); (repeat' first | exact wNat | exact wBool | exact wUnit | with_reducible exact wNone | with_reducible exact wArr | with_reducible exact wKey | with_reducible refine wPair ?_ ?_ | with_reducible refine wSome ?_ | with_reducible refine wDone ?_ | with_reducible refine wYield ?_ | with_reducible refine wPush ?_ ?_ | with_reducible refine wApp ?_ ?_ | with_reducible refine wExt ?_ | with_reducible refine wRev ?_ | with_reducible refine wOne ?_))
     ·(try dsimp only [Rep.γ, rNat, rBool, rUnit, rProd, rOpt, rStep, rKey, rArr, rSt, Option.map, stG, SortSt.mk', kindOf, arrOf, pendingOf, gallopOf, failedOf])
      refine simIte (simPure (by (repeat' first | exact wNat | exact wBool | exact wUnit | with_reducible exact wNone | with_reducible exact wArr | with_reducible exact wKey | with_reducible refine wPair ?_ ?_ | with_reducible refine wSome ?_ | with_reducible refine wDone ?_ | with_reducible refine wYield ?_ | with_reducible refine wPush ?_ ?_ | with_reducible refine wApp ?_ ?_ | with_reducible refine wExt ?_ | with_reducible refine wRev ?_ | with_reducible refine wOne ?_))) ?_
      refine simBind simAt fun b => ?_
      (try dsimp only [Rep.γ, rNat, rBool, rUnit, rProd, rOpt, rStep, rKey, rArr, rSt, Option.map, stG, SortSt.mk', kindOf, arrOf, pendingOf, gallopOf, failedOf])
      exact simIte (simPure (by (repeat' first | exact wNat | exact wBool | exact wUnit | with_reducible exact wNone | with_reducible exact wArr | with_reducible exact wKey | with_reducible refine wPair ?_ ?_ | with_reducible refine wSome ?_ | with_reducible refine wDone ?_ | with_reducible refine wYield ?_ | with_reducible refine wPush ?_ ?_ | with_reducible refine wApp ?_ ?_ | with_reducible refine wExt ?_ | with_reducible refine wRev ?_ | with_reducible refine wOne ?_))) (simPure (by (repeat' first | exact wNat | exact wBool | exact wUnit | with_reducible exact wNone | with_reducible exact wArr | with_reducible exact wKey | with_reducible refine wPair ?_ ?_ | with_reducible refine wSome ?_ | with_reducible refine wDone ?_ | with_reducible refine wYield ?_ | with_reducible refine wPush ?_ ?_ | with_reducible refine wApp ?_ ?_ | with_reducible refine wExt ?_ | with_reducible refine wRev ?_ | with_reducible refine wOne ?_)))
    ·(try dsimp only [Rep.γ, rNat, rBool, rUnit, rProd, rOpt, rStep, rKey, rArr, rSt, Option.map, stG, SortSt.mk', kindOf, arrOf, pendingOf, gallopOf, failedOf])
     refine simBind (simModId fun _ => rfl) fun _ => ?_
     (try dsimp only [Rep.γ, rNat, rBool, rUnit, rProd, rOpt, rStep, rKey, rArr, rSt, Option.map, stG, SortSt.mk', kindOf, arrOf, pendingOf, gallopOf, failedOf])
     refine simBind (simModId fun _ => rfl) fun _ => ?_
     exact simPure (by (try dsimp only [Rep.γ, rNat, rBool, rUnit, rProd, rOpt, rStep, rKey, rArr, rSt, Option.map, stG, SortSt.mk', kindOf, arrOf, pendingOf, gallopOf, failedOf]); (repeat' first | exact wNat | exact wBool | exact wUnit | with_reducible exact wNone | with_reducible exact wArr | with_reducible exact wKey | with_reducible refine wPair ?_ ?_ | with_reducible refine wSome ?_ | with_reducible refine wDone ?_ | with_reducible refine wYield ?_ | with_reducible refine wPush ?_ ?_ | with_reducible refine wApp ?_ ?_ | with_reducible refine wExt ?_ | with_reducible refine wRev ?_ | with_reducible refine wOne ?_))
 ·(try dsimp only [Rep.γ, rNat, rBool, rUnit, rProd, rOpt, rStep, rKey, rArr, rSt, Option.map, stG, SortSt.mk', kindOf, arrOf, pendingOf, gallopOf, failedOf])
  refine simBind (simFor (wPair wNone wUnit) fun i c => ?_) (fun | (none, c) => simPure wUnit | (some r, c) => simNone)
  refine simBind simGet fun b => ?_
  (try dsimp only [Rep.γ, rNat, rBool, rUnit, rProd, rOpt, rStep, rKey, rArr, rSt, Option.map, stG, SortSt.mk', kindOf, arrOf, pendingOf, gallopOf, failedOf])
  refine simIte (simPure (by (repeat' first | exact wNat | exact wBool | exact wUnit | with_reducible exact wNone | with_reducible exact wArr | with_reducible exact wKey | with_reducible refine wPair ?_ ?_ | with_reducible refine wSome ?_ | with_reducible refine wDone ?_ | with_reducible refine wYield ?_ | with_reducible refine wPush ?_ ?_ | with_reducible refine wApp ?_ ?_ | with_reducible refine wExt ?_ | with_reducible refine wRev ?_ | with_reducible refine wOne ?_))) ?_
  refine simBind simAt fun ok => ?_
  (try dsimp only [Rep.γ, rNat, rBool, rUnit, rProd, rOpt, rStep, rKey, rArr, rSt, Option.map, stG, SortSt.mk', kindOf, arrOf, pendingOf, gallopOf, failedOf])
  exact simIte (simPure (by (repeat' first | exact wNat | exact wBool | exact wUnit | with_reducible exact wNone | with_reducible exact wArr | with_reducible exact wKey | with_reducible refine wPair ?_ ?_ | with_reducible refine wSome ?_ | with_reducible refine wDone ?_ | with_reducible refine wYield ?_ | with_reducible refine wPush ?_ ?_ | with_reducible refine wApp ?_ ?_ | with_reducible refine wExt ?_ | with_reducible refine wRev ?_ | with_reducible refine wOne ?_))) (simPure (by (repeat' first | exact wNat | exact wBool | exact wUnit | with_reducible exact wNone | with_reducible exact wArr | with_reducible exact wKey | with_reducible refine wPair ?_ ?_ | with_reducible refine wSome ?_ | with_reducible refine wDone ?_ | with_reducible refine wYield ?_ | with_reducible refine wPush ?_ ?_ | with_reducible refine wApp ?_ ?_ | with_reducible refine wExt ?_ | with_reducible refine wRev ?_ | with_reducible refine wOne ?_)))
def startP (L : List Nat) : SortSt := SortSt.mk' general' ⟨L.map fun i => ((.int (i : Nat) 0, .int (i : Nat) 0) : Keyed)⟩ #[] 7 none
def bitrev : Nat → List Nat
 | 0 => [0]
 | n + 1 => (bitrev n).map (2 * ·) ++ (bitrev n).map (2 * · + 1)
def okP (S : Sim C sortRuns') (L : List Nat) : Bool := match S.p (startP L) with
 | none => false
 | some r => (arrOf r.2).toList.map lab == List.range L.length
end
end Big
namespace L2
open PySem PySem.Spec PyProof.Rows Big
def rlt : List Int → List Int → Bool
 | x :: xs, y :: ys => if x = y then rlt xs ys else decide (x < y)
 | _, _ => false
def bits : Nat → Nat → List Int
 | 0, _ => []
 | m + 1, r => bits m (r / 2) ++ [((r % 2 : Nat) : Int)]
theorem bits_len : ∀ m r, (bits m r).length = m
 | 0, _ => rfl
 | m + 1, r => by rw [bits, List.length_append, bits_len m]; rfl
theorem rlt_app : ∀ {a b : List Int} {x y : Int}, a.length = b.length → rlt (a ++ [x]) (b ++ [y]) = if rlt a b = true then true else if rlt b a = true then false else decide (x < y)
 | [], [], x, y, _ => by
  show (if x = y then rlt [] [] else decide (x < y)) = decide (x < y)
  by_cases h : x = y
  ·rw [if_pos h]; exact (decide_eq_false (by omega)).symm
  ·rw [if_neg h]
 | [], _ :: _, _, _, h => by cases h
 | _ :: _, [], _, _, h => by cases h
 | c :: a, d :: b, x, y, h => by
  show (if c = d then rlt (a ++ [x]) (b ++ [y]) else decide (c < d)) = if (if c = d then rlt a b else decide (c < d)) = true then true else if (if d = c then rlt b a else decide (d < c)) = true then false else decide (x < y)
  by_cases e : c = d
  ·rw [if_pos e, if_pos e, if_pos e.symm]
   exact rlt_app (by simpa using h)
  ·have e' : ¬ d = c := fun z => e z.symm
   simp only [if_neg e, if_neg e']
   by_cases l : c < d
   ·rw [decide_eq_true l]; rfl
   ·rw [decide_eq_false l, decide_eq_true (show d < c by omega)]; rfl
theorem rlt_bits : ∀ {m i j : Nat}, i < 2 ^ m → j < 2 ^ m → rlt (bits m i) (bits m j) = decide (i < j)
 | 0, i, j, hi, hj => by
  have e1 : i = 0 := by simpa using hi
  have e2 : j = 0 := by simpa using hj
  subst e1; subst e2; rfl
 | m + 1, i, j, hi, hj => by
  rw [Nat.pow_succ] at hi hj
  rw [bits, bits, rlt_app (by rw [bits_len, bits_len]), rlt_bits (by omega) (by omega), rlt_bits (by omega) (by omega)]
  by_cases a : i / 2 < j / 2
  ·rw [decide_eq_true a, decide_eq_true (show i < j by omega)]; rfl
  ·rw [decide_eq_false a]
   by_cases b : j / 2 < i / 2
   ·rw [decide_eq_true b, decide_eq_false (show ¬ i < j by omega)]; rfl
   ·rw [decide_eq_false b]
    simp only [Bool.false_eq_true, if_false]
    exact decide_eq_decide.mpr (by omega)
def RowAt (h : Heap) (v : Value) (k : List Int) : Prop := ∃ p o its n, v = .ref p ∧ h.get? p = some o ∧ o.cls = .type "tuple" ∧ o.data = .seq its n ∧ IntsAre its.toList k
theorem RowAt.keep {h h' : Heap} {v : Value} {k : List Int} (x : RowAt h v k) (kk : ∀ b o, h.get? b = some o → o.cls = .type "tuple" → h'.get? b = some o) : RowAt h' v k := by
 obtain ⟨p, o, its, n, e, e1, c, d⟩ := x
 exact ⟨p, o, its, n, e, kk _ _ e1 c, c, d⟩
section
variable {prog : Program} {w : World} {A : Around} {E : Value → Shared → Prop} {s : Shared}
theorem row_go {Q : Bool → Shared → Prop} : ∀ {x y : List Int} {vs ws : List Value} {i : Nat}, IntsAre vs x → IntsAre ws y → x.length = y.length → Q (rlt x y) s → PySem.W.KatLex prog w A true false Q (vs.zip ws) i s
 | _, _, _, _, i, .nil, .nil, e, h => PySem.W.kat_nil h
 | _, _, _, _, i, .nil, .cons _ _ _, e, h => by cases e
 | _, _, _, _, i, .cons _ _ _, .nil, e, h => by cases e
 | _, _, _, _, i, .cons a t r1, .cons c u r2, e, h => by
  refine PySem.W.kat_cons (wpAny_eqBool_int (PySem.W.kat_go (fun z => PySem.W.kat_yes ?_) fun z => PySem.W.kat_no ?_))
  ·have ee : a = c := by simpa using z
   rw [rlt, if_pos ee] at h
   exact row_go r1 r2 (by simpa using e) h
  ·have ee : a ≠ c := by simpa using z
   rw [rlt, if_neg ee] at h
   cases (true && i == 0) with
   | true => exact oneLt_int h
   | false => exact PySem.W.kat_one _ _ (lt_int h)
theorem row_lt {x y : Value} {a b : List Int} {Q : Bool → Shared → Prop} (hx : RowAt s.heap x a) (hy : RowAt s.heap y b) (hl : a.length = b.length) (h : Q (rlt a b) s) : wpAny (model prog w) A (keyLt' (tuples' true) x y) Q E s := by
 obtain ⟨p, o, its, n, rfl, e1, _, d1, i1⟩ := hx
 obtain ⟨p2, o2, its2, n2, rfl, e2, _, d2, i2⟩ := hy
 have l1 : its.size = a.length := by have := i1.length; simpa using this
 have l2 : its2.size = b.length := by have := i2.length; simpa using this
 refine PySem.W.kat_lt e1 d1 e2 d2 ?_
 rw [decide_eq_false (by omega)]
 exact row_go i1 i2 hl h
theorem rows_kind {vs : List Value} {m : Nat} {Q : SortKind → Shared → Prop} (h : ∀ v ∈ vs, ∃ a l, RowAt s.heap v (a :: l)) (hne : vs ≠ []) (hq : Q (tuples' true) s) : wpAny (model prog w) A (keyKind' vs.toArray) Q E s := by
 have key : ∀ vs : List Value, (∀ v ∈ vs, ∃ a l, RowAt s.heap v (a :: l)) → ∃ fs : List Value, PySem.W.KatTups s.heap vs fs ∧ fs.length = vs.length ∧ ∀ f ∈ fs, ∃ a t, f = .int a t := by
  intro vs
  induction vs with
  | nil => intro _; exact ⟨[], .nil, rfl, fun f hf => by cases hf⟩
  | cons v r ih =>
   intro h
   obtain ⟨fs, k1, k2, k3⟩ := ih fun z hz => h z (List.mem_cons_of_mem _ hz)
   obtain ⟨a, l, p, o, its, n, rfl, e1, c1, d1, i1⟩ := h v List.mem_cons_self
   obtain ⟨its⟩ := its
   cases i1 with
   | cons _ t i1 => exact ⟨.int a t :: fs, PySem.W.KatTups.cons e1 c1 d1 rfl k1, by rw [List.length_cons, List.length_cons, k2], fun f hf => by
    rcases List.mem_cons.mp hf with rfl | hf
    ·exact ⟨a, t, rfl⟩
    ·exact k3 f hf⟩
 obtain ⟨fs, k1, k2, k3⟩ := key vs h
 refine PySem.W.kat_kind (T := .type "int") k1 (by rw [k2]; cases vs with | nil => exact absurd rfl hne | cons => simp) (fun f hf => ?_) (by decide) hq
 obtain ⟨a, t, rfl⟩ := k3 f hf
 exact PySem.W.Looks.of_pure rfl
def gLab (f : Nat → Value) (k : Keyed) : Keyed := (f (lab k), f (lab k))
theorem gLab_lt {m : Nat} {f : Nat → Value} (hf : ∀ r, r < 2 ^ m → RowAt s.heap (f r) (bits m r)) : ∀ {x y : Keyed} {st : SortSt} {Q : Option Bool → SortSt → Prop}, lab x < 2 ^ m → lab y < 2 ^ m → kindOf st = tuples' true → Q (some (decide (lab x < lab y))) st → wpS (model prog w) A E s (lt' (gLab f x) (gLab f y)) Q st := fun {x y st Q} hx hy hk hq => by
 rw [lt'_eq]
 refine wpS_bind (wpS_get ?_)
 rw [hk]
 refine wpS_bind (wpS_lift (wpAny_attempt (row_lt (hf _ hx) (hf _ hy) (by rw [bits_len, bits_len]) ⟨rfl, wpS_pure ?_⟩)))
 rw [rlt_bits hx hy]
 exact hq
theorem start_is (f : Nat → Value) (L : List Nat) : (arrOf (startP L)).map (gLab f) = pz (L.map f) := by
 apply Array.toList_inj.mp
 show ((Array.mk (L.map _)).map (gLab f)).toList = ((L.map f).toArray.zip (L.map f).toArray).toList
 rw [Array.toList_map, List.zip_toArray, List.map_map, List.zip_map']
 rfl
theorem runs_rows {m : Nat} {f : Nat → Value} {L : List Nat} (hf : ∀ r, r < 2 ^ m → RowAt s.heap (f r) (bits m r)) (ok : okP (C := ⟨prog, w, A, E, s, gLab f, tuples' true, 2 ^ m, gLab_lt hf⟩) simRuns L = true)
  {Q : Unit → SortSt → Prop} (k : ∀ st', failedOf st' = none → ((arrOf st').map (·.2)).toList = (List.range L.length).map f → Q () st') : wpS (model prog w) A E s sortRuns' Q (SortSt.mk' (tuples' true) (pz (L.map f)) #[] 7 none) := by
 unfold okP at ok
 split at ok
 ·cases ok
 ·rename_i r hr
  obtain ⟨⟨⟩, sp⟩ := r
  have e := eq_of_beq ok
  have := simRuns.ok hr (Q := Q) (k _ rfl (by
   show (((arrOf sp).map (gLab f)).map (·.2)).toList = _
   rw [Array.toList_map, Array.toList_map, List.map_map, ← e, List.map_map]
   rfl))
  have e2 : stG (⟨prog, w, A, E, s, gLab f, tuples' true, 2 ^ m, gLab_lt hf⟩ : Cf) (startP L) = SortSt.mk' (tuples' true) (pz (L.map f)) #[] 7 none := by
   show SortSt.mk' _ ((arrOf (startP L)).map (gLab f)) _ _ _ = _
   rw [start_is]; rfl
  rw [e2] at this
  exact this
theorem ok_all {m : Nat} (h1 : 1 ≤ m) (h8 : m ≤ 8) {f : Nat → Value} (hf : ∀ r, r < 2 ^ m → RowAt s.heap (f r) (bits m r)) : okP (C := ⟨prog, w, A, E, s, gLab f, tuples' true, 2 ^ m, gLab_lt hf⟩) simRuns (bitrev m) = true := by
 match m, h1, h8, hf with
 | 1, _, _, hf => kernel_rfl
 | 2, _, _, hf => kernel_rfl
 | 3, _, _, hf => kernel_rfl
 | 4, _, _, hf => kernel_rfl
 | 5, _, _, hf => kernel_rfl
 | 6, _, _, hf => kernel_rfl
 | 7, _, _, hf => kernel_rfl
 | 8, _, _, hf => kernel_rfl
theorem bitrev_len : ∀ m, (bitrev m).length = 2 ^ m
 | 0 => rfl
 | m + 1 => by rw [bitrev, List.length_append, List.length_map, List.length_map, bitrev_len m, Nat.pow_succ]; omega
theorem bits_cons {m : Nat} (h : 1 ≤ m) (r : Nat) : ∃ a l, bits m r = a :: l := by
 cases e : bits m r with
 | nil => have := bits_len m r; rw [e] at this; simp at this; omega
 | cons a l => exact ⟨a, l, rfl⟩
theorem lsort_rows {a : Addr} {m n : Nat} {f : Nat → Value} {P : PySem.Fin → Shared → Prop} (h8 : m ≤ 8) (ho : s.heap.get? a = some (seqObj "list" ((bitrev m).map f).toArray n)) (hf : ∀ r, r < 2 ^ m → RowAt s.heap (f r) (bits m r)) (hb : ∀ r ∈ bitrev m, r < 2 ^ m)
  (k : P (.done (.ret .none)) { s with heap := sortedHeap s.heap a ((bitrev m).map f) ((List.range (2 ^ m)).map f).toArray }) : wpAny (model prog w) A (Builtin.«list.sort» ⟨[.ref a], []⟩) P E s := by
 have la : a < s.heap.objs.size := Heap.lt_size ho
 have p8 : 2 ^ m ≤ 2 ^ 8 := Nat.pow_le_pow_right (by decide) h8
 have zl : (2 ^ 8 : Nat) ≤ sizeLine := by decide
 have vl : ((bitrev m).map f).length = 2 ^ m := by rw [List.length_map, bitrev_len]
 obtain ⟨e1, ho1⟩ : ∃ e1, (s.heap.update a (Obj.mapSeq fun _ => #[])).get? a = some (seqObj "list" #[] e1) := ⟨_, get?_update_seq ho fun _ => #[]⟩
 have ho6 : (((s.heap.update a (Obj.mapSeq fun _ => #[])).push (seqObj "tuple" ((bitrev m).map f).toArray 0)).push (seqObj "list" #[] 0)).get? a = some (seqObj "list" #[] e1) := Heap.get?_push_of_some _ (Heap.get?_push_of_some _ ho1)
 rw [list_sort_plain]
 refine wpAny_bind (listItems_at ho rfl (wpAny_bind (listUpdate_at ho rfl ?_ (by rw [List.size_toArray, vl]; omega) (Nat.zero_le _))))
 refine wpAny_bind (seqEpoch_at ho1 rfl (wpAny_bind (wpAny_newTuple ?_ (by show ((bitrev m).map f).toArray.toList.length ≤ _; rw [List.toList_toArray, vl]; omega))))
 refine wpAny_bind (wpAny_newList (wpAny_holding ?_) (Nat.zero_le _))
 show wpAny (model prog w) A _ P E { s with heap := ((s.heap.update a (Obj.mapSeq fun _ => #[])).push (seqObj "tuple" ((bitrev m).map f).toArray 0)).push (seqObj "list" #[] 0) }
 have keep : ∀ r, r < 2 ^ m → RowAt (((s.heap.update a (Obj.mapSeq fun _ => #[])).push (seqObj "tuple" ((bitrev m).map f).toArray 0)).push (seqObj "list" #[] 0)) (f r) (bits m r) := fun r hr => (hf r hr).keep fun b o eb cb => by
  have npa : a ≠ b := fun z => by
   subst z
   rw [ho] at eb
   have eo := Option.some.inj eb
   rw [← eo] at cb
   have c2 : Value.type "list" = Value.type "tuple" := cb
   injection c2 with c2
   exact absurd c2 (by decide)
  exact Heap.get?_push_of_some _ (Heap.get?_push_of_some _ ((Heap.get?_update_other s.heap _ npa).trans eb))
 have osz : ((List.range (2 ^ m)).map f).toArray.size ≤ sizeLine + 1 := by rw [List.size_toArray, List.length_map, List.length_range]; omega
 dsimp only
 by_cases h2 : ((bitrev m).map f).toArray.size < 2
 ·rw [if_pos h2, if_pos h2]
  rw [List.size_toArray, vl] at h2
  have m0 : m = 0 := by
   cases m with
   | zero => rfl
   | succ m => rw [Nat.pow_succ] at h2; have : 1 ≤ 2 ^ m := Nat.one_le_two_pow; omega
  subst m0
  refine wpAny_bind (wpAny_pure ?_)
  rw [StateT.run_pure]
  refine wpAny_bind (wpAny_pure ?_)
  dsimp only
  have e0 : (((bitrev 0).map f).toArray.zip ((bitrev 0).map f).toArray).map (·.2) = ((List.range (2 ^ 0)).map f).toArray := by simp [bitrev]
  refine wpAny_bind (seqEpoch_at ho6 rfl (wpAny_bind (listUpdate_at ho6 rfl ?_ (Nat.zero_le _) (by show ((((bitrev 0).map f).toArray.zip ((bitrev 0).map f).toArray).map (·.2)).size ≤ _; rw [e0]; exact osz))))
  rw [← e0] at k
  simp only [bne_self_eq_false, Bool.false_eq_true, if_false]
  exact wpAny_pure k
 ·rw [if_neg h2, if_neg h2]
  rw [List.size_toArray, vl] at h2
  have m1 : 1 ≤ m := by
   cases m with
   | zero => exact absurd (by decide) h2
   | succ m => omega
  refine wpAny_bind (rows_kind (m := m) (fun v hv' => ?_) (fun z => by rw [z] at vl; simp at vl; omega) ?_)
  ·obtain ⟨r, hr, rfl⟩ := List.mem_map.mp hv'
   obtain ⟨x, l, e⟩ := bits_cons m1 r
   exact ⟨x, l, by rw [← e]; exact keep r (hb r hr)⟩
  refine wpAny_bind (wpAny_mono (runs_rows (f := f) (L := bitrev m) (Q := fun _ st' => failedOf st' = none ∧ (arrOf st').map (·.2) = ((List.range (2 ^ m)).map f).toArray) keep (ok_all m1 h8 keep) fun st' a1 a2 => ⟨a1, Array.toList_inj.mp (by rw [a2, bitrev_len])⟩) ?_ fun _ _ e => e)
  rintro ⟨⟨⟩, st'⟩ s' ⟨rfl, hf', hu⟩
  dsimp only at hf' hu ⊢
  refine wpAny_bind (seqEpoch_at ho6 rfl (wpAny_bind (listUpdate_at ho6 rfl ?_ (Nat.zero_le _) (by rw [hu]; exact osz))))
  rw [hf']
  simp only [bne_self_eq_false, Bool.false_eq_true, if_false]
  rw [hu]
  exact wpAny_pure k
theorem sorted_rows {l : Addr} {m : Nat} {f : Nat → Value} {Q : Value → Shared → Prop} (h8 : m ≤ 8) (hl : s.heap.IsList l ((bitrev m).map f).toArray) (hf : ∀ r, r < 2 ^ m → RowAt s.heap (f r) (bits m r)) (hb : ∀ r ∈ bitrev m, r < 2 ^ m)
  (k : Q (.ref (s.heap.objs.size + 1)) { s with heap := sortedAll s.heap ((bitrev m).map f) ((List.range (2 ^ m)).map f).toArray }) : wpAny (model prog w) A (call (.builtin "sorted") [.ref l]) Q E s := by
 have p8 : 2 ^ m ≤ 2 ^ 8 := Nat.pow_le_pow_right (by decide) h8
 have zl : (2 ^ 8 : Nat) ≤ sizeLine := by decide
 have vl : ((bitrev m).map f).length = 2 ^ m := by rw [List.length_map, bitrev_len]
 refine Calls.call_function_entry kind_sorted plain_sorted entry_sorted (args_sorted1 _) (show wpAny _ _ (Builtin.«sorted» _) _ _ _ from ?_)
 unfold Builtin.«sorted»
 refine wpAny_bind (m := checkCount "sorted" 1 1 _) (wpAny_pure (wpAny_bind (collect_list hl (wpAny_bind (wpAny_newList ?_ (by omega))) (by omega))))
 have zs : ((s.heap.push (seqObj "list" #[] 0)).update s.heap.objs.size (Obj.mapSeq (· ++ ((bitrev m).map f).toArray))).objs.size = s.heap.objs.size + 1 := by rw [Heap.size_update, size_push']
 have oL : (((s.heap.push (seqObj "list" #[] 0)).update s.heap.objs.size (Obj.mapSeq (· ++ ((bitrev m).map f).toArray))).push (seqObj "list" ((bitrev m).map f).toArray 0)).get? (s.heap.objs.size + 1) = some (seqObj "list" ((bitrev m).map f).toArray 0) := by rw [← zs]; exact Heap.get?_push_size _ rfl
 show wpAny _ _ _ _ _ { s with heap := ((s.heap.push (seqObj "list" #[] 0)).update s.heap.objs.size (Obj.mapSeq (· ++ ((bitrev m).map f).toArray))).push (seqObj "list" ((bitrev m).map f).toArray 0) }
 rw [zs]
 refine wpAny_bind (wpAny_holding (wpAny_call_entry PyProof.Rows.slot_list_sort ⟨_, oL, rfl⟩ PyProof.Rows.entry_list_sort (lsort_rows h8 oL (fun r hr => ?_) hb ⟨_, rfl, wpAny_pure ⟨_, rfl, k⟩⟩) (args_list_sort _)))
 exact (hf r hr).keep fun b o e _ => Heap.get?_push_of_some _ ((Heap.get?_update_other _ _ (Nat.ne_of_gt (Heap.lt_size e))).trans (Heap.get?_push_of_some _ e))
end
abbrev rowD (m r : Nat) : PyData := .tuple ((bits m r).map PyData.int)
theorem bitrev_ok : ∀ m, m ≤ 8 → (∀ r ∈ bitrev m, r < 2 ^ m) ∧ ∀ i, i < 2 ^ m → (bitrev m).getD i 0 < 2 ^ m ∧ (bitrev m).getD ((bitrev m).getD i 0) 0 = i := by decide +kernel
def rSrtR (K : PySem.W.Frag) : List V → Hp → VK → Prop := fun xs H Q => ∃ (G : Hp) (p : Addr) (vs : List V) (m : Nat), xs = [.ref p] ∧ Same G H ∧ SqL K H p vs ∧ Dats K G vs ((bitrev m).map (rowD m)) ∧ m ≤ 8 ∧
 ∀ (l : Addr) (us : List V), H l = none → Dats K G us ((List.range (2 ^ m)).map (rowD m)) → Q (.ref l) (upd H l (.lst us))
section
variable {X : Cx} {pins : List (Addr × Obj)} {σ : St} {H G : Hp} {s : Shared}
theorem row_of (I : Inv X pins σ H s) (sg : Same G H) {v : V} {u : Value} {k : List Int} (r : RelV v u) (h : Dat X.K G v (.tuple (k.map PyData.int))) : RowAt s.heap u k := by
 obtain ⟨p, xs, rfl, hp, hxs⟩ := h.tup
 obtain rfl : u = Value.ref p := r
 obtain ⟨its, rv, ⟨o, e1, c1, n, d1⟩, _⟩ := I.tuple (sg.tup hp)
 refine ⟨p, o, _, n, rfl, e1, c1, d1, ?_⟩
 have key : ∀ {k : List Int} {xs : List V} {its : List Value}, Dats X.K G xs (k.map PyData.int) → Vals xs its → IntsAre its k := by
  intro k
  induction k with
  | nil => intro xs its h r; rw [h.nil] at r; cases r; exact .nil
  | cons a k ih =>
   intro xs its h r
   obtain ⟨y, ys, rfl, hy, h'⟩ := h.cons
   cases hy.int
   cases r with
   | cons r1 r => obtain ⟨t, rfl⟩ := r1; exact .cons a t (ih h' r)
 simpa using key hxs rv
theorem triplesR (I : Inv X pins σ H s) (sg : Same G H) {m : Nat} : ∀ {vs : List V} {its : List Value} {ps : List Nat}, Vals vs its → Dats X.K G vs (ps.map (rowD m)) → ∃ Z : List (Value × V × Nat), Z.map (·.1) = its ∧ Z.map (·.2.2) = ps ∧ ∀ z ∈ Z, RelV z.2.1 z.1 ∧ Dat X.K G z.2.1 (rowD m z.2.2) ∧ RowAt s.heap z.1 (bits m z.2.2)
 | _, _, [], .nil, _ => ⟨[], rfl, rfl, fun z hz => by cases hz⟩
 | _, _, _ :: _, .nil, h => by obtain ⟨_, _, e, _⟩ := h.cons; cases e
 | _, _, [], .cons _ _, h => by cases h.nil
 | v0 :: vs0, u0 :: us0, q :: ps, .cons r rv, h => by
  obtain ⟨y, ys, e, hy, h'⟩ := h.cons
  cases e
  obtain ⟨Z, e1, e2, e3⟩ := triplesR I sg rv h'
  refine ⟨(u0, v0, q) :: Z, by rw [List.map_cons, e1], by rw [List.map_cons, e2], fun z hz => ?_⟩
  rcases List.mem_cons.mp hz with rfl | hz
  ·exact ⟨r, hy, row_of I sg r hy⟩
  ·exact e3 z hz
theorem call_sortedR {K : PySem.W.Frag} (e : X.K = K) : CallR X (.builtin "sorted") (rSrtR K) := by
 subst e
 intro pins s σ H xs us Q I r h
 obtain ⟨G, p, vs, m, rfl, sg, hq, hd, h8, k⟩ := h
 obtain ⟨u, rfl, rx⟩ := vals1 r
 cases rx
 obtain ⟨its, r', pl, hz⟩ := I.list hq
 obtain ⟨Z, z1, z2, z3⟩ := triplesR I sg r' hd
 obtain ⟨b1, b2⟩ := bitrev_ok m h8
 have zlen : Z.length = 2 ^ m := by have := congrArg List.length z2; rw [List.length_map, bitrev_len] at this; exact this
 have p8 : 2 ^ m ≤ 2 ^ 8 := Nat.pow_le_pow_right (by decide) h8
 have zl : (2 ^ 8 : Nat) ≤ sizeLine := by decide
 let Zf : Nat → Value × V × Nat := fun r => Z.getD ((bitrev m).getD r 0) (.none, .non, 0)
 have zat : ∀ i, i < 2 ^ m → ∃ z, Z[i]? = some z ∧ z ∈ Z ∧ z.2.2 = (bitrev m).getD i 0 := fun i hi => by
  have h1 : Z[i]? = some Z[i] := List.getElem?_eq_getElem (by omega)
  refine ⟨Z[i], h1, List.getElem_mem _, ?_⟩
  rw [← z2, List.getD_eq_getElem?_getD, List.getElem?_map, h1]; rfl
 have zf : ∀ r, r < 2 ^ m → Zf r ∈ Z ∧ (Zf r).2.2 = r := fun r hr => by
  obtain ⟨q1, q2⟩ := b2 r hr
  obtain ⟨z, e1, e2, e3⟩ := zat _ q1
  have : Zf r = z := by show Z.getD _ _ = z; rw [List.getD_eq_getElem?_getD, e1]; rfl
  rw [this]; exact ⟨e2, by rw [e3, q2]⟩
 have hits : its = (bitrev m).map fun r => (Zf r).1 := by
  apply List.ext_getElem?
  intro i
  by_cases hi : i < 2 ^ m
  ·obtain ⟨q1, q2⟩ := b2 i hi
   obtain ⟨z, e1, e2, e3⟩ := zat i hi
   have hb : (bitrev m)[i]? = some ((bitrev m).getD i 0) := by rw [List.getD_eq_getElem?_getD, List.getElem?_eq_getElem (by rw [bitrev_len]; exact hi)]; rfl
   rw [← z1, List.getElem?_map, List.getElem?_map, e1, hb]
   show some z.1 = some (Z.getD ((bitrev m).getD ((bitrev m).getD i 0) 0) _).1
   rw [q2, List.getD_eq_getElem?_getD, e1]; rfl
  ·rw [List.getElem?_eq_none (by rw [← z1, List.length_map]; omega), List.getElem?_eq_none (by rw [List.length_map, bitrev_len]; omega)]
 have hvals : ∀ L : List Nat, (∀ r ∈ L, r < 2 ^ m) → Vals (L.map fun r => (Zf r).2.1) (L.map fun r => (Zf r).1) ∧ Dats X.K G (L.map fun r => (Zf r).2.1) (L.map (rowD m)) := by
  intro L
  induction L with
  | nil => intro _; exact ⟨.nil, dats_nil⟩
  | cons r L ih =>
   intro h
   obtain ⟨i1, i2⟩ := ih fun y hy => h y (List.mem_cons_of_mem _ hy)
   obtain ⟨f1, f2⟩ := zf r (h r List.mem_cons_self)
   obtain ⟨h1, h2, _⟩ := z3 _ f1
   rw [f2] at h2
   exact ⟨.cons h1 i1, dats_cons h2 i2⟩
 obtain ⟨hV, hD⟩ := hvals (List.range (2 ^ m)) fun r hr => List.mem_range.mp hr
 have pl' := pl.isList
 rw [hits] at pl'
 refine sorted_rows h8 pl' (fun r hr => ?_) b1 ?_
 ·obtain ⟨f1, f2⟩ := zf r hr
  have := (z3 _ f1).2.2
  rw [f2] at this
  exact this
 obtain ⟨c, hc⟩ := sortedAll_at s.heap ((bitrev m).map fun r => (Zf r).1) ((List.range (2 ^ m)).map fun r => (Zf r).1).toArray
 exact ⟨.ref (s.heap.objs.size + 1), _, I.laid (t' := s.toks) (fun _ _ => sortedAll_old) (Nat.le_succ _) (show ObjOk X.prog X.w _ (sortedAll s.heap _ _) _ (.lst ((List.range (2 ^ m)).map fun r => (Zf r).2.1)) from ⟨by rw [List.length_map, List.length_range]; omega, ((List.range (2 ^ m)).map fun r => (Zf r).1), c, hV, hc⟩), rfl, k _ _ (I.hok.fresh (Nat.le_succ _)) hD⟩
theorem ev_srtR {K : PySem.W.Frag} {σ : St} {G : Hp} {t : TA} {m : Nat} (h : EvA K t σ G [.list ((bitrev m).map (rowD m))]) (h8 : m ≤ 8) : Ev K (tCB (rSrtR K) t) σ G (.list ((List.range (2 ^ m)).map (rowD m))) :=
 ev_cb h fun G1 H xs Q s1 s2 hx k => by
  obtain ⟨v, r, rfl, hv, hx⟩ := hx.cons
  rw [hx.nil]
  obtain ⟨p, ys, rfl, hp, hys⟩ := hv.lst
  refine ⟨G1, p, ys, m, rfl, s2, SqL.of (s2 _ _ hp), hys, h8, fun l us hl hd => ?_⟩
  have g := grow_new (o := .lst us) s2 hl
  exact k _ _ _ g (dat_lst upd_same (hd.same g.gg))
end
end L2
namespace Lw
open PySem L2
theorem bIsi : bootBuiltins "isinstance" = some (.builtin "isinstance") := by decide +kernel
theorem bTup : bootBuiltins "tuple" = some (.type "tuple") := by decide +kernel
theorem bBool : bootBuiltins "bool" = some (.type "bool") := by decide +kernel
theorem bInt : bootBuiltins "int" = some (.type "int") := by decide +kernel
theorem bSum : bootBuiltins "sum" = some (.builtin "sum") := by decide +kernel
theorem bAll : bootBuiltins "all" = some (.builtin "all") := by decide +kernel
theorem w0 {i : Int} (h : i.natAbs < 10 ^ 100) : i.natAbs < 2 ^ 4000 := Nat.lt_of_lt_of_le h (by decide +kernel)
theorem mw {i j : Int} (h : i.natAbs < 10 ^ 100) (h' : j.natAbs < 10 ^ 100) : CMulW i j := ⟨w0 h, w0 h'⟩
theorem same_new {H : Hp} {p : Addr} {o : HO} (hp : H p = none) : Same H (upd H p o) := fun b u e => by
 rw [upd_ne (ne_of_none e hp)]; exact e
def spLaw (K : PySem.W.Frag) : Sp := fun vs H Q _ => ∃ (a : Addr) (ns : List Int), vs = [.ref a] ∧ SqL K H a (ns.map V.int) ∧ ns.length ≤ 63 ∧ ∀ H', Q (.bl true) H'
end Lw
namespace L2
open PySem PySem.Spec PyProof.Rows Lw
structure Tg where
 ok : Addr → List Addr → Hp → Hp → Prop
 st : ∀ {p : Addr} {fp : List Addr} {G H G' H' : Hp}, ok p fp G H → Same G G' → (∀ a ∈ p :: fp, H' a = H a) → ok p fp G' H'
 live : ∀ {p : Addr} {fp : List Addr} {G H : Hp}, ok p fp G H → ∀ a ∈ p :: fp, ∃ o, H a = some o
inductive PV where
 | un
 | dat (d : PyData)
 | own (ds : List PyData)
 | lnt (p : Addr) (ds : List PyData)
 | scr (ns : List Int)
 | val (x : V)
 | thg (T : Tg)
def PV.rd : PV → Option (List PyData)
 | .own ds => some ds
 | .lnt _ ds => some ds
 | _ => none
def PV.mut : PV → Bool
 | .un => false
 | .dat _ => false
 | .scr _ => false
 | .val _ => false
 | _ => true
theorem PV.rd_mut {v : PV} {ds : List PyData} (h : v.rd = some ds) : v.mut = true := by cases v <;> first | rfl | cases h
def Sl (K : PySem.W.Frag) (G H : Hp) (o : Option (Option V)) : PV → List Addr → Prop
 | .un, F => F = []
 | .dat d, F => F = [] ∧ ∃ x, o = some (some x) ∧ Dat K G x d
 | .own ds, F => ∃ p xs, F = [p] ∧ o = some (some (.ref p)) ∧ H p = some (.lst xs) ∧ Dats K G xs ds
 | .lnt p ds, F => ∃ xs, F = [p] ∧ o = some (some (.ref p)) ∧ H p = some (.lst xs) ∧ Dats K G xs ds
 | .scr ns, F => F = [] ∧ ∃ a, o = some (some (.ref a)) ∧ SqL K G a (ns.map V.int)
 | .val x, F => F = [] ∧ o = some (some x)
 | .thg T, F => ∃ p fp, F = p :: fp ∧ o = some (some (.ref p)) ∧ T.ok p fp G H
theorem Sl.rd {K : PySem.W.Frag} {G H : Hp} {o : Option (Option V)} {v : PV} {F : List Addr} {ds : List PyData} (s : Sl K G H o v F) (h : v.rd = some ds) : ∃ p xs, F = [p] ∧ o = some (some (.ref p)) ∧ H p = some (.lst xs) ∧ Dats K G xs ds := by
 cases v with
 | own es => cases h; exact s
 | lnt p es => cases h; exact ⟨p, s⟩
 | _ => cases h
structure Gw (E : Addr → Prop) (G0 H0 G H : Hp) : Prop where
 gg : Same G0 G
 gh : Same G H
 kp : ∀ b o, ¬ E b → H0 b = some o → H b = some o
 al : ∀ b, H b = none → H0 b = none
 fr : ∀ b o, G b = some o → G0 b = some o ∨ H0 b = none
structure Rl (K : PySem.W.Frag) (B : Hp) (E : Addr → Prop) (G0 H0 G H : Hp) (σ : St) (ρ : List PV) (F : Nat → List Addr) : Prop where
 g : Gw E G0 H0 G H
 bb : Same B G
 ls : σ.length = ρ.length
 sl : ∀ i v, ρ[i]? = some v → Sl K G H σ[i]? v (F i)
 fr : ∀ i a, a ∈ F i → G a = none ∧ (∃ o, H a = some o) ∧ (E a ∨ H0 a = none)
 dj : ∀ i j a, a ∈ F i → a ∈ F j → i = j
 ow : ∀ i ds a, ρ[i]? = some (.own ds) → a ∈ F i → H0 a = none
structure Nw (G H H0 : Hp) (F : Nat → List Addr) (Fv : List Addr) : Prop where
 fr : ∀ a ∈ Fv, G a = none ∧ (∃ o, H a = some o) ∧ H0 a = none
 dj : ∀ a ∈ Fv, ∀ j, a ∉ F j
section
variable {K : PySem.W.Frag} {B : Hp} {E : Addr → Prop} {G0 H0 G H G' H' : Hp} {σ : St} {ρ : List PV} {F : Nat → List Addr}
theorem Gw.refl (s : Same G H) : Gw E G H G H := ⟨Same.refl _, s, fun _ _ _ h => h, fun _ h => h, fun _ _ h => .inl h⟩
theorem Gw.grow (g : Gw E G0 H0 G H) (k : Grow G H G' H') : Gw E G0 H0 G' H' :=
 ⟨g.gg.trans k.gg, k.gh, fun b o n h => k.hh b o (g.kp b o n h), fun b h => g.al b (k.hh.free h), fun b o h => (k.fr b o h).elim (g.fr b o) fun z => .inr (g.al b z)⟩
theorem Gw.toGrow (g : Gw (fun _ => False) G0 H0 G H) : Grow G0 H0 G H := ⟨g.gg, g.gh, fun b o h => g.kp b o (fun z => z) h, g.fr⟩
theorem Sl.grow {o : Option (Option V)} {v : PV} {L : List Addr} (s : Sl K G H o v L) (gg : Same G G') (hh : ∀ a ∈ L, H' a = H a) : Sl K G' H' o v L := by
 cases v with
 | un => exact s
 | dat d => obtain ⟨e, x, hx, hd⟩ := s; exact ⟨e, x, hx, hd.same gg⟩
 | own ds =>
  obtain ⟨p, xs, e, hx, hp, hd⟩ := s
  exact ⟨p, xs, e, hx, by rw [hh p (by rw [e]; simp)]; exact hp, hd.same gg⟩
 | lnt p ds =>
  obtain ⟨xs, e, hx, hp, hd⟩ := s
  exact ⟨xs, e, hx, by rw [hh p (by rw [e]; simp)]; exact hp, hd.same gg⟩
 | scr ns => obtain ⟨e, a, hx, hq⟩ := s; exact ⟨e, a, hx, gg.seq hq⟩
 | val x => exact s
 | thg T =>
  obtain ⟨p, fp, e, hx, ht⟩ := s
  exact ⟨p, fp, e, hx, T.st ht gg (by rw [← e]; exact hh)⟩
theorem Rl.grow (r : Rl K B E G0 H0 G H σ ρ F) (k : Grow G H G' H') : Rl K B E G0 H0 G' H' σ ρ F := by
 have hh : ∀ i, ∀ a ∈ F i, H' a = H a := fun i a ha => by
  obtain ⟨_, ⟨o, ho⟩, _⟩ := r.fr i a ha
  rw [ho]; exact k.hh a o ho
 refine ⟨r.g.grow k, r.bb.trans k.gg, r.ls, fun i v h => (r.sl i v h).grow k.gg (hh i), fun i a ha => ?_, r.dj, r.ow⟩
 obtain ⟨h1, ⟨o, h2⟩, h3⟩ := r.fr i a ha
 exact ⟨k.out h2 h1, ⟨o, k.hh a o h2⟩, h3⟩
theorem Rl.set {i : Nat} {v : V} {r : PV} {L : List Addr} (R : Rl K B E G0 H0 G H σ ρ F) (s : Sl K G H (some (some v)) r L) (n : Nw G H H0 F L) : Rl K B E G0 H0 G H (σ.set i (some v)) (ρ.set i r) (fun k => if k = i then L else F k) := by
 refine ⟨R.g, R.bb, by rw [List.length_set, List.length_set, R.ls], fun k u h => ?_, fun k a ha => ?_, fun k j a ha hb => ?_, fun k ds a h ha => ?_⟩
 ·by_cases e : k = i
  ·subst e
   rw [if_pos rfl]
   have hk : k < ρ.length := by
    have := (List.getElem?_eq_some_iff.mp h).1
    rw [List.length_set] at this; exact this
   rw [List.getElem?_set_self hk] at h
   cases h
   rw [List.getElem?_set_self (by rw [R.ls]; exact hk)]
   exact s
  ·rw [if_neg e]
   rw [List.getElem?_set_ne (Ne.symm e)] at h ⊢
   exact R.sl k u h
 ·by_cases e : k = i
  ·rw [if_pos e] at ha
   obtain ⟨h1, h2, h3⟩ := n.fr a ha
   exact ⟨h1, h2, .inr h3⟩
  ·rw [if_neg e] at ha; exact R.fr k a ha
 ·by_cases e : k = i
  ·by_cases e' : j = i
   ·rw [e, e']
   ·rw [if_pos e] at ha; rw [if_neg e'] at hb
    exact absurd hb (n.dj a ha j)
  ·by_cases e' : j = i
   ·rw [if_neg e] at ha; rw [if_pos e'] at hb
    exact absurd ha (n.dj a hb k)
   ·rw [if_neg e] at ha; rw [if_neg e'] at hb; exact R.dj k j a ha hb
 ·by_cases e : k = i
  ·rw [if_pos e] at ha; exact (n.fr a ha).2.2
  ·rw [if_neg e] at ha
   rw [List.getElem?_set_ne (Ne.symm e)] at h
   exact R.ow k ds a h ha
theorem nw_nil : Nw G H H0 F [] := ⟨fun _ h => (by cases h), fun _ h => (by cases h)⟩
theorem Rl.setD {i : Nat} {v : V} {d : PyData} (R : Rl K B E G0 H0 G H σ ρ F) (s : Dat K G v d) : Rl K B E G0 H0 G H (σ.set i (some v)) (ρ.set i (.dat d)) (fun k => if k = i then [] else F k) :=
 R.set ⟨rfl, v, rfl, s⟩ nw_nil
def Rx (K : PySem.W.Frag) (B : Hp) (G : Hp) (σ : St) (ρ : List PV) : Prop := Same B G ∧ (∀ (i : Nat) (d : PyData), ρ[i]? = some (PV.dat d) → ∃ x, σ[i]? = some (some x) ∧ Dat K G x d) ∧ (∀ (i : Nat) (v : PV) (ds : List PyData), ρ[i]? = some v → v.rd = some ds → ∃ x, σ[i]? = some (some x) ∧ Dat K G x (.list ds)) ∧ (∀ (i : Nat) (T : Tg), ρ[i]? = some (PV.thg T) → ∃ p fp, σ[i]? = some (some (.ref p)) ∧ T.ok p fp G G) ∧ (∀ (i : Nat) (ns : List Int), ρ[i]? = some (PV.scr ns) → ∃ a, σ[i]? = some (some (.ref a)) ∧ SqL K G a (ns.map V.int)) ∧ ∀ (i : Nat) (x : V), ρ[i]? = some (PV.val x) → σ[i]? = some (some x)
def Er (K : PySem.W.Frag) (B : Hp) (t : TE) (ρ : List PV) (d : PyData) : Prop := ∀ G σ, Rx K B G σ ρ → Ev K t σ G d
def Et (K : PySem.W.Frag) (B : Hp) (t : TT) (ρ : List PV) (b : Bool) : Prop := ∀ G σ, Rx K B G σ ρ → EvT t σ G b
def Ea (K : PySem.W.Frag) (B : Hp) (t : TA) (ρ : List PV) (ds : List PyData) : Prop := ∀ G σ, Rx K B G σ ρ → EvA K t σ G ds
def PV.msk : PV → PV
 | .dat d => .dat d
 | .scr ns => .scr ns
 | .val x => .val x
 | _ => .un
abbrev msk (ρ : List PV) : List PV := ρ.map PV.msk
theorem Rl.rx (R : Rl K B E G0 H0 G H σ ρ F) : Rx K B G σ (msk ρ) := by
 refine ⟨R.bb, ?_, ?_, ?_, ?_, ?_⟩
 ·intro i d h
  rw [List.getElem?_map] at h
  cases e : ρ[i]? with
  | none => rw [e] at h; cases h
  | some v =>
   rw [e] at h
   cases v with
   | dat d' =>
    cases h
    exact (R.sl i _ e).2
   | _ => cases h
 ·intro i u ds h hu
  rw [List.getElem?_map] at h
  cases e : ρ[i]? with
  | none => rw [e] at h; cases h
  | some v =>
   rw [e] at h
   cases v <;> cases h <;> cases hu
 ·intro i T h
  rw [List.getElem?_map] at h
  cases e : ρ[i]? with
  | none => rw [e] at h; cases h
  | some v => rw [e] at h; cases v <;> cases h
 ·intro i ns h
  rw [List.getElem?_map] at h
  cases e : ρ[i]? with
  | none => rw [e] at h; cases h
  | some v =>
   rw [e] at h
   cases v with
   | scr ms => cases h; exact (R.sl i _ e).2
   | _ => cases h
 ·intro i x h
  rw [List.getElem?_map] at h
  cases e : ρ[i]? with
  | none => rw [e] at h; cases h
  | some v =>
   rw [e] at h
   cases v with
   | val y => cases h; exact (R.sl i _ e).2
   | _ => cases h
open Classical in
noncomputable def gPl (ρ : List PV) (F : Nat → List Addr) (G H : Hp) : Hp := fun b => if ∃ i v, ρ[i]? = some v ∧ v.mut = true ∧ b ∈ F i then H b else G b
theorem Rl.gpl (R : Rl K B E G0 H0 G H σ ρ F) : Same G (gPl ρ F G H) ∧ Same (gPl ρ F G H) H ∧ Rx K B (gPl ρ F G H) σ ρ := by
 have s1 : Same G (gPl ρ F G H) := fun b o h => by
  unfold gPl
  split
  ·exact R.g.gh b o h
  ·exact h
 refine ⟨s1, fun b o h => ?_, R.bb.trans s1, fun i d h => ?_, fun i v ds h hv => ?_, fun i T h => ?_, fun i ns h => ?_, fun i x h => (R.sl i _ h).2⟩
 ·unfold gPl at h
  split at h
  ·exact h
  ·exact R.g.gh b o h
 ·obtain ⟨_, x, hx, hd⟩ := R.sl i _ h
  exact ⟨x, hx, hd.same s1⟩
 ·obtain ⟨p, xs, e, hx, hp, hd⟩ := (R.sl i _ h).rd hv
  refine ⟨_, hx, dat_lst (xs := xs) ?_ (hd.same s1)⟩
  unfold gPl
  rw [if_pos ⟨i, v, h, PV.rd_mut hv, by rw [e]; simp⟩]
  exact hp
 ·obtain ⟨p, fp, e, hx, ht⟩ := R.sl i _ h
  refine ⟨p, fp, hx, T.st ht s1 fun a ha => ?_⟩
  unfold gPl
  rw [if_pos ⟨i, _, h, rfl, by rw [e]; exact ha⟩]
 ·obtain ⟨_, a, hx, hq⟩ := R.sl i _ h
  exact ⟨a, hx, s1.seq hq⟩
def flat : PyData → Bool
 | .none | .bool _ | .int _ | .str _ => true
 | _ => false
theorem Dat.flat {v : V} {d : PyData} (h : Dat K G v d) (f : flat d = true) (G' : Hp) : Dat K G' v d := by
 cases d with
 | none => rw [h.non]; exact dat_non
 | bool b => rw [h.bl]; exact dat_bl b
 | int i => rw [h.int]; exact dat_int i
 | str x => rw [h.str]; exact dat_str x
 | list _ => cases f
 | tuple _ => cases f
 | dict _ => cases f
def Ex (K : PySem.W.Frag) (B : Hp) (t : TE) (ρ : List PV) (d : PyData) : Prop := ∀ E G0 H0 G H σ F, Rl K B E G0 H0 G H σ ρ F → ∀ Q : VK, (∀ v G' H', Grow G H G' H' → Dat K G' v d → Q v H') → t σ H Q
theorem ex_er {t : TE} {d : PyData} (h : Er K B t (msk ρ) d) : Ex K B t ρ d := fun _ _ _ G H σ F R Q k => h G σ R.rx G H (Same.refl _) R.g.gh Q k
theorem ex_flat {t : TE} {d : PyData} (h : Er K B t ρ d) (f : flat d = true) : Ex K B t ρ d := fun _ _ _ G H σ F R Q k => by
 obtain ⟨s1, s2, x⟩ := R.gpl
 exact h _ σ x _ H (Same.refl _) s2 Q fun v G' H' g hv => k v G H' (grow_h R.g.gh g.hh) (hv.flat f G)
theorem ex_ixo {i : Nat} {ti : TE} {u : PV} {ds : List PyData} {j : Int} {n : Nat} {d : PyData} (hi : ρ[i]? = some u) (hu : u.rd = some ds) (h : Er K B ti ρ (.int j)) (hn : ixN ds.length j = some n) (hd : ds[n]? = some d) : Ex K B (tOp (rIxL K) (tVar i) ti) ρ d := fun _ _ _ G H σ F R Q k => by
 obtain ⟨s1, s2, x⟩ := R.gpl
 obtain ⟨p, xs, e, hx, hp, hds⟩ := (R.sl i _ hi).rd hu
 refine ⟨_, hx, h _ σ x _ H (Same.refl _) s2 _ fun v G' H' g hv => ?_⟩
 obtain ⟨y, hy, hyd⟩ := hds.get hd
 refine ⟨p, xs, j, y, rfl, hv.int, SqL.of (g.hh _ _ hp), ?_, k y G H' (grow_h R.g.gh g.hh) hyd⟩
 unfold atI
 rw [hds.length, hn]
 exact hy
def Eg (K : PySem.W.Frag) (B : Hp) (t : TE) (ρ : List PV) (R : PV → List PV → Prop) : Prop := ∀ E G0 H0 G H σ F, Rl K B E G0 H0 G H σ ρ F → ∀ Q : VK,
 (∀ v r ρ' G' H' F' L, R r ρ' → Same G G' → Rl K B E G0 H0 G' H' σ ρ' F' → Sl K G' H' (some (some v)) r L → Nw G' H' H0 F' L → Q v H') → t σ H Q
theorem eg_ex {t : TE} {d : PyData} {R : PV → List PV → Prop} (h : Ex K B t ρ d) (k : R (.dat d) ρ) : Eg K B t ρ R := fun E G0 H0 G H σ F r Q q => h E G0 H0 G H σ F r Q fun v G' H' g hv => q v _ ρ G' H' F [] k g.gg (r.grow g) ⟨rfl, v, rfl, hv⟩ nw_nil
theorem eg_er {t : TE} {d : PyData} {R : PV → List PV → Prop} (h : Er K B t (msk ρ) d) (k : R (.dat d) ρ) : Eg K B t ρ R := eg_ex (ex_er h) k
theorem eg_flat {t : TE} {d : PyData} {R : PV → List PV → Prop} (h : Er K B t ρ d) (f : flat d = true) (k : R (.dat d) ρ) : Eg K B t ρ R := eg_ex (ex_flat h f) k
theorem Rl.newL {p : Addr} {xs : List V} {ds : List PyData} (R : Rl K B E G0 H0 G H σ ρ F) (hp : H p = none) (hd : Dats K G xs ds) : Rl K B E G0 H0 G (upd H p (.lst xs)) σ ρ F ∧ Sl K G (upd H p (.lst xs)) (some (some (.ref p))) (.own ds) [p] ∧ Nw G (upd H p (.lst xs)) H0 F [p] := by
 have gp : G p = none := R.g.gh.free hp
 refine ⟨R.grow (grow_h R.g.gh (same_new hp)), ⟨p, xs, rfl, rfl, upd_same, hd⟩, fun a ha => ?_, fun a ha j hj => ?_⟩
 ·rw [List.mem_singleton.mp ha]
  exact ⟨gp, ⟨_, upd_same⟩, R.g.al p hp⟩
 ·rw [List.mem_singleton.mp ha] at hj
  obtain ⟨_, ⟨o, h⟩, _⟩ := R.fr j p hj
  rw [hp] at h; cases h
theorem eg_lst {t : TA} {ds : List PyData} {R : PV → List PV → Prop} (h : Ea K B t (msk ρ) ds) (hl : ds.length ≤ sizeLine) (k : R (.own ds) ρ) : Eg K B (tLst t) ρ R := fun E G0 H0 G H σ F r Q q =>
 h G σ r.rx G H (Same.refl _) r.g.gh _ fun vs G' H' g hv => ⟨by rw [hv.length]; exact hl, fun p hp => by
  obtain ⟨a, b, c⟩ := (r.grow g).newL hp hv
  exact q _ _ ρ G' _ F [p] k g.gg a b c⟩
theorem eg_list {t : TA} {ds : List PyData} {R : PV → List PV → Prop} (h : Ea K B t (msk ρ) [.tuple ds] ∨ Ea K B t (msk ρ) [.list ds]) (k : R (.own ds) ρ) : Eg K B (tCB (fun xs H Q => ∃ p ys, xs = [.ref p] ∧ (SqL K H p ys ∨ SqT K H p ys) ∧ ∀ l, H l = none → Q (.ref l) (upd H l (.lst ys))) t) ρ R := fun E G0 H0 G H σ F r Q q => by
 rcases h with h | h
 ·refine h G σ r.rx G H (Same.refl _) r.g.gh _ fun vs G' H' g hv => ?_
  obtain ⟨y, ys, rfl, hy, hn⟩ := hv.cons
  cases hn.nil
  obtain ⟨p, xs, rfl, hp, hx⟩ := hy.tup
  refine ⟨p, xs, rfl, .inr (g.gh.tup hp), fun l hl => ?_⟩
  obtain ⟨a, b, c⟩ := (r.grow g).newL hl hx
  exact q _ _ ρ G' _ F [l] k g.gg a b c
 ·refine h G σ r.rx G H (Same.refl _) r.g.gh _ fun vs G' H' g hv => ?_
  obtain ⟨y, ys, rfl, hy, hn⟩ := hv.cons
  cases hn.nil
  obtain ⟨p, xs, rfl, hp, hx⟩ := hy.lst
  refine ⟨p, xs, rfl, .inl (SqL.of (g.gh _ _ hp)), fun l hl => ?_⟩
  obtain ⟨a, b, c⟩ := (r.grow g).newL hl hx
  exact q _ _ ρ G' _ F [l] k g.gg a b c
def spO (K : PySem.W.Frag) (R : List PyData → List PyData → Prop) : Sp := fun vs H Q _ => ∃ (G : Hp) (ds es : List PyData), Same G H ∧ Dats K G vs ds ∧ R ds es ∧ ∀ p xs G' H', Grow G H G' H' → G' p = none → H p = none → H' p = some (.lst xs) → Dats K G' xs es → Q (.ref p) H'
theorem ev_callO {Rf : List PyData → List PyData → Prop} {X : XK} {t : TA} {ds es : List PyData} (h : EvA K t σ G ds) (hR : Rf ds es) : Ev K (tCall (spO K Rf) [] X t) σ G (.list es) := fun G1 H s1 s2 Q k => by
 refine h G1 H s1 s2 _ fun vs G2 H2 g hv => ?_
 rw [List.append_nil]
 refine ⟨G2, ds, es, g.gh, hv, hR, fun p xs G3 H3 g3 gp hp hp3 hd => ?_⟩
 have gg : Grow G2 H2 (upd G3 p (.lst xs)) H3 := ⟨g3.gg.trans (same_new gp), fun b o e => by
  by_cases z : b = p
  ·subst z; rw [upd_same] at e; rw [hp3, e]
  ·rw [upd_ne z] at e; exact g3.gh b o e, g3.hh, fun b o e => by
  by_cases z : b = p
  ·subst z; exact .inr hp
  ·rw [upd_ne z] at e; exact g3.fr b o e⟩
 exact k _ _ H3 (g.trans gg) (dat_lst upd_same (hd.same (same_new gp)))
structure Pn where
 nx : List PV → Prop
 rt : PV → List PV → Prop
 bk : List PV → Prop := fun _ => False
 ct : List PV → Prop := fun _ => False
structure Dn (K : PySem.W.Frag) (B : Hp) (E : Addr → Prop) (G0 H0 Gs : Hp) (R : Pn) (D : Ends) : Prop where
 nx : ∀ {G H σ ρ F}, R.nx ρ → Same Gs G → Rl K B E G0 H0 G H σ ρ F → D.nx σ H
 rt : ∀ {v r G H σ ρ F L}, R.rt r ρ → Same Gs G → Rl K B E G0 H0 G H σ ρ F → Sl K G H (some (some v)) r L → Nw G H H0 F L → D.rt v H
 bk : ∀ {G H σ ρ F}, R.bk ρ → Same Gs G → Rl K B E G0 H0 G H σ ρ F → D.bk σ H
 ct : ∀ {G H σ ρ F}, R.ct ρ → Same Gs G → Rl K B E G0 H0 G H σ ρ F → D.ct σ H
theorem Dn.mono {Gs Gt : Hp} {R : Pn} {D : Ends} (d : Dn K B E G0 H0 Gs R D) (s : Same Gs Gt) : Dn K B E G0 H0 Gt R D := ⟨fun x y => d.nx x (s.trans y), fun x y => d.rt x (s.trans y), fun x y => d.bk x (s.trans y), fun x y => d.ct x (s.trans y)⟩
def Sv (K : PySem.W.Frag) (B : Hp) (t : TS) (ρ : List PV) (R : Pn) : Prop := ∀ E G0 H0 G H σ F D, Rl K B E G0 H0 G H σ ρ F → Dn K B E G0 H0 G R D → t D σ H
theorem sv_seq {t u : TS} {R : Pn} (h : Sv K B t ρ { R with nx := fun ρ' => Sv K B u ρ' R }) : Sv K B (tSeq t u) ρ R := fun E G0 H0 G H σ F D r d =>
 h E G0 H0 G H σ F { D with nx := u D } r ⟨fun hs s r' => hs E G0 H0 _ _ _ _ D r' (d.mono s), d.rt, d.bk, d.ct⟩
theorem sv_next {R : Pn} (h : R.nx ρ) : Sv K B tNext ρ R := fun E G0 H0 G H σ F D r d => d.nx h (Same.refl _) r
theorem sv_imp {t : TS} {R R' : Pn} (h : Sv K B t ρ R) (n : ∀ ρ, R.nx ρ → R'.nx ρ) (q : ∀ r ρ, R.rt r ρ → R'.rt r ρ) (b : ∀ ρ, R.bk ρ → R'.bk ρ) (c : ∀ ρ, R.ct ρ → R'.ct ρ) : Sv K B t ρ R' := fun E G0 H0 G H σ F D r d =>
 h E G0 H0 G H σ F D r ⟨fun x => d.nx (n _ x), fun x => d.rt (q _ _ x), fun x => d.bk (b _ x), fun x => d.ct (c _ x)⟩
theorem sv_asg {te : TE} {i : Nat} {R : Pn} (h : Eg K B te ρ fun r ρ' => R.nx (ρ'.set i r)) : Sv K B (tAsg te (gName i)) ρ R := fun E G0 H0 G H σ F D r d =>
 h E G0 H0 G H σ F r _ fun v w ρ' G' H' F' L hR s r' sl n => d.nx hR s (r'.set sl n)
theorem sv_if {c : TT} {t u : TS} {b : Bool} {R : Pn} (h : Et K B c ρ b) (k1 : b = true → Sv K B t ρ R) (k2 : b = false → Sv K B u ρ R) : Sv K B (tIfS c t u) ρ R := fun E G0 H0 G H σ F D r d => by
 obtain ⟨s1, s2, x⟩ := r.gpl
 refine h _ σ x _ H (Same.refl _) s2 _ fun G' H' g => ?_
 have r' := r.grow (grow_h r.g.gh g.hh)
 cases b with
 | true => rw [if_pos rfl]; exact k1 rfl E G0 H0 _ _ σ F D r' d
 | false => rw [if_neg Bool.false_ne_true]; exact k2 rfl E G0 H0 _ _ σ F D r' d
theorem sv_ifT {c : TT} {t u : TS} {R : Pn} (h : Et K B c ρ true) (k1 : Sv K B t ρ R) : Sv K B (tIfS c t u) ρ R := sv_if h (fun _ => k1) fun z => (by cases z)
theorem sv_ifF {c : TT} {t u : TS} {R : Pn} (h : Et K B c ρ false) (k1 : Sv K B u ρ R) : Sv K B (tIfS c t u) ρ R := sv_if h (fun z => by cases z) fun _ => k1
theorem sv_ret {te : TE} {R : Pn} (h : Eg K B te ρ R.rt) : Sv K B (tRet te) ρ R := fun E G0 H0 G H σ F D r d =>
 h E G0 H0 G H σ F r _ fun v w ρ' G' H' F' L hR s r' sl n => d.rt hR s r' sl n
open Classical in
end
end L2
namespace L2
open PySem PySem.Spec PyProof.Rows Lw
section
variable {K : PySem.W.Frag} {B : Hp} {E : Addr → Prop} {G0 H0 G H G' H' : Hp} {σ : St} {ρ : List PV} {F : Nat → List Addr} {ta tb te : TE} {a b d : PyData} {ds es : List PyData}
theorem Rx.mono (r : Rx K B G σ ρ) (s : Same G G') : Rx K B G' σ ρ :=
 ⟨r.1.trans s, fun i d h => let ⟨x, hx, hd⟩ := r.2.1 i d h; ⟨x, hx, hd.same s⟩, fun i v d h hv => let ⟨x, hx, hd⟩ := r.2.2.1 i v d h hv; ⟨x, hx, hd.same s⟩, fun i T h => let ⟨p, fp, hx, ht⟩ := r.2.2.2.1 i T h; ⟨p, fp, hx, T.st ht s fun a ha => by
  obtain ⟨o, ho⟩ := T.live ht a ha
  rw [ho, s a o ho]⟩, fun i ns h => let ⟨a, hx, hq⟩ := r.2.2.2.2.1 i ns h; ⟨a, hx, s.seq hq⟩, r.2.2.2.2.2⟩
theorem er_var {i : Nat} (h : ρ[i]? = some (.dat d)) : Er K B (tVar i) ρ d := fun G σ r => let ⟨x, hx, hd⟩ := r.2.1 i d h; ev_var hx hd
theorem er_own {i : Nat} {u : PV} (h : ρ[i]? = some u) (hu : u.rd = some ds) : Er K B (tVar i) ρ (.list ds) := fun G σ r => let ⟨x, hx, hd⟩ := r.2.2.1 i u ds h hu; ev_var hx hd
theorem er_int {i : Int} : Er K B (tC (.int i)) ρ (.int i) := fun _ _ _ => ev_int
theorem er_non : Er K B (tC .non) ρ .none := fun _ _ _ => ev_non
theorem er_i0 {g : Int → Int → V} {i j : Int} (ha : Er K B ta ρ (.int i)) (hb : Er K B tb ρ (.int j)) (hg : ∀ G, Dat K G (g i j) d) : Er K B (tOp (rI0 g) ta tb) ρ d := fun G σ r => ev_i0 (ha G σ r) (hb G σ r) (hg G)
theorem er_iC {C : Int → Int → Prop} {g : Int → Int → V} {i j : Int} (ha : Er K B ta ρ (.int i)) (hb : Er K B tb ρ (.int j)) (hc : C i j) (hg : ∀ G, Dat K G (g i j) d) : Er K B (tOp (rI C g) ta tb) ρ d := fun G σ r => ev_iC (ha G σ r) (hb G σ r) hc (hg G)
theorem er_ixT {i : Int} {n : Nat} (ha : Er K B ta ρ (.tuple ds)) (hb : Er K B tb ρ (.int i)) (hn : ixN ds.length i = some n) (hd : ds[n]? = some d) : Er K B (tOp (rIxT K) ta tb) ρ d := fun G σ r => ev_ixT (ha G σ r) (hb G σ r) hn hd
theorem er_ixL {i : Int} {n : Nat} (ha : Er K B ta ρ (.list ds)) (hb : Er K B tb ρ (.int i)) (hn : ixN ds.length i = some n) (hd : ds[n]? = some d) : Er K B (tOp (rIxL K) ta tb) ρ d := fun G σ r => ev_ixL (ha G σ r) (hb G σ r) hn hd
theorem er_eqD {g : Bool → Bool} {n : Nat} (ha : Er K B ta ρ a) (hb : Er K B tb ρ b) (pa : Pl n a) (pb : Pl n b) (hn : n ≤ 64) : Er K B (tOp (rEqD K g) ta tb) ρ (.bool (g (PySem.Spec.same a b))) := fun G σ r => ev_eqD (ha G σ r) (hb G σ r) pa pb hn
theorem er_ne {i j : Int} (ha : Er K B ta ρ (.int i)) (hb : Er K B tb ρ (.int j)) : Er K B (tOp rNe ta tb) ρ (.bool (!decide (i = j))) := fun G σ r => ev_ne (ha G σ r) (hb G σ r)
theorem er_eqI {i j : Int} (ha : Er K B ta ρ (.int i)) (hb : Er K B tb ρ (.int j)) : Er K B (tOp rEq ta tb) ρ (.bool (decide (i = j))) := fun G σ r => ev_eqI (ha G σ r) (hb G σ r)
theorem ea_nil : Ea K B tNil ρ [] := fun _ _ _ => eva_nil
theorem ea_cons {t : TA} (ha : Er K B ta ρ a) (hb : Ea K B t ρ ds) : Ea K B (tCons ta t) ρ (a :: ds) := fun G σ r => eva_cons (ha G σ r) (hb G σ r)
theorem er_tup {t : TA} (h : Ea K B t ρ ds) (hl : ds.length ≤ sizeLine) : Er K B (tTup t) ρ (.tuple ds) := fun G σ r => ev_tup (h G σ r) hl
theorem er_lst {t : TA} (h : Ea K B t ρ ds) (hl : ds.length ≤ sizeLine) : Er K B (tLst t) ρ (.list ds) := fun G σ r => ev_lst (h G σ r) hl
theorem er_lenL {t : TA} (h : Ea K B t ρ [.list ds]) : Er K B (tCB (fun xs H Q => ∃ p ys, xs = [.ref p] ∧ (SqL K H p ys ∨ SqT K H p ys) ∧ Q (.int ys.length) H) t) ρ (.int ds.length) := fun G σ r => ev_lenL (h G σ r)
theorem er_lenT {t : TA} (h : Ea K B t ρ [.tuple ds]) : Er K B (tCB (fun xs H Q => ∃ p ys, xs = [.ref p] ∧ (SqL K H p ys ∨ SqT K H p ys) ∧ Q (.int ys.length) H) t) ρ (.int ds.length) := fun G σ r => ev_lenT (h G σ r)
theorem er_tupleL {t : TA} (h : Ea K B t ρ [.list ds]) : Er K B (tCB (fun xs H Q => ∃ p ys, xs = [.ref p] ∧ ((SqL K H p ys ∧ ∀ l, H l = none → Q (.ref l) (upd H l (.tup ys))) ∨ (SqT K H p ys ∧ Q (.ref p) H))) t) ρ (.tuple ds) := fun G σ r => ev_tupleL (h G σ r)
theorem et_test {t : TE} {c : Bool} (h : Er K B t ρ (.bool c)) : Et K B (tTest t) ρ c := fun G σ r => evt_test (h G σ r)
theorem et_b {t : TE} {c : Bool} (h : Er K B t ρ (.bool c)) : Et K B (tB t) ρ c := fun G σ r => evt_b (h G σ r)
theorem et_not {t : TT} {c : Bool} (h : Et K B t ρ c) : Et K B (tNot t) ρ (!c) := fun G σ r => evt_not (h G σ r)
theorem et_or {t u : TT} {c e : Bool} (h : Et K B t ρ c) (h' : c = false → Et K B u ρ e) : Et K B (tOr t u) ρ (c || e) := fun G σ r => evt_or (h G σ r) fun z => h' z G σ r
theorem et_and {t u : TT} {c e : Bool} (h : Et K B t ρ c) (h' : c = true → Et K B u ρ e) : Et K B (tAnd t u) ρ (c && e) := fun G σ r => evt_and (h G σ r) fun z => h' z G σ r
theorem et_c {t : TT} {c e : Bool} (h : Et K B t ρ c) (q : c = e) : Et K B t ρ e := q ▸ h
theorem et_noif : Et K B tNoIf ρ true := fun _ _ _ => evt_noif
theorem er_d {t : TE} {e : PyData} (h : Er K B t ρ d) (q : d = e) : Er K B t ρ e := q ▸ h
theorem er_and {c e : Bool} (h : Er K B ta ρ (.bool c)) (h' : c = true → Er K B tb ρ (.bool e)) : Er K B (tAndV ta tb) ρ (.bool (c && e)) := fun G σ r => ev_and (h G σ r) fun z => h' z G σ r
theorem er_call {R : List PyData → PyData → Prop} {X : XK} {t : TA} (h : Ea K B t ρ ds) (hR : R ds d) : Er K B (tCall (spP K R) [] X t) ρ d := fun G σ r => ev_call (h G σ r) hR
theorem er_callO {R : List PyData → List PyData → Prop} {X : XK} {t : TA} (h : Ea K B t ρ ds) (hR : R ds es) : Er K B (tCall (spO K R) [] X t) ρ (.list es) := fun G σ r => ev_callO (h G σ r) hR
theorem er_isD {n : String} {c : Bool} (ha : Er K B ta ρ d) (e : PySem.W.kitOne K (.type (tyN d)) (.type n) = some c) : Er K B (tCB (rIsD K) (tCons ta (tCons (tC (.ty n)) tNil))) ρ (.bool c) := fun G σ r => ev_isD (ha G σ r) e
theorem er_isN (ha : Er K B ta ρ d) : Er K B (tOp (fun x y H Q => y = .non ∧ Q (.bl (decide (x = .non))) H) ta (tC .non)) ρ (.bool (match d with | .none => true | _ => false)) := fun G σ r => ev_op (ha G σ r) ev_non fun G1 H x y Q s1 s2 hx hy k => by
 refine ⟨hy.non, ?_⟩
 cases d with
 | none => rw [hx.non]; exact k _ G1 H (Grow.refl s2) (dat_bl _)
 | bool b => rw [hx.bl]; exact k _ G1 H (Grow.refl s2) (dat_bl _)
 | int i => rw [hx.int]; exact k _ G1 H (Grow.refl s2) (dat_bl _)
 | str s => rw [hx.str]; exact k _ G1 H (Grow.refl s2) (dat_bl _)
 | list l => obtain ⟨p, xs, rfl, _⟩ := hx.lst; exact k _ G1 H (Grow.refl s2) (dat_bl _)
 | tuple l => obtain ⟨p, xs, rfl, _⟩ := hx.tup; exact k _ G1 H (Grow.refl s2) (dat_bl _)
 | dict l => exact hx.elim
structure Wd (K : PySem.W.Frag) (J : It) (G : Hp) (ds : List PyData) : Prop where
 go : ∀ i H', Same G H' → i < ds.length → J.go i H'
 stop : ∀ i H', Same G H' → ds.length ≤ i → J.stop i H'
 yld : ∀ i H1 x H2 G1 d, Same G G1 → Same G1 H1 → ds[i]? = some d → J.yld i H1 x H2 → ∃ G2, Grow G1 H1 G2 H2 ∧ Dat K G2 x d
def Ei (K : PySem.W.Frag) (B : Hp) (wi : TI) (ρ : List PV) (ds : List PyData) : Prop := ∀ G H σ, Rx K B G σ ρ → Same G H → ∀ R : It → Hp → Prop, (∀ J G' H', Grow G H G' H' → Wd K J G' ds → R J H') → wi σ H R
theorem wd_range {lo : Int} {n : Nat} : Wd K (Itr lo n) G ((List.range n).map fun (i : Nat) => PyData.int (lo + i)) := by
 refine ⟨fun i H' _ h => by rw [List.length_map, List.length_range] at h; exact h, fun i H' _ h => by rw [List.length_map, List.length_range] at h; exact h, fun i H1 x H2 G1 d s1 s2 hd y => ?_⟩
 obtain ⟨rfl, rfl⟩ := y
 refine ⟨G1, Grow.refl s2, ?_⟩
 rw [List.getElem?_map] at hd
 by_cases h : i < n
 ·rw [List.getElem?_range h] at hd
  cases hd; exact dat_int _
 ·rw [List.getElem?_eq_none (by rw [List.length_range]; omega)] at hd; cases hd
theorem wd_lst {p : Addr} {xs : List V} (h : G p = some (.lst xs)) (hd : Dats K G xs ds) : Wd K (Itl K p) G ds := by
 refine ⟨fun i H' s hi => ⟨xs, _, SqL.of (s _ _ h), List.getElem?_eq_getElem (by rw [hd.length]; exact hi)⟩, fun i H' s hi => ⟨xs, SqL.of (s _ _ h), by rw [hd.length]; exact hi⟩, fun i H1 x H2 G1 d s1 s2 he y => ?_⟩
 obtain ⟨rfl, y⟩ := y
 obtain ⟨x', hx', hdx⟩ := hd.get he
 have := y xs (SqL.of (s2 _ _ (s1 _ _ h)))
 rw [hx'] at this; cases this
 exact ⟨G1, Grow.refl s2, hdx.same s1⟩
theorem ei_lst (h : Er K B te ρ (.list ds)) : Ei K B (iList K te) ρ ds := fun G H σ r s R k => h G σ r G H (Same.refl _) s _ fun v G' H' g hv => by
 obtain ⟨p, xs, rfl, hp, hx⟩ := hv.lst
 exact ⟨p, rfl, ⟨xs, SqL.of (g.gh _ _ hp)⟩, k _ G' H' g (wd_lst hp hx)⟩
theorem ei_rng {t : TA} {j : Int} (h : Ea K B t ρ [.int j]) (hj : -(2 ^ 62) ≤ j ∧ j < 2 ^ 62) : Ei K B (iRng1 t) ρ ((List.range j.toNat).map fun (i : Nat) => PyData.int (0 + i)) := fun G H σ r s R k => h G σ r G H (Same.refl _) s _ fun vs G' H' g hv => by
 obtain ⟨y, ys, rfl, hy, r⟩ := hv.cons
 rw [r.nil, hy.int]
 exact ⟨j, rfl, hj.1, hj.2, k _ G' H' g wd_range⟩
theorem ei_rng2 {t : TA} {lo j : Int} (h : Ea K B t ρ [.int lo, .int j]) (hj : -(2 ^ 62) ≤ lo ∧ lo < 2 ^ 62 ∧ -(2 ^ 62) ≤ j ∧ j < 2 ^ 62) : Ei K B (iRng2 t) ρ ((List.range (j - lo).toNat).map fun (i : Nat) => PyData.int (lo + i)) := fun G H σ r s R k => h G σ r G H (Same.refl _) s _ fun vs G' H' g hv => by
 obtain ⟨y, ys, rfl, hy, r⟩ := hv.cons
 obtain ⟨y', ys', rfl, hy', r'⟩ := r.cons
 rw [r'.nil, hy.int, hy'.int]
 exact ⟨lo, j, rfl, hj, k _ G' H' g wd_range⟩
def enumD (ds : List PyData) : List PyData := (List.range ds.length).map fun (i : Nat) => PyData.tuple [.int i, ds.getD i .none]
theorem enumD_get {i : Nat} {d : PyData} (h : (enumD ds)[i]? = some d) : ∃ e, ds[i]? = some e ∧ d = .tuple [.int i, e] := by
 unfold enumD at h
 rw [List.getElem?_map] at h
 by_cases hi : i < ds.length
 ·rw [List.getElem?_range hi] at h
  cases h
  exact ⟨ds[i], List.getElem?_eq_getElem hi, by show PyData.tuple [.int i, ds.getD i .none] = _; rw [List.getD_eq_getElem?_getD, List.getElem?_eq_getElem hi]; rfl⟩
 ·rw [List.getElem?_eq_none (by rw [List.length_range]; omega)] at h; cases h
theorem enumD_len : (enumD ds).length = ds.length := by unfold enumD; rw [List.length_map, List.length_range]
theorem ei_enT {t : TA} (h : Ea K B t ρ [.tuple ds]) : Ei K B (iEnT K t) ρ (enumD ds) := fun G H σ r s R k => h G σ r G H (Same.refl _) s _ fun vs G' H' g hv => by
 obtain ⟨y, ys, rfl, hy, r⟩ := hv.cons
 cases r.nil
 obtain ⟨p, xs, rfl, hp, hx⟩ := hy.tup
 refine ⟨p, rfl, ⟨xs, g.gh.tup hp⟩, k _ G' H' g ⟨fun i H' s hi => ?_, fun i H' s hi => ?_, fun i H1 x H2 G1 d s1 s2 he y => ?_⟩⟩
 ·rw [enumD_len, ← hx.length] at hi
  exact ⟨xs, _, s.tup hp, List.getElem?_eq_getElem hi⟩
 ·rw [enumD_len, ← hx.length] at hi
  exact ⟨xs, s.tup hp, hi⟩
 ·obtain ⟨e, he', rfl⟩ := enumD_get he
  obtain ⟨q, z, hq, rfl, rfl, hz⟩ := y
  obtain ⟨x', hx', hdx⟩ := hx.get he'
  have := hz xs (s2.tup (s1.tup hp))
  rw [hx'] at this; cases this
  have g := grow_new (o := .tup [.int (i : Nat), z]) s2 hq
  exact ⟨_, g, dat_tup (SqT.of upd_same) (dats_cons (dat_int _) (dats_cons ((hdx.same s1).same g.gg) dats_nil))⟩
def capP (ρ : List PV) (js : List Nat) : List PV := js.map fun j => (ρ[j]?).getD .un
theorem rx_cap {x : V} {js : List Nat} (r : Rx K B G σ ρ) (hd : Dat K G x d) : Rx K B G (some x :: capV σ js) (.dat d :: capP ρ js) := by
 refine ⟨r.1, fun i e h => ?_, fun i u e h hu => ?_, fun i T h => ?_, fun i ns h => ?_, fun i y h => ?_⟩
 ·cases i with
  | zero => cases h; exact ⟨x, rfl, hd⟩
  | succ i =>
   rw [List.getElem?_cons_succ] at h ⊢
   unfold capP at h
   unfold capV
   rw [List.getElem?_map] at h ⊢
   cases q : js[i]? with
   | none => rw [q] at h; cases h
   | some j =>
    rw [q] at h
    have h : (ρ[j]?).getD .un = .dat e := Option.some.inj h
    cases z : ρ[j]? with
    | none => rw [z] at h; cases h
    | some u =>
     rw [z] at h
     have h : u = .dat e := h
     subst h
     obtain ⟨y, hy, hyd⟩ := r.2.1 j e z
     exact ⟨y, by show some (σ[j]?).join = _; rw [hy]; rfl, hyd⟩
 ·cases i with
  | zero => cases h; cases hu
  | succ i =>
   rw [List.getElem?_cons_succ] at h ⊢
   unfold capP at h
   unfold capV
   rw [List.getElem?_map] at h ⊢
   cases q : js[i]? with
   | none => rw [q] at h; cases h
   | some j =>
    rw [q] at h
    have h : (ρ[j]?).getD .un = u := Option.some.inj h
    cases z : ρ[j]? with
    | none => rw [z] at h; subst h; cases hu
    | some u' =>
     rw [z] at h
     have h : u' = u := h
     subst h
     obtain ⟨y, hy, hyd⟩ := r.2.2.1 j u' e z hu
     exact ⟨y, by show some (σ[j]?).join = _; rw [hy]; rfl, hyd⟩
 ·cases i with
  | zero => cases h
  | succ i =>
   rw [List.getElem?_cons_succ] at h ⊢
   unfold capP at h
   unfold capV
   rw [List.getElem?_map] at h ⊢
   cases q : js[i]? with
   | none => rw [q] at h; cases h
   | some j =>
    rw [q] at h
    have h : (ρ[j]?).getD .un = .thg T := Option.some.inj h
    cases z : ρ[j]? with
    | none => rw [z] at h; cases h
    | some u' =>
     rw [z] at h
     have h : u' = .thg T := h
     subst h
     obtain ⟨p, fp, hy, hyd⟩ := r.2.2.2.1 j T z
     exact ⟨p, fp, by show some (σ[j]?).join = _; rw [hy]; rfl, hyd⟩
 ·cases i with
  | zero => cases h
  | succ i =>
   rw [List.getElem?_cons_succ] at h ⊢
   unfold capP at h
   unfold capV
   rw [List.getElem?_map] at h ⊢
   cases q : js[i]? with
   | none => rw [q] at h; cases h
   | some j =>
    rw [q] at h
    have h : (ρ[j]?).getD .un = .scr ns := Option.some.inj h
    cases z : ρ[j]? with
    | none => rw [z] at h; cases h
    | some u' =>
     rw [z] at h
     have h : u' = .scr ns := h
     subst h
     obtain ⟨p, hy, hyd⟩ := r.2.2.2.2.1 j ns z
     exact ⟨p, by show some (σ[j]?).join = _; rw [hy]; rfl, hyd⟩
 ·cases i with
  | zero => cases h
  | succ i =>
   rw [List.getElem?_cons_succ] at h ⊢
   unfold capP at h
   unfold capV
   rw [List.getElem?_map] at h ⊢
   cases q : js[i]? with
   | none => rw [q] at h; cases h
   | some j =>
    rw [q] at h
    have h : (ρ[j]?).getD .un = .val y := Option.some.inj h
    cases z : ρ[j]? with
    | none => rw [z] at h; cases h
    | some u' =>
     rw [z] at h
     have h : u' = .val y := h
     subst h
     have hy := r.2.2.2.2.2 j y z
     show some (σ[j]?).join = _
     rw [hy]; rfl
def Lcx (K : PySem.W.Frag) (B : Hp) (tt : TT) (te : TE) (ρ : List PV) (o : Option PyData) : Prop := (∃ d, o = some d ∧ Et K B tt ρ true ∧ Er K B te ρ d) ∨ (o = none ∧ Et K B tt ρ false)
theorem lx1 {tt : TT} (ht : Et K B tt ρ true) (he : Er K B te ρ d) : Lcx K B tt te ρ (some d) := .inl ⟨d, rfl, ht, he⟩
theorem lxB {tt : TT} {c : Bool} (ht : Et K B tt ρ c) (he : c = true → Er K B te ρ d) : Lcx K B tt te ρ (if c then some d else none) := by
 cases c with
 | true => exact .inl ⟨d, rfl, ht, he rfl⟩
 | false => exact .inr ⟨rfl, ht⟩
theorem lc_own {α : Type} {wi : TI} {js : List Nat} {tt : TT} (as : List α) (enc : α → PyData) (f : α → Option PyData) (h : Ei K B wi ρ (as.map enc)) (hn : as.length < sizeLine) (hc : ∀ a ∈ as, Lcx K B tt te (.dat (enc a) :: capP ρ js) (f a))
  (r : Rx K B G σ ρ) (s : Same G H) {Q : VK} (k : ∀ p xs G' H', Grow G H G' H' → H' p = none → Dats K G' xs (as.filterMap f) → Q (.ref p) (upd H' p (.lst xs))) : tLC wi js tt te σ H Q := by
 refine h G H σ r s _ fun J G2 H2 g2 W => ?_
 have fl : ∀ i (hi : i < as.length), ((as.take (i + 1)).filterMap f) = (as.take i).filterMap f ++ (f as[i]).toList := fun i hi => by
  rw [List.take_succ, List.filterMap_append, List.getElem?_eq_getElem hi]
  show _ ++ List.filterMap f [as[i]] = _
  rw [List.filterMap_cons]
  cases f as[i] <;> rfl
 refine ⟨fun i m ys H' => m = as.length - i ∧ i ≤ as.length ∧ ys.length ≤ i ∧ ∃ G', Grow G2 H2 G' H' ∧ Dats K G' ys ((as.take i).filterMap f), ⟨as.length, by omega, by omega, by simp, G2, Grow.refl g2.gh, by simpa using dats_nil⟩, ?_⟩
 rintro i m ys H' ⟨rfl, hi, hl, G', g', hys⟩
 refine ⟨by omega, ?_⟩
 have sgh : Same G2 H' := g'.gg.trans g'.gh
 by_cases hin : i = as.length
 ·subst hin
  refine .inl ⟨W.stop _ H' sgh (by rw [List.length_map]; exact Nat.le_refl _), fun p hp => ?_⟩
  rw [List.take_length] at hys
  exact k p ys G' H' (g2.trans g') hp hys
 ·have hi' : i < as.length := by omega
  refine .inr ⟨W.go i H' sgh (by rw [List.length_map]; exact hi'), fun x H'' hy => ?_⟩
  obtain ⟨G3, g3, hx⟩ := W.yld i H' x H'' G' (enc as[i]) g'.gg g'.gh (by rw [List.getElem?_map, List.getElem?_eq_getElem hi']; rfl) hy
  have rx := rx_cap (js := js) ((r.mono (g2.gg.trans g'.gg)).mono g3.gg) hx
  rcases hc as[i] (List.getElem_mem hi') with ⟨d, hf, ht, he⟩ | ⟨hf, ht⟩
  ·refine ht _ _ rx G3 H'' (Same.refl _) g3.gh _ fun G4 H4 g4 => ?_
   rw [if_pos rfl]
   refine he _ _ (rx.mono g4.gg) G4 H4 (Same.refl _) g4.gh _ fun v G5 H5 g5 hv => ⟨as.length - (i + 1), by omega, rfl, by omega, by rw [List.length_append]; show ys.length + 1 ≤ i + 1; omega, G5, ((g'.trans g3).trans g4).trans g5, ?_⟩
   rw [fl i hi', hf]
   exact dats_snoc (hys.same ((g3.gg.trans g4.gg).trans g5.gg)) hv
  ·refine ht _ _ rx G3 H'' (Same.refl _) g3.gh _ fun G4 H4 g4 => ?_
   rw [if_neg Bool.false_ne_true]
   refine ⟨as.length - (i + 1), by omega, rfl, by omega, by omega, G4, (g'.trans g3).trans g4, ?_⟩
   rw [fl i hi', hf]
   show Dats K G4 ys (_ ++ [])
   rw [List.append_nil]
   exact hys.same (g3.gg.trans g4.gg)
theorem er_lc {α : Type} {wi : TI} {js : List Nat} {tt : TT} (as : List α) (enc : α → PyData) (f : α → Option PyData) (h : Ei K B wi ρ (as.map enc)) (hn : as.length < sizeLine) (hc : ∀ a ∈ as, Lcx K B tt te (.dat (enc a) :: capP ρ js) (f a)) : Er K B (tLC wi js tt te) ρ (.list (as.filterMap f)) :=
 fun G σ r G1 H s1 s2 Q k => lc_own as enc f h hn hc (r.mono s1) s2 fun p xs G' H' g hp hd => by
  have g3 := grow_new (o := .lst xs) g.gh hp
  exact k _ _ _ (g.trans g3) (dat_lst upd_same (hd.same g3.gg))
theorem eg_lc {α : Type} {wi : TI} {js : List Nat} {tt : TT} {R : PV → List PV → Prop} (as : List α) (enc : α → PyData) (f : α → Option PyData) (h : Ei K B wi (msk ρ) (as.map enc)) (hn : as.length < sizeLine) (hc : ∀ a ∈ as, Lcx K B tt te (.dat (enc a) :: capP (msk ρ) js) (f a)) (k : R (.own (as.filterMap f)) ρ) : Eg K B (tLC wi js tt te) ρ R :=
 fun E G0 H0 G H σ F r Q q => lc_own as enc f h hn hc r.rx r.g.gh fun p xs G' H' g hp hd => by
  obtain ⟨a, b, c⟩ := (r.grow g).newL hp hd
  exact q _ _ ρ G' _ F [p] k g.gg a b c
def Gt (K : PySem.W.Frag) (B : Hp) (g : TG) (d : PyData) (ρ : List PV) (P : List PV → Prop) : Prop := ∀ E G0 H0 G H σ F x (Q : St → Hp → Prop), Rl K B E G0 H0 G H σ ρ F → Dat K G x d → (∀ σ' ρ' G' H' F', P ρ' → Same G G' → Rl K B E G0 H0 G' H' σ' ρ' F' → Q σ' H') → g x σ H Q
theorem gt_name {i : Nat} {P : List PV → Prop} (h : P (ρ.set i (.dat d))) : Gt K B (gName i) d ρ P := fun E G0 H0 G H σ F x Q r hd k => k _ _ G H _ h (Same.refl _) (r.setD hd)
theorem gt_two {i j : Nat} {P : List PV → Prop} (h : P ((ρ.set i (.dat a)).set j (.dat b))) : Gt K B (gTup K 2 (gCons (gName i) (gCons (gName j) gNil))) (.tuple [a, b]) ρ P := fun E G0 H0 G H σ F x Q r hd k => by
 obtain ⟨p, xs, rfl, hp, hx⟩ := hd.tup
 obtain ⟨y, ys, rfl, hy, hx⟩ := hx.cons
 obtain ⟨z, zs, rfl, hz, hx⟩ := hx.cons
 cases hx.nil
 exact ⟨p, _, rfl, r.g.gh.tup hp, rfl, y, _, rfl, z, _, rfl, rfl, k _ _ G H _ h (Same.refl _) ((r.setD hy).setD hz)⟩
theorem sv_asgT {g : TG} {R : Pn} (h : Ex K B te ρ d) (k : Gt K B g d ρ R.nx) : Sv K B (tAsg te g) ρ R := fun E G0 H0 G H σ F D r dn =>
 h E G0 H0 G H σ F r _ fun v G' H' gr hv => k E G0 H0 G' H' σ F v _ (r.grow gr) hv fun σ' ρ' G2 H2 F' hP s r' => dn.nx hP (gr.gg.trans s) r'
theorem sv_for {α : Type} {wi : TI} {g : TG} {tb : TS} {R : Pn} (as : List α) (enc : α → PyData) (h : Ei K B wi (msk ρ) (as.map enc)) (Iv : Nat → List PV → Prop) (h0 : Iv 0 ρ)
  (hs : ∀ (i : Nat) (hi : i < as.length) ρ', Iv i ρ' → Gt K B g (enc as[i]) ρ' fun ρ2 => Sv K B tb ρ2 { nx := Iv (i + 1), ct := Iv (i + 1), bk := R.nx, rt := R.rt }) (hd : ∀ ρ', Iv as.length ρ' → R.nx ρ') : Sv K B (tFor wi g tb) ρ R := fun E G0 H0 G H σ F D r dn => by
 refine h G H σ r.rx r.g.gh _ fun J G1 H1 g1 W => ?_
 refine ⟨fun i m σ' H' => m = as.length - i ∧ i ≤ as.length ∧ ∃ ρ' G' F', Iv i ρ' ∧ Rl K B E G0 H0 G' H' σ' ρ' F' ∧ Same G1 G', ⟨as.length, by omega, by omega, ρ, G1, F, h0, r.grow g1, Same.refl _⟩, ?_⟩
 rintro i m σ' H' ⟨rfl, hi, ρ', G', F', hI, r', s'⟩
 by_cases hin : i = as.length
 ·subst hin
  exact .inl ⟨W.stop _ H' (s'.trans r'.g.gh) (by rw [List.length_map]; exact Nat.le_refl _), dn.nx (hd ρ' hI) (g1.gg.trans s') r'⟩
 ·have hi' : i < as.length := by omega
  refine .inr ⟨W.go i H' (s'.trans r'.g.gh) (by rw [List.length_map]; exact hi'), fun σ2 H2 => ∃ ρ2 G2 F2, Iv (i + 1) ρ2 ∧ Rl K B E G0 H0 G2 H2 σ2 ρ2 F2 ∧ Same G1 G2, fun σ2 H2 ⟨ρ2, G2, F2, q⟩ => ⟨as.length - (i + 1), by omega, rfl, by omega, ρ2, G2, F2, q⟩, fun x H'' hy => ?_⟩
  obtain ⟨G3, g3, hx⟩ := W.yld i H' x H'' G' (enc as[i]) s' r'.g.gh (by rw [List.getElem?_map, List.getElem?_eq_getElem hi']; rfl) hy
  have r3 := r'.grow g3
  have s3 : Same G1 G3 := s'.trans g3.gg
  refine hs i hi' ρ' hI E G0 H0 G3 H'' σ' F' x _ r3 hx fun σ4 ρ4 G4 H4 F4 hP s4 r4 => ?_
  have s14 := s3.trans s4
  refine hP E G0 H0 G4 H4 σ4 F4 _ r4 ⟨fun hI2 s5 r5 => ⟨_, _, _, hI2, r5, s14.trans s5⟩, fun hR s5 r5 sl n => dn.rt hR (g1.gg.trans (s14.trans s5)) r5 sl n, fun hR s5 r5 => dn.nx hR (g1.gg.trans (s14.trans s5)) r5, fun hI2 s5 r5 => ⟨_, _, _, hI2, r5, s14.trans s5⟩⟩
end
end L2
namespace L2
open PySem PySem.Spec PyProof.Rows Lw
section
variable {K : PySem.W.Frag} {B : Hp} {E : Addr → Prop} {G0 H0 G H G' H' : Hp} {σ : St} {ρ : List PV} {F : Nat → List Addr} {ta tb te : TE} {a b d : PyData} {ds es : List PyData}
def PV.put : PV → List PyData → PV
 | .own _, ds => .own ds
 | .lnt p _, ds => .lnt p ds
 | v, _ => v
theorem Rl.put {i : Nat} {u : PV} {p : Addr} {xs : List V} (R : Rl K B E G0 H0 G H σ ρ F) (hi : ρ[i]? = some u) (hu : u.rd = some ds) (hx : σ[i]? = some (some (.ref p))) (hd : Dats K G xs es) : Rl K B E G0 H0 G (upd H p (.lst xs)) σ (ρ.set i (u.put es)) F := by
 obtain ⟨p', xs', e, hx', hp, _⟩ := (R.sl i _ hi).rd hu
 rw [hx] at hx'
 cases hx'
 have hpi : p ∈ F i := by rw [e]; simp
 obtain ⟨gp, _, hE⟩ := R.fr i p hpi
 have hlt : i < ρ.length := (List.getElem?_eq_some_iff.mp hi).1
 refine ⟨⟨R.g.gg, same_upd R.g.gh gp, fun b o n h => ?_, fun b h => ?_, R.g.fr⟩, R.bb, by rw [List.length_set]; exact R.ls, fun j v h => ?_, fun j a ha => ?_, R.dj, fun j ds' a h ha => ?_⟩
 ·have : b ≠ p := fun z => by
   subst z
   rcases hE with hE | hE
   ·exact n hE
   ·rw [hE] at h; cases h
  rw [upd_ne this]; exact R.g.kp b o n h
 ·by_cases z : b = p
  ·subst z; rw [upd_same] at h; cases h
  ·rw [upd_ne z] at h; exact R.g.al b h
 ·by_cases z : j = i
  ·subst z
   rw [List.getElem?_set_self hlt] at h
   cases h
   cases u with
   | own es' => exact ⟨p, xs, e, hx, upd_same, hd⟩
   | lnt q es' =>
    obtain ⟨_, e2, hx2, _⟩ := R.sl j _ hi
    rw [hx] at hx2; cases hx2
    exact ⟨xs, e, hx, upd_same, hd⟩
   | _ => cases hu
  ·rw [List.getElem?_set_ne (Ne.symm z)] at h
   refine (R.sl j v h).grow (Same.refl _) fun a ha => upd_ne fun q => ?_
   subst q
   exact z (R.dj j i a ha hpi)
 ·obtain ⟨h1, ⟨o, h2⟩, h3⟩ := R.fr j a ha
  refine ⟨h1, ?_, h3⟩
  by_cases z : a = p
  ·subst z; exact ⟨_, upd_same⟩
  ·exact ⟨o, by rw [upd_ne z]; exact h2⟩
 ·by_cases z : j = i
  ·subst z
   rw [List.getElem?_set_self hlt] at h
   cases u with
   | own es' => exact R.ow j es' a hi ha
   | lnt q es' => cases h
   | _ => cases hu
  ·rw [List.getElem?_set_ne (Ne.symm z)] at h
   exact R.ow j ds' a h ha
theorem sv_app {i : Nat} {R : Pn} (h : Eg K B te ρ fun r ρ' => ∃ (d : PyData) (u : PV) (ds : List PyData), r = .dat d ∧ ρ'[i]? = some u ∧ u.rd = some ds ∧ ds.length < sizeLine ∧ R.nx (ρ'.set i (u.put (ds ++ [d])))) {u0 : PV} {ds0 : List PyData} (hi : ρ[i]? = some u0) (hu : u0.rd = some ds0) : Sv K B (tDrop (tBM K "list" rAppend (tVar i) (tCons te tNil))) ρ R := fun E G0 H0 G H σ F D r dn => by
 obtain ⟨p, xs, e, hx, hp, hd⟩ := (r.sl i _ hi).rd hu
 refine ⟨_, hx, .inl ⟨rfl, xs, SqL.of hp⟩, ?_⟩
 refine h E G0 H0 G H σ F r _ fun v w ρ' G' H' F' L hR s r' sl n => ?_
 obtain ⟨d, u, ds, rfl, hi', hu', hl, hR⟩ := hR
 obtain ⟨p', xs', e', hx', hp', hd'⟩ := (r'.sl i _ hi').rd hu'
 rw [hx] at hx'; cases hx'
 obtain ⟨_, x, hxv, hxd⟩ := sl
 cases hxv
 refine ⟨p, xs', v, rfl, rfl, hp', by rw [hd'.length]; exact hl, ?_⟩
 exact dn.nx hR s (r'.put hi' hu' hx (dats_snoc hd' hxd))
theorem sv_seti {i : Nat} {ti : TE} {R : Pn} (h : Eg K B te ρ fun r ρ' => ∃ (d : PyData) (u : PV) (ds : List PyData) (j : Int) (n : Nat), r = .dat d ∧ ρ'[i]? = some u ∧ u.rd = some ds ∧ Er K B ti ρ' (.int j) ∧ ixN ds.length j = some n ∧ R.nx (ρ'.set i (u.put (ds.set n d)))) : Sv K B (tAsg te (gSub (tVar i) ti rSetL)) ρ R := fun E G0 H0 G H σ F D r dn => by
 refine h E G0 H0 G H σ F r _ fun v w ρ' G' H' F' L hR s r' sl n => ?_
 obtain ⟨d, u, ds, j, n, rfl, hi', hu', he, hn, hR⟩ := hR
 obtain ⟨p', xs', e', hx', hp', hd'⟩ := (r'.sl i _ hi').rd hu'
 obtain ⟨_, x, hxv, hxd⟩ := sl
 cases hxv
 obtain ⟨s1, s2, x⟩ := r'.gpl
 refine ⟨_, hx', he _ σ x _ H' (Same.refl _) s2 _ fun iv G2 H2 g2 hiv => ?_⟩
 have r2 := r'.grow (grow_h r'.g.gh g2.hh)
 refine ⟨p', xs', j, n, rfl, hiv.int, g2.hh _ _ hp', by rw [hd'.length]; exact hn, ?_⟩
 exact dn.nx hR s (r2.put hi' hu' hx' (dats_set n hd' hxd))
theorem sv_swap {i : Nat} {t1 t2 : TE} {R : Pn} {u : PV} {j k : Int} {m n : Nat} (ha : Ex K B ta ρ a) (hb : Ex K B tb ρ b) (hi : ρ[i]? = some u) (hu : u.rd = some ds) (h1 : Er K B t1 ρ (.int j)) (hm : ixN ds.length j = some m) (h2 : Er K B t2 (ρ.set i (u.put (ds.set m a))) (.int k)) (hn : ixN ds.length k = some n) (hR : R.nx (ρ.set i (u.put ((ds.set m a).set n b)))) :
  Sv K B (tAsg (tTup (tCons ta (tCons tb tNil))) (gTup K 2 (gCons (gSub (tVar i) t1 rSetL) (gCons (gSub (tVar i) t2 rSetL) gNil)))) ρ R := fun E G0 H0 G H σ F D r dn => by
 refine ha E G0 H0 G H σ F r _ fun v G1 H1 g1 hv => hb E G0 H0 G1 H1 σ F (r.grow g1) _ fun w G2 H2 g2 hw => ⟨by show 2 ≤ sizeLine; decide, fun q hq => ?_⟩
 have r2 := (r.grow g1).grow g2
 have g3 := grow_new (o := .tup [v, w]) r2.g.gh hq
 have r3 := r2.grow g3
 have hv3 := (hv.same g2.gg).same g3.gg
 have hw3 := hw.same g3.gg
 refine ⟨q, _, rfl, SqT.of upd_same, rfl, v, _, rfl, ?_⟩
 obtain ⟨p, xs, e, hx, hp, hd⟩ := (r3.sl i _ hi).rd hu
 obtain ⟨s1, s2, x⟩ := r3.gpl
 refine ⟨_, hx, h1 _ σ x _ _ (Same.refl _) s2 _ fun jv G4 H4 g4 hjv => ⟨p, xs, j, m, rfl, hjv.int, g4.hh _ _ hp, by rw [hd.length]; exact hm, w, _, rfl, ?_⟩⟩
 have r4 := (r3.grow (grow_h r3.g.gh g4.hh)).put hi hu hx (dats_set m hd hv3)
 have hlt : i < ρ.length := (List.getElem?_eq_some_iff.mp hi).1
 have hi4 : (ρ.set i (u.put (ds.set m a)))[i]? = some (u.put (ds.set m a)) := List.getElem?_set_self hlt
 have hu4 : (u.put (ds.set m a)).rd = some (ds.set m a) := by cases u <;> first | rfl | cases hu
 obtain ⟨p', xs', e', hx', hp', hd'⟩ := (r4.sl i _ hi4).rd hu4
 rw [hx] at hx'; cases hx'
 obtain ⟨s1, s2, x⟩ := r4.gpl
 refine ⟨_, hx, h2 _ σ x _ _ (Same.refl _) s2 _ fun kv G5 H5 g5 hkv => ⟨p, xs', k, n, rfl, hkv.int, g5.hh _ _ hp', by rw [hd'.length, List.length_set]; exact hn, rfl, ?_⟩⟩
 have r5 := (r4.grow (grow_h r4.g.gh g5.hh)).put hi4 hu4 hx (dats_set n hd' hw3)
 rw [List.set_set] at r5
 have eu : (u.put (ds.set m a)).put ((ds.set m a).set n b) = u.put ((ds.set m a).set n b) := by cases u <;> rfl
 rw [eu] at r5
 exact dn.nx hR ((g1.gg.trans g2.gg).trans g3.gg) r5
def startP (N : List Str) (vs : List PV) : List PV := vs ++ List.replicate (N.length - vs.length) .un
theorem dats_rl {vs : List V} {N : List Str} (sb : Same B G) (s : Same G H) (hv : Dats K G vs ds) : Rl K B (fun _ => False) G H G H (start N vs) (startP N (ds.map .dat)) (fun _ => []) := by
 refine ⟨Gw.refl s, sb, ?_, fun i v h => ?_, fun _ _ h => (by cases h), fun _ _ _ h _ => (by cases h), fun _ _ _ _ h => (by cases h)⟩
 ·unfold start startP
  rw [List.length_append, List.length_append, List.length_map, List.length_map, List.length_replicate, List.length_replicate, hv.length]
 ·unfold startP at h
  unfold start
  by_cases hi : i < ds.length
  ·rw [List.getElem?_append_left (by rw [List.length_map]; exact hi), List.getElem?_map, List.getElem?_eq_getElem hi] at h
   cases h
   obtain ⟨x, hx, hxd⟩ := hv.get (List.getElem?_eq_getElem hi)
   exact ⟨rfl, x, by rw [List.getElem?_append_left (by rw [List.length_map, hv.length]; exact hi), List.getElem?_map, hx]; rfl, hxd⟩
  ·rw [List.getElem?_append_right (by rw [List.length_map]; omega)] at h
   have := List.mem_of_getElem? h
   rw [(List.mem_replicate.mp this).2]
   rfl
variable {P : Program} {w : World} {mg : Str → Option Value} {base : Heap}
def spPB (K : PySem.W.Frag) (B : Hp) (R : List PyData → PyData → Prop) : Sp := fun vs H Q _ => ∃ (G : Hp) (ds : List PyData) (d : PyData), Same B G ∧ Same G H ∧ Dats K G vs ds ∧ R ds d ∧ ∀ v G' H', Grow G H G' H' → Dat K G' v d → Q v H'
theorem Fun.okPB {x qual : Str} {st : Stmt} {f : Addr} {fd : FuncData} {N ps : List Str} {k : Nat} {R : List PyData → PyData → Prop} (Fn : Fun K x qual st f fd) (S : FnScope N ps (defScope st)) (len : ∀ ds d, R ds d → ds.length = ps.length)
  (hb : ∀ (cdv : Value) (A : Around) (outer : List Env) (s : Shared) (H : Hp) (E : XK), Room k (A.deeper (envOfC qual (defScope st) s.heap.objs.size f cdv)) → ∀ ds d, R ds d →
   ∃ t, PSs (cxOf CX0 P w K mg base N qual (defScope st) f cdv A outer s H E).nox (defBody st) t ∧ Sv K B t (startP N (ds.map .dat)) { nx := fun _ => d = .none, rt := fun r _ => r = .dat d }) : FnOk P w K mg base CX0 (k + 1) f fd ps (spPB K B R) := by
 refine Fn.ok S (fun vs H Q E h => ?_) fun cdv A outer s H vs Q E hr h => ?_
 ·obtain ⟨G, ds, d, _, _, hv, hR, _⟩ := h
  rw [hv.length]; exact len ds d hR
 ·obtain ⟨G, ds, d, sb, sg, hv, hR, kk⟩ := h
  obtain ⟨t, ht, hs⟩ := hb cdv A outer s H E hr ds d hR
  refine ⟨t, ht, hs _ _ _ _ _ _ _ _ (dats_rl sb sg hv) ⟨fun e _ r => ?_, fun e _ r sl n => ?_, fun e => e.elim, fun e => e.elim⟩⟩
  ·have e : d = .none := e
   subst e
   exact kk _ _ _ r.g.toGrow dat_non
  ·subst e
   obtain ⟨_, y, hy, hd⟩ := sl
   cases hy
   exact kk _ _ _ r.g.toGrow hd
abbrev B0 : Hp := fun _ => none
theorem b0 : Same B0 G := fun _ _ h => by cases h
theorem Fun.okP {x qual : Str} {st : Stmt} {f : Addr} {fd : FuncData} {N ps : List Str} {k : Nat} {R : List PyData → PyData → Prop} (Fn : Fun K x qual st f fd) (S : FnScope N ps (defScope st)) (len : ∀ ds d, R ds d → ds.length = ps.length)
  (hb : ∀ (cdv : Value) (A : Around) (outer : List Env) (s : Shared) (H : Hp) (E : XK), Room k (A.deeper (envOfC qual (defScope st) s.heap.objs.size f cdv)) → ∀ ds d, R ds d →
   ∃ t, PSs (cxOf CX0 P w K mg base N qual (defScope st) f cdv A outer s H E).nox (defBody st) t ∧ Sv K B0 t (startP N (ds.map .dat)) { nx := fun _ => d = .none, rt := fun r _ => r = .dat d }) : FnOk P w K mg base CX0 (k + 1) f fd ps (spP K R) :=
 (Fn.okPB S len hb).imp fun vs H Q E ⟨G, ds, d, sg, hv, hR, kk⟩ => ⟨G, ds, d, b0, sg, hv, hR, kk⟩
theorem Fun.okO {x qual : Str} {st : Stmt} {f : Addr} {fd : FuncData} {N ps : List Str} {k : Nat} {R : List PyData → List PyData → Prop} (Fn : Fun K x qual st f fd) (S : FnScope N ps (defScope st)) (len : ∀ ds d, R ds d → ds.length = ps.length)
  (hb : ∀ (cdv : Value) (A : Around) (outer : List Env) (s : Shared) (H : Hp) (E : XK), Room k (A.deeper (envOfC qual (defScope st) s.heap.objs.size f cdv)) → ∀ ds es, R ds es →
   ∃ t, PSs (cxOf CX0 P w K mg base N qual (defScope st) f cdv A outer s H E).nox (defBody st) t ∧ Sv K B0 t (startP N (ds.map .dat)) { nx := fun _ => False, rt := fun r _ => r = .own es }) : FnOk P w K mg base CX0 (k + 1) f fd ps (spO K R) := by
 refine Fn.ok S (fun vs H Q E h => ?_) fun cdv A outer s H vs Q E hr h => ?_
 ·obtain ⟨G, ds, d, _, hv, hR, _⟩ := h
  rw [hv.length]; exact len ds d hR
 ·obtain ⟨G, ds, es, sg, hv, hR, kk⟩ := h
  obtain ⟨t, ht, hs⟩ := hb cdv A outer s H E hr ds es hR
  refine ⟨t, ht, hs _ _ _ _ _ _ _ _ (dats_rl b0 sg hv) ⟨fun e _ r => e.elim, fun e _ r sl n => ?_, fun e => e.elim, fun e => e.elim⟩⟩
  subst e
  obtain ⟨p, xs, rfl, hy, hp, hd⟩ := sl
  cases hy
  obtain ⟨h1, _, h3⟩ := n.fr p (by simp)
  exact kk p xs _ _ r.g.toGrow h1 h3 hp hd
def spL (K : PySem.W.Frag) (Pre : List PyData → List PyData → Prop) (R : List PyData → List PyData → PyData → List PyData → Prop) : Sp := fun vs H Q _ => ∃ (p : Addr) (us : List V) (G : Hp) (xs : List V) (es ds : List PyData), vs = .ref p :: us ∧ Same G H ∧ G p = none ∧ H p = some (.lst xs) ∧ Dats K G xs es ∧ Dats K G us ds ∧ Pre es ds ∧
 ∀ v x es' xs' G' H', R es ds x es' → Gw (· = p) G H G' H' → G' p = none → H' p = some (.lst xs') → Dats K G' xs' es' → Dat K G' v x → Q v H'
theorem lent_rl {p : Addr} {us xs : List V} {N : List Str} (sb : Same B G) (s : Same G H) (gp : G p = none) (hp : H p = some (.lst xs)) (hx : Dats K G xs es) (hv : Dats K G us ds) : Rl K B (· = p) G H G H (start N (.ref p :: us)) (startP N (.lnt p es :: ds.map .dat)) (fun k => if k = 0 then [p] else []) := by
 refine ⟨Gw.refl s, sb, ?_, fun i v h => ?_, fun i a ha => ?_, fun i j a ha hb => ?_, fun i ds' a h ha => ?_⟩
 ·unfold start startP
  rw [List.length_append, List.length_append, List.length_map, List.length_cons, List.length_cons, List.length_map, List.length_replicate, List.length_replicate, hv.length]
 ·cases i with
  | zero =>
   have h : some (PV.lnt p es) = some v := h
   cases h
   exact ⟨xs, rfl, rfl, hp, hx⟩
  | succ i =>
   rw [if_neg (by omega)]
   have h : (ds.map PV.dat ++ List.replicate (N.length - (ds.map PV.dat).length.succ) PV.un)[i]? = some v := h
   show Sl K G H ((us.map some ++ List.replicate (N.length - us.length.succ) none)[i]?) v []
   by_cases hi : i < ds.length
   ·rw [List.getElem?_append_left (by rw [List.length_map]; exact hi), List.getElem?_map, List.getElem?_eq_getElem hi] at h
    cases h
    obtain ⟨x, hx, hxd⟩ := hv.get (List.getElem?_eq_getElem hi)
    exact ⟨rfl, x, by rw [List.getElem?_append_left (by rw [List.length_map, hv.length]; exact hi), List.getElem?_map, hx]; rfl, hxd⟩
   ·rw [List.getElem?_append_right (by rw [List.length_map]; omega)] at h
    have := List.mem_of_getElem? h
    rw [(List.mem_replicate.mp this).2]
    rfl
 ·split at ha
  ·rw [List.mem_singleton.mp ha]; exact ⟨gp, ⟨_, hp⟩, .inl rfl⟩
  ·cases ha
 ·split at ha
  ·split at hb
   ·omega
   ·cases hb
  ·cases ha
 ·split at ha
  ·rename_i z
   subst z
   have h : some (PV.lnt p es) = some (.own ds') := h
   cases h
  ·cases ha
theorem Fun.okL {x qual : Str} {st : Stmt} {f : Addr} {fd : FuncData} {N ps : List Str} {k : Nat} {Pre : List PyData → List PyData → Prop} {R : List PyData → List PyData → PyData → List PyData → Prop} (Fn : Fun K x qual st f fd) (S : FnScope N ps (defScope st)) (len : ∀ es ds, Pre es ds → ds.length + 1 = ps.length)
  (hb : ∀ (cdv : Value) (A : Around) (outer : List Env) (s : Shared) (H : Hp) (E : XK), Room k (A.deeper (envOfC qual (defScope st) s.heap.objs.size f cdv)) → ∀ p es ds, Pre es ds →
   ∃ t, PSs (cxOf CX0 P w K mg base N qual (defScope st) f cdv A outer s H E).nox (defBody st) t ∧ Sv K B0 t (startP N (.lnt p es :: ds.map .dat)) { nx := fun ρ' => ∃ es', R es ds .none es' ∧ ρ'[0]? = some (.lnt p es'), rt := fun r ρ' => ∃ d es', r = .dat d ∧ R es ds d es' ∧ ρ'[0]? = some (.lnt p es') }) : FnOk P w K mg base CX0 (k + 1) f fd ps (spL K Pre R) := by
 refine Fn.ok S (fun vs H Q E h => ?_) fun cdv A outer s H vs Q E hr h => ?_
 ·obtain ⟨p, us, G, xs, es, ds, rfl, _, _, _, _, hv, hP, _⟩ := h
  rw [List.length_cons, hv.length]; exact len es ds hP
 ·obtain ⟨p, us, G, xs, es, ds, rfl, sg, gp, hp, hx, hv, hP, kk⟩ := h
  obtain ⟨t, ht, hs⟩ := hb cdv A outer s H E hr p es ds hP
  refine ⟨t, ht, hs _ _ _ _ _ _ _ _ (lent_rl b0 sg gp hp hx hv) ⟨fun e _ r => ?_, fun e _ r sl n => ?_, fun e => e.elim, fun e => e.elim⟩⟩
  ·obtain ⟨es', hR, h0⟩ := e
   obtain ⟨xs', e, hx', hp', hd'⟩ := r.sl 0 _ h0
   exact kk _ _ es' xs' _ _ hR r.g (r.fr 0 p (by rw [e]; simp)).1 hp' hd' dat_non
  ·obtain ⟨d, es', rfl, hR, h0⟩ := e
   obtain ⟨xs', e, hx', hp', hd'⟩ := r.sl 0 _ h0
   obtain ⟨_, y, hy, hd⟩ := sl
   cases hy
   exact kk _ _ es' xs' _ _ hR r.g (r.fr 0 p (by rw [e]; simp)).1 hp' hd' hd
def EgA (K : PySem.W.Frag) (B : Hp) (t : TA) (ρ : List PV) (R : List PyData → List PV → Prop) : Prop := ∀ E G0 H0 G H σ F, Rl K B E G0 H0 G H σ ρ F → ∀ Q : List V → Hp → Prop,
 (∀ vs ds ρ' G' H' F', R ds ρ' → Same G G' → Rl K B E G0 H0 G' H' σ ρ' F' → Dats K G' vs ds → Q vs H') → t σ H Q
theorem ega_ea {t : TA} {R : List PyData → List PV → Prop} (h : Ea K B t (msk ρ) ds) (k : R ds ρ) : EgA K B t ρ R := fun E G0 H0 G H σ F r Q q => h G σ r.rx G H (Same.refl _) r.g.gh Q fun vs G' H' g hv => q vs ds ρ G' H' F k g.gg (r.grow g) hv
theorem ega_cons {t : TA} {R : List PyData → List PV → Prop} (h : Eg K B te ρ fun r ρ1 => ∃ d, r = .dat d ∧ EgA K B t ρ1 fun ds ρ2 => R (d :: ds) ρ2) : EgA K B (tCons te t) ρ R := fun E G0 H0 G H σ F r Q q =>
 h E G0 H0 G H σ F r _ fun v w ρ1 G1 H1 F1 L hw s1 r1 sl n => by
  obtain ⟨d, rfl, h2⟩ := hw
  obtain ⟨_, y, hy, hd⟩ := sl
  cases hy
  exact h2 E G0 H0 G1 H1 σ F1 r1 _ fun vs ds ρ2 G2 H2 F2 hR s2 r2 hv => q _ _ ρ2 G2 H2 F2 hR (s1.trans s2) r2 (dats_cons (hd.same s2) hv)
theorem eg_lend {Pre : List PyData → List PyData → Prop} {Rf : List PyData → List PyData → PyData → List PyData → Prop} {X : XK} {i : Nat} {t : TA} {R : PV → List PV → Prop} {u0 : PV} {es0 : List PyData} (hi : ρ[i]? = some u0) (hu : u0.rd = some es0)
  (h : EgA K B t ρ fun ds ρ1 => ∃ u es, ρ1[i]? = some u ∧ u.rd = some es ∧ Pre es ds ∧ ∀ x es', Rf es ds x es' → R (.dat x) (ρ1.set i (u.put es'))) : Eg K B (tCall (spL K Pre Rf) [] X (tCons (tVar i) t)) ρ R := fun E G0 H0 G H σ F r Q q => by
 obtain ⟨p, xs, e, hx, hp, hd⟩ := (r.sl i _ hi).rd hu
 refine ⟨_, hx, h E G0 H0 G H σ F r _ fun vs ds ρ1 G1 H1 F1 hh s1 r1 hv => ?_⟩
 obtain ⟨u, es, hi1, hu1, hP, hk⟩ := hh
 obtain ⟨p', xs1, e1, hx1, hp1, hd1⟩ := (r1.sl i _ hi1).rd hu1
 rw [hx] at hx1; cases hx1
 have hpi : p ∈ F1 i := by rw [e1]; simp
 obtain ⟨gp, _, hE⟩ := r1.fr i p hpi
 show spL K Pre Rf ((.ref p :: vs) ++ []) H1 Q X
 rw [List.append_nil]
 refine ⟨p, vs, G1, xs1, es, ds, rfl, r1.g.gh, gp, hp1, hd1, hv, hP, fun v x es' xs' G2 H2 hR gw gp2 hp2 hd2 hx2 => ?_⟩
 have hlt : i < ρ1.length := (List.getElem?_eq_some_iff.mp hi1).1
 have r2 : Rl K B E G0 H0 G2 H2 σ (ρ1.set i (u.put es')) F1 := by
  refine ⟨⟨r1.g.gg.trans gw.gg, gw.gh, fun b o n h => ?_, fun b h => r1.g.al b (gw.al b h), fun b o h => ?_⟩, r1.bb.trans gw.gg, by rw [List.length_set]; exact r1.ls, fun j v h => ?_, fun j a ha => ?_, r1.dj, fun j ds' a h ha => ?_⟩
  ·have : b ≠ p := fun z => by
    subst z
    rcases hE with hE | hE
    ·exact n hE
    ·rw [hE] at h; cases h
   exact gw.kp b o this (r1.g.kp b o n h)
  ·rcases gw.fr b o h with h | h
   ·exact r1.g.fr b o h
   ·exact .inr (r1.g.al b h)
  ·by_cases z : j = i
   ·subst z
    rw [List.getElem?_set_self hlt] at h
    cases h
    cases u with
    | own es2 => exact ⟨p, xs', e1, hx, hp2, hd2⟩
    | lnt q es2 =>
     obtain ⟨_, e2, hx2, _⟩ := r1.sl j _ hi1
     rw [hx] at hx2; cases hx2
     exact ⟨xs', e1, hx, hp2, hd2⟩
    | _ => cases hu1
   ·rw [List.getElem?_set_ne (Ne.symm z)] at h
    refine (r1.sl j v h).grow gw.gg fun a ha => ?_
    obtain ⟨_, ⟨o, ho⟩, _⟩ := r1.fr j a ha
    rw [ho]
    exact gw.kp a o (fun q => by subst q; exact z (r1.dj j i a ha hpi)) ho
  ·obtain ⟨h1, ⟨o, h2⟩, h3⟩ := r1.fr j a ha
   by_cases z : a = p
   ·subst z; exact ⟨gp2, ⟨_, hp2⟩, h3⟩
   ·refine ⟨?_, ⟨o, gw.kp a o z h2⟩, h3⟩
    cases hg : G2 a with
    | none => rfl
    | some o' =>
     rcases gw.fr a o' hg with h | h
     ·rw [h1] at h; cases h
     ·rw [h2] at h; cases h
  ·by_cases z : j = i
   ·subst z
    rw [List.getElem?_set_self hlt] at h
    cases u with
    | own es2 => exact r1.ow j es2 a hi1 ha
    | lnt q es2 => cases h
    | _ => cases hu1
   ·rw [List.getElem?_set_ne (Ne.symm z)] at h
    exact r1.ow j ds' a h ha
 exact q v _ _ G2 H2 F1 [] (hk x es' hR) (s1.trans gw.gg) r2 ⟨rfl, v, rfl, hx2⟩ nw_nil
theorem eg_op {r : R2} {R : PV → List PV → Prop} (h : Eg K B ta ρ fun x ρ1 => ∃ a, x = .dat a ∧ Eg K B tb ρ1 fun y ρ2 => ∃ b c, y = .dat b ∧ (∀ G σ va vb, Dat K G va a → Dat K G vb b → Ev K (tOp r (tC va) (tC vb)) σ G c) ∧ R (.dat c) ρ2) : Eg K B (tOp r ta tb) ρ R := fun E G0 H0 G H σ F r Q q =>
 h E G0 H0 G H σ F r _ fun v w ρ1 G1 H1 F1 L hw s1 r1 sl n => by
  obtain ⟨a, rfl, h2⟩ := hw
  obtain ⟨_, y, hy, hd⟩ := sl
  cases hy
  refine h2 E G0 H0 G1 H1 σ F1 r1 _ fun v2 w2 ρ2 G2 H2 F2 L2 hw2 s2 r2 sl2 n2 => ?_
  obtain ⟨b, c, rfl, hop, hR⟩ := hw2
  obtain ⟨_, y2, hy2, hd2⟩ := sl2
  cases hy2
  exact hop G2 σ v v2 (hd.same s2) hd2 G2 H2 (Same.refl _) r2.g.gh Q fun v3 G3 H3 g3 hv3 => q v3 _ ρ2 G3 H3 F2 [] hR ((s1.trans s2).trans g3.gg) (r2.grow g3) ⟨rfl, v3, rfl, hv3⟩ nw_nil
end
end L2
namespace L2
open PySem PySem.Spec PyProof.Rows
section
variable {X : Cx}
theorem vals_of_ints : ∀ {ns : List Int} {its : List Value}, IntsAre its ns → Vals (ns.map V.int) its
 | _, _, .nil => .nil
 | _, _, .cons x t h => .cons ⟨t, rfl⟩ (vals_of_ints h)
theorem boot_srtI : bootBuiltins "sorted" = some (.builtin "sorted") := by decide +kernel
def srtI (ns : List Int) : List Int := ns.mergeSort fun a b => decide (a ≤ b)
theorem srtI_perm (ns : List Int) : (srtI ns).Perm ns := List.mergeSort_perm ns _
theorem srtI_sorted (ns : List Int) : (srtI ns).Pairwise (· ≤ ·) := by
 have h := List.pairwise_mergeSort (le := fun a b : Int => decide (a ≤ b)) (fun a b c h1 h2 => by simp at h1 h2 ⊢; omega) (fun a b => by simp; omega) ns
 exact h.imp fun {a b} z => by simpa using z
theorem srtI_of {a b : List Int} (h : a.Perm b) (hs : a.Pairwise (· ≤ ·)) : a = srtI b :=
 (h.trans (srtI_perm b).symm).eq_of_pairwise (fun x y _ _ h1 h2 => by omega) hs (srtI_sorted b)
def rSrtI (K : PySem.W.Frag) : List V → Hp → VK → Prop := fun xs H Q => ∃ (p : Addr) (ns : List Int), xs = [.ref p] ∧ SqL K H p (ns.map V.int) ∧ ns.length < 64 ∧ ∀ l : Addr, H l = none → Q (.ref l) (upd H l (.lst ((srtI ns).map V.int)))
theorem call_sortedI {K : PySem.W.Frag} (e : X.K = K) : CallR X (.builtin "sorted") (rSrtI K) := by
 subst e
 intro pins s σ H xs us Q I r h
 obtain ⟨p, ns, rfl, hq, h64, q⟩ := h
 obtain ⟨u, rfl, rx⟩ := vals1 r
 cases rx
 obtain ⟨its, r', pl, hz⟩ := I.list hq
 have hS := intsAre_of r'
 have hlen := r'.length
 rw [List.length_map] at hlen hz
 refine sorted_ints pl.isList hS (by omega) fun out ns' a1 a2 a3 => ?_
 obtain ⟨e, he⟩ := sortedAll_at s.heap its out
 have hl2 := a2.length_eq
 have e3 := srtI_of a2 a3
 subst e3
 refine ⟨.ref (s.heap.objs.size + 1), _, I.laid (t' := s.toks) (fun _ _ => sortedAll_old) (Nat.le_succ _) (show ObjOk X.prog X.w _ (sortedAll s.heap its out) _ (.lst ((srtI ns).map V.int)) from ⟨by rw [List.length_map]; omega, out.toList, e, vals_of_ints a1, ?_⟩), rfl, q _ (I.hok.fresh (Nat.le_succ _))⟩
 exact he
theorem ev_srtI {K : PySem.W.Frag} {σ : St} {G : Hp} {t : TA} {ns : List Int} (h : EvA K t σ G [.list (ns.map .int)]) (h64 : ns.length < 64) : Ev K (tCB (rSrtI K) t) σ G (.list ((srtI ns).map .int)) := ev_cb h fun G1 H xs Q s1 s2 hx k => by
 obtain ⟨y, ys, rfl, hy, hn⟩ := hx.cons
 cases hn.nil
 obtain ⟨p, zs, rfl, hp, hz⟩ := hy.lst
 have e := hz.ints
 subst e
 refine ⟨p, ns, rfl, SqL.of (s2 _ _ hp), h64, fun l hl => ?_⟩
 have g := grow_new (o := .lst ((srtI ns).map V.int)) s2 hl
 exact k _ _ _ g (dat_lst upd_same (dats_ints _))
end
end L2
namespace HT
open PySem PySem.Spec PyProof.Rows
section
variable {prog : Program} {w : World} {A : Around} {E : Value → Shared → Prop} {s : Shared}
theorem getItem_tuple_all {t sl : Addr} {items : Array Value} {vl vu : Value} {lo hi : Option Int} {Q : Value → Shared → Prop} (ht : IsTup s.heap t items) (hs : s.heap.IsSliceOf sl vl vu .none) (pl : IsPart vl lo) (pu : IsPart vu hi)
  (hw : sIx items.size 0 lo = 0 ∧ sIx items.size items.size hi = items.size) (h : Q (.ref t) s) : wpAny (model prog w) A (getItem (.ref t) (.ref sl)) Q E s := by
 obtain ⟨os, hos, hcs, hds⟩ := id hs
 have hTs : s.TypeIs (.ref sl) "slice" := ⟨os, hos, hcs⟩
 unfold getItem
 try with_reducible refine wpAny_holding ?_
 first | refine wpAny_bind (wpAny_pure ?_) | skip
 refine wpAny_bind (wpAny_sequenceKey ht.typeIs (by decide) ?_)
 refine wpAny_bind (wpAny_callSpecial?_slot (name := Str.ofString "__getitem__") ht.typeIs PyProof.Rows.slot_tuple_getitem
  (wpAny_call_entry PyProof.Rows.slot_tuple_getitem ht.typeIs entry_tuple_getitem ?_ (args_tuple_getitem _ _)))
 show wpAny _ _ (Builtin.Tuple.tupleItemsOf (.ref t) >>= _) _ _ s
 refine wpAny_bind (tupleItemsOf_ ht ?_)
 refine wpAny_bind (wpAny_typeOf hTs ?_)
 rw [if_pos (by decide)]
 refine wpAny_bind (sliceApplied_gen hs pl pu ?_)
 have hyes : (((sIx items.size 0 lo : Nat) : Int) == 0 && (1 : Int) == 1 && (sIx items.size items.size hi - sIx items.size 0 lo) == items.size) = true := by
  rw [hw.1, hw.2]; simp
 show wpAny _ _ (if (((sIx items.size 0 lo : Nat) : Int) == 0 && (1 : Int) == 1 && (sIx items.size items.size hi - sIx items.size 0 lo) == items.size) = true then _ else _) _ _ s
 rw [if_pos hyes]
 refine wpAny_bind (m := Builtin.Tuple.tupleIsExact (.ref t)) ?_
 unfold Builtin.Tuple.tupleIsExact
 refine wpAny_bind (wpAny_typeOf ht.typeIs (wpAny_pure ?_))
 rw [if_pos (by decide)]
 refine wpAny_bind (wpAny_rule ?_)
 first
  | exact wpAny_pure ⟨_, rfl, wpAny_pure h⟩
  | exact wpAny_bind (wpAny_pure (wpAny_pure ⟨_, rfl, wpAny_pure h⟩))
end
end HT
namespace L2
open PySem PySem.Spec PyProof.Rows
section
variable {X : Cx} {K : PySem.W.Frag}
def rSlTA (K : PySem.W.Frag) : V → Option Int → Option Int → Hp → VK → Prop := fun x lo hi H Q => ∃ a xs, x = .ref a ∧ SqT K H a xs ∧
 ((HT.sIx xs.length 0 lo = 0 ∧ HT.sIx xs.length xs.length hi = xs.length) → Q (.ref a) H) ∧ (¬ (HT.sIx xs.length 0 lo = 0 ∧ HT.sIx xs.length xs.length hi = xs.length) → ∀ p, H p = none → Q (.ref p) (upd H p (.tup (cutV xs lo hi))))
theorem sl_tupA (e : X.K = K) : SlR X (rSlTA K) := by
 subst e
 intro pins s σ H x v vl vu lo hi sl Q I rx hs pl pu h
 obtain ⟨a, xs, rfl, hx, q1, q2⟩ := h
 by_cases hw : HT.sIx xs.length 0 lo = 0 ∧ HT.sIx xs.length xs.length hi = xs.length
 ·cases rx
  obtain ⟨its, r, ht, hz⟩ := I.tuple hx
  have hlen : its.toArray.size = xs.length := by rw [List.size_toArray]; exact r.length.symm
  exact ⟨"tuple", _, PyProof.Rows.slot_tuple_getitem.lookup, ht.typeIs, HT.getItem_tuple_all ht hs pl pu (by rw [hlen]; exact hw) ⟨.ref a, H, I, rfl, q1 hw⟩⟩
 ·exact sl_tup pins s σ H _ v vl vu lo hi sl Q I rx hs pl pu ⟨a, xs, rfl, hx, hw, q2 hw⟩
theorem ev_slT {σ : St} {G : Hp} {te : TE} {tl th : TO} {ds : List PyData} {lo hi : Option Int} (h : Ev K te σ G (.tuple ds)) (hl : ∀ H (Q : Option Int → Hp → Prop), Q lo H → tl σ H Q) (hh : ∀ H (Q : Option Int → Hp → Prop), Q hi H → th σ H Q) :
  Ev K (tSl (rSlTA K) te tl th) σ G (.tuple ((ds.drop (HT.sIx ds.length 0 lo)).take (HT.sIx ds.length ds.length hi - HT.sIx ds.length 0 lo))) :=
 fun G1 H s1 s2 Q k => h G1 H s1 s2 _ fun v G2 H2 g2 hv => by
  obtain ⟨p, xs, rfl, hp, hxs⟩ := hv.tup
  have hlen := hxs.length
  refine hl _ _ (hh _ _ ⟨p, xs, rfl, g2.gh.tup hp, fun hw => ?_, fun hw q hq => ?_⟩)
  ·refine k _ _ _ g2 ?_
   rw [hlen] at hw
   rw [hw.1, hw.2, List.drop_zero, Nat.sub_zero, List.take_of_length_le (Nat.le_refl _)]
   exact dat_tup hp hxs
  ·have g := grow_new (o := .tup (cutV xs lo hi)) g2.gh hq
   refine k _ _ _ (g2.trans g) (dat_tup (SqT.of upd_same) ?_)
   have q := dats_take (HT.sIx ds.length ds.length hi - HT.sIx ds.length 0 lo) (dats_drop (HT.sIx ds.length 0 lo) (hxs.same g.gg))
   rw [← hlen] at q ⊢
   exact q
theorem ev_slL {σ : St} {G : Hp} {te : TE} {tl th : TO} {ds : List PyData} {lo hi : Option Int} (h : Ev K te σ G (.list ds)) (hl : ∀ H (Q : Option Int → Hp → Prop), Q lo H → tl σ H Q) (hh : ∀ H (Q : Option Int → Hp → Prop), Q hi H → th σ H Q) :
  Ev K (tSl (rSlL K) te tl th) σ G (.list ((ds.drop (HT.sIx ds.length 0 lo)).take (HT.sIx ds.length ds.length hi - HT.sIx ds.length 0 lo))) :=
 fun G1 H s1 s2 Q k => h G1 H s1 s2 _ fun v G2 H2 g2 hv => by
  obtain ⟨p, xs, rfl, hp, hxs⟩ := hv.lst
  have hlen := hxs.length
  refine hl _ _ (hh _ _ ⟨p, xs, rfl, SqL.of (g2.gh _ _ hp), fun q hq => ?_⟩)
  have g := grow_new (o := .lst (cutV xs lo hi)) g2.gh hq
  refine k _ _ _ (g2.trans g) (dat_lst upd_same ?_)
  have q := dats_take (HT.sIx ds.length ds.length hi - HT.sIx ds.length 0 lo) (dats_drop (HT.sIx ds.length 0 lo) (hxs.same g.gg))
  rw [← hlen] at q ⊢
  exact q
end
end L2
namespace L2
open PySem PySem.Spec PyProof.Rows
section
variable {K : PySem.W.Frag} {σ : St} {G : Hp} {ta tb : TE}
theorem ev_intB {t : TA} {b : Bool} (h : EvA K t σ G [.bool b]) : Ev K (tCB (fun xs H Q => (∃ i, xs = [.int i] ∧ Q (.int i) H) ∨ ∃ k, xs = [.bl k] ∧ Q (.int (if k then 1 else 0)) H) t) σ G (.int (if b then 1 else 0)) :=
 ev_cb h fun G1 H xs Q s1 s2 hx k => by
  obtain ⟨y, r, rfl, hy, hr⟩ := hx.cons
  cases hr.nil
  cases hy.bl
  exact .inr ⟨b, rfl, k _ G1 H (Grow.refl s2) (dat_int _)⟩
end
end L2
namespace L2
open PySem PySem.Spec PyProof.Rows
def rCatE (K : PySem.W.Frag) : R2 := fun x y H Q => ∃ a b xs ys, x = .ref a ∧ y = .ref b ∧ SqT K H a xs ∧ SqT K H b ys ∧ xs.length + ys.length ≤ sizeLine ∧ (xs = [] → Q (.ref b) H) ∧ (xs ≠ [] → ys = [] → Q (.ref a) H) ∧ (xs ≠ [] → ys ≠ [] → ∀ p, H p = none → Q (.ref p) (upd H p (.tup (xs ++ ys))))
theorem op_catTE {X : Cx} {K : PySem.W.Frag} (e : X.K = K) : OpR X (binaryOp .Add) (rCatE K) := by
 subst e
 intro pins s σ H x y v u Q I rx ry h
 obtain ⟨a, b, xs, ys, ex, ey, ha, hb, hz, q0, q1, q2⟩ := h
 by_cases hx : xs = []
 ·subst ex ey
  cases rx
  cases ry
  obtain ⟨its, r1, p1, _⟩ := I.tuple ha
  obtain ⟨its2, r2, p2, _⟩ := I.tuple hb
  have e0 : its = [] := r1.nil_iff.mpr hx
  obtain ⟨⟨cls, dd, data, sl⟩, ho, hc, n, hd⟩ := id p1
  obtain ⟨⟨cls2, dd2, data2, sl2⟩, ho2, hc2, n2, hd2⟩ := id p2
  simp only at hc hd hc2 hd2
  subst hc hd hc2 hd2
  exact concat_meets ⟨_, ho, rfl⟩ ⟨_, ho2, rfl⟩ noFill_tuple_add seq_tuple_add F.slot_tuple_add F.entry_tuple_add (F.args_tuple_add_2 _ _) (tuple_addW0 a b its.toArray its2.toArray n n2 dd dd2 sl sl2 (by simp [e0])) ⟨ho, ho2, .ref b, H, I, rfl, q0 hx⟩
 ·exact op_catT pins s σ H x y v u Q I rx ry ⟨a, b, xs, ys, ex, ey, ha, hb, hx, hz, q1 hx, q2 hx⟩
theorem ev_catE {K : PySem.W.Frag} {σ : St} {G : Hp} {ta tb : TE} {ds es : List PyData} (ha : Ev K ta σ G (.tuple ds)) (hb : Ev K tb σ G (.tuple es)) (hz : ds.length + es.length ≤ sizeLine) : Ev K (tOp (rCatE K) ta tb) σ G (.tuple (ds ++ es)) :=
 ev_op ha hb fun G1 H x y Q s1 s2 hx hy k => by
  obtain ⟨p, us, rfl, hp, hus⟩ := hx.tup
  obtain ⟨q, vs, rfl, hq, hvs⟩ := hy.tup
  have l1 := hus.length
  have l2 := hvs.length
  refine ⟨p, q, us, vs, rfl, rfl, s2.tup hp, s2.tup hq, by omega, fun z => ?_, fun z z2 => ?_, fun z z2 l hl => ?_⟩
  ·subst z
   have : ds = [] := by cases ds with | nil => rfl | cons => simp at l1
   subst this
   exact k _ G1 H (Grow.refl s2) (dat_tup hq hvs)
  ·subst z2
   have : es = [] := by cases es with | nil => rfl | cons => simp at l2
   subst this
   rw [List.append_nil] at k
   exact k _ G1 H (Grow.refl s2) (dat_tup hp hus)
  ·have g := grow_new (o := .tup (us ++ vs)) s2 hl
   exact k _ _ _ g (dat_tup (SqT.of upd_same) ((dats_append hus hvs).same g.gg))
end L2
namespace L2
open PySem PySem.Spec PyProof.Rows Lw
section
variable {K : PySem.W.Frag} {B : Hp} {E : Addr → Prop} {G0 H0 G H G' H' : Hp} {σ : St} {ρ : List PV} {F : Nat → List Addr} {ta tb te : TE} {a b d : PyData} {ds es : List PyData}
theorem er_cb {r : List V → Hp → VK → Prop} {t : TA} (h : Ea K B t ρ ds) (hr : ∀ G1 H xs (Q : VK), Same G1 H → Dats K G1 xs ds → (∀ v G' H', Grow G1 H G' H' → Dat K G' v d → Q v H') → r xs H Q) : Er K B (tCB r t) ρ d := fun G σ r' => ev_cb (h G σ r') fun G1 H xs Q _ s2 hx k => hr G1 H xs Q s2 hx k
theorem er_neg {i : Int} (h : Er K B te ρ (.int i)) : Er K B (tUn (rU fun i => .int (-i)) te) ρ (.int (-i)) := fun G σ r G1 H s1 s2 Q k => h G σ r G1 H s1 s2 _ fun v G2 H2 g hv => ⟨i, hv.int, k _ G2 H2 g (dat_int _)⟩
def Eo (K : PySem.W.Frag) (B : Hp) (t : TO) (ρ : List PV) (o : Option Int) : Prop := ∀ G σ, Rx K B G σ ρ → ∀ H (Q : Option Int → Hp → Prop), Q o H → t σ H Q
theorem eo_none : Eo K B tNoPart ρ none := fun _ _ _ _ _ q => q
theorem eo_int {i : Int} : Eo K B (tPart (tC (.int i))) ρ (some i) := fun _ _ _ _ _ q => ⟨i, rfl, q⟩
theorem eo_var {i : Nat} {j : Int} (h : ρ[i]? = some (.dat (.int j))) : Eo K B (tPart (tVar i)) ρ (some j) := fun G σ r H Q q => by
 obtain ⟨x, hx, hd⟩ := r.2.1 i _ h
 exact ⟨x, hx, j, hd.int, q⟩
abbrev slD (ds : List PyData) (lo hi : Option Int) : List PyData := (ds.drop (HT.sIx ds.length 0 lo)).take (HT.sIx ds.length ds.length hi - HT.sIx ds.length 0 lo)
theorem er_slT {tl th : TO} {lo hi : Option Int} (h : Er K B te ρ (.tuple ds)) (hl : Eo K B tl ρ lo) (hh : Eo K B th ρ hi) : Er K B (tSl (rSlTA K) te tl th) ρ (.tuple (slD ds lo hi)) := fun G σ r => ev_slT (h G σ r) (hl G σ r) (hh G σ r)
theorem er_slL {tl th : TO} {lo hi : Option Int} (h : Er K B te ρ (.list ds)) (hl : Eo K B tl ρ lo) (hh : Eo K B th ρ hi) : Er K B (tSl (rSlL K) te tl th) ρ (.list (slD ds lo hi)) := fun G σ r => ev_slL (h G σ r) (hl G σ r) (hh G σ r)
theorem er_catE (ha : Er K B ta ρ (.tuple ds)) (hb : Er K B tb ρ (.tuple es)) (hz : ds.length + es.length ≤ sizeLine) : Er K B (tOp (rCatE K) ta tb) ρ (.tuple (ds ++ es)) := fun G σ r => ev_catE (ha G σ r) (hb G σ r) hz
theorem ev_catL {ta tb : TE} (ha : Ev K ta σ G (.list ds)) (hb : Ev K tb σ G (.list es)) (hz : ds.length + es.length ≤ sizeLine) : Ev K (tOp rCat ta tb) σ G (.list (ds ++ es)) := ev_op ha hb fun G1 H x y Q s1 s2 hx hy k => by
 obtain ⟨p, xs, rfl, hp, hxs⟩ := hx.lst
 obtain ⟨q, ys, rfl, hq, hys⟩ := hy.lst
 refine ⟨p, q, xs, ys, rfl, rfl, s2 _ _ hp, s2 _ _ hq, by rw [hxs.length, hys.length]; exact hz, fun l hl => ?_⟩
 have g := grow_new (o := .lst (xs ++ ys)) s2 hl
 exact k _ _ _ g (dat_lst upd_same ((dats_append hxs hys).same g.gg))
theorem er_catL (ha : Er K B ta ρ (.list ds)) (hb : Er K B tb ρ (.list es)) (hz : ds.length + es.length ≤ sizeLine) : Er K B (tOp rCat ta tb) ρ (.list (ds ++ es)) := fun G σ r => ev_catL (ha G σ r) (hb G σ r) hz
theorem er_srtI {t : TA} {ns : List Int} (h : Ea K B t ρ [.list (ns.map .int)]) (h64 : ns.length < 64) : Er K B (tCB (rSrtI K) t) ρ (.list ((srtI ns).map .int)) := fun G σ r => ev_srtI (h G σ r) h64
theorem er_all {t : TA} {bs : List Bool} (h : Ea K B t ρ [.list (bs.map .bool)]) : Er K B (tCB (fun xs H Q => ∃ (p : Addr) (bs : List Bool), xs = [.ref p] ∧ SqL K H p (bs.map V.bl) ∧ Q (.bl (bs.all id)) H) t) ρ (.bool (bs.all id)) := er_cb h fun G1 H xs Q s2 hx k => by
 obtain ⟨y, ys, rfl, hy, hn⟩ := hx.cons
 cases hn.nil
 obtain ⟨p, zs, rfl, hp, hz⟩ := hy.lst
 have e : zs = bs.map V.bl := by
  clear h hy hp k hx hn
  induction bs generalizing zs with
  | nil => exact hz.nil
  | cons q l ih =>
   obtain ⟨u, us, rfl, hu, hus⟩ := hz.cons
   rw [hu.bl, ih us hus]; rfl
 subst e
 exact ⟨p, bs, rfl, SqL.of (s2 _ _ hp), k _ G1 H (Grow.refl s2) (dat_bl _)⟩
theorem sv_frz1 {t : TS} {R : Pn} (i : Nat) (hi : ρ[i]? = some (.own ds)) (h : Sv K B t (ρ.set i (.dat (.list ds))) R) : Sv K B t ρ R := fun E G0 H0 G H σ F D r dn => by
 obtain ⟨p, xs, e, hx, hp, hd⟩ := r.sl i _ hi
 have hpi : p ∈ F i := by rw [e]; simp
 obtain ⟨gp, _, _⟩ := r.fr i p hpi
 have h0 := r.ow i ds p hi hpi
 have hlt : i < ρ.length := (List.getElem?_eq_some_iff.mp hi).1
 have s1 : Same G (upd G p (.lst xs)) := same_new gp
 refine h E G0 H0 (upd G p (.lst xs)) H σ (fun k => if k = i then [] else F k) D ⟨⟨r.g.gg.trans s1, fun b o eb => ?_, r.g.kp, r.g.al, fun b o eb => ?_⟩, r.bb.trans s1, by rw [List.length_set]; exact r.ls, fun j v hj => ?_, fun j a ha => ?_, fun j k a ha hb => ?_, fun j ds' a hj ha => ?_⟩ (dn.mono s1)
 ·by_cases z : b = p
  ·subst z; rw [upd_same] at eb; rw [hp, eb]
  ·rw [upd_ne z] at eb; exact r.g.gh b o eb
 ·by_cases z : b = p
  ·subst z; exact .inr h0
  ·rw [upd_ne z] at eb; exact r.g.fr b o eb
 ·by_cases z : j = i
  ·subst z
   rw [List.getElem?_set_self hlt] at hj
   cases hj
   rw [if_pos rfl]
   exact ⟨rfl, _, hx, dat_lst upd_same (hd.same s1)⟩
  ·rw [List.getElem?_set_ne (Ne.symm z)] at hj
   rw [if_neg z]
   exact (r.sl j v hj).grow s1 fun _ _ => rfl
 ·by_cases z : j = i
  ·rw [if_pos z] at ha; cases ha
  ·rw [if_neg z] at ha
   obtain ⟨h1, h2, h3⟩ := r.fr j a ha
   refine ⟨?_, h2, h3⟩
   rw [upd_ne fun q => by subst q; exact z (r.dj j i a ha hpi)]; exact h1
 ·by_cases z : j = i
  ·rw [if_pos z] at ha; cases ha
  ·by_cases z' : k = i
   ·rw [if_pos z'] at hb; cases hb
   ·rw [if_neg z] at ha; rw [if_neg z'] at hb; exact r.dj j k a ha hb
 ·by_cases z : j = i
  ·rw [if_pos z] at ha; cases ha
  ·rw [if_neg z] at ha
   rw [List.getElem?_set_ne (Ne.symm z)] at hj
   exact r.ow j ds' a hj ha
variable {P : Program} {w : World}
end
end L2
namespace L2
open PySem PySem.Spec PyProof.Rows Lw
section
variable {K : PySem.W.Frag} {B : Hp} {E : Addr → Prop} {G0 H0 G H G' H' : Hp} {σ : St} {ρ : List PV} {F : Nat → List Addr} {ta tb te : TE} {a b d : PyData} {ds es : List PyData}
theorem dats_cut {xs : List V} {lo hi : Option Int} (h : Dats K G xs ds) : Dats K G (cutV xs lo hi) (slD ds lo hi) := by
 unfold cutV slD
 rw [h.length]
 exact dats_take _ (dats_drop _ h)
theorem er_scrSl {i : Nat} {ns : List Int} {tl th : TO} {lo hi : Option Int} (h : ρ[i]? = some (.scr ns)) (hl : Eo K B tl ρ lo) (hh : Eo K B th ρ hi) : Er K B (tSl (rSlL K) (tVar i) tl th) ρ (.list (slD (ns.map .int) lo hi)) := fun G σ r G1 H s1 s2 Q k => by
 obtain ⟨a, hx, hq⟩ := r.2.2.2.2.1 i ns h
 refine ⟨_, hx, hl G σ r _ _ (hh G σ r _ _ ⟨a, _, rfl, (s1.trans s2).seq hq, fun p hp => ?_⟩)⟩
 have g := grow_new (o := .lst (cutV (ns.map V.int) lo hi)) s2 hp
 exact k _ _ _ g (dat_lst upd_same (dats_cut (dats_ints ns)))
theorem er_scrLen {i : Nat} {ns : List Int} (h : ρ[i]? = some (.scr ns)) : Er K B (tCB (fun xs H Q => ∃ p ys, xs = [.ref p] ∧ (SqL K H p ys ∨ SqT K H p ys) ∧ Q (.int ys.length) H) (tCons (tVar i) tNil)) ρ (.int ns.length) := fun G σ r G1 H s1 s2 Q k => by
 obtain ⟨a, hx, hq⟩ := r.2.2.2.2.1 i ns h
 refine ⟨_, hx, a, _, rfl, .inl ((s1.trans s2).seq hq), ?_⟩
 rw [List.length_map]
 exact k _ G1 H (Grow.refl s2) (dat_int _)
theorem slD_map {α : Type} (f : α → PyData) (l : List α) (lo hi : Option Int) : ∃ m : List α, slD (l.map f) lo hi = m.map f ∧ m.length ≤ l.length ∧ ∀ x ∈ m, x ∈ l :=
 ⟨(l.drop (HT.sIx (l.map f).length 0 lo)).take (HT.sIx (l.map f).length (l.map f).length hi - HT.sIx (l.map f).length 0 lo), by unfold slD; rw [List.map_take, List.map_drop], by rw [List.length_take, List.length_drop]; omega, fun x hx => List.mem_of_mem_drop (List.mem_of_mem_take hx)⟩
theorem slD_from (k : Nat) (ds : List PyData) : slD ds (some (k : Int)) none = ds.drop k := by
 unfold slD
 rw [HT.sIx_nat, HT.sIx_none]
 by_cases h : k ≤ ds.length
 ·rw [Nat.min_eq_left h, List.take_of_length_le (by rw [List.length_drop]; omega)]
 ·rw [Nat.min_eq_right (by omega), List.drop_eq_nil_of_le (Nat.le_refl _), List.drop_eq_nil_of_le (by omega), List.take_nil]
theorem slD_upto (k : Nat) (ds : List PyData) : slD ds none (some (k : Int)) = ds.take k := by
 unfold slD
 rw [HT.sIx_nat, HT.sIx_none, List.drop_zero, Nat.sub_zero]
 by_cases h : k ≤ ds.length
 ·rw [Nat.min_eq_left h]
 ·rw [Nat.min_eq_right (by omega), List.take_of_length_le (Nat.le_refl _), List.take_of_length_le (by omega)]
variable {P : Program} {w : World} {mg : Str → Option Value} {base : Heap}
theorem scr_rl {p : Addr} {N : List Str} {ns : List Int} (sb : Same B H) (hq : SqL K H p (ns.map V.int)) : Rl K B (fun _ => False) H H H H (start N [.ref p]) (startP N [.scr ns]) (fun _ => []) := by
 refine ⟨Gw.refl (Same.refl _), sb, ?_, fun i v h => ?_, fun _ _ h => (by cases h), fun _ _ _ h _ => (by cases h), fun _ _ _ _ h => (by cases h)⟩
 ·unfold start startP
  rw [List.length_append, List.length_append, List.length_map, List.length_replicate, List.length_replicate]; rfl
 ·unfold startP at h
  unfold start
  cases i with
  | zero =>
   have h : some (PV.scr ns) = some v := h
   cases h
   exact ⟨rfl, p, rfl, hq⟩
  | succ i =>
   rw [List.getElem?_append_right (by show 1 ≤ i + 1; omega)] at h
   have := List.mem_of_getElem? h
   rw [(List.mem_replicate.mp this).2]
   rfl
theorem Fun.okLaw {x qual : Str} {st : Stmt} {f : Addr} {fd : FuncData} {N : List Str} {k : Nat} (Fn : Fun K x qual st f fd) (S : FnScope N ["script"] (defScope st))
  (hb : ∀ (cdv : Value) (A : Around) (outer : List Env) (s : Shared) (H : Hp) (E : XK), Room k (A.deeper (envOfC qual (defScope st) s.heap.objs.size f cdv)) → ∀ ns : List Int, ns.length ≤ 63 →
   ∃ t, PSs (cxOf CX0 P w K mg base N qual (defScope st) f cdv A outer s H E).nox (defBody st) t ∧ Sv K B0 t (startP N [.scr ns]) { nx := fun _ => False, rt := fun r _ => r = .dat (.bool true) }) : FnOk P w K mg base CX0 (k + 1) f fd ["script"] (spLaw K) := by
 refine Fn.ok S (fun vs H Q E h => ?_) fun cdv A outer s H vs Q E hr h => ?_
 ·obtain ⟨a, ns, rfl, _⟩ := h
  rfl
 ·obtain ⟨a, ns, rfl, hq, hl, kk⟩ := h
  obtain ⟨t, ht, hs⟩ := hb cdv A outer s H E hr ns hl
  refine ⟨t, ht, hs _ _ _ _ _ _ _ _ (scr_rl b0 hq) ⟨fun e _ r => e.elim, fun e _ r sl n => ?_, fun e => e.elim, fun e => e.elim⟩⟩
  subst e
  obtain ⟨_, y, hy, hd⟩ := sl
  cases hy
  rw [hd.bl]
  exact kk _
theorem call_allK {X : Cx} (e : X.K = K) (hc : X.calm = true) : CallR X (.builtin "all") (fun xs H Q => ∃ (p : Addr) (bs : List Bool), xs = [.ref p] ∧ SqL K H p (bs.map V.bl) ∧ Q (.bl (bs.all id)) H) := by subst e; exact call_all hc
end
end L2
namespace L2
open PySem PySem.Spec PyProof.Rows
section
variable {X : Cx}
variable {K : PySem.W.Frag} {B : Hp} {ρ : List PV} {ta te : TE} {ds : List PyData}
theorem ei_rngN {t : TA} {n : Nat} (h : Ea K B t ρ [.int (n : Nat)]) (hj : n < 2 ^ 60) : Ei K B (iRng1 t) ρ ((List.range n).map fun (i : Nat) => PyData.int (i : Nat)) := by
 have := ei_rng h ⟨by omega, by omega⟩
 rw [Int.toNat_natCast] at this
 have e : (List.range n).map (fun (i : Nat) => PyData.int (0 + i)) = (List.range n).map fun (i : Nat) => PyData.int (i : Nat) := List.map_congr_left fun i _ => by congr 1; omega
 rwa [e] at this
end
end L2
namespace L2
open PySem PySem.Spec PyProof.Rows Lw
structure TF (K : PySem.W.Frag) (S : Type) where
 pv : S → Addr → List Addr → PV
 I : S → Addr → List Addr → Hp → Hp → Prop
 sl : ∀ {s : S} {p : Addr} {fp : List Addr} {G H : Hp} {o : Option (Option V)} {F : List Addr}, Sl K G H o (pv s p fp) F ↔ (F = p :: fp ∧ o = some (some (.ref p)) ∧ I s p fp G H)
 no : ∀ s p fp ds, pv s p fp ≠ .own ds
def noT : Tg where
 ok := fun _ _ _ _ => False
 st := fun h _ _ => h.elim
 live := fun h => h.elim
def lstPV (es : List PyData) (p : Addr) : List Addr → PV
 | [] => .lnt p es
 | _ => .thg noT
def lstT (K : PySem.W.Frag) : TF K (List PyData) where
 pv := lstPV
 I := fun es p fp G H => fp = [] ∧ ∃ xs, H p = some (.lst xs) ∧ Dats K G xs es
 sl := fun {s p fp G H o F} => by
  cases fp with
  | nil =>
   constructor
   ·rintro ⟨xs, h1, h2, h3, h4⟩; exact ⟨h1, h2, rfl, xs, h3, h4⟩
   ·rintro ⟨h1, h2, _, xs, h3, h4⟩; exact ⟨xs, h1, h2, h3, h4⟩
  | cons a fp =>
   constructor
   ·rintro ⟨_, _, _, _, h⟩; exact h.elim
   ·rintro ⟨_, _, h, _⟩; cases h
 no := fun s p fp ds => by cases fp <;> exact nofun
section
variable {K : PySem.W.Frag} {B : Hp} {E : Addr → Prop} {G0 H0 G H G1 H1 G2 H2 : Hp} {σ : St} {ρ : List PV} {F : Nat → List Addr} {ta tb te : TE} {a b d : PyData} {ds es : List PyData} {S : Type} {D : TF K S} {s s' : S} {p : Addr} {fp : List Addr}
theorem rl_of {i0 : Nat} (sb : Same B G) (gh : Same G H) (hl : σ.length = ρ.length) (h0 : ρ[i0]? = some (D.pv s p fp)) (hσ : σ[i0]? = some (some (.ref p))) (hI : D.I s p fp G H) (gn : ∀ a ∈ p :: fp, G a = none) (lv : ∀ a ∈ p :: fp, ∃ o, H a = some o)
  (hx : ∀ i v, i ≠ i0 → ρ[i]? = some v → Sl K G H σ[i]? v [] ∧ ∀ ds, v ≠ .own ds) : Rl K B (· ∈ p :: fp) G H G H σ ρ (fun k => if k = i0 then p :: fp else []) := by
 refine ⟨Gw.refl gh, sb, hl, fun i v h => ?_, fun i a ha => ?_, fun i j a ha hb => ?_, fun i ds' a h ha => ?_⟩
 ·by_cases z : i = i0
  ·subst z
   rw [h0] at h
   cases h
   rw [if_pos rfl]
   exact D.sl.mpr ⟨rfl, hσ, hI⟩
  ·rw [if_neg z]; exact (hx i v z h).1
 ·split at ha
  ·exact ⟨gn a ha, lv a ha, .inl ha⟩
  ·cases ha
 ·split at ha
  ·split at hb
   ·omega
   ·cases hb
  ·cases ha
 ·split at ha
  ·rename_i z
   subst z
   rw [h0] at h
   exact absurd (Option.some.inj h) (D.no _ _ _ _)
  ·cases ha
theorem Rl.lentT {i : Nat} (r1 : Rl K B E G0 H0 G1 H1 σ ρ F) (hi : ρ[i]? = some (D.pv s p fp)) (gw : Gw (· ∈ p :: fp) G1 H1 G2 H2) (gn : ∀ a ∈ p :: fp, G2 a = none) (lv : ∀ a ∈ p :: fp, ∃ o, H2 a = some o) (hI : D.I s' p fp G2 H2) : Rl K B E G0 H0 G2 H2 σ (ρ.set i (D.pv s' p fp)) F := by
 obtain ⟨e1, hx, _⟩ := D.sl.mp (r1.sl i _ hi)
 have hlt : i < ρ.length := (List.getElem?_eq_some_iff.mp hi).1
 refine ⟨⟨r1.g.gg.trans gw.gg, gw.gh, fun b o n h => ?_, fun b h => r1.g.al b (gw.al b h), fun b o h => ?_⟩, r1.bb.trans gw.gg, by rw [List.length_set]; exact r1.ls, fun j v h => ?_, fun j a ha => ?_, r1.dj, fun j ds' a h ha => ?_⟩
 ·refine gw.kp b o (fun z => ?_) (r1.g.kp b o n h)
  rcases (r1.fr i b (by rw [e1]; exact z)).2.2 with hE | hE
  ·exact n hE
  ·rw [hE] at h; cases h
 ·rcases gw.fr b o h with h | h
  ·exact r1.g.fr b o h
  ·exact .inr (r1.g.al b h)
 ·by_cases z : j = i
  ·subst z
   rw [List.getElem?_set_self hlt] at h
   cases h
   exact D.sl.mpr ⟨e1, hx, hI⟩
  ·rw [List.getElem?_set_ne (Ne.symm z)] at h
   refine (r1.sl j v h).grow gw.gg fun a ha => ?_
   obtain ⟨_, ⟨o, ho⟩, _⟩ := r1.fr j a ha
   rw [ho]
   exact gw.kp a o (fun q => z (r1.dj j i a ha (by rw [e1]; exact q))) ho
 ·obtain ⟨h1, ⟨o, h2⟩, h3⟩ := r1.fr j a ha
  by_cases z : a ∈ p :: fp
  ·exact ⟨gn a z, lv a z, h3⟩
  ·refine ⟨?_, ⟨o, gw.kp a o z h2⟩, h3⟩
   cases hg : G2 a with
   | none => rfl
   | some o' =>
    rcases gw.fr a o' hg with h | h
    ·rw [h1] at h; cases h
    ·rw [h2] at h; cases h
 ·by_cases z : j = i
  ·subst z
   rw [List.getElem?_set_self hlt] at h
   exact absurd (Option.some.inj h) (D.no _ _ _ _)
  ·rw [List.getElem?_set_ne (Ne.symm z)] at h
   exact r1.ow j ds' a h ha
variable {P : Program} {w : World} {mg : Str → Option Value} {base : Heap}
theorem eg_lstD {t : TA} {R : PV → List PV → Prop} (h : EgA K B t ρ fun ds ρ' => ds.length ≤ sizeLine ∧ R (.dat (.list ds)) ρ') : Eg K B (tLst t) ρ R := fun E G0 H0 G H σ F r Q q =>
 h E G0 H0 G H σ F r _ fun vs ds ρ1 G1 H1 F1 hR s1 r1 hv => ⟨by rw [hv.length]; exact hR.1, fun p hp => by
  have g := grow_new (o := .lst vs) r1.g.gh hp
  exact q _ _ ρ1 _ _ F1 [] hR.2 (s1.trans g.gg) (r1.grow g) ⟨rfl, _, rfl, dat_lst upd_same (hv.same g.gg)⟩ nw_nil⟩
def EgI (K : PySem.W.Frag) (B : Hp) (wi : TI) (ρ : List PV) (R : List PyData → List PV → Prop) : Prop := ∀ E G0 H0 G H σ F, Rl K B E G0 H0 G H σ ρ F → ∀ Q : It → Hp → Prop,
 (∀ J ds ρ' G' H' F', R ds ρ' → Same G G' → Rl K B E G0 H0 G' H' σ ρ' F' → Wd K J G' ds → Q J H') → wi σ H Q
theorem egi_rng {t : TA} {R : List PyData → List PV → Prop} (h : EgA K B t ρ fun ds ρ' => ∃ n : Nat, ds = [.int (n : Nat)] ∧ n < 2 ^ 60 ∧ R ((List.range n).map fun (i : Nat) => PyData.int (i : Nat)) ρ') : EgI K B (iRng1 t) ρ R := fun E G0 H0 G H σ F r Q q =>
 h E G0 H0 G H σ F r _ fun vs ds ρ1 G1 H1 F1 hR s1 r1 hv => by
  obtain ⟨n, rfl, hn, hR⟩ := hR
  obtain ⟨y, ys, rfl, hy, hr⟩ := hv.cons
  rw [hr.nil, hy.int]
  have e : (List.range n).map (fun (i : Nat) => PyData.int (0 + i)) = (List.range n).map fun (i : Nat) => PyData.int (i : Nat) := List.map_congr_left fun i _ => by congr 1; omega
  refine ⟨n, rfl, by omega, by omega, q _ _ ρ1 G1 H1 F1 hR s1 r1 ?_⟩
  rw [Int.toNat_natCast, ← e]
  exact wd_range
theorem eg_lcT {wi : TI} {js : List Nat} {R : PV → List PV → Prop} {i kp : Nat} (hj : js[kp]? = some i)
  (h : EgI K B wi ρ fun as ρ1 => ∃ (s0 : S) (Iv : Nat → List PyData → S → Prop), ρ1[i]? = some (D.pv s0 p fp) ∧ as.length < sizeLine ∧ Iv 0 [] s0 ∧
   (∀ (n : Nat) (hn : n < as.length) out s, Iv n out s → out.length = n → Eg K B te (.dat as[n] :: (capP (msk ρ1) js).set kp (D.pv s p fp)) fun r ρ' => ∃ d s', r = .dat d ∧ ρ'[kp + 1]? = some (D.pv s' p fp) ∧ Iv (n + 1) (out ++ [d]) s') ∧
   ∀ out s, Iv as.length out s → out.length = as.length → R (.own out) (ρ1.set i (D.pv s p fp))) : Eg K B (tLC wi js tNoIf te) ρ R := fun E G0 H0 G H σ F r Q q => by
 refine h E G0 H0 G H σ F r _ fun J as ρ1 G1 H1 F1 hI s1 r1 W => ?_
 obtain ⟨s0, Iv, hi0, hn, h0, hs, hd⟩ := hI
 have hlt : i < ρ1.length := (List.getElem?_eq_some_iff.mp hi0).1
 have hs0 : ρ1.set i (D.pv s0 p fp) = ρ1 := by
  refine List.ext_getElem? fun j => ?_
  by_cases z : i = j
  ·subst z; rw [List.getElem?_set_self hlt, hi0]
  ·rw [List.getElem?_set_ne z]
 refine ⟨fun k m ys H' => m = as.length - k ∧ k ≤ as.length ∧ ys.length = k ∧ ∃ G' out s, Iv k out s ∧ Rl K B E G0 H0 G' H' σ (ρ1.set i (D.pv s p fp)) F1 ∧ Same G1 G' ∧ Dats K G' ys out, ⟨as.length, by omega, by omega, rfl, G1, [], s0, h0, by rw [hs0]; exact r1, Same.refl _, dats_nil⟩, ?_⟩
 rintro k m ys H' ⟨rfl, hk, hl, G', out, s, hIv, r', s', hys⟩
 have hol : out.length = k := by rw [← hys.length]; exact hl
 refine ⟨by omega, ?_⟩
 by_cases hin : k = as.length
 ·subst hin
  refine .inl ⟨W.stop _ H' (s'.trans r'.g.gh) (Nat.le_refl _), fun l hpl => ?_⟩
  obtain ⟨a, b, c⟩ := r'.newL hpl hys
  exact q _ _ _ G' _ F1 [l] (hd out s hIv hol) (s1.trans s') a b c
 ·have hk' : k < as.length := by omega
  refine .inr ⟨W.go k H' (s'.trans r'.g.gh) hk', fun x H'' hy => ?_⟩
  obtain ⟨G3, g3, hx⟩ := W.yld k H' x H'' G' as[k] s' r'.g.gh (List.getElem?_eq_getElem hk') hy
  have r3 := r'.grow g3
  have hi3 : (ρ1.set i (D.pv s p fp))[i]? = some (D.pv s p fp) := List.getElem?_set_self hlt
  obtain ⟨e1, hσ, hI3⟩ := D.sl.mp (r3.sl i _ hi3)
  have hkl : kp < js.length := (List.getElem?_eq_some_iff.mp hj).1
  have inn : Rl K B (· ∈ p :: fp) G3 H'' G3 H'' (some x :: capV σ js) (.dat as[k] :: (capP (msk ρ1) js).set kp (D.pv s p fp)) (fun j => if j = kp + 1 then p :: fp else []) := by
   refine rl_of r3.bb r3.g.gh ?_ ?_ ?_ hI3 (fun a ha => (r3.fr i a (by rw [e1]; exact ha)).1) (fun a ha => (r3.fr i a (by rw [e1]; exact ha)).2.1) fun j v hjn hv => ?_
   ·unfold capV capP
    rw [List.length_cons, List.length_cons, List.length_set, List.length_map, List.length_map]
   ·rw [List.getElem?_cons_succ]
    exact List.getElem?_set_self (by unfold capP; rw [List.length_map]; exact hkl)
   ·rw [List.getElem?_cons_succ]
    unfold capV
    rw [List.getElem?_map, hj]
    show some (σ[i]?).join = _
    rw [hσ]; rfl
   ·cases j with
    | zero =>
     cases hv
     exact ⟨⟨rfl, x, rfl, hx⟩, fun _ => nofun⟩
    | succ j =>
     rw [List.getElem?_cons_succ] at hv ⊢
     rw [List.getElem?_set_ne (by omega)] at hv
     unfold capP at hv
     unfold capV
     rw [List.getElem?_map] at hv ⊢
     obtain ⟨l, hl', rfl⟩ := Option.map_eq_some_iff.mp hv
     rw [hl']
     show Sl K G3 H'' (some (σ[l]?).join) _ [] ∧ _
     rw [List.getElem?_map]
     cases hρ : ρ1[l]? with
     | none => exact ⟨rfl, fun _ => nofun⟩
     | some v =>
      show Sl K G3 H'' (some (σ[l]?).join) v.msk [] ∧ _
      cases v with
      | dat d =>
       have nl : i ≠ l := fun z => by
        subst z
        rw [hi0] at hρ
        obtain ⟨e9, _, _⟩ := D.sl.mp (r1.sl i _ hi0)
        have h9 := r1.sl i (.dat d) (by rw [hi0, Option.some.inj hρ])
        rw [e9] at h9
        exact absurd h9.1 (by simp)
       obtain ⟨_, y, hy', hd'⟩ := r3.sl l (.dat d) (by rw [List.getElem?_set_ne nl]; exact hρ)
       refine ⟨⟨rfl, y, ?_, hd'⟩, fun _ => nofun⟩
       rw [hy']; rfl
      | scr ns =>
       have nl : i ≠ l := fun z => by
        subst z
        rw [hi0] at hρ
        obtain ⟨e9, _, _⟩ := D.sl.mp (r1.sl i _ hi0)
        have h9 := r1.sl i (.scr ns) (by rw [hi0, Option.some.inj hρ])
        rw [e9] at h9
        exact absurd h9.1 (by simp)
       obtain ⟨_, y, hy', hd'⟩ := r3.sl l (.scr ns) (by rw [List.getElem?_set_ne nl]; exact hρ)
       refine ⟨⟨rfl, y, ?_, hd'⟩, fun _ => nofun⟩
       rw [hy']; rfl
      | val z0 =>
       have nl : i ≠ l := fun z => by
        subst z
        rw [hi0] at hρ
        obtain ⟨e9, _, _⟩ := D.sl.mp (r1.sl i _ hi0)
        have h9 := r1.sl i (.val z0) (by rw [hi0, Option.some.inj hρ])
        rw [e9] at h9
        exact absurd h9.1 (by simp)
       obtain ⟨_, hy'⟩ := r3.sl l (.val z0) (by rw [List.getElem?_set_ne nl]; exact hρ)
       refine ⟨⟨rfl, ?_⟩, fun _ => nofun⟩
       rw [hy']; rfl
      | _ => exact ⟨rfl, fun _ => nofun⟩
  show te (some x :: capV σ js) H'' _
  refine hs k hk' out s hIv hol _ _ _ _ _ _ _ inn _ fun v rr ρ' G4 H4 F4 L hr s4 r4 sl n => ?_
  obtain ⟨d, s'', rfl, hρ', hIv'⟩ := hr
  obtain ⟨e4, _, hI4⟩ := D.sl.mp (r4.sl _ _ hρ')
  obtain ⟨_, y, hy', hd'⟩ := sl
  cases hy'
  have back := r3.lentT hi3 r4.g (fun a ha => (r4.fr _ a (by rw [e4]; exact ha)).1) (fun a ha => (r4.fr _ a (by rw [e4]; exact ha)).2.1) hI4
  rw [List.set_set] at back
  exact ⟨as.length - (k + 1), by omega, rfl, by omega, by rw [List.length_append]; show _ + 1 = _; omega, G4, out ++ [d], s'', hIv', back, (s'.trans g3.gg).trans s4, dats_snoc (hys.same (g3.gg.trans s4)) hd'⟩
end
end L2
namespace L2
open PySem PySem.Spec PyProof.Rows Lw
theorem er_pow {K : PySem.W.Frag} {B : Hp} {ρ : List PV} {i j r : Int} (h : CPow i j) (e : i ^ j.toNat = r) : Er K B (tOp (rI CPow fun i j => .int (i ^ j.toNat)) (tC (.int i)) (tC (.int j))) ρ (.int r) := er_iC er_int er_int h fun _ => e ▸ dat_int _
theorem er_intB {K : PySem.W.Frag} {B : Hp} {ρ : List PV} {t : TA} {b : Bool} (h : Ea K B t ρ [.bool b]) : Er K B (tCB (fun xs H Q => (∃ i, xs = [.int i] ∧ Q (.int i) H) ∨ ∃ k, xs = [.bl k] ∧ Q (.int (if k then 1 else 0)) H) t) ρ (.int (if b then 1 else 0)) := fun G σ r => ev_intB (h G σ r)
theorem sv_seqN {K : PySem.W.Frag} {B : Hp} {ρ : List PV} {t u : TS} {R : Pn} (N : List PV → Prop) (h : Sv K B t ρ { R with nx := N }) (k : ∀ ρ', N ρ' → Sv K B u ρ' R) : Sv K B (tSeq t u) ρ R := sv_seq (sv_imp h (fun ρ hn => k ρ hn) (fun _ _ h => h) (fun _ h => h) (fun _ h => h))
end L2
namespace L2
open PySem PySem.Spec PyProof.Rows Lw Big
section
variable {X : Cx} {pos : Pos}
theorem swapped_subs {a b c d v1 v2 : Expr} {p1 p2 p3 p4 : Pos} {k k2} {env : Env} : swappedStores [.Tuple [.Subscript a b p1, .Subscript c d p2] k p3] (.Tuple [v1, v2] k2 p4) env = pure none := by
 unfold swappedStores
 dsimp only [List.length_cons, List.length_nil]
 split
 ·rfl
 ·split
  ·rfl
  ·rfl
theorem ps_swap {a b c d v1 v2 : Expr} {p1 p2 p3 p4 : Pos} {k k2} {te : TE} {g : TG} (he : PE X (.Tuple [v1, v2] k2 p4) te) (hg : PG X (.Tuple [.Subscript a b p1, .Subscript c d p2] k p3) g)
  (h1 : (assignEach [.Tuple [.Subscript a b p1, .Subscript c d p2] k p3] X.env).map (·.2) = [assign (.Tuple [.Subscript a b p1, .Subscript c d p2] k p3) X.env] := by rfl) : PS X (.Assign [.Tuple [.Subscript a b p1, .Subscript c d p2] k p3] (.Tuple [v1, v2] k2 p4) pos) (tAsg te g) := ps_asg he hg rfl swapped_subs h1
end
section
variable {K : PySem.W.Frag} {B : Hp} {ρ : List PV} {ta tb tc td te : TE}
theorem er_sum {t : TA} {ns : List Int} (h : Ea K B t ρ [.list (ns.map .int)]) : Er K B (tCB (fun xs H Q => ∃ (p : Addr) (ns : List Int), xs = [.ref p] ∧ SqL K H p (ns.map V.int) ∧ Q (.int ns.sum) H) t) ρ (.int ns.sum) := fun G σ r => ev_cb (h G σ r) fun G1 H xs Q s1 s2 hx k => by
 obtain ⟨v, vs, rfl, hv, hx⟩ := hx.cons
 rw [hx.nil]
 obtain ⟨p, ys, rfl, hp, hys⟩ := hv.lst
 rw [Dats.ints hys] at hp
 exact ⟨p, ns, rfl, SqL.of (s2 _ _ hp), k _ _ _ (Grow.refl s2) (dat_int _)⟩
theorem er_srtR {t : TA} {m : Nat} (h : Ea K B t ρ [.list ((bitrev m).map (rowD m))]) (h8 : m ≤ 8) : Er K B (tCB (rSrtR K) t) ρ (.list ((List.range (2 ^ m)).map (rowD m))) := fun G σ r => ev_srtR (h G σ r) h8
end
section
variable {K : PySem.W.Frag} {B : Hp} {ρ : List PV} {G H : Hp}
def spScrO (K : PySem.W.Frag) (R : List Int → List PyData → Prop) : Sp := fun vs H Q _ => ∃ (G : Hp) (a : Addr) (ns : List Int) (es : List PyData), vs = [.ref a] ∧ Same G H ∧ SqL K G a (ns.map V.int) ∧ R ns es ∧ ∀ p xs G' H', Grow G H G' H' → G' p = none → H p = none → H' p = some (.lst xs) → Dats K G' xs es → Q (.ref p) H'
theorem scr_rl2 {p : Addr} {N : List Str} {ns : List Int} (sb : Same B G) (s : Same G H) (hq : SqL K G p (ns.map V.int)) : Rl K B (fun _ => False) G H G H (start N [.ref p]) (startP N [.scr ns]) (fun _ => []) := by
 refine ⟨Gw.refl s, sb, ?_, fun i v h => ?_, fun _ _ h => (by cases h), fun _ _ _ h _ => (by cases h), fun _ _ _ _ h => (by cases h)⟩
 ·unfold start startP
  rw [List.length_append, List.length_append, List.length_map, List.length_replicate, List.length_replicate]; rfl
 ·unfold startP at h
  unfold start
  cases i with
  | zero =>
   have h : some (PV.scr ns) = some v := h
   cases h
   exact ⟨rfl, p, rfl, hq⟩
  | succ i =>
   rw [List.getElem?_append_right (by show 1 ≤ i + 1; omega)] at h
   have := List.mem_of_getElem? h
   rw [(List.mem_replicate.mp this).2]
   rfl
theorem Fun.okScr {P : Program} {w : World} {mg : Str → Option Value} {base : Heap} {x qual : Str} {st : Stmt} {f : Addr} {fd : FuncData} {N : List Str} {k : Nat} {R : List Int → List PyData → Prop} (Fn : Fun K x qual st f fd) (S : FnScope N ["script"] (defScope st))
  (hb : ∀ (cdv : Value) (A : Around) (outer : List Env) (s : Shared) (H : Hp) (E : XK), Room k (A.deeper (envOfC qual (defScope st) s.heap.objs.size f cdv)) → ∀ ns es, R ns es →
   ∃ t, PSs (cxOf CX0 P w K mg base N qual (defScope st) f cdv A outer s H E).nox (defBody st) t ∧ Sv K B0 t (startP N [.scr ns]) { nx := fun _ => False, rt := fun r _ => r = .own es }) : FnOk P w K mg base CX0 (k + 1) f fd ["script"] (spScrO K R) := by
 refine Fn.ok S (fun vs H Q E h => ?_) fun cdv A outer s H vs Q E hr h => ?_
 ·obtain ⟨G, a, ns, es, rfl, _⟩ := h
  rfl
 ·obtain ⟨G, a, ns, es, rfl, sg, hq, hR, kk⟩ := h
  obtain ⟨t, ht, hs⟩ := hb cdv A outer s H E hr ns es hR
  refine ⟨t, ht, hs _ _ _ _ _ _ _ _ (scr_rl2 b0 sg hq) ⟨fun e _ r => e.elim, fun e _ r sl n => ?_, fun e => e.elim, fun e => e.elim⟩⟩
  subst e
  obtain ⟨p, xs, rfl, hy, hp, hd⟩ := sl
  cases hy
  obtain ⟨h1, _, h3⟩ := n.fr p (by simp)
  exact kk p xs _ _ r.g.toGrow h1 h3 hp hd
theorem eg_scrO {Rf : List Int → List PyData → Prop} {X : XK} {i : Nat} {ns : List Int} {es : List PyData} {R : PV → List PV → Prop} (hi : ρ[i]? = some (.scr ns)) (hR : Rf ns es) (k : R (.own es) ρ) : Eg K B (tCall (spScrO K Rf) [] X (tCons (tVar i) tNil)) ρ R := fun E G0 H0 G H σ F r Q q => by
 obtain ⟨_, a, hx, hq⟩ := r.sl i _ hi
 refine ⟨_, hx, G, a, ns, es, rfl, r.g.gh, hq, hR, fun p xs G2 H2 g2 gp hp hp2 hd => ?_⟩
 have r2 := r.grow g2
 refine q _ _ ρ G2 H2 F [p] k g2.gg r2 ⟨p, xs, rfl, rfl, hp2, hd⟩ ⟨fun a ha => ?_, fun a ha j hj => ?_⟩
 ·rw [List.mem_singleton.mp ha]
  exact ⟨gp, ⟨_, hp2⟩, r.g.al p hp⟩
 ·rw [List.mem_singleton.mp ha] at hj
  obtain ⟨_, ⟨o, h⟩, _⟩ := r.fr j p hj
  rw [hp] at h; cases h
end
end L2
namespace L2
open PySem PySem.Spec PyProof.Rows Lw
def iRngD (ta : TA) : TI := fun σ H R => ta σ H fun vs H1 => ∃ i j : Int, vs = [.int i, .int j, .int (-1)] ∧ (-(2 ^ 40) < i ∧ i < 2 ^ 40 ∧ -(2 ^ 40) < j ∧ j < 2 ^ 40) ∧ R (Itr3 i (-1) (i - j).toNat) H1
section
variable {X : Cx} {tg : Expr}
theorem pi_rangeD {a b c : Expr} {ta : TA} {p pos : Pos} (hg : Gl X "range") (hm : X.mg "range" = none) (ha : PA X [a, b, c] ta) (hs : starEach [a, b, c] X.env = [(false, eval a X.env), (false, eval b X.env), (false, eval c X.env)] := by rfl) (hs2 : starEach [b, c] X.env = [(false, eval b X.env), (false, eval c X.env)] := by rfl) :
  PI X tg (.Call (.Name "range" p) [a, b, c] [] pos) (iRngD ta) := by
 intro pins s σ H R I h
 refine Call_ (ld_blt I hg hm boot_range (PyProof.Rows.callWith_type1 (thn (ha pos pins s σ H _ I h) fun us s1 ⟨vs, H1, I1, r1, q1⟩ => ?_) (by rw [hs, hs2]) (by rw [hs2]; rfl)))
 obtain ⟨i, j, e, ⟨q1, q2, q3, q4⟩, q⟩ := q1
 subst e
 cases r1 with
 | cons r rr =>
  cases rr with
  | cons r' rr =>
   cases rr with
   | cons r'' rr =>
    cases rr
    obtain ⟨t, rfl⟩ := r
    obtain ⟨t', rfl⟩ := r'
    obtain ⟨t'', rfl⟩ := r''
    have hrs : Builtin.Range.rangeSize i j (-1) = ((i - j).toNat : Nat) := by
     unfold Builtin.Range.rangeSize
     rw [if_neg (by omega)]
     split
     ·rw [show (-(-1) : Int) = 1 from rfl, Int.ediv_one]; omega
     ·omega
    have hsm : Builtin.Range.small i j (-1) = true := by
     unfold Builtin.Range.small
     rw [hrs]
     simp only [Builtin.Range.rangeFitsLong, Bool.and_eq_true, Bool.or_eq_true, decide_eq_true_eq, beq_iff_eq, gt_iff_lt]
     first | omega | (split <;> omega) | (simp; omega)
    refine call_range_3 (by omega) ?_ (.inl (PyProof.noPylong_small (by omega)))
    have I2 : Inv X pins σ H1 { s1 with heap := s1.heap.push { cls := .type "range", data := .fields #[.int i t, .int j t', .int (-1) t''] }, toks := s1.toks } := I1.kept fun b o e => Heap.get?_push_of_some _ e
    refine wpAny_pyIter_range (IsRange.new ..) hsm ?_
    refine ⟨_, [_], _, _, H1, rfl, I2.kept (t' := s1.toks) fun b o e => Heap.get?_push_of_some _ e, turn_range3 _ i (-1) (i - j).toNat, ?_, fun b hb => ?_, q⟩
    ·have e1 : i + ((0 : Nat) : Int) * (-1) = i := by simp
     have e2 : (((i - j).toNat : Nat) : Int) - ((0 : Nat) : Int) = Builtin.Range.rangeSize i j (-1) := by rw [hrs]; omega
     show IsRangeIter _ _ (i + ((0 : Nat) : Int) * (-1)) ((((i - j).toNat : Nat) : Int) - ((0 : Nat) : Int)) (-1)
     rw [e1, e2]
     exact Heap.get?_push_size _ rfl
    ·have e := List.mem_singleton.mp hb
     subst e
     exact I2.fpOk (Nat.le_refl _) (I2.hok.fresh (Nat.le_refl _))
end
section
variable {K : PySem.W.Frag} {B : Hp} {ρ : List PV} {G : Hp}
theorem wd_rangeD {lo : Int} {n : Nat} : Wd K (Itr3 lo (-1) n) G ((List.range n).map fun (i : Nat) => PyData.int (lo - i)) := by
 refine ⟨fun i H' _ h => by rw [List.length_map, List.length_range] at h; exact h, fun i H' _ h => by rw [List.length_map, List.length_range] at h; exact h, fun i H1 x H2 G1 d s1 s2 hd y => ?_⟩
 obtain ⟨rfl, rfl⟩ := y
 refine ⟨G1, Grow.refl s2, ?_⟩
 rw [List.getElem?_map] at hd
 by_cases h : i < n
 ·rw [List.getElem?_range h] at hd
  cases hd
  rw [show lo + (i : Int) * (-1) = lo - i by omega]
  exact dat_int _
 ·rw [List.getElem?_eq_none (by rw [List.length_range]; omega)] at hd; cases hd
theorem ei_rngD {t : TA} {lo j : Int} (h : Ea K B t ρ [.int lo, .int j, .int (-1)]) (hj : -(2 ^ 40) < lo ∧ lo < 2 ^ 40 ∧ -(2 ^ 40) < j ∧ j < 2 ^ 40) : Ei K B (iRngD t) ρ ((List.range (lo - j).toNat).map fun (i : Nat) => PyData.int (lo - i)) := fun G H σ r s R k => h G σ r G H (Same.refl _) s _ fun vs G' H' g hv => by
 obtain ⟨a, as, rfl, ha, hv⟩ := hv.cons
 obtain ⟨b, bs, rfl, hb, hv⟩ := hv.cons
 obtain ⟨c, cs, rfl, hc, hv⟩ := hv.cons
 rw [hv.nil, ha.int, hb.int, hc.int]
 exact ⟨lo, j, rfl, hj, k _ G' H' g wd_rangeD⟩
end
end L2
namespace L2
open PySem PySem.Spec PyProof.Rows
mutual
def noL : PyData → Bool
 | .list _ => false
 | .tuple ds => noLs ds
 | .dict _ => false
 | _ => true
def noLs : List PyData → Bool
 | [] => true
 | d :: r => noL d && noLs r
end
end L2
namespace L2
open PySem PySem.Spec PyProof.Rows Lw
def tCallW (i : Nat) (f : Addr) (sp : Sp) (dvs : List V) (E : XK) (t : TA) : TE := fun σ H Q => σ[i]? = some (some (.ref f)) ∧ tCall sp dvs E t σ H Q
section
variable {X : Cx} {CX : CXT} {k i : Nat} {x : Str} {f : Addr} {fd : FuncData} {ps : List Str} {ds : List Value} {dvs : List V} {sp : Sp} {E : XK} {e : Expr} {es : List Expr} {t : TA} {p pos : Pos}
theorem pe_callW (hN : X.N[i]? = some x) (hv : Vis X.env.scope x) (F : FnOk X.prog X.w X.K X.mg X.base CX k f fd ps sp) (hr : Room k X.A) (hk : PySem.W.keepIn X.K (.ref f) = true) (hb : Binds X.K fd ps ds) (hd : Vals dvs ds) (hx : Passes CX X E)
  (ha : PA X (e :: es) t) (hdb : (x == ("__debug__" : Str)) = false := by decide) (hcd : (x == ("__classdict__" : Str)) = false := by decide) (he : starEach (e :: es) X.env = (false, eval e X.env) :: starEach es X.env := by rfl) (hpl : (backTo pos (starEach es X.env)).any (·.1) = false := by rfl) :
  PE X (.Call (.Name x p) (e :: es) [] pos) (tCallW i f sp dvs E t) := by
 intro pins s σ H Q I h
 obtain ⟨eσ, h⟩ := h
 refine wpAny_Call_Name_kw (thn (pe_var hN hv hdb hcd pins s σ H (fun v H' => v = .ref f ∧ H' = H) I ⟨_, eσ, rfl, rfl⟩) fun u s1 ⟨v, H1, I1, r, ev, eH⟩ => ?_)
 subst ev eH
 obtain rfl : u = Value.ref f := r
 refine PySem.W.callWith_K (h₀ := X.base) I1.ok.mod.kin hk (thn (ha pos pins s1 σ H1 _ I1 h) fun us s2 ⟨vs, H2, I2, r, q⟩ => ⟨I2.kIn, ?_⟩) he hpl
 exact run_fn F hr hb hd hx I2 r q
end
section
variable {K : PySem.W.Frag} {B : Hp} {ρ : List PV} {G H : Hp} {ta tb te : TE} {a b d : PyData} {ds : List PyData}
theorem er_callV {R : List PyData → PyData → Prop} {X : XK} {t : TA} {i : Nat} {f : Addr} (hi : ρ[i]? = some (.val (.ref f))) (h : Ea K B t ρ ds) (hR : R ds d) : Er K B (tCallW i f (spP K R) [] X t) ρ d := fun G σ r G1 H s1 s2 Q k => ⟨r.2.2.2.2.2 i _ hi, ev_call (h G σ r) hR G1 H s1 s2 Q k⟩
def spV (K : PySem.W.Frag) (f : Addr) (R : List PyData → PyData → Prop) : Sp := fun vs H Q _ => ∃ (G : Hp) (ds : List PyData) (d : PyData) (us : List V), vs = us ++ [.ref f] ∧ Same G H ∧ Dats K G us ds ∧ R ds d ∧ ∀ v G' H', Grow G H G' H' → Dat K G' v d → Q v H'
theorem er_callV2 {R : List PyData → PyData → Prop} {X : XK} {f : Addr} (ha : Er K B ta ρ a) (hb : Er K B tb ρ b) (hR : R [a, b] d) : Er K B (tCall (spV K f R) [] X (tCons ta (tCons tb (tCons (tC (.ref f)) tNil)))) ρ d := fun G σ r G1 H s1 s2 Q k =>
 ha G σ r G1 H s1 s2 _ fun va G2 H2 g2 hva => hb G σ r G2 H2 (s1.trans g2.gg) g2.gh _ fun vb G3 H3 g3 hvb =>
  ⟨G3, [a, b], d, [va, vb], rfl, g3.gh, dats_cons (hva.same g3.gg) (dats_cons hvb dats_nil), hR, fun v G' H' g hv => k _ _ _ ((g2.trans g3).trans g) hv⟩
theorem vals_rl {us : List V} {N : List Str} {x : V} (sb : Same B G) (s : Same G H) (hv : Dats K G us ds) : Rl K B (fun _ => False) G H G H (start N (us ++ [x])) (startP N (ds.map .dat ++ [.val x])) (fun _ => []) := by
 refine ⟨Gw.refl s, sb, ?_, fun i v h => ?_, fun _ _ h => (by cases h), fun _ _ _ h _ => (by cases h), fun _ _ _ _ h => (by cases h)⟩
 ·unfold start startP
  simp only [List.length_append, List.length_map, List.length_replicate, hv.length, List.length_cons, List.length_nil]
 ·unfold startP at h
  unfold start
  rw [List.map_append, List.append_assoc]
  rw [List.append_assoc] at h
  by_cases hi : i < ds.length
  ·rw [List.getElem?_append_left (by rw [List.length_map]; exact hi), List.getElem?_map, List.getElem?_eq_getElem hi] at h
   cases h
   obtain ⟨y, hx, hxd⟩ := hv.get (List.getElem?_eq_getElem hi)
   exact ⟨rfl, y, by rw [List.getElem?_append_left (by rw [List.length_map, hv.length]; exact hi), List.getElem?_map, hx]; rfl, hxd⟩
  ·rw [List.getElem?_append_right (by rw [List.length_map]; omega), List.length_map] at h
   by_cases hi2 : i = ds.length
   ·subst hi2
    rw [Nat.sub_self] at h
    have h : some (PV.val x) = some v := h
    cases h
    refine ⟨rfl, ?_⟩
    rw [List.getElem?_append_right (by rw [List.length_map, hv.length]; exact Nat.le_refl _), List.length_map, hv.length, Nat.sub_self]; rfl
   ·rw [List.getElem?_append_right (by show 1 ≤ _; omega)] at h
    have := List.mem_of_getElem? h
    rw [(List.mem_replicate.mp this).2]
    rfl
theorem Fun.okV {P : Program} {w : World} {mg : Str → Option Value} {base : Heap} {x qual : Str} {st : Stmt} {f g : Addr} {fd : FuncData} {N ps : List Str} {k : Nat} {R : List PyData → PyData → Prop} (Fn : Fun K x qual st f fd) (S : FnScope N ps (defScope st)) (len : ∀ ds d, R ds d → ds.length + 1 = ps.length)
  (hb : ∀ (cdv : Value) (A : Around) (outer : List Env) (s : Shared) (H : Hp) (E : XK), Room k (A.deeper (envOfC qual (defScope st) s.heap.objs.size f cdv)) → ∀ ds d, R ds d →
   ∃ t, PSs (cxOf CX0 P w K mg base N qual (defScope st) f cdv A outer s H E).nox (defBody st) t ∧ Sv K B0 t (startP N (ds.map .dat ++ [.val (.ref g)])) { nx := fun _ => d = .none, rt := fun r _ => r = .dat d }) : FnOk P w K mg base CX0 (k + 1) f fd ps (spV K g R) := by
 refine Fn.ok S (fun vs H Q E h => ?_) fun cdv A outer s H vs Q E hr h => ?_
 ·obtain ⟨G, ds, d, us, rfl, _, hv, hR, _⟩ := h
  rw [List.length_append, hv.length]; exact len ds d hR
 ·obtain ⟨G, ds, d, us, rfl, sg, hv, hR, kk⟩ := h
  obtain ⟨t, ht, hs⟩ := hb cdv A outer s H E hr ds d hR
  refine ⟨t, ht, hs _ _ _ _ _ _ _ _ (vals_rl b0 sg hv) ⟨fun e _ r => ?_, fun e _ r sl n => ?_, fun e => e.elim, fun e => e.elim⟩⟩
  ·have e : d = .none := e
   subst e
   exact kk _ _ _ r.g.toGrow dat_non
  ·subst e
   obtain ⟨_, y, hy, hd⟩ := sl
   cases hy
   exact kk _ _ _ r.g.toGrow hd
end
end L2
namespace L2
open PySem PySem.Spec PyProof.Rows Lw
section
variable {K : PySem.W.Frag} {B : Hp} {ρ : List PV} {G H : Hp} {ta tb te td : TE} {a b d : PyData} {ds : List PyData}
theorem eg_slU {R : PV → List PV → Prop} (h : Er K B te (msk ρ) (.list ds)) (hd : Eg K B td ρ fun y ρ2 => ∃ j : Int, y = .dat (.int j) ∧ R (.dat (.list (slD ds none (some j)))) ρ2) : Eg K B (tSl (rSlL K) te tNoPart (tPart td)) ρ R := fun E G0 H0 G H σ F r Q q =>
 h G σ r.rx G H (Same.refl _) r.g.gh _ fun v G1 H1 g hv => hd E G0 H0 G1 H1 σ F (r.grow g) _ fun v2 w2 ρ2 G2 H2 F2 L2 hw2 s2 r2 sl2 n2 => by
  obtain ⟨j, rfl, hR⟩ := hw2
  obtain ⟨_, y2, hy2, hd2⟩ := sl2
  cases hy2
  rw [hd2.int]
  refine ⟨j, rfl, ?_⟩
  have := ev_slL (K := K) (σ := σ) (G := G2) (te := tC v) (tl := tNoPart) (th := tPart (tC (.int j))) (ev_c (hv.same s2)) (fun H Q q => q) (fun H Q q => ⟨j, rfl, q⟩) G2 H2 (Same.refl _) r2.g.gh Q fun v3 G3 H3 g3 hv3 => q v3 _ ρ2 G3 H3 F2 [] hR ((g.gg.trans s2).trans g3.gg) (r2.grow g3) ⟨rfl, v3, rfl, hv3⟩ nw_nil
  obtain ⟨j', e', this⟩ := this
  cases e'
  exact this
theorem dats_repF {xs : List V} (h : Dats K G xs ds) : ∀ n : Nat, Dats K G (List.replicate n xs).flatten (List.replicate n ds).flatten
 | 0 => dats_nil
 | n + 1 => by
  rw [List.replicate_succ, List.replicate_succ, List.flatten_cons, List.flatten_cons]
  exact dats_append h (dats_repF h n)
theorem ev_repL {σ : St} {n : Nat} (ha : Ev K ta σ G (.list ds)) (hb : Ev K tb σ G (.int (n : Nat))) (hn : n < 2 ^ 63) (hz : ds.length * n ≤ sizeLine) : Ev K (tOp rRep ta tb) σ G (.list (List.replicate n ds).flatten) := ev_op ha hb fun G1 H x y Q s1 s2 hx hy k => by
 obtain ⟨p, xs, rfl, hp, hxs⟩ := hx.lst
 rw [hy.int]
 refine ⟨p, n, xs, rfl, rfl, s2 _ _ hp, by omega, by omega, by rw [Int.toNat_natCast, hxs.length]; exact hz, fun q hq => ?_⟩
 rw [Int.toNat_natCast]
 have g := grow_new (o := .lst (List.replicate n xs).flatten) s2 hq
 exact k _ _ _ g (dat_lst upd_same ((dats_repF hxs n).same g.gg))
end
end L2
namespace L2
open PySem PySem.Spec PyProof.Rows
section
variable {K : PySem.W.Frag} {X : Cx}
theorem call_listK (e : X.K = K) : CallR X (.type "list") (fun xs H Q => ∃ p ys, xs = [.ref p] ∧ (SqL K H p ys ∨ SqT K H p ys) ∧ ∀ l, H l = none → Q (.ref l) (upd H l (.lst ys))) := by subst e; exact call_list_of
end
end L2
namespace Net
open PySem L2 Big
abbrev dP (p : Nat × Nat) : PyData := .tuple [.int (p.1 : Nat), .int (p.2 : Nat)]
theorem band_nat (p s : Nat) : Builtin.bitAnd (p : Int) (s : Int) = ((p &&& s : Nat) : Int) := by
 unfold Builtin.bitAnd
 simp
def stepN (r : List Int) (p : Nat × Nat) : List Int := if r.getD p.1 0 > r.getD p.2 0 then (r.set p.1 (r.getD p.2 0)).set p.2 (r.getD p.1 0) else r
def ledN (net : List (Nat × Nat)) (r : List Int) : List Int := net.foldl stepN r
theorem stepN_len (r : List Int) (p : Nat × Nat) : (stepN r p).length = r.length := by unfold stepN; split <;> simp
theorem ledN_len : ∀ (net : List (Nat × Nat)) (r : List Int), (ledN net r).length = r.length
 | [], _ => rfl
 | p :: net, r => (ledN_len net (stepN r p)).trans (stepN_len r p)
def riseN (m : Nat) (r : List Int) : Bool := (List.range (m - 1)).all fun k => !decide (r.getD k 0 > r.getD (k + 1) 0)
end Net
namespace K47
open PySem L2 Lw Big Net
def top (i : Nat) : Stmt := PySem.Challenge.pw_ordertext_k47_beats.main.body.getD i (.Pass ⟨0, 0, 0, 0⟩)
abbrev s_through : Stmt := top 1
abbrev s_beats : Stmt := top 2
abbrev s_is_more : Stmt := top 3
abbrev s_rows_of_two : Stmt := top 4
abbrev s_row_of_two : Stmt := top 5
abbrev s__law_mix : Stmt := top 7
abbrev s__law_deck : Stmt := top 8
abbrev s__law_next : Stmt := top 9
abbrev s__law_like : Stmt := top 10
abbrev s__law_rows : Stmt := top 11
abbrev s__law_through : Stmt := top 12
abbrev s__law_beats : Stmt := top 13
abbrev s__law_bubbles : Stmt := top 14
abbrev s__law_pair : Stmt := top 15
abbrev s__law_net : Stmt := top 16
abbrev s__law_right : Stmt := top 17
abbrev s_law : Stmt := top 18
theorem sc_through : FnScope ["net", "row", "is_behind", "things", "exchanged", "place", "pair", "one", "other"] ["net", "row", "is_behind"] (defScope s_through) := ⟨rfl, rfl, rfl, by decide +kernel, rfl, by decide +kernel, by decide +kernel⟩
theorem sc_beats : FnScope ["net", "many", "row", "things"] ["net", "many"] (defScope s_beats) := ⟨rfl, rfl, rfl, by decide +kernel, rfl, by decide +kernel, by decide +kernel⟩
theorem sc_is_more : FnScope ["one", "other"] ["one", "other"] (defScope s_is_more) := ⟨rfl, rfl, rfl, by decide +kernel, rfl, by decide +kernel, by decide +kernel⟩
theorem sc_rows_of_two : FnScope ["many"] ["many"] (defScope s_rows_of_two) := ⟨rfl, rfl, rfl, by decide +kernel, rfl, by decide +kernel, by decide +kernel⟩
theorem sc_row_of_two : FnScope ["number", "many"] ["number", "many"] (defScope s_row_of_two) := ⟨rfl, rfl, rfl, by decide +kernel, rfl, by decide +kernel, by decide +kernel⟩
theorem sc__law_mix : FnScope ["cell", "k", "number"] ["cell", "k"] (defScope s__law_mix) := ⟨rfl, rfl, rfl, by decide +kernel, rfl, by decide +kernel, by decide +kernel⟩
theorem sc__law_deck : FnScope ["script"] ["script"] (defScope s__law_deck) := ⟨rfl, rfl, rfl, by decide +kernel, rfl, by decide +kernel, by decide +kernel⟩
theorem sc__law_next : FnScope ["deck", "many", "cell", "found"] ["deck", "many"] (defScope s__law_next) := ⟨rfl, rfl, rfl, by decide +kernel, rfl, by decide +kernel, by decide +kernel⟩
theorem sc__law_like : FnScope ["found", "due"] ["found", "due"] (defScope s__law_like) := ⟨rfl, rfl, rfl, by decide +kernel, rfl, by decide +kernel, by decide +kernel⟩
theorem sc__law_rows : FnScope ["many", "rows", "k"] ["many"] (defScope s__law_rows) := ⟨rfl, rfl, rfl, by decide +kernel, rfl, by decide +kernel, by decide +kernel⟩
theorem sc__law_through : FnScope ["net", "row", "numbers", "places", "place", "one", "other"] ["net", "row"] (defScope s__law_through) := ⟨rfl, rfl, rfl, by decide +kernel, rfl, by decide +kernel, by decide +kernel⟩
theorem sc__law_beats : FnScope ["net", "many", "row", "numbers"] ["net", "many"] (defScope s__law_beats) := ⟨rfl, rfl, rfl, by decide +kernel, rfl, by decide +kernel, by decide +kernel⟩
theorem sc__law_bubbles : FnScope ["many", "net", "last"] ["many"] (defScope s__law_bubbles) := ⟨rfl, rfl, rfl, by decide +kernel, rfl, by decide +kernel, by decide +kernel⟩
theorem sc__law_pair : FnScope ["deck", "many", "one", "other"] ["deck", "many"] (defScope s__law_pair) := ⟨rfl, rfl, rfl, by decide +kernel, rfl, by decide +kernel, by decide +kernel⟩
theorem sc__law_net : FnScope ["deck", "many", "net", "kind", "k", "at", "way", "later"] ["deck", "many"] (defScope s__law_net) := ⟨rfl, rfl, rfl, by decide +kernel, rfl, by decide +kernel, by decide +kernel⟩
theorem sc__law_right : FnScope ["net", "many", "found", "due"] ["net", "many"] (defScope s__law_right) := ⟨rfl, rfl, rfl, by decide +kernel, rfl, by decide +kernel, by decide +kernel⟩
theorem sc_law : FnScope ["script", "deck", "turn", "many", "net", "some"] ["script"] (defScope s_law) := ⟨rfl, rfl, rfl, by decide +kernel, rfl, by decide +kernel, by decide +kernel⟩
set_option genInjectivity false in
structure Top (K : PySem.W.Frag) (mg : Str → Option Value) where
 f_through : Addr
 fd_through : FuncData
 F_through : Fun K "through" "through" s_through f_through fd_through
 b_through : Binds K fd_through ["net", "row", "is_behind"] []
 m_through : mg "through" = some (.ref f_through)
 f_beats : Addr
 fd_beats : FuncData
 F_beats : Fun K "beats" "beats" s_beats f_beats fd_beats
 b_beats : Binds K fd_beats ["net", "many"] []
 m_beats : mg "beats" = some (.ref f_beats)
 f_is_more : Addr
 fd_is_more : FuncData
 F_is_more : Fun K "is_more" "is_more" s_is_more f_is_more fd_is_more
 b_is_more : Binds K fd_is_more ["one", "other"] []
 m_is_more : mg "is_more" = some (.ref f_is_more)
 f_rows_of_two : Addr
 fd_rows_of_two : FuncData
 F_rows_of_two : Fun K "rows_of_two" "rows_of_two" s_rows_of_two f_rows_of_two fd_rows_of_two
 b_rows_of_two : Binds K fd_rows_of_two ["many"] []
 m_rows_of_two : mg "rows_of_two" = some (.ref f_rows_of_two)
 f_row_of_two : Addr
 fd_row_of_two : FuncData
 F_row_of_two : Fun K "row_of_two" "row_of_two" s_row_of_two f_row_of_two fd_row_of_two
 b_row_of_two : Binds K fd_row_of_two ["number", "many"] []
 m_row_of_two : mg "row_of_two" = some (.ref f_row_of_two)
 f__law_mix : Addr
 fd__law_mix : FuncData
 F__law_mix : Fun K "_law_mix" "_law_mix" s__law_mix f__law_mix fd__law_mix
 b__law_mix : Binds K fd__law_mix ["cell", "k"] []
 m__law_mix : mg "_law_mix" = some (.ref f__law_mix)
 f__law_deck : Addr
 fd__law_deck : FuncData
 F__law_deck : Fun K "_law_deck" "_law_deck" s__law_deck f__law_deck fd__law_deck
 b__law_deck : Binds K fd__law_deck ["script"] []
 m__law_deck : mg "_law_deck" = some (.ref f__law_deck)
 f__law_next : Addr
 fd__law_next : FuncData
 F__law_next : Fun K "_law_next" "_law_next" s__law_next f__law_next fd__law_next
 b__law_next : Binds K fd__law_next ["deck", "many"] []
 m__law_next : mg "_law_next" = some (.ref f__law_next)
 f__law_like : Addr
 fd__law_like : FuncData
 F__law_like : Fun K "_law_like" "_law_like" s__law_like f__law_like fd__law_like
 b__law_like : Binds K fd__law_like ["found", "due"] []
 m__law_like : mg "_law_like" = some (.ref f__law_like)
 f__law_rows : Addr
 fd__law_rows : FuncData
 F__law_rows : Fun K "_law_rows" "_law_rows" s__law_rows f__law_rows fd__law_rows
 b__law_rows : Binds K fd__law_rows ["many"] []
 m__law_rows : mg "_law_rows" = some (.ref f__law_rows)
 f__law_through : Addr
 fd__law_through : FuncData
 F__law_through : Fun K "_law_through" "_law_through" s__law_through f__law_through fd__law_through
 b__law_through : Binds K fd__law_through ["net", "row"] []
 m__law_through : mg "_law_through" = some (.ref f__law_through)
 f__law_beats : Addr
 fd__law_beats : FuncData
 F__law_beats : Fun K "_law_beats" "_law_beats" s__law_beats f__law_beats fd__law_beats
 b__law_beats : Binds K fd__law_beats ["net", "many"] []
 m__law_beats : mg "_law_beats" = some (.ref f__law_beats)
 f__law_bubbles : Addr
 fd__law_bubbles : FuncData
 F__law_bubbles : Fun K "_law_bubbles" "_law_bubbles" s__law_bubbles f__law_bubbles fd__law_bubbles
 b__law_bubbles : Binds K fd__law_bubbles ["many"] []
 m__law_bubbles : mg "_law_bubbles" = some (.ref f__law_bubbles)
 f__law_pair : Addr
 fd__law_pair : FuncData
 F__law_pair : Fun K "_law_pair" "_law_pair" s__law_pair f__law_pair fd__law_pair
 b__law_pair : Binds K fd__law_pair ["deck", "many"] []
 m__law_pair : mg "_law_pair" = some (.ref f__law_pair)
 f__law_net : Addr
 fd__law_net : FuncData
 F__law_net : Fun K "_law_net" "_law_net" s__law_net f__law_net fd__law_net
 b__law_net : Binds K fd__law_net ["deck", "many"] []
 m__law_net : mg "_law_net" = some (.ref f__law_net)
 f__law_right : Addr
 fd__law_right : FuncData
 F__law_right : Fun K "_law_right" "_law_right" s__law_right f__law_right fd__law_right
 b__law_right : Binds K fd__law_right ["net", "many"] []
 m__law_right : mg "_law_right" = some (.ref f__law_right)
 len_ : mg "len" = none
 range_ : mg "range" = none
 tuple_ : mg "tuple" = none
 isinstance_ : mg "isinstance" = none
 list_ : mg "list" = none
 int_ : mg "int" = none
 bool_ : mg "bool" = none
 sorted_ : mg "sorted" = none
 sum_ : mg "sum" = none
 all_ : mg "all" = none
 enumerate_ : mg "enumerate" = none
 tt : PySem.W.kitOne K (.type "tuple") (.type "tuple") = some true
 ii : PySem.W.kitOne K (.type "int") (.type "int") = some true
 ib : PySem.W.kitOne K (.type "int") (.type "bool") = some false
 it : PySem.W.kitOne K (.type "int") (.type "tuple") = some false
end K47
namespace K47
open PySem L2 Lw Big Net
def mixI (cell k : Int) : Int := ((cell % 2147483629 + 1000003 * k * k + 7919 * k) % 2147483629 * ((cell % 2147483629 + 1000003 * k * k + 7919 * k) % 2147483629) % 2147483587) * ((cell % 2147483629 + 1000003 * k * k + 7919 * k) % 2147483629 * ((cell % 2147483629 + 1000003 * k * k + 7919 * k) % 2147483629) % 2147483587 + 40961) % 2147483563 / 4
def RMix : List PyData → PyData → Prop := fun as d => ∃ cell k : Int, as = [.int cell, .int k] ∧ 0 ≤ k ∧ k ≤ 10 ^ 7 ∧ d = .int (mixI cell k)
def RDeck : List Int → List PyData → Prop := fun ns es => ∃ cs : List Int, slD (ns.map PyData.int) none (some 63) = cs.map PyData.int ∧ es = [.list (cs.map PyData.int), .int 0, .int 0, .int 0, .int cs.sum]
def Dk (n : Nat) (es : List PyData) : Prop := ∃ (cs : List Int) (a : Nat) (b : Int) (c : Nat) (s : Int), es = [.list (cs.map PyData.int), .int (a : Nat), .int b, .int (c : Nat), .int s] ∧ cs.length ≤ 63 ∧ a ≤ 63 ∧ c ≤ n
theorem Dk.mono {n m : Nat} {es : List PyData} (h : Dk n es) (k : n ≤ m) : Dk m es := by
 obtain ⟨cs, a, b, c, s, e, h1, h2, h3⟩ := h
 exact ⟨cs, a, b, c, s, e, h1, h2, by omega⟩
def PreN : List PyData → List PyData → Prop := fun es ds => ∃ (n : Nat) (m : Int), Dk n es ∧ n ≤ 10 ^ 6 ∧ ds = [.int m] ∧ 1 ≤ m ∧ m ≤ 10 ^ 12
def RNx : List PyData → List PyData → PyData → List PyData → Prop := fun es ds x es' => ∃ m r : Int, ds = [.int m] ∧ x = .int r ∧ 0 ≤ r ∧ r < m ∧ ∀ n, Dk n es → Dk (n + 1) es'
section
variable {P : Program} {w : World} {K : PySem.W.Frag} {mg : Str → Option Value} {base : Heap}
theorem ok_mix (T : Top K mg) : FnOk P w K mg base CX0 1 T.f__law_mix T.fd__law_mix ["cell", "k"] (spP K RMix) := by
 refine T.F__law_mix.okP sc__law_mix (by rintro _ _ ⟨c, k, rfl, _⟩; rfl) fun cdv A outer s H E hr ds d hR => ?_
 obtain ⟨cell, k, rfl, k0, k1, rfl⟩ := hR
 refine ⟨_, (pss_cons (ps_set (i := 2) sc__law_mix.nd rfl (Or.inl rfl) (pe_op op_add (pe_op op_mod (pv 0) pe_int) (pe_op op_mulW (pe_op op_mulW pe_int (pv 1)) (pv 1))))
   (pss_cons (ps_set (i := 2) sc__law_mix.nd rfl (Or.inl rfl) (pe_op op_mod (pe_op op_add (pv 2) (pe_op op_mulW pe_int (pv 1))) pe_int))
   (pss_cons (ps_set (i := 2) sc__law_mix.nd rfl (Or.inl rfl) (pe_op op_mod (pe_op op_mulW (pv 2) (pv 2)) pe_int))
   (pss_one (ps_ret (pe_op op_fdivP (pe_op op_mod (pe_op op_mulW (pv 2) (pe_op op_add (pv 2) pe_int)) pe_int) pe_int)))))) , ?_⟩
 refine sv_seq (sv_asg (eg_er (er_i0 (er_iC (er_var rfl) er_int (by decide) fun _ => dat_int _) (er_iC (er_iC er_int (er_var rfl) (mw (by decide) (by omega)) fun _ => dat_int _) (er_var rfl) (mw (by omega) (by omega)) fun _ => dat_int _) fun _ => dat_int _) ?_))
 refine sv_seq (sv_asg (eg_er (er_iC (er_i0 (er_var rfl) (er_iC er_int (er_var rfl) (mw (by decide) (by omega)) fun _ => dat_int _) fun _ => dat_int _) er_int (by decide) fun _ => dat_int _) ?_))
 unfold mixI
 generalize hx : (cell % 2147483629 + 1000003 * k * k + 7919 * k) % 2147483629 = x
 have b1 : 0 ≤ x ∧ x < 2147483629 := by rw [← hx]; exact ⟨Int.emod_nonneg _ (by decide), Int.emod_lt_of_pos _ (by decide)⟩
 refine sv_seq (sv_asg (eg_er (er_iC (er_iC (er_var rfl) (er_var rfl) (mw (by omega) (by omega)) fun _ => dat_int _) er_int (by decide) fun _ => dat_int _) ?_))
 generalize hy : x * x % 2147483587 = y
 have b2 : 0 ≤ y ∧ y < 2147483587 := by rw [← hy]; exact ⟨Int.emod_nonneg _ (by decide), Int.emod_lt_of_pos _ (by decide)⟩
 exact sv_ret (eg_er (er_iC (er_iC (er_iC (er_var rfl) (er_i0 (er_var rfl) er_int fun _ => dat_int _) (mw (by omega) (by omega)) fun _ => dat_int _) er_int (by decide) fun _ => dat_int _) er_int ⟨by decide, w0 (by decide)⟩ fun _ => dat_int _) rfl)
theorem ok_deck (T : Top K mg) : FnOk P w K mg base CX0 1 T.f__law_deck T.fd__law_deck ["script"] (spScrO K RDeck) := by
 refine T.F__law_deck.okScr sc__law_deck fun cdv A outer s H E hr ns es hR => ?_
 obtain ⟨cs, hcs, rfl⟩ := hR
 refine ⟨_, (pss_one (ps_ret (pe_lst (pa_cons (pe_slice (sl_listK (K := K) rfl) (pv 0) po_none (po_some pe_int)) (pa_cons pe_int (pa_cons pe_int (pa_cons pe_int (pa_cons (pe_callB (call_sum rfl) (by rfl) T.sum_ bSum (pa_cons (pe_slice (sl_listK (K := K) rfl) (pv 0) po_none (po_some pe_int)) pa_nil st_Subscript)) pa_nil st_Call) st_Constant) st_Constant) st_Constant) st_Subscript)))) , ?_⟩
 exact sv_ret (eg_lst (ea_cons (er_d (er_scrSl rfl eo_none eo_int) (by rw [hcs])) (ea_cons er_int (ea_cons er_int (ea_cons er_int (ea_cons (er_sum (ea_cons (er_d (er_scrSl rfl eo_none eo_int) (by rw [hcs])) ea_nil)) ea_nil))))) (by show 5 ≤ sizeLine; decide) rfl)
theorem ok_next (T : Top K mg) : FnOk P w K mg base CX0 2 T.f__law_next T.fd__law_next ["deck", "many"] (spL K PreN RNx) := by
 have G__law_mix : FnOk P w K mg base CX0 1 T.f__law_mix T.fd__law_mix ["cell", "k"] (spP K RMix) := ok_mix T
 refine T.F__law_next.okL sc__law_next (by rintro _ _ ⟨n, m, _, _, rfl, _⟩; rfl) fun cdv A outer s H E hr p es ds hP => ?_
 obtain ⟨n, m, ⟨cs, a, b, c, sm, rfl, hcl, ha, hc⟩, hn, rfl, hm1, hm2⟩ := hP
 have m0 : 0 < m := by omega
 have fin : ∀ (x : Int) (a' : Nat) (b' : Int) (c' : Nat), a' ≤ 63 → c' ≤ c + 1 → ∀ n, Dk n [.list (cs.map PyData.int), .int (a : Nat), .int b, .int (c : Nat), .int sm] → Dk (n + 1) [.list (cs.map PyData.int), .int (a' : Nat), .int b', .int (c' : Nat), .int sm] := fun x a' b' c' h1 h2 n hD => by
  obtain ⟨cs2, a2, b2, c2, s2, e, h3, h4, h5⟩ := hD
  simp only [List.cons.injEq, PyData.int.injEq, and_true] at e
  exact ⟨cs, a', b', c', sm, rfl, hcl, h1, by omega⟩
 have em : ∀ x : Int, 0 ≤ x % m ∧ x % m < m := fun x => ⟨Int.emod_nonneg _ (by omega), Int.emod_lt_of_pos _ m0⟩
 refine ⟨_, (pss_cons (ps_if ((pw_and (pt_cmpR op_eq (pe_ix (ix_listK (K := K) rfl) (pv 0) pe_int (fun _ _ => rfl)) pe_int (nomark _)) (pw_and1 (pt_cmpR op_lt (pe_ix (ix_listK (K := K) rfl) (pv 0) pe_int (fun _ _ => rfl)) (pe_callB (call_lenK (K := K) rfl) (by rfl) T.len_ PySem.boot_len (pa_cons (pe_ix (ix_listK (K := K) rfl) (pv 0) pe_int (fun _ _ => rfl)) pa_nil st_Subscript)) (nomark _))))).pt (pss_cons (ps_set (i := 2) sc__law_next.nd rfl (Or.inl rfl) (pe_ix (ix_listK (K := K) rfl) (pe_ix (ix_listK (K := K) rfl) (pv 0) pe_int (fun _ _ => rfl)) (pe_ix (ix_listK (K := K) rfl) (pv 0) pe_int (fun _ _ => rfl)) (fun _ _ => rfl)))
   (pss_cons (ps_asg (pe_op op_add (pe_ix (ix_listK (K := K) rfl) (pv 0) pe_int (fun _ _ => rfl)) pe_int) (pg_sub (pv 0) pe_int set_list))
   (pss_cons (ps_if (pt_cmpR op_lt (pv 2) (pe_op op_pow pe_int pe_int) (nomark _)) (pss_one (ps_ret (pe_op op_mod (pe_call G__law_mix hr (by rfl) T.m__law_mix T.F__law_mix.kp T.b__law_mix .nil pass0 (pa_cons (pv 2) (pa_cons (pe_ix (ix_listK (K := K) rfl) (pv 0) pe_int (fun _ _ => rfl)) pa_nil st_Subscript) st_Name)) (pv 1)))) pss_nil)
   (pss_one (ps_asg (pv 2) (pg_sub (pv 0) pe_int set_list)))))) pss_nil)
   (pss_cons (ps_if (pt_cmpR op_gt (pe_ix (ix_listK (K := K) rfl) (pv 0) pe_int (fun _ _ => rfl)) pe_int (nomark _)) (pss_cons (ps_set (i := 3) sc__law_next.nd rfl (Or.inl rfl) (pe_op op_mod (pe_ix (ix_listK (K := K) rfl) (pv 0) pe_int (fun _ _ => rfl)) (pv 1)))
   (pss_cons (ps_asg (pe_op op_fdivP (pe_ix (ix_listK (K := K) rfl) (pv 0) pe_int (fun _ _ => rfl)) (pv 1)) (pg_sub (pv 0) pe_int set_list))
   (pss_one (ps_ret (pv 3))))) pss_nil)
   (pss_cons (ps_asg (pe_op op_add (pe_ix (ix_listK (K := K) rfl) (pv 0) pe_int (fun _ _ => rfl)) pe_int) (pg_sub (pv 0) pe_int set_list))
   (pss_one (ps_ret (pe_op op_mod (pe_call G__law_mix hr (by rfl) T.m__law_mix T.F__law_mix.kp T.b__law_mix .nil pass0 (pa_cons (pe_ix (ix_listK (K := K) rfl) (pv 0) pe_int (fun _ _ => rfl)) (pa_cons (pe_ix (ix_listK (K := K) rfl) (pv 0) pe_int (fun _ _ => rfl)) pa_nil st_Subscript) st_Subscript)) (pv 1))))))) , ?_⟩
 have tail : ∀ (a' : Nat) (b' : Int) (v2 v3 : PV), a' ≤ 63 → Sv K B0 (tSeq (tIfS (tTest (tOp (rI0 fun i j => .bl (decide (j < i))) (tOp (rIxL K) (tVar 0) (tC (.int 2))) (tC (.int 0)))) (tSeq (tAsg (tOp (rI (fun _ j => 0 < j) fun i j => .int (i % j)) (tOp (rIxL K) (tVar 0) (tC (.int 2))) (tVar 1)) (gName 3)) (tSeq (tAsg (tOp (rI CDivP fun i j => .int (i / j)) (tOp (rIxL K) (tVar 0) (tC (.int 2))) (tVar 1)) (gSub (tVar 0) (tC (.int 2)) rSetL)) (tRet (tVar 3)))) tNext) (tSeq (tAsg (tOp (rI0 fun i j => .int (i + j)) (tOp (rIxL K) (tVar 0) (tC (.int 3))) (tC (.int 1))) (gSub (tVar 0) (tC (.int 3)) rSetL)) (tRet (tOp (rI (fun _ j => 0 < j) fun i j => .int (i % j)) (tCall (spP K RMix) [] E (tCons (tOp (rIxL K) (tVar 0) (tC (.int 4))) (tCons (tOp (rIxL K) (tVar 0) (tC (.int 3))) tNil))) (tVar 1))))) [.lnt p [.list (cs.map PyData.int), .int (a' : Nat), .int b', .int (c : Nat), .int sm], .dat (.int m), v2, v3] { nx := fun ρ' => ∃ es', RNx [.list (cs.map PyData.int), .int (a : Nat), .int b, .int (c : Nat), .int sm] [.int m] .none es' ∧ ρ'[0]? = some (.lnt p es'), rt := fun r ρ' => ∃ d es', r = .dat d ∧ RNx [.list (cs.map PyData.int), .int (a : Nat), .int b, .int (c : Nat), .int sm] [.int m] d es' ∧ ρ'[0]? = some (.lnt p es') } := fun a' b' v2 v3 ha' => by
  refine sv_seq (sv_if (et_test (er_i0 (er_ixL (n := 2) (er_own rfl rfl) er_int rfl rfl) er_int fun _ => dat_bl _)) (fun h => ?_) fun h => sv_next ?_)
  ·refine sv_seq (sv_asg (eg_flat (er_iC (er_ixL (n := 2) (er_own rfl rfl) er_int rfl rfl) (er_var rfl) m0 fun _ => dat_int _) rfl ?_))
   refine sv_seq (sv_seti (i := 0) (eg_flat (er_iC (er_ixL (n := 2) (er_own rfl rfl) er_int rfl rfl) (er_var rfl) ⟨m0, w0 (by omega)⟩ fun _ => dat_int _) rfl ⟨_, _, _, 2, 2, rfl, rfl, rfl, er_int, rfl, ?_⟩))
   exact sv_ret (eg_er (er_var rfl) ⟨_, _, rfl, ⟨m, _, rfl, rfl, (em _).1, (em _).2, fin 0 a' _ c ha' (by omega)⟩, rfl⟩)
  ·refine sv_seq (sv_seti (i := 0) (eg_flat (er_i0 (er_ixL (n := 3) (er_own rfl rfl) er_int rfl rfl) er_int fun _ => dat_int _) rfl ⟨_, _, _, 3, 3, rfl, rfl, rfl, er_int, rfl, ?_⟩))
   exact sv_ret (eg_flat (er_iC (er_call (ea_cons (er_ixL (n := 4) (er_own rfl rfl) er_int rfl rfl) (ea_cons (er_ixL (n := 3) (er_own rfl rfl) er_int rfl rfl) ea_nil)) ⟨_, _, rfl, by omega, by omega, rfl⟩) (er_var rfl) m0 fun _ => dat_int _) rfl ⟨_, _, rfl, ⟨m, _, rfl, rfl, (em _).1, (em _).2, fin 0 a' _ (c + 1) ha' (by omega)⟩, rfl⟩)
 refine sv_seq (sv_if (et_and (et_test (er_eqI (er_ixL (n := 2) (er_own rfl rfl) er_int rfl rfl) er_int)) fun _ => et_test (er_i0 (er_ixL (n := 1) (er_own rfl rfl) er_int rfl rfl) (er_lenL (ea_cons (er_ixL (n := 0) (er_own rfl rfl) er_int rfl rfl) ea_nil)) fun _ => dat_bl _)) (fun h => ?_) fun h => sv_next (tail a b _ _ ha))
 have hal : a < cs.length := by
  rw [Bool.and_eq_true, decide_eq_true_eq, decide_eq_true_eq, List.length_map] at h
  omega
 refine sv_seq (sv_asg (eg_flat (er_ixL (n := a) (d := .int (cs.getD a 0)) (er_ixL (n := 0) (er_own rfl rfl) er_int rfl rfl) (er_ixL (n := 1) (er_own rfl rfl) er_int rfl rfl) (by rw [List.length_map]; exact ixN_nat hal) (by rw [List.getElem?_map, List.getD_eq_getElem?_getD, List.getElem?_eq_getElem hal]; rfl)) rfl ?_))
 refine sv_seq (sv_seti (i := 0) (eg_flat (er_i0 (er_ixL (n := 1) (er_own rfl rfl) er_int rfl rfl) er_int fun _ => dat_int _) rfl ⟨_, _, _, 1, 1, rfl, rfl, rfl, er_int, rfl, ?_⟩))
 refine sv_seq (sv_if (et_test (er_i0 (er_var rfl) (er_pow (r := 1000000000000000000) ⟨by decide, by decide, by decide⟩ (by decide)) fun _ => dat_bl _)) (fun h2 => ?_) fun h2 => sv_next ?_)
 ·exact sv_ret (eg_flat (er_iC (er_call (ea_cons (er_var rfl) (ea_cons (er_ixL (n := 1) (er_own rfl rfl) er_int rfl rfl) ea_nil)) ⟨_, _, rfl, by omega, by omega, rfl⟩) (er_var rfl) m0 fun _ => dat_int _) rfl ⟨_, _, rfl, ⟨m, _, rfl, rfl, (em _).1, (em _).2, fin 0 (a + 1) _ c (by omega) (by omega)⟩, rfl⟩)
 ·refine sv_seti (i := 0) (eg_er (er_var rfl) ⟨_, _, _, 2, 2, rfl, rfl, rfl, er_int, rfl, ?_⟩)
  exact tail (a + 1) _ _ _ (by omega)
end
end K47
namespace K47
open PySem L2 Lw Big Net
def bubA (m : Nat) : Nat → List (Nat × Nat)
 | 0 => []
 | k + 1 => bubA m k ++ (List.range (m - 1 - k)).map fun j => (j, j + 1)
theorem bubA_len (m : Nat) (hm : m ≤ 8) : ∀ k, (bubA m k).length ≤ 8 * k
 | 0 => Nat.le_refl _
 | k + 1 => by
  have := bubA_len m hm k
  rw [bubA, List.length_append, List.length_map, List.length_range]; omega
def InR (m : Nat) (net : List (Nat × Nat)) : Prop := ∀ p ∈ net, p.1 < m ∧ p.2 < m
theorem InR.app {m : Nat} {a b : List (Nat × Nat)} (ha : InR m a) (hb : InR m b) : InR m (a ++ b) := fun p h => (List.mem_append.mp h).elim (ha p) (hb p)
theorem InR.sub {m : Nat} {a b : List (Nat × Nat)} (hb : InR m b) (h : ∀ p ∈ a, p ∈ b) : InR m a := fun p hp => hb p (h p hp)
theorem bubA_in (m : Nat) : ∀ k, InR m (bubA m k)
 | 0 => fun p h => by cases h
 | k + 1 => (bubA_in m k).app fun p h => by
  obtain ⟨j, hj, rfl⟩ := List.mem_map.mp h
  have := List.mem_range.mp hj
  exact ⟨by show j < m; omega, by show j + 1 < m; omega⟩
abbrev bubN (m : Nat) : List (Nat × Nat) := bubA m (m - 1)
abbrev lNt (net : List (Nat × Nat)) : PyData := .list (net.map dP)
def RBub : List PyData → PyData → Prop := fun as d => ∃ m : Nat, as = [.int (m : Nat)] ∧ m ≤ 8 ∧ d = lNt (bubN m)
def PreP : List PyData → List PyData → Prop := fun es ds => ∃ (n m : Nat), Dk n es ∧ n ≤ 10 ^ 5 ∧ ds = [.int (m : Nat)] ∧ 2 ≤ m ∧ m ≤ 8
def RPr : List PyData → List PyData → PyData → List PyData → Prop := fun es ds x es' => ∃ (m : Nat) (p : Nat × Nat), ds = [.int (m : Nat)] ∧ x = dP p ∧ p.1 < m ∧ p.2 < m ∧ ∀ n, Dk n es → Dk (n + 2) es'
section
variable {P : Program} {w : World} {K : PySem.W.Frag} {mg : Str → Option Value} {base : Heap}
theorem ok_bubbles (T : Top K mg) : FnOk P w K mg base CX0 1 T.f__law_bubbles T.fd__law_bubbles ["many"] (spP K RBub) := by
 refine T.F__law_bubbles.okP sc__law_bubbles (by rintro _ _ ⟨m, rfl, _⟩; rfl) fun cdv A outer s H E hr ds d hR => ?_
 obtain ⟨m, rfl, hm, rfl⟩ := hR
 have zl : (2000 : Nat) < sizeLine := by decide
 refine ⟨_, (pss_cons (ps_set (i := 1) sc__law_bubbles.nd rfl (Or.inl rfl) (pe_lst pa_nil))
   (pss_cons (ps_for PassesOwn.never rfl (pi_rangeD (by rfl) T.range_ (pa_cons (pe_op op_sub (pv 0) pe_int) (pa_cons pe_int (pa_cons (pe_op op_sub pe_int pe_int) pa_nil st_BinOp) st_Constant) st_BinOp)) (pg_name (i := 2) sc__law_bubbles.nd rfl (Or.inl rfl)) (pss_one (ps_set (i := 1) sc__law_bubbles.nd rfl (Or.inl rfl) (pe_op op_cat (pv 1) (pe_lc (x := "k") (cap := []) (js := []) ⟨rfl, by decide +kernel, by decide +kernel, rfl, (by show ∀ p ∈ (_ : List (Str × NameKind)), p.2 = NameKind.free → List.lookup p.1 (defScope s__law_bubbles).names = some NameKind.cell; decide +kernel), by decide +kernel, by decide +kernel, by decide +kernel⟩ rfl rfl (fun _ _ h => h) (pi_range1 (by rfl) T.range_ (pa_cons (pv 2) pa_nil st_Name)) (fun _ _ _ _ => ⟨pif_nil, (pe_tup (pa_cons (pv 0) (pa_cons (pe_op op_add (pv 0) pe_int) pa_nil st_BinOp) st_Name))⟩))))))
   (pss_one (ps_ret (pv 1))))) , ?_⟩
 refine sv_seq (sv_asg (eg_er (er_lst ea_nil (Nat.zero_le _)) ?_))
 have hi : Ei K B0 (iRngD (tCons (tOp (rI0 fun a b => .int (a - b)) (tVar 0) (tC (.int 1))) (tCons (tC (.int 0)) (tCons (tOp (rI0 fun a b => .int (a - b)) (tC (.int 0)) (tC (.int 1))) tNil)))) (msk [.dat (.int (m : Nat)), .dat (lNt []), .un]) ((List.range (m - 1)).map fun (i : Nat) => PyData.int ((m : Int) - 1 - i)) := by
  have h := ei_rngD (K := K) (B := B0) (ρ := msk [.dat (.int (m : Nat)), .dat (lNt []), .un]) (t := tCons (tOp (rI0 fun a b => .int (a - b)) (tVar 0) (tC (.int 1))) (tCons (tC (.int 0)) (tCons (tOp (rI0 fun a b => .int (a - b)) (tC (.int 0)) (tC (.int 1))) tNil))) (lo := (m : Int) - 1) (j := 0) (ea_cons (er_i0 (er_var rfl) er_int fun _ => dat_int _) (ea_cons er_int (ea_cons (er_i0 er_int er_int fun _ => dat_int _) ea_nil))) (by omega)
  rw [show ((m : Int) - 1 - 0).toNat = m - 1 by omega] at h
  exact h
 refine sv_seq (sv_for (List.range (m - 1)) (fun (i : Nat) => PyData.int ((m : Int) - 1 - i)) hi (fun k ρ => ∃ v : PV, ρ = [.dat (.int (m : Nat)), .dat (lNt (bubA m k)), v]) ⟨_, rfl⟩ ?_ ?_)
 ·rintro k hk _ ⟨v, rfl⟩
  rw [List.length_range] at hk
  have ei : (List.range (m - 1))[k]'(by rw [List.length_range]; exact hk) = k := by simp
  rw [ei]
  have hl := bubA_len m hm k
  refine gt_name (sv_asg (eg_er (er_d (er_catL (er_var rfl) (er_lc (js := []) (List.range (m - 1 - k)) (fun (j : Nat) => PyData.int (j : Nat)) (fun j => some (dP (j, j + 1))) (ei_rngN (ea_cons (er_d (er_var rfl) (show _ = PyData.int ((m - 1 - k : Nat) : Int) by congr 1; omega)) ea_nil) (by omega)) (by rw [List.length_range]; omega) fun j _ => lx1 et_noif (er_tup (ea_cons (er_var rfl) (ea_cons (er_i0 (er_var rfl) er_int fun _ => dat_int _) ea_nil)) (by show 2 ≤ sizeLine; decide))) ?_) (show _ = lNt (bubA m (k + 1)) from ?_)) ⟨_, rfl⟩))
  ·have := List.length_filterMap_le (fun j : Nat => some (dP (j, j + 1))) (List.range (m - 1 - k))
   rw [List.length_range] at this
   rw [List.length_map]; omega
  ·rw [bubA]
   show PyData.list _ = PyData.list _
   rw [List.map_append, List.map_map]
   congr 2
   induction List.range (m - 1 - k) with
   | nil => rfl
   | cons a l ih => exact congrArg (dP (a, a + 1) :: ·) ih
 ·rintro _ ⟨v, rfl⟩
  rw [List.length_range]
  exact sv_ret (eg_er (er_var rfl) rfl)
theorem ok_pair (T : Top K mg) : FnOk P w K mg base CX0 3 T.f__law_pair T.fd__law_pair ["deck", "many"] (spL K PreP RPr) := by
 have G__law_next : FnOk P w K mg base CX0 2 T.f__law_next T.fd__law_next ["deck", "many"] (spL K PreN RNx) := ok_next T
 refine T.F__law_pair.okL sc__law_pair (by rintro _ _ ⟨n, m, _, _, rfl, _⟩; rfl) fun cdv A outer s H E hr p es ds hP => ?_
 obtain ⟨n, m, hD, hn, rfl, m2, m8⟩ := hP
 refine ⟨_, (pss_cons (ps_set (i := 2) sc__law_pair.nd rfl (Or.inl rfl) (pe_call G__law_next hr (by rfl) T.m__law_next T.F__law_next.kp T.b__law_next .nil pass0 (pa_cons (pv 0) (pa_cons (pv 1) pa_nil st_Name) st_Name)))
   (pss_cons (ps_set (i := 3) sc__law_pair.nd rfl (Or.inl rfl) (pe_call G__law_next hr (by rfl) T.m__law_next T.F__law_next.kp T.b__law_next .nil pass0 (pa_cons (pv 0) (pa_cons (pe_op op_sub (pv 1) pe_int) pa_nil st_BinOp) st_Name)))
   (pss_cons (ps_if (pt_cmpR op_ge (pv 3) (pv 2) (nomark _)) (pss_one (ps_ret (pe_tup (pa_cons (pv 2) (pa_cons (pe_op op_add (pv 3) pe_int) pa_nil st_BinOp) st_Name)))) pss_nil)
   (pss_one (ps_ret (pe_tup (pa_cons (pv 3) (pa_cons (pv 2) pa_nil st_Name) st_Name))))))) , ?_⟩
 refine sv_seq (sv_asg (eg_lend rfl rfl (ega_ea (ea_cons (er_var rfl) ea_nil) ⟨_, es, rfl, rfl, ⟨n, _, hD, by omega, rfl, by omega, by omega⟩, fun x es1 hx => ?_⟩)))
 obtain ⟨m1, a, e1, rfl, a0, a1, s1⟩ := hx
 cases e1
 have s1' := s1 n hD
 obtain ⟨a, rfl⟩ := Int.eq_ofNat_of_zero_le a0
 refine sv_seq (sv_asg (eg_lend rfl rfl (ega_ea (ea_cons (er_i0 (er_var rfl) er_int fun _ => dat_int _) ea_nil) ⟨_, es1, rfl, rfl, ⟨n + 1, _, s1', by omega, rfl, by omega, by omega⟩, fun x es2 hx => ?_⟩)))
 obtain ⟨m3, b, e2, rfl, b0, b1, s2⟩ := hx
 cases e2
 obtain ⟨b, rfl⟩ := Int.eq_ofNat_of_zero_le b0
 have sA : ∀ n, Dk n es → Dk (n + 2) es2 := fun n' h => s2 _ (s1 n' h)
 refine sv_seq (sv_if (et_test (er_i0 (er_var rfl) (er_var rfl) fun _ => dat_bl _)) (fun h => ?_) fun h => sv_next ?_)
 ·have h := of_decide_eq_true h
  exact sv_ret (eg_er (er_tup (ea_cons (er_var rfl) (ea_cons (er_i0 (er_var rfl) er_int fun _ => dat_int _) ea_nil)) (by show 2 ≤ sizeLine; decide)) ⟨_, es2, rfl, ⟨m, (a, b + 1), rfl, rfl, by show a < m; omega, by show b + 1 < m; omega, sA⟩, rfl⟩)
 ·exact sv_ret (eg_er (er_tup (ea_cons (er_var rfl) (ea_cons (er_var rfl) ea_nil)) (by show 2 ≤ sizeLine; decide)) ⟨_, es2, rfl, ⟨m, (b, a), rfl, rfl, by show b < m; omega, by show a < m; omega, sA⟩, rfl⟩)
end
end K47
namespace K47
open PySem L2 Lw Big Net
def PreNt : List PyData → List PyData → Prop := fun es ds => ∃ (n m : Nat), Dk n es ∧ n ≤ 10 ^ 4 ∧ ds = [.int (m : Nat)] ∧ m ≤ 8
def RNt : List PyData → List PyData → PyData → List PyData → Prop := fun es ds x es' => ∃ (m : Nat) (net : List (Nat × Nat)), ds = [.int (m : Nat)] ∧ x = .tuple (net.map dP) ∧ InR m net ∧ net.length ≤ 60 ∧ ∀ n, Dk n es → Dk (n + 1000) es'
theorem c4 : ∀ r : Nat, r < 4 → ixN ([.int 61, .int 25, .int 25, .int 25] : List PyData).length (r : Nat) = some r ∧ ∃ c : Nat, 1 ≤ c ∧ c ≤ 61 ∧ ([.int 61, .int 25, .int 25, .int 25] : List PyData)[r]? = some (.int (c : Nat))
 | 0, _ => ⟨rfl, 61, by decide, by decide, rfl⟩
 | 1, _ => ⟨rfl, 25, by decide, by decide, rfl⟩
 | 2, _ => ⟨rfl, 25, by decide, by decide, rfl⟩
 | 3, _ => ⟨rfl, 25, by decide, by decide, rfl⟩
theorem d4 : ∀ r : Nat, r < 4 → ixN ([.int 0, .int 0, .int 1, .int 3] : List PyData).length (r : Nat) = some r ∧ ∃ c : Nat, c ≤ 3 ∧ ([.int 0, .int 0, .int 1, .int 3] : List PyData)[r]? = some (.int (c : Nat))
 | 0, _ => ⟨rfl, 0, by decide, rfl⟩
 | 1, _ => ⟨rfl, 0, by decide, rfl⟩
 | 2, _ => ⟨rfl, 1, by decide, rfl⟩
 | 3, _ => ⟨rfl, 3, by decide, rfl⟩
section
variable {P : Program} {w : World} {K : PySem.W.Frag} {mg : Str → Option Value} {base : Heap}
theorem ok_lnet (T : Top K mg) : FnOk P w K mg base CX0 4 T.f__law_net T.fd__law_net ["deck", "many"] (spL K PreNt RNt) := by
 have G__law_next : FnOk P w K mg base CX0 3 T.f__law_next T.fd__law_next ["deck", "many"] (spL K PreN RNx) := (ok_next T).mono (by decide)
 have G__law_pair : FnOk P w K mg base CX0 3 T.f__law_pair T.fd__law_pair ["deck", "many"] (spL K PreP RPr) := ok_pair T
 have G__law_bubbles : FnOk P w K mg base CX0 3 T.f__law_bubbles T.fd__law_bubbles ["many"] (spP K RBub) := (ok_bubbles T).mono (by decide)
 refine T.F__law_net.okL sc__law_net (by rintro _ _ ⟨n, m, _, _, rfl, _⟩; rfl) fun cdv A outer s H E hr p es ds hP => ?_
 obtain ⟨n, m, hD, hn, rfl, hm⟩ := hP
 have zl : (2000 : Nat) < sizeLine := by decide
 refine ⟨_, (pss_cons (ps_if (pt_cmpR op_lt (pv 1) pe_int (nomark _)) (pss_one (ps_ret (pe_tup pa_nil))) pss_nil)
   (pss_cons (ps_lc (x := "k") (cap := ["deck", "many"]) (js := [0, 1]) (i := 2) (y := "net") ⟨rfl, by decide +kernel, by decide +kernel, rfl, (by show ∀ p ∈ (_ : List (Str × NameKind)), p.2 = NameKind.free → List.lookup p.1 (defScope s__law_net).names = some NameKind.cell; decide +kernel), by decide +kernel, by decide +kernel, by decide +kernel⟩ rfl rfl (fun _ _ h => h) sc__law_net.nd rfl rfl (pi_range1 (by rfl) T.range_ (pa_cons (pe_call G__law_next hr (by rfl) T.m__law_next T.F__law_next.kp T.b__law_next .nil pass0 (pa_cons (pv 0) (pa_cons (pe_ix (ix_listK (K := K) rfl) (pe_lst (pa_cons pe_int (pa_cons pe_int (pa_cons pe_int (pa_cons pe_int pa_nil st_Constant) st_Constant) st_Constant) st_Constant)) (pe_call G__law_next hr (by rfl) T.m__law_next T.F__law_next.kp T.b__law_next .nil pass0 (pa_cons (pv 0) (pa_cons pe_int pa_nil st_Constant) st_Name)) (fun _ _ => rfl)) pa_nil st_Subscript) st_Name)) pa_nil st_Call)) (fun _ _ _ _ => ⟨pif_nil, (pe_call G__law_pair hr (by rfl) T.m__law_pair T.F__law_pair.kp T.b__law_pair .nil pass0 (pa_cons (pv 1) (pa_cons (pv 2) pa_nil st_Name) st_Name))⟩))
   (pss_cons (ps_set (i := 3) sc__law_net.nd rfl (Or.inl rfl) (pe_call G__law_next hr (by rfl) T.m__law_next T.F__law_next.kp T.b__law_next .nil pass0 (pa_cons (pv 0) (pa_cons pe_int pa_nil st_Constant) st_Name)))
   (pss_cons (ps_if (pt_cmpR op_gt (pv 3) pe_int (nomark _)) (pss_one (ps_set (i := 2) sc__law_net.nd rfl (Or.inl rfl) (pe_op op_cat (pe_slice (sl_listK (K := K) rfl) (pv 2) po_none (po_some (pe_call G__law_next hr (by rfl) T.m__law_next T.F__law_next.kp T.b__law_next .nil pass0 (pa_cons (pv 0) (pa_cons pe_int pa_nil st_Constant) st_Name)))) (pe_call G__law_bubbles hr (by rfl) T.m__law_bubbles T.F__law_bubbles.kp T.b__law_bubbles .nil pass0 (pa_cons (pv 1) pa_nil st_Name))))) pss_nil)
   (pss_cons (ps_if (pt_cmpR op_eq (pv 3) pe_int (nomark _)) (pss_one (ps_set (i := 2) sc__law_net.nd rfl (Or.inl rfl) (pe_op op_cat (pv 2) (pe_op op_rep (pe_call G__law_bubbles hr (by rfl) T.m__law_bubbles T.F__law_bubbles.kp T.b__law_bubbles .nil pass0 (pa_cons (pv 1) pa_nil st_Name)) (pe_call G__law_next hr (by rfl) T.m__law_next T.F__law_next.kp T.b__law_next .nil pass0 (pa_cons (pv 0) (pa_cons pe_int pa_nil st_Constant) st_Name)))))) pss_nil)
   (pss_cons (ps_for PassesOwn.never rfl (pi_range1 (by rfl) T.range_ (pa_cons (pe_ix (ix_listK (K := K) rfl) (pe_lst (pa_cons pe_int (pa_cons pe_int (pa_cons pe_int (pa_cons pe_int pa_nil st_Constant) st_Constant) st_Constant) st_Constant)) (pv 3) (fun _ _ => rfl)) pa_nil st_Subscript)) (pg_name (i := 4) sc__law_net.nd rfl (Or.inl rfl)) (pss_cons (ps_set (i := 5) sc__law_net.nd rfl (Or.inl rfl) (pe_call G__law_next hr (by rfl) T.m__law_next T.F__law_next.kp T.b__law_next .nil pass0 (pa_cons (pv 0) (pa_cons (pe_op op_add (pe_callB (call_lenK (K := K) rfl) (by rfl) T.len_ PySem.boot_len (pa_cons (pv 2) pa_nil st_Name)) pe_int) pa_nil st_BinOp) st_Name)))
   (pss_cons (ps_set (i := 6) sc__law_net.nd rfl (Or.inl rfl) (pe_call G__law_next hr (by rfl) T.m__law_next T.F__law_next.kp T.b__law_next .nil pass0 (pa_cons (pv 0) (pa_cons pe_int pa_nil st_Constant) st_Name)))
   (pss_cons (ps_set (i := 7) sc__law_net.nd rfl (Or.inl rfl) (pe_slice (sl_listK (K := K) rfl) (pv 2) (po_some (pe_op op_add (pv 5) (pe_callTy call_int1 (by rfl) T.int_ bInt (pa_cons (pe_cmpR op_lt (pv 6) pe_int (nomark _)) pa_nil st_Compare)))) po_none))
   (pss_one (ps_set (i := 2) sc__law_net.nd rfl (Or.inl rfl) (pe_op op_cat (pe_op op_cat (pe_slice (sl_listK (K := K) rfl) (pv 2) po_none (po_some (pv 5))) (pe_op op_rep (pe_lst (pa_cons (pe_call G__law_pair hr (by rfl) T.m__law_pair T.F__law_pair.kp T.b__law_pair .nil pass0 (pa_cons (pv 0) (pa_cons (pv 1) pa_nil st_Name) st_Name)) pa_nil st_Call)) (pe_callTy call_int1 (by rfl) T.int_ bInt (pa_cons (pe_cmpR op_gt (pv 6) pe_int (nomark _)) pa_nil st_Compare)))) (pv 7))))))))
   (pss_one (ps_ret (pe_callTy (call_tupleK (K := K) rfl) (by rfl) T.tuple_ bTup (pa_cons (pe_slice (sl_listK (K := K) rfl) (pv 2) po_none (po_some pe_int)) pa_nil st_Subscript)))))))))) , ?_⟩
 refine sv_seq (sv_if (et_test (er_i0 (er_var rfl) er_int fun _ => dat_bl _)) (fun h => ?_) fun h => sv_next ?_)
 ·exact sv_ret (eg_er (er_tup ea_nil (Nat.zero_le _)) ⟨_, es, rfl, ⟨m, [], rfl, rfl, fun p h => (by cases h), by decide, fun n' h => h.mono (by omega)⟩, rfl⟩)
 have m2 : 2 ≤ m := by have h := of_decide_eq_false h; omega
 have hbub := bubA_len m hm (m - 1)
 have hbin := bubA_in m (m - 1)
 have hbl : (bubN m).length ≤ 56 := by show (bubA m (m - 1)).length ≤ 56; omega
 refine sv_seq (sv_asg (eg_lcT (D := lstT K) (p := p) (fp := []) (i := 0) (kp := 0) rfl (egi_rng (ega_cons ?_))))
 refine eg_lend (i := 0) rfl rfl (ega_cons (eg_op (eg_er (er_lst (ea_cons er_int (ea_cons er_int (ea_cons er_int (ea_cons er_int ea_nil)))) (by show 4 ≤ sizeLine; decide)) ⟨_, rfl, ?_⟩)))
 refine eg_lend (i := 0) rfl rfl (ega_ea (ea_cons er_int ea_nil) ⟨_, es, rfl, rfl, ⟨n, 4, hD, by omega, rfl, by decide, by decide⟩, fun x es1 hx => ?_⟩)
 obtain ⟨m4, r4, e4, rfl, r40, r41, s1⟩ := hx
 cases e4
 obtain ⟨r4, rfl⟩ := Int.eq_ofNat_of_zero_le r40
 obtain ⟨x4, c, c1, c61, g4⟩ := c4 r4 (by omega)
 have D1 := s1 n hD
 refine ⟨_, .int (c : Nat), rfl, fun G σ va vb ha hb => ev_ixL (ev_c ha) (ev_c hb) x4 g4, _, rfl, ega_ea ea_nil ⟨_, es1, rfl, rfl, ⟨n + 1, _, D1, by omega, rfl, by omega, by omega⟩, fun x es2 hx => ?_⟩⟩
 obtain ⟨m5, r5, e5, rfl, r50, r51, s2⟩ := hx
 cases e5
 obtain ⟨r5, rfl⟩ := Int.eq_ofNat_of_zero_le r50
 have D2 := s2 _ D1
 refine ⟨_, rfl, ega_ea ea_nil ⟨r5, rfl, by omega, es2, fun k out s' => ∃ net : List (Nat × Nat), out = net.map dP ∧ InR m net ∧ ∀ n', Dk n' es → Dk (n' + 2 + 2 * k) s', rfl, by rw [List.length_map, List.length_range]; omega, ⟨[], rfl, fun p h => (by cases h), fun n' h => s2 _ (s1 _ h)⟩, ?_, ?_⟩⟩
 ·rintro k hk out s' ⟨net, rfl, hin, hs⟩ _
  rw [List.length_map, List.length_range] at hk
  refine eg_lend (i := 1) rfl rfl (ega_ea (ea_cons (er_var rfl) ea_nil) ⟨_, s', rfl, rfl, ⟨_, m, hs n hD, by omega, rfl, m2, hm⟩, fun x es3 hx => ?_⟩)
  obtain ⟨m6, q, e6, rfl, q1, q2, s3⟩ := hx
  have e6 : m = m6 := by injection e6 with e6; injection e6 with e6; omega
  subst e6
  exact ⟨_, es3, rfl, rfl, net ++ [q], by rw [List.map_append]; rfl, hin.app fun p h => by rw [List.mem_singleton.mp h]; exact ⟨q1, q2⟩, fun n' h => (s3 _ (hs n' h)).mono (by omega)⟩
 rintro out s' ⟨net0, rfl, hin0, hs0⟩ hlen0
 rw [List.length_map, List.length_range] at hs0
 rw [List.length_map, List.length_map, List.length_range] at hlen0
 have hs1 : ∀ n', Dk n' es → Dk (n' + 122) s' := fun n' h => (hs0 n' h).mono (by omega)
 have hlen1 : net0.length ≤ 60 := by omega
 clear hs0 hlen0 D2 D1 s1 s2
 show Sv K B0 _ [.lnt p s', .dat (.int (m : Nat)), .own (net0.map dP), .un, .un, .un, .un, .un] _
 refine sv_frz1 2 rfl ?_
 refine sv_seq (sv_asg (eg_lend (i := 0) rfl rfl (ega_ea (ea_cons er_int ea_nil) ⟨_, s', rfl, rfl, ⟨n + 122, 4, hs1 n hD, by omega, rfl, by decide, by decide⟩, fun x es3 hx => ?_⟩)))
 obtain ⟨m7, kd, e7, rfl, kd0, kd1, s3⟩ := hx
 cases e7
 obtain ⟨kd, rfl⟩ := Int.eq_ofNat_of_zero_le kd0
 let St : Nat → Nat → List PV → Prop := fun X Y ρ => ∃ (s' : List PyData) (net : List (Nat × Nat)) (v4 v5 v6 v7 : PV), (∀ n', Dk n' es → Dk (n' + X) s') ∧ InR m net ∧ net.length ≤ Y ∧ ρ = [.lnt p s', .dat (.int (m : Nat)), .dat (lNt net), .dat (.int (kd : Nat)), v4, v5, v6, v7]
 have h0 : St 123 60 [.lnt p es3, .dat (.int (m : Nat)), .dat (lNt net0), .dat (.int (kd : Nat)), .un, .un, .un, .un] := ⟨es3, net0, _, _, _, _, fun n' h => s3 _ (hs1 n' h), hin0, hlen1, rfl⟩
 refine sv_seqN (St 124 120) ?_ fun ρ1 h1 => ?_
 ·refine sv_if (et_test (er_i0 (er_var rfl) er_int fun _ => dat_bl _)) (fun h => ?_) fun h => sv_next ?_
  ·refine sv_asg (eg_op (eg_slU (er_var rfl) (eg_lend (i := 0) rfl rfl (ega_ea (ea_cons er_int ea_nil) ⟨_, es3, rfl, rfl, ⟨n + 123, 5, (s3 _ (hs1 n hD)), by omega, rfl, by decide, by decide⟩, fun x es4 hx => ?_⟩))))
   obtain ⟨m8, j, e8, rfl, j0, j1, s4⟩ := hx
   cases e8
   obtain ⟨j, rfl⟩ := Int.eq_ofNat_of_zero_le j0
   refine ⟨_, rfl, _, rfl, eg_er (er_call (ea_cons (er_var rfl) ea_nil) ⟨m, rfl, hm, rfl⟩) ⟨_, lNt (net0.take j ++ bubN m), rfl, fun G σ va vb ha hb => ?_, ?_⟩⟩
   ·rw [slD_upto] at ha
    have := ev_catL (σ := σ) (ev_c ha) (ev_c hb) (by rw [List.length_take, List.length_map, List.length_map]; omega)
    rw [show lNt (net0.take j ++ bubN m) = PyData.list (List.take j (List.map dP net0) ++ List.map dP (bubN m)) by show PyData.list (List.map dP _) = _; rw [List.map_append, List.map_take]]
    exact this
   ·exact ⟨es4, _, _, _, _, _, fun n' h => s4 _ (s3 _ (hs1 n' h)), (hin0.sub fun p h => List.mem_of_mem_take h).app hbin, by rw [List.length_append, List.length_take]; omega, rfl⟩
  ·exact ⟨es3, net0, _, _, _, _, fun n' h => (s3 _ (hs1 n' h)).mono (by omega), hin0, by omega, rfl⟩
 refine sv_seqN (St 125 180) ?_ fun ρ2 h2 => ?_
 ·obtain ⟨s5, net1, v4, v5, v6, v7, d5, i5, l5, rfl⟩ := h1
  refine sv_if (et_test (er_eqI (er_var rfl) er_int)) (fun h => ?_) fun h => sv_next ?_
  ·refine sv_asg (eg_op (eg_er (er_var rfl) ⟨_, rfl, eg_op (eg_er (er_call (ea_cons (er_var rfl) ea_nil) ⟨m, rfl, hm, rfl⟩) ⟨_, rfl, eg_lend (i := 0) rfl rfl (ega_ea (ea_cons er_int ea_nil) ⟨_, s5, rfl, rfl, ⟨n + 124, 2, d5 n hD, by omega, rfl, by decide, by decide⟩, fun x es6 hx => ?_⟩)⟩)⟩))
   obtain ⟨m9, j, e9, rfl, j0, j1, s6⟩ := hx
   cases e9
   obtain ⟨j, rfl⟩ := Int.eq_ofNat_of_zero_le j0
   have hjl : (bubN m).length * j ≤ 56 := Nat.le_trans (Nat.mul_le_mul hbl (show j ≤ 1 by omega)) (by decide)
   have hfl : (List.replicate j (bubN m)).flatten.length = j * (bubN m).length := len_rep _ _
   rw [Nat.mul_comm] at hfl
   refine ⟨_, lNt (List.replicate j (bubN m)).flatten, rfl, fun G σ va vb ha hb => ?_, _, lNt (net1 ++ (List.replicate j (bubN m)).flatten), rfl, fun G σ va vb ha hb => ?_, ?_⟩
   ·have := ev_repL (σ := σ) (ev_c ha) (ev_c hb) (by omega) (by rw [List.length_map]; omega)
    rw [show lNt (List.replicate j (bubN m)).flatten = PyData.list (List.replicate j ((bubN m).map dP)).flatten by show PyData.list (List.map dP _) = _; rw [List.map_flatten, List.map_replicate]]
    exact this
   ·have := ev_catL (σ := σ) (ev_c ha) (ev_c hb) (by rw [List.length_map, List.length_map]; omega)
    rw [show lNt (net1 ++ (List.replicate j (bubN m)).flatten) = PyData.list (net1.map dP ++ (List.replicate j (bubN m)).flatten.map dP) by show PyData.list (List.map dP _) = _; rw [List.map_append]]
    exact this
   ·exact ⟨es6, _, _, _, _, _, fun n' h => s6 _ (d5 n' h), i5.app fun q hq => by
     obtain ⟨l, hl, hp⟩ := List.mem_flatten.mp hq
     rw [List.eq_of_mem_replicate hl] at hp
     exact hbin q hp, by rw [List.length_append]; omega, rfl⟩
  ·exact ⟨s5, net1, _, _, _, _, fun n' h => (d5 n' h).mono (by omega), i5, by omega, rfl⟩
 obtain ⟨x3, c3, c33, g3⟩ := d4 kd (by omega)
 obtain ⟨s5, net1, v4, v5, v6, v7, d5, i5, l5, rfl⟩ := h2
 refine sv_seq (sv_for (List.range c3) (fun (i : Nat) => PyData.int (i : Nat)) (ei_rngN (ea_cons (er_ixL (er_lst (ea_cons er_int (ea_cons er_int (ea_cons er_int (ea_cons er_int ea_nil)))) (by show 4 ≤ sizeLine; decide)) (er_var rfl) x3 g3) ea_nil) (by omega)) (fun k ρ => St (125 + 4 * k) (180 + k) ρ) ⟨s5, net1, _, _, _, _, d5, i5, l5, rfl⟩ ?_ ?_)
 ·rintro k hk _ ⟨s7, net2, v4, v5, v6, v7, d7, i7, l7, rfl⟩
  rw [List.length_range] at hk
  generalize (List.range c3)[k] = k'
  refine gt_name ?_
  refine sv_seq (sv_asg (eg_lend (i := 0) rfl rfl (ega_ea (ea_cons (er_i0 (er_lenL (ea_cons (er_var rfl) ea_nil)) er_int fun _ => dat_int _) ea_nil) ⟨_, s7, rfl, rfl, ⟨n + (125 + 4 * k), _, d7 n hD, by omega, rfl, by omega, by rw [List.length_map]; omega⟩, fun x es8 hx => ?_⟩)))
  obtain ⟨ma, at_, ea, rfl, a0, a1, s8⟩ := hx
  cases ea
  obtain ⟨at_, rfl⟩ := Int.eq_ofNat_of_zero_le a0
  refine sv_seq (sv_asg (eg_lend (i := 0) rfl rfl (ega_ea (ea_cons er_int ea_nil) ⟨_, es8, rfl, rfl, ⟨n + (125 + 4 * k) + 1, 3, s8 _ (d7 n hD), by omega, rfl, by decide, by decide⟩, fun x es9 hx => ?_⟩)))
  obtain ⟨mb, way, eb, rfl, w0', w1', s9⟩ := hx
  cases eb
  have D9 := s9 _ (s8 _ (d7 n hD))
  show Sv K B0 _ [.lnt p es9, .dat (.int (m : Nat)), .dat (lNt net2), .dat (.int (kd : Nat)), .dat (.int (k' : Nat)), .dat (.int (at_ : Nat)), .dat (.int way), v7] _
  obtain ⟨x, hx, hxa⟩ : ∃ x : Nat, (at_ : Int) + (if decide (way < 2) = true then (1 : Int) else 0) = (x : Nat) ∧ at_ ≤ x := by
   split
   ·exact ⟨at_ + 1, by omega, by omega⟩
   ·exact ⟨at_, by omega, by omega⟩
  obtain ⟨wj, hwj, hwj1⟩ : ∃ wj : Nat, (if decide (0 < way) = true then (1 : Int) else 0) = (wj : Nat) ∧ wj ≤ 1 := by
   split
   ·exact ⟨1, rfl, by decide⟩
   ·exact ⟨0, rfl, by decide⟩
  refine sv_seq (sv_asg (eg_er (er_d (er_slL (lo := some (x : Nat)) (er_var rfl) (fun G σ r H Q q => ?_) eo_none) (show _ = lNt (net2.drop x) from ?_)) ?_))
  ·obtain ⟨x5, h5, d5'⟩ := r.2.1 5 _ rfl
   obtain ⟨x6, h6, d6'⟩ := r.2.1 6 _ rfl
   rw [d5'.int] at h5
   rw [d6'.int] at h6
   rw [← hx] at q
   exact ⟨_, h5, _, h6, _, _, rfl, rfl, .inr ⟨_, rfl, _, _, rfl, rfl, _, rfl, q⟩⟩
  ·show PyData.list _ = PyData.list _
   rw [slD_from, List.map_drop]
  refine sv_asg (eg_op (eg_op (eg_er (er_slL (er_var rfl) eo_none (eo_var rfl)) ⟨_, rfl, eg_op (eg_lstD (ega_cons (eg_lend (i := 0) rfl rfl (ega_ea (ea_cons (er_var rfl) ea_nil) ⟨_, es9, rfl, rfl, ⟨_, m, D9, by omega, rfl, m2, hm⟩, fun y es10 hy => ?_⟩))))⟩)))
  obtain ⟨mc, q, ec, rfl, q1, q2, s10⟩ := hy
  have ec : m = mc := by injection ec with ec; injection ec with ec; omega
  subst ec
  have hfl : (List.replicate wj [q]).flatten.length = wj := by rw [len_rep]; simp
  refine ⟨_, rfl, ega_ea ea_nil ⟨by show 1 ≤ sizeLine; decide, _, rfl, eg_er (er_d (er_intB (ea_cons (er_i0 (er_var rfl) er_int fun _ => dat_bl _) ea_nil)) (show _ = PyData.int (wj : Nat) by rw [← hwj])) ⟨_, lNt (List.replicate wj [q]).flatten, rfl, fun G σ va vb ha hb => ?_, _, lNt (net2.take at_ ++ (List.replicate wj [q]).flatten), rfl, fun G σ va vb ha hb => ?_, _, rfl, eg_er (er_var rfl) ⟨_, lNt (net2.take at_ ++ (List.replicate wj [q]).flatten ++ net2.drop x), rfl, fun G σ va vb ha hb => ?_, ?_⟩⟩⟩⟩
  ·have := ev_repL (σ := σ) (ev_c ha) (ev_c hb) (by omega) (by show 1 * wj ≤ _; omega)
   rw [show lNt (List.replicate wj [q]).flatten = PyData.list (List.replicate wj [dP q]).flatten by show PyData.list (List.map dP _) = _; rw [List.map_flatten, List.map_replicate]; rfl]
   exact this
  ·rw [slD_upto] at ha
   have := ev_catL (σ := σ) (ev_c ha) (ev_c hb) (by rw [List.length_take, List.length_map, List.length_map]; omega)
   rw [show lNt (net2.take at_ ++ (List.replicate wj [q]).flatten) = PyData.list ((net2.map dP).take at_ ++ (List.replicate wj [q]).flatten.map dP) by show PyData.list (List.map dP _) = _; rw [List.map_append, List.map_take]]
   exact this
  ·have := ev_catL (σ := σ) (ev_c ha) (ev_c hb) (by rw [List.length_map, List.length_map, List.length_append, List.length_take, List.length_drop]; omega)
   rw [show lNt (net2.take at_ ++ (List.replicate wj [q]).flatten ++ net2.drop x) = PyData.list ((net2.take at_ ++ (List.replicate wj [q]).flatten).map dP ++ (net2.drop x).map dP) by show PyData.list (List.map dP _) = _; rw [List.map_append]]
   exact this
  ·exact ⟨es10, _, _, _, _, _, fun n' h => (s10 _ (s9 _ (s8 _ (d7 n' h)))).mono (by omega), ((i7.sub fun p h => List.mem_of_mem_take h).app fun z hz => by
    obtain ⟨l, hl, hp⟩ := List.mem_flatten.mp hz
    rw [List.eq_of_mem_replicate hl] at hp
    rw [List.mem_singleton.mp hp]; exact ⟨q1, q2⟩).app (i7.sub fun p h => List.mem_of_mem_drop h), by rw [List.length_append, List.length_append, List.length_take, List.length_drop]; omega, rfl⟩
 ·rintro _ ⟨s7, net2, v4, v5, v6, v7, d7, i7, l7, rfl⟩
  rw [List.length_range] at d7 l7
  refine sv_ret (eg_er (er_d (er_tupleL (ea_cons (er_d (er_slL (er_var rfl) eo_none eo_int) (show _ = lNt (net2.take 60) from ?_)) ea_nil)) rfl) ⟨_, s7, rfl, ⟨m, net2.take 60, rfl, rfl, i7.sub fun p h => List.mem_of_mem_take h, by rw [List.length_take]; omega, fun n' h => (d7 n' h).mono (by omega)⟩, rfl⟩)
  show PyData.list _ = PyData.list _
  rw [show (60 : Int) = ((60 : Nat) : Int) from rfl, slD_upto, List.map_take]
end
end K47
namespace K47
open PySem L2 Lw Big Net
def RRows : List PyData → PyData → Prop := fun as d => ∃ m : Nat, as = [.int (m : Nat)] ∧ m ≤ 8 ∧ d = .list ((List.range (2 ^ m)).map (rowD m))
abbrev dZ (l : List Int) : PyData := .list (l.map PyData.int)
abbrev tZ (l : List Int) : PyData := .tuple (l.map PyData.int)
abbrev dNt (net : List (Nat × Nat)) : PyData := .tuple (net.map dP)
def plc (net : List (Nat × Nat)) (r : List Int) : Nat → List Int
 | 0 => []
 | k + 1 => if (ledN (net.take k) r).getD (net.getD k (0, 0)).1 0 > (ledN (net.take k) r).getD (net.getD k (0, 0)).2 0 then plc net r k ++ [(k : Int)] else plc net r k
theorem plc_len (net : List (Nat × Nat)) (r : List Int) : ∀ k, (plc net r k).length ≤ k
 | 0 => Nat.le_refl _
 | k + 1 => by
  have := plc_len net r k
  rw [plc]
  split
  ·rw [List.length_append]; show _ + 1 ≤ _; omega
  ·omega
theorem led_succ {net : List (Nat × Nat)} {r : List Int} {k : Nat} (h : k < net.length) : ledN (net.take (k + 1)) r = stepN (ledN (net.take k) r) (net.getD k (0, 0)) := by
 unfold ledN
 rw [List.take_succ, List.foldl_append, List.getD_eq_getElem?_getD, List.getElem?_eq_getElem h]; rfl
def RThr : List PyData → PyData → Prop := fun as d => ∃ (net : List (Nat × Nat)) (r : List Int), as = [dNt net, tZ r] ∧ net.length ≤ 100 ∧ r.length ≤ 8 ∧ (∀ p ∈ net, p.1 < r.length ∧ p.2 < r.length) ∧ d = .list [dZ (ledN net r), dZ (plc net r net.length)]
theorem fm_some {α β : Type} (g : α → β) : ∀ l : List α, (l.filterMap fun a => some (g a)) = l.map g
 | [] => rfl
 | a :: l => congrArg (g a :: ·) (fm_some g l)
theorem rows_next (k : Nat) : ((bitrev k).filterMap fun r => some (PyData.tuple ((bits k r).map PyData.int ++ [PyData.int 0]))) ++ ((bitrev k).filterMap fun r => some (PyData.tuple ((bits k r).map PyData.int ++ [PyData.int 1]))) = (bitrev (k + 1)).map (rowD (k + 1)) := by
 rw [fm_some, fm_some, bitrev, List.map_append, List.map_map, List.map_map]
 congr 1
 ·refine List.map_congr_left fun r _ => ?_
  show _ = PyData.tuple ((bits k (2 * r / 2) ++ [((2 * r % 2 : Nat) : Int)]).map PyData.int)
  rw [show 2 * r / 2 = r by omega, show 2 * r % 2 = 0 by omega, List.map_append]; rfl
 ·refine List.map_congr_left fun r _ => ?_
  show _ = PyData.tuple ((bits k ((2 * r + 1) / 2) ++ [(((2 * r + 1) % 2 : Nat) : Int)]).map PyData.int)
  rw [show (2 * r + 1) / 2 = r by omega, show (2 * r + 1) % 2 = 1 by omega, List.map_append]; rfl
theorem getZ {l : List Int} {i : Nat} (h : i < l.length) : ixN (l.map PyData.int).length (i : Nat) = some i ∧ (l.map PyData.int)[i]? = some (.int (l.getD i 0)) := by
 refine ⟨by rw [List.length_map]; exact ixN_nat h, ?_⟩
 rw [List.getElem?_map, List.getD_eq_getElem?_getD, List.getElem?_eq_getElem h]; rfl
section
variable {P : Program} {w : World} {K : PySem.W.Frag} {mg : Str → Option Value} {base : Heap}
theorem ok_rows (T : Top K mg) : FnOk P w K mg base CX0 1 T.f__law_rows T.fd__law_rows ["many"] (spP K RRows) := by
 refine T.F__law_rows.okP sc__law_rows (by rintro _ _ ⟨m, rfl, _⟩; rfl) fun cdv A outer s H E hr ds d hR => ?_
 obtain ⟨m, rfl, hm, rfl⟩ := hR
 have zl : (2000 : Nat) < sizeLine := by decide
 refine ⟨_, (pss_cons (ps_set (i := 1) sc__law_rows.nd rfl (Or.inl rfl) (pe_lst (pa_cons (pe_tup pa_nil) pa_nil st_Tuple)))
   (pss_cons (ps_for PassesOwn.never rfl (pi_range1 (by rfl) T.range_ (pa_cons (pv 0) pa_nil st_Name)) (pg_name (i := 2) sc__law_rows.nd rfl (Or.inl rfl)) (pss_one (ps_set (i := 1) sc__law_rows.nd rfl (Or.inl rfl) (pe_op op_cat (pe_lc (x := "row") (cap := []) (js := []) ⟨rfl, by decide +kernel, by decide +kernel, rfl, (by show ∀ p ∈ (_ : List (Str × NameKind)), p.2 = NameKind.free → List.lookup p.1 (defScope s__law_rows).names = some NameKind.cell; decide +kernel), by decide +kernel, by decide +kernel, by decide +kernel⟩ rfl rfl (fun _ _ h => h) (pi_list (pv 1)) (fun _ _ _ _ => ⟨pif_nil, (pe_op (op_catTE (K := K) rfl) (pv 0) (pe_tup (pa_cons pe_int pa_nil st_Constant)))⟩)) (pe_lc (x := "row") (cap := []) (js := []) ⟨rfl, by decide +kernel, by decide +kernel, rfl, (by show ∀ p ∈ (_ : List (Str × NameKind)), p.2 = NameKind.free → List.lookup p.1 (defScope s__law_rows).names = some NameKind.cell; decide +kernel), by decide +kernel, by decide +kernel, by decide +kernel⟩ rfl rfl (fun _ _ h => h) (pi_list (pv 1)) (fun _ _ _ _ => ⟨pif_nil, (pe_op (op_catTE (K := K) rfl) (pv 0) (pe_tup (pa_cons pe_int pa_nil st_Constant)))⟩))))))
   (pss_one (ps_ret (pe_callB (call_sortedR (K := K) rfl) (by rfl) T.sorted_ boot_srtI (pa_cons (pv 1) pa_nil st_Name)))))) , ?_⟩
 refine sv_seq (sv_asg (eg_er (er_lst (ea_cons (er_tup ea_nil (Nat.zero_le _)) ea_nil) (by show 1 ≤ sizeLine; decide)) ?_))
 refine sv_seq (sv_for (List.range m) (fun (i : Nat) => PyData.int (i : Nat)) (ei_rngN (ea_cons (er_var rfl) ea_nil) (by omega)) (fun k ρ => k ≤ m ∧ ∃ v : PV, ρ = [.dat (.int (m : Nat)), .dat (.list ((bitrev k).map (rowD k))), v]) ⟨Nat.zero_le _, _, rfl⟩ ?_ ?_)
 ·rintro k hk _ ⟨_, v, rfl⟩
  rw [List.length_range] at hk
  have p8 : 2 ^ k ≤ 2 ^ 8 := Nat.pow_le_pow_right (by decide) (by omega)
  have p8' : (2 : Nat) ^ 8 = 256 := rfl
  have bl := bitrev_len k
  have one : ∀ x : Int, ∀ r ∈ bitrev k, Lcx K B0 tNoIf (tOp (rCatE K) (tVar 0) (tTup (tCons (tC (.int x)) tNil))) (.dat (rowD k r) :: []) (some (PyData.tuple ((bits k r).map PyData.int ++ [PyData.int x]))) := fun x r _ => lx1 et_noif (er_catE (er_var rfl) (er_tup (ea_cons er_int ea_nil) (by show 1 ≤ sizeLine; decide)) (by rw [List.length_map, bits_len]; show k + 1 ≤ sizeLine; omega))
  refine gt_name (sv_asg (eg_er (er_d (er_catL (er_lc (js := []) (bitrev k) (rowD k) (fun r => some (PyData.tuple ((bits k r).map PyData.int ++ [PyData.int 0]))) (ei_lst (er_var rfl)) (by omega) (one 0)) (er_lc (js := []) (bitrev k) (rowD k) (fun r => some (PyData.tuple ((bits k r).map PyData.int ++ [PyData.int 1]))) (ei_lst (er_var rfl)) (by omega) (one 1)) ?_) (congrArg PyData.list (rows_next k))) ⟨by omega, _, rfl⟩))
  have := List.length_filterMap_le (fun r => some (PyData.tuple ((bits k r).map PyData.int ++ [PyData.int 0]))) (bitrev k)
  have := List.length_filterMap_le (fun r => some (PyData.tuple ((bits k r).map PyData.int ++ [PyData.int 1]))) (bitrev k)
  omega
 ·rintro _ ⟨_, v, rfl⟩
  rw [List.length_range]
  exact sv_ret (eg_er (er_srtR (ea_cons (er_var rfl) ea_nil) hm) rfl)
theorem ok_through (T : Top K mg) : FnOk P w K mg base CX0 1 T.f__law_through T.fd__law_through ["net", "row"] (spP K RThr) := by
 refine T.F__law_through.okP sc__law_through (by rintro _ _ ⟨net, r, rfl, _⟩; rfl) fun cdv A outer s H E hr ds d hR => ?_
 obtain ⟨net, r, rfl, hn, hrl, hp, rfl⟩ := hR
 have zl : (2000 : Nat) < sizeLine := by decide
 refine ⟨_, (pss_cons (ps_set (i := 2) sc__law_through.nd rfl (Or.inl rfl) (pe_callTy (call_listK (K := K) rfl) (by rfl) T.list_ boot_lst (pa_cons (pv 1) pa_nil st_Name)))
   (pss_cons (ps_set (i := 3) sc__law_through.nd rfl (Or.inl rfl) (pe_lst pa_nil))
   (pss_cons (ps_for PassesOwn.never rfl (pi_range1 (by rfl) T.range_ (pa_cons (pe_callB (call_lenK (K := K) rfl) (by rfl) T.len_ PySem.boot_len (pa_cons (pv 0) pa_nil st_Name)) pa_nil st_Call)) (pg_name (i := 4) sc__law_through.nd rfl (Or.inl rfl)) (pss_cons (ps_asg (pe_ix (ix_tupK (K := K) rfl) (pv 0) (pv 4) (fun _ _ => rfl)) (pg_tup (n := 2) rfl (pgs_cons (pg_name (i := 5) sc__law_through.nd rfl (Or.inl rfl)) (pgs_cons (pg_name (i := 6) sc__law_through.nd rfl (Or.inl rfl)) pgs_nil)) (by rfl)))
   (pss_one (ps_if (pt_cmpR op_gt (pe_ix (ix_listK (K := K) rfl) (pv 2) (pv 5) (fun _ _ => rfl)) (pe_ix (ix_listK (K := K) rfl) (pv 2) (pv 6) (fun _ _ => rfl)) (nomark _)) (pss_cons (ps_swap (pe_tup (pa_cons (pe_ix (ix_listK (K := K) rfl) (pv 2) (pv 6) (fun _ _ => rfl)) (pa_cons (pe_ix (ix_listK (K := K) rfl) (pv 2) (pv 5) (fun _ _ => rfl)) pa_nil st_Subscript) st_Subscript)) (pg_tup (n := 2) rfl (pgs_cons (pg_sub (pv 2) (pv 5) set_list) (pgs_cons (pg_sub (pv 2) (pv 6) set_list) pgs_nil)) (by rfl)))
   (pss_one (ps_expr (pe_bm PySem.F.plainAttrs_list PySem.F.slot_list_append PySem.F.type_list_append mt_append (pv 3) (pa_cons (pv 4) pa_nil st_Name))))) pss_nil))))
   (pss_one (ps_ret (pe_lst (pa_cons (pv 2) (pa_cons (pv 3) pa_nil st_Name) st_Name))))))) , ?_⟩
 refine sv_seq (sv_asg (eg_list (.inl (ea_cons (er_var rfl) ea_nil)) ?_))
 refine sv_seq (sv_asg (eg_lst ea_nil (Nat.zero_le _) ?_))
 refine sv_seq (sv_for (List.range net.length) (fun (i : Nat) => PyData.int (i : Nat)) (ei_rngN (ea_cons (er_d (er_lenT (ea_cons (er_var rfl) ea_nil)) (by rw [List.length_map])) ea_nil) (by omega)) (fun k ρ => k ≤ net.length ∧ ∃ v4 v5 v6 : PV, ρ = [.dat (dNt net), .dat (tZ r), .own ((ledN (net.take k) r).map PyData.int), .own ((plc net r k).map PyData.int), v4, v5, v6]) ⟨Nat.zero_le _, _, _, _, rfl⟩ ?_ ?_)
 ·rintro k hk _ ⟨_, v4, v5, v6, rfl⟩
  rw [List.length_range] at hk
  have ei : (List.range net.length)[k]'(by rw [List.length_range]; exact hk) = k := by simp
  rw [ei]
  have hq := hp (net.getD k (0, 0)) (by rw [List.getD_eq_getElem?_getD, List.getElem?_eq_getElem hk]; exact List.getElem_mem hk)
  have hg : (net.map dP)[k]? = some (dP (net.getD k (0, 0))) := by rw [List.getElem?_map, List.getD_eq_getElem?_getD, List.getElem?_eq_getElem hk]; rfl
  have es := led_succ (r := r) hk
  have hpl := plc_len net r k
  have hL := ledN_len (net.take k) r
  have ep : plc net r (k + 1) = if (ledN (net.take k) r).getD (net.getD k (0, 0)).1 0 > (ledN (net.take k) r).getD (net.getD k (0, 0)).2 0 then plc net r k ++ [(k : Int)] else plc net r k := rfl
  unfold stepN at es
  rw [es, ep]
  generalize net.getD k (0, 0) = q at hq hg
  obtain ⟨a, b⟩ := q
  generalize ledN (net.take k) r = L at hL
  obtain ⟨a1, a2⟩ := getZ (l := L) (i := a) (by rw [hL]; exact hq.1)
  obtain ⟨b1, b2⟩ := getZ (l := L) (i := b) (by rw [hL]; exact hq.2)
  refine gt_name (sv_seq (sv_asgT (ex_er (er_ixT (er_var rfl) (er_var rfl) (by rw [List.length_map]; exact ixN_nat hk) hg)) (gt_two ?_)))
  refine sv_if (et_test (er_i0 (er_ixL (er_own rfl rfl) (er_var rfl) a1 a2) (er_ixL (er_own rfl rfl) (er_var rfl) b1 b2) fun _ => dat_bl _)) (fun h => ?_) fun h => sv_next ?_
  ·have h := of_decide_eq_true h
   refine sv_seq (sv_swap (i := 2) (ex_ixo rfl rfl (er_var rfl) b1 b2) (ex_ixo rfl rfl (er_var rfl) a1 a2) rfl rfl (er_var rfl) a1 (er_var rfl) b1 ?_)
   refine sv_app (i := 3) (eg_er (er_var rfl) ⟨_, _, _, rfl, rfl, rfl, by rw [List.length_map]; omega, ?_⟩) rfl rfl
   refine ⟨by omega, .dat (.int (k : Nat)), .dat (.int (a : Nat)), .dat (.int (b : Nat)), ?_⟩
   rw [if_pos h, if_pos h, List.map_append, List.map_set, List.map_set]
   rfl
  ·have h := of_decide_eq_false h
   refine ⟨by omega, .dat (.int (k : Nat)), .dat (.int (a : Nat)), .dat (.int (b : Nat)), ?_⟩
   rw [if_neg h, if_neg h]
   rfl
 ·rintro _ ⟨_, v4, v5, v6, rfl⟩
  rw [List.length_range, List.take_length]
  refine sv_frz1 2 rfl (sv_frz1 3 rfl ?_)
  exact sv_ret (eg_er (er_lst (ea_cons (er_var rfl) (ea_cons (er_var rfl) ea_nil)) (by show 2 ≤ sizeLine; decide)) rfl)
end
end K47
namespace K47
open PySem L2 Lw Big Net
def badN (m : Nat) (net : List (Nat × Nat)) (r : Nat) : Bool := !riseN m (ledN net (bits m r))
def firstBad (m : Nat) (net : List (Nat × Nat)) : Option Nat := (List.range (2 ^ m)).find? (badN m net)
def rowO (m : Nat) : Option Nat → PyData
 | some r => rowD m r
 | none => .none
def RBts : List PyData → PyData → Prop := fun as d => ∃ (m : Nat) (net : List (Nat × Nat)), as = [dNt net, .int (m : Nat)] ∧ m ≤ 8 ∧ net.length ≤ 100 ∧ (∀ p ∈ net, p.1 < m ∧ p.2 < m) ∧ d = rowO m (firstBad m net)
theorem first_some {m k : Nat} {net : List (Nat × Nat)} (hk : k < 2 ^ m) (hb : ∀ r, r < k → badN m net r = false) (h : badN m net k = true) : firstBad m net = some k := by
 unfold firstBad
 rw [List.find?_range_eq_some]
 exact ⟨h, List.mem_range.mpr hk, fun j hj => by rw [hb j hj]; rfl⟩
theorem first_none {m : Nat} {net : List (Nat × Nat)} (hb : ∀ r, r < 2 ^ m → badN m net r = false) : firstBad m net = none := by
 unfold firstBad
 rw [List.find?_eq_none]
 intro r hr
 rw [hb r (List.mem_range.mp hr)]; exact Bool.false_ne_true
theorem falls_len (m : Nat) (L : List Int) : decide ((0 : Int) < (((List.range (m - 1)).filterMap fun i => if decide (L.getD i 0 > L.getD (i + 1) 0) = true then some (PyData.int (1 + (i : Int))) else none).length : Nat)) = !riseN m L := by
 unfold riseN
 generalize List.range (m - 1) = l
 induction l with
 | nil => rfl
 | cons i l ih =>
  rw [List.filterMap_cons, List.all_cons]
  cases h : decide (L.getD i 0 > L.getD (i + 1) 0) with
  | true => simp
  | false => simpa using ih
section
variable {P : Program} {w : World} {K : PySem.W.Frag} {mg : Str → Option Value} {base : Heap}
theorem ok_lbeats (T : Top K mg) : FnOk P w K mg base CX0 2 T.f__law_beats T.fd__law_beats ["net", "many"] (spP K RBts) := by
 have G__law_rows : FnOk P w K mg base CX0 1 T.f__law_rows T.fd__law_rows ["many"] (spP K RRows) := ok_rows T
 have G__law_through : FnOk P w K mg base CX0 1 T.f__law_through T.fd__law_through ["net", "row"] (spP K RThr) := ok_through T
 refine T.F__law_beats.okP sc__law_beats (by rintro _ _ ⟨m, net, rfl, _⟩; rfl) fun cdv A outer s H E hr ds d hR => ?_
 obtain ⟨m, net, rfl, hm, hn, hp, rfl⟩ := hR
 have zl : (2000 : Nat) < sizeLine := by decide
 refine ⟨_, (pss_cons (ps_for PassesOwn.never rfl (pi_list (pe_call G__law_rows hr (by rfl) T.m__law_rows T.F__law_rows.kp T.b__law_rows .nil pass0 (pa_cons (pv 1) pa_nil st_Name))) (pg_name (i := 2) sc__law_beats.nd rfl (Or.inl rfl)) (pss_cons (ps_set (i := 3) sc__law_beats.nd rfl (Or.inr rfl) (pe_ix (ix_listK (K := K) rfl) (pe_call G__law_through hr (by rfl) T.m__law_through T.F__law_through.kp T.b__law_through .nil pass0 (pa_cons (pv 0) (pa_cons (pv 2) pa_nil st_Name) st_Name)) pe_int (fun _ _ => rfl)))
   (pss_one (ps_if (pt_cmpR op_gt (pe_callB (call_lenK (K := K) rfl) (by rfl) T.len_ PySem.boot_len (pa_cons (pe_lc (x := "k") (cap := ["numbers"]) (js := [3]) ⟨rfl, by decide +kernel, by decide +kernel, rfl, (by show ∀ p ∈ (_ : List (Str × NameKind)), p.2 = NameKind.free → List.lookup p.1 (defScope s__law_beats).names = some NameKind.cell; decide +kernel), by decide +kernel, by decide +kernel, by decide +kernel⟩ rfl rfl (fun _ _ h => h) (pi_range2 (by rfl) T.range_ (pa_cons pe_int (pa_cons (pv 1) pa_nil st_Name) st_Constant)) (fun _ _ _ _ => ⟨(pif_one (pt_cmpR op_gt (pe_ix (ix_listK (K := K) rfl) (pv 1) (pe_op op_sub (pv 0) pe_int) (fun _ _ => rfl)) (pe_ix (ix_listK (K := K) rfl) (pv 1) (pv 0) (fun _ _ => rfl)) (nomark _))), (pv 0)⟩)) pa_nil st_ListComp)) pe_int (nomark _)) (pss_one (ps_ret (pv 2))) pss_nil))))
   (pss_one (ps_ret pe_non))) , ?_⟩
 refine sv_seq (sv_for (List.range (2 ^ m)) (rowD m) (ei_lst (er_call (ea_cons (er_var rfl) ea_nil) ⟨m, rfl, hm, rfl⟩)) (fun k ρ => (∀ r, r < k → badN m net r = false) ∧ ∃ v2 v3 : PV, ρ = [.dat (dNt net), .dat (.int (m : Nat)), v2, v3]) ⟨fun r h => absurd h (Nat.not_lt_zero r), _, _, rfl⟩ ?_ ?_)
 ·rintro k hk _ ⟨hb, v2, v3, rfl⟩
  rw [List.length_range] at hk
  have ei : (List.range (2 ^ m))[k]'(by rw [List.length_range]; exact hk) = k := by simp
  rw [ei]
  have hbl := bits_len m k
  have hL := ledN_len net (bits m k)
  refine gt_name (sv_seq (sv_asg (eg_er (er_ixL (n := 0) (er_call (ea_cons (er_var rfl) (ea_cons (er_var rfl) ea_nil)) ⟨net, bits m k, rfl, hn, by omega, fun p h => by rw [hbl]; exact hp p h, rfl⟩) er_int rfl rfl) ?_)))
  show Sv K B0 _ [.dat (dNt net), .dat (.int (m : Nat)), .dat (rowD m k), .dat (dZ (ledN net (bits m k)))] _
  have hbad : badN m net k = !riseN m (ledN net (bits m k)) := rfl
  generalize ledN net (bits m k) = L at hL hbad
  have hi : Ei K B0 (iRng2 (tCons (tC (.int 1)) (tCons (tVar 1) tNil))) [.dat (dNt net), .dat (.int (m : Nat)), .dat (rowD m k), .dat (dZ L)] ((List.range (m - 1)).map fun (i : Nat) => PyData.int (1 + (i : Int))) := by
   have h := ei_rng2 (K := K) (B := B0) (ρ := [.dat (dNt net), .dat (.int (m : Nat)), .dat (rowD m k), .dat (dZ L)]) (t := tCons (tC (.int 1)) (tCons (tVar 1) tNil)) (lo := 1) (j := (m : Nat)) (ea_cons er_int (ea_cons (er_var rfl) ea_nil)) (by omega)
   rw [show (((m : Nat) : Int) - 1).toNat = m - 1 by omega] at h
   exact h
  refine sv_if (et_c (et_test (er_i0 (er_lenL (ea_cons (er_lc (js := [3]) (List.range (m - 1)) (fun (i : Nat) => PyData.int (1 + (i : Int))) (fun i => if decide (L.getD i 0 > L.getD (i + 1) 0) = true then some (PyData.int (1 + (i : Int))) else none) hi (by rw [List.length_range]; omega) fun i hii => ?_) ea_nil)) er_int fun _ => dat_bl _)) ((falls_len m L).trans hbad.symm)) (fun h => ?_) fun h => sv_next ⟨fun r hr => ?_, _, _, rfl⟩
  ·have hii := List.mem_range.mp hii
   obtain ⟨a1, a2⟩ := getZ (l := L) (i := i) (by omega)
   obtain ⟨b1, b2⟩ := getZ (l := L) (i := i + 1) (by omega)
   exact lxB (c := decide (L.getD i 0 > L.getD (i + 1) 0)) (et_test (er_i0 (er_ixL (er_var rfl) (er_d (er_i0 (er_var rfl) er_int fun _ => dat_int _) (show _ = PyData.int ((i : Nat) : Int) by congr 1; omega)) a1 a2) (er_ixL (er_var rfl) (er_d (er_var rfl) (show _ = PyData.int ((i + 1 : Nat) : Int) by congr 1; omega)) b1 b2) fun _ => dat_bl _)) fun _ => er_var rfl
  ·refine sv_ret (eg_er (er_d (er_var rfl) ?_) rfl)
   rw [first_some hk hb h]
   rfl
  ·rcases Nat.lt_or_eq_of_le (Nat.le_of_lt_succ hr) with h2 | rfl
   ·exact hb r h2
   ·exact h
 ·rintro _ ⟨hb, v2, v3, rfl⟩
  rw [List.length_range] at hb
  exact sv_ret (eg_er (er_d er_non (by rw [first_none hb]; rfl)) rfl)
end
end K47
namespace K47
open PySem L2 Lw Big Net
def RLi : List PyData → PyData → Prop := fun as d => ∃ i : Int, as = [.int i, .int i] ∧ d = .bool true
def RLr : List PyData → PyData → Prop := fun as d => ∃ l : List Int, as = [tZ l, tZ l] ∧ l.length ≤ 100 ∧ d = .bool true
theorem er_notV {K : PySem.W.Frag} {B : Hp} {ρ : List PV} {te : TE} {c : Bool} (h : Er K B te ρ (.bool c)) : Er K B (tNotV te) ρ (.bool (!c)) := fun G σ r G1 H s1 s2 Q k => h G σ r G1 H s1 s2 _ fun v G2 H2 g hv => ⟨c, hv.bl, k _ G2 H2 g (dat_bl _)⟩
theorem er_notN {K : PySem.W.Frag} {B : Hp} {ρ : List PV} {te : TE} {l : List PyData} (ha : Er K B te ρ (.tuple l)) : Er K B (tOp (fun x y H Q => y = .non ∧ Q (.bl (!decide (x = .non))) H) te (tC .non)) ρ (.bool true) := fun G σ r => ev_op (ha G σ r) ev_non fun G1 H x y Q s1 s2 hx hy k => by
 refine ⟨hy.non, ?_⟩
 obtain ⟨p, xs, rfl, _⟩ := hx.tup
 exact k _ G1 H (Grow.refl s2) (dat_bl _)
section
variable {P : Program} {w : World} {K : PySem.W.Frag} {mg : Str → Option Value} {base : Heap}
theorem ok_like0 (T : Top K mg) : FnOk P w K mg base CX0 2 T.f__law_like T.fd__law_like ["found", "due"] (spP K RLi) := by
 have G__law_like : FnOk P w K mg base CX0 1 T.f__law_like T.fd__law_like ["found", "due"] (fun _ _ _ _ => False) := T.F__law_like.ok sc__law_like (fun vs H Q E h => h.elim) (fun cdv A outer s H vs Q E hr h => h.elim)
 refine T.F__law_like.okP sc__law_like (by rintro _ _ ⟨i, rfl, _⟩; rfl) fun cdv A outer s H E hr ds d hR => ?_
 have hu := hr.units
 obtain ⟨i, rfl, rfl⟩ := hR
 refine ⟨_, (pss_cons (ps_if (pt_val (pe_callB (call_isD (K := K) rfl) (by rfl) T.isinstance_ bIsi (pa_cons (pv 1) (pa_cons (pe_bltn (v := .ty "tuple") (by rfl) T.tuple_ bTup rfl) pa_nil)))) (pss_cons (ps_if ((pw_or (pt_not (pt_val (pe_callB (call_isD (K := K) rfl) (by rfl) T.isinstance_ bIsi (pa_cons (pv 0) (pa_cons (pe_bltn (v := .ty "tuple") (by rfl) T.tuple_ bTup rfl) pa_nil))))) (pw_or1 (pt_cmpR op_ne (pe_callB (call_lenK (K := K) rfl) (by rfl) T.len_ PySem.boot_len (pa_cons (pv 0) pa_nil st_Name)) (pe_callB (call_lenK (K := K) rfl) (by rfl) T.len_ PySem.boot_len (pa_cons (pv 1) pa_nil st_Name)) (nomark _))))).pt (pss_one (ps_ret pe_bl)) pss_nil)
   (pss_one (ps_ret (pe_callB (call_allK (K := K) rfl rfl) (by rfl) T.all_ bAll (pa_cons (pe_lc (x := "k") (cap := ["found", "due"]) (js := [0, 1]) ⟨rfl, by decide +kernel, by decide +kernel, rfl, (by show ∀ p ∈ (_ : List (Str × NameKind)), p.2 = NameKind.free → List.lookup p.1 (defScope s__law_like).names = some NameKind.cell; decide +kernel), by decide +kernel, by decide +kernel, by decide +kernel⟩ rfl rfl (fun _ _ h => h) (pi_range1 (by rfl) T.range_ (pa_cons (pe_callB (call_lenK (K := K) rfl) (by rfl) T.len_ PySem.boot_len (pa_cons (pv 1) pa_nil st_Name)) pa_nil st_Call)) (fun _ _ _ _ => ⟨pif_nil, (pe_call G__law_like hr (by rfl) T.m__law_like T.F__law_like.kp T.b__law_like .nil pass0 (pa_cons (pe_ix (ix_tupK (K := K) rfl) (pv 1) (pv 0) (fun _ _ => rfl)) (pa_cons (pe_ix (ix_tupK (K := K) rfl) (pv 2) (pv 0) (fun _ _ => rfl)) pa_nil st_Subscript) st_Subscript))⟩)) pa_nil st_ListComp))))) pss_nil)
   (pss_one (ps_ret (pe_and (pe_callB (call_isD (K := K) rfl) (by rfl) T.isinstance_ bIsi (pa_cons (pv 0) (pa_cons (pe_bltn (v := .ty "int") (by rfl) T.int_ bInt rfl) pa_nil))) (pe_and (pe_not (pe_callB (call_isD (K := K) rfl) (by rfl) T.isinstance_ bIsi (pa_cons (pv 0) (pa_cons (pe_bltn (v := .ty "bool") (by rfl) T.bool_ bBool rfl) pa_nil)))) (pe_one (pe_cmpR (op_eqDK (K := K) rfl hu) (pv 0) (pv 1) (nomark _)))))))) , ?_⟩
 refine sv_seq (sv_ifF (et_b (er_isD (er_var rfl) T.it)) (sv_next ?_))
 exact sv_ret (eg_er (er_d (er_and (er_isD (er_var rfl) T.ii) fun _ => er_and (er_notV (er_isD (er_var rfl) T.ib)) fun _ => er_eqD (n := 4) (er_var rfl) (er_var rfl) (pl_int _) (pl_int _) (by decide)) (by rw [PySem.Spec.same_self]; rfl)) rfl)
theorem ok_like (T : Top K mg) : FnOk P w K mg base CX0 3 T.f__law_like T.fd__law_like ["found", "due"] (spP K RLr) := by
 have G__law_like : FnOk P w K mg base CX0 2 T.f__law_like T.fd__law_like ["found", "due"] (spP K RLi) := ok_like0 T
 refine T.F__law_like.okP sc__law_like (by rintro _ _ ⟨l, rfl, _⟩; rfl) fun cdv A outer s H E hr ds d hR => ?_
 have hu := hr.units
 have zl : (2000 : Nat) < sizeLine := by decide
 obtain ⟨l, rfl, hl, rfl⟩ := hR
 refine ⟨_, (pss_cons (ps_if (pt_val (pe_callB (call_isD (K := K) rfl) (by rfl) T.isinstance_ bIsi (pa_cons (pv 1) (pa_cons (pe_bltn (v := .ty "tuple") (by rfl) T.tuple_ bTup rfl) pa_nil)))) (pss_cons (ps_if ((pw_or (pt_not (pt_val (pe_callB (call_isD (K := K) rfl) (by rfl) T.isinstance_ bIsi (pa_cons (pv 0) (pa_cons (pe_bltn (v := .ty "tuple") (by rfl) T.tuple_ bTup rfl) pa_nil))))) (pw_or1 (pt_cmpR op_ne (pe_callB (call_lenK (K := K) rfl) (by rfl) T.len_ PySem.boot_len (pa_cons (pv 0) pa_nil st_Name)) (pe_callB (call_lenK (K := K) rfl) (by rfl) T.len_ PySem.boot_len (pa_cons (pv 1) pa_nil st_Name)) (nomark _))))).pt (pss_one (ps_ret pe_bl)) pss_nil)
   (pss_one (ps_ret (pe_callB (call_allK (K := K) rfl rfl) (by rfl) T.all_ bAll (pa_cons (pe_lc (x := "k") (cap := ["found", "due"]) (js := [0, 1]) ⟨rfl, by decide +kernel, by decide +kernel, rfl, (by show ∀ p ∈ (_ : List (Str × NameKind)), p.2 = NameKind.free → List.lookup p.1 (defScope s__law_like).names = some NameKind.cell; decide +kernel), by decide +kernel, by decide +kernel, by decide +kernel⟩ rfl rfl (fun _ _ h => h) (pi_range1 (by rfl) T.range_ (pa_cons (pe_callB (call_lenK (K := K) rfl) (by rfl) T.len_ PySem.boot_len (pa_cons (pv 1) pa_nil st_Name)) pa_nil st_Call)) (fun _ _ _ _ => ⟨pif_nil, (pe_call G__law_like hr (by rfl) T.m__law_like T.F__law_like.kp T.b__law_like .nil pass0 (pa_cons (pe_ix (ix_tupK (K := K) rfl) (pv 1) (pv 0) (fun _ _ => rfl)) (pa_cons (pe_ix (ix_tupK (K := K) rfl) (pv 2) (pv 0) (fun _ _ => rfl)) pa_nil st_Subscript) st_Subscript))⟩)) pa_nil st_ListComp))))) pss_nil)
   (pss_one (ps_ret (pe_and (pe_callB (call_isD (K := K) rfl) (by rfl) T.isinstance_ bIsi (pa_cons (pv 0) (pa_cons (pe_bltn (v := .ty "int") (by rfl) T.int_ bInt rfl) pa_nil))) (pe_and (pe_not (pe_callB (call_isD (K := K) rfl) (by rfl) T.isinstance_ bIsi (pa_cons (pv 0) (pa_cons (pe_bltn (v := .ty "bool") (by rfl) T.bool_ bBool rfl) pa_nil)))) (pe_one (pe_cmpR (op_eqDK (K := K) rfl hu) (pv 0) (pv 1) (nomark _)))))))) , ?_⟩
 refine sv_seq (sv_ifT (et_b (er_isD (er_var rfl) T.tt)) ?_)
 refine sv_seq (sv_ifF (et_c (et_or (et_not (et_b (er_isD (er_var rfl) T.tt))) fun _ => et_test (er_ne (er_lenT (ea_cons (er_var rfl) ea_nil)) (er_lenT (ea_cons (er_var rfl) ea_nil)))) (by rw [decide_eq_true rfl]; rfl)) (sv_next ?_))
 refine sv_ret (eg_er (er_d (er_all (bs := (List.range l.length).map fun _ => true) (ea_cons (er_d (er_lc (js := [0, 1]) (List.range l.length) (fun (i : Nat) => PyData.int (i : Nat)) (fun _ => some (PyData.bool true)) (ei_rngN (ea_cons (er_d (er_lenT (ea_cons (er_var rfl) ea_nil)) (by rw [List.length_map])) ea_nil) (by omega)) (by rw [List.length_range]; omega) fun i hi => ?_) (by rw [fm_some, List.map_map]; rfl)) ea_nil)) (by simp)) rfl)
 have hi := List.mem_range.mp hi
 obtain ⟨a1, a2⟩ := getZ hi
 exact lx1 et_noif (er_call (ea_cons (er_ixT (er_var rfl) (er_var rfl) a1 a2) (ea_cons (er_ixT (er_var rfl) (er_var rfl) a1 a2) ea_nil)) ⟨_, rfl, rfl⟩)
theorem ok_right (T : Top K mg) (G_beats : FnOk P w K mg base CX0 3 T.f_beats T.fd_beats ["net", "many"] (spP K RBts)) : FnOk P w K mg base CX0 4 T.f__law_right T.fd__law_right ["net", "many"] (spP K fun as d => (∃ d', RBts as d') ∧ d = .bool true) := by
 have G__law_beats : FnOk P w K mg base CX0 3 T.f__law_beats T.fd__law_beats ["net", "many"] (spP K RBts) := (ok_lbeats T).mono (by decide)
 have G__law_like : FnOk P w K mg base CX0 3 T.f__law_like T.fd__law_like ["found", "due"] (spP K RLr) := ok_like T
 refine T.F__law_right.okP sc__law_right (by rintro _ _ ⟨⟨_, m, net, rfl, _⟩, _⟩; rfl) fun cdv A outer s H E hr ds d hR => ?_
 obtain ⟨⟨d', hR⟩, rfl⟩ := hR
 obtain ⟨m, net, rfl, hm, hn, hp, _⟩ := hR
 have hB : RBts [dNt net, .int (m : Nat)] (rowO m (firstBad m net)) := ⟨m, net, rfl, hm, hn, hp, rfl⟩
 refine ⟨_, (pss_cons (ps_set (i := 2) sc__law_right.nd rfl (Or.inl rfl) (pe_call G_beats hr (by rfl) T.m_beats T.F_beats.kp T.b_beats .nil pass0 (pa_cons (pv 0) (pa_cons (pv 1) pa_nil st_Name) st_Name)))
   (pss_cons (ps_set (i := 3) sc__law_right.nd rfl (Or.inl rfl) (pe_call G__law_beats hr (by rfl) T.m__law_beats T.F__law_beats.kp T.b__law_beats .nil pass0 (pa_cons (pv 0) (pa_cons (pv 1) pa_nil st_Name) st_Name)))
   (pss_cons (ps_if (pt_cmpR op_isN (pv 3) pe_non (nomark _)) (pss_one (ps_ret (pe_cmpR op_isN (pv 2) pe_non (nomark _)))) pss_nil)
   (pss_one (ps_ret (pe_and (pe_cmpR op_notN (pv 2) pe_non (nomark _)) (pe_one (pe_call G__law_like hr (by rfl) T.m__law_like T.F__law_like.kp T.b__law_like .nil pass0 (pa_cons (pv 2) (pa_cons (pv 3) pa_nil st_Name) st_Name))))))))) , ?_⟩
 refine sv_seq (sv_asg (eg_er (er_call (ea_cons (er_var rfl) (ea_cons (er_var rfl) ea_nil)) hB) ?_))
 refine sv_seq (sv_asg (eg_er (er_call (ea_cons (er_var rfl) (ea_cons (er_var rfl) ea_nil)) hB) ?_))
 show Sv K B0 _ [.dat (dNt net), .dat (.int (m : Nat)), .dat (rowO m (firstBad m net)), .dat (rowO m (firstBad m net))] _
 cases firstBad m net with
 | none =>
  refine sv_seq (sv_ifT (et_c (et_test (er_isN (er_var rfl))) rfl) ?_)
  exact sv_ret (eg_er (er_d (er_isN (er_var rfl)) rfl) rfl)
 | some r =>
  refine sv_seq (sv_ifF (et_c (et_test (er_isN (er_var rfl))) rfl) (sv_next ?_))
  exact sv_ret (eg_er (er_d (er_and (er_notN (er_var rfl)) fun _ => er_call (ea_cons (er_var rfl) (ea_cons (er_var rfl) ea_nil)) ⟨bits m r, rfl, by rw [bits_len]; omega, rfl⟩) rfl) rfl)
end
end K47
namespace K47
open PySem L2 Lw Big Net
theorem bits_map : ∀ (m r : Nat), bits m r = (List.range m).map fun i => ((r / 2 ^ (m - 1 - i) % 2 : Nat) : Int)
 | 0, _ => rfl
 | m + 1, r => by
  rw [bits, bits_map m, List.range_succ, List.map_append]
  congr 1
  ·refine List.map_congr_left fun i hi => ?_
   have hi := List.mem_range.mp hi
   rw [Nat.div_div_eq_div_mul, show m + 1 - 1 - i = (m - 1 - i) + 1 by omega, Nat.pow_succ, Nat.mul_comm 2]
  ·show [((r % 2 : Nat) : Int)] = [((r / 2 ^ (m + 1 - 1 - m) % 2 : Nat) : Int)]
   rw [show m + 1 - 1 - m = 0 by omega, Nat.pow_zero, Nat.div_one]
def RMore : List PyData → PyData → Prop := fun as d => ∃ a b : Int, as = [.int a, .int b] ∧ d = .bool (decide (b < a))
def RRow2 : List PyData → PyData → Prop := fun as d => ∃ r m : Nat, as = [.int (r : Nat), .int (m : Nat)] ∧ m ≤ 8 ∧ d = rowD m r
def RRows2 : List PyData → List PyData → Prop := fun as es => ∃ m : Nat, as = [.int (m : Nat)] ∧ m ≤ 8 ∧ es = (List.range (2 ^ m)).map (rowD m)
section
variable {P : Program} {w : World} {K : PySem.W.Frag} {mg : Str → Option Value} {base : Heap}
theorem ok_more (T : Top K mg) : FnOk P w K mg base CX0 1 T.f_is_more T.fd_is_more ["one", "other"] (spP K RMore) := by
 refine T.F_is_more.okP sc_is_more (by rintro _ _ ⟨a, b, rfl, _⟩; rfl) fun cdv A outer s H E hr ds d hR => ?_
 obtain ⟨a, b, rfl, rfl⟩ := hR
 refine ⟨_, (pss_one (ps_ret (pe_cmpR op_gt (pv 0) (pv 1) (nomark _)))) , ?_⟩
 exact sv_ret (eg_er (er_i0 (er_var rfl) (er_var rfl) fun _ => dat_bl _) rfl)
theorem ok_row2 (T : Top K mg) : FnOk P w K mg base CX0 1 T.f_row_of_two T.fd_row_of_two ["number", "many"] (spP K RRow2) := by
 refine T.F_row_of_two.okP sc_row_of_two (by rintro _ _ ⟨r, m, rfl, _⟩; rfl) fun cdv A outer s H E hr ds d hR => ?_
 obtain ⟨r, m, rfl, hm, rfl⟩ := hR
 have zl : (2000 : Nat) < sizeLine := by decide
 refine ⟨_, (pss_one (ps_ret (pe_callTy (call_tupleK (K := K) rfl) (by rfl) T.tuple_ bTup (pa_cons (pe_lc (x := "place") (cap := ["number"]) (js := [0]) ⟨rfl, by decide +kernel, by decide +kernel, rfl, (by show ∀ p ∈ (_ : List (Str × NameKind)), p.2 = NameKind.free → List.lookup p.1 (defScope s_row_of_two).names = some NameKind.cell; decide +kernel), by decide +kernel, by decide +kernel, by decide +kernel⟩ rfl rfl (fun _ _ h => h) (pi_rangeD (by rfl) T.range_ (pa_cons (pe_op op_sub (pv 1) pe_int) (pa_cons (pe_un un_neg pe_int) (pa_cons (pe_un un_neg pe_int) pa_nil st_UnaryOp) st_UnaryOp) st_BinOp)) (fun _ _ _ _ => ⟨pif_nil, (pe_op op_and (pe_op op_shr (pv 1) (pv 0)) pe_int)⟩)) pa_nil st_ListComp)))) , ?_⟩
 have hi : Ei K B0 (iRngD (tCons (tOp (rI0 fun a b => .int (a - b)) (tVar 1) (tC (.int 1))) (tCons (tUn (rU fun i => .int (-i)) (tC (.int 1))) (tCons (tUn (rU fun i => .int (-i)) (tC (.int 1))) tNil)))) (msk [.dat (.int (r : Nat)), .dat (.int (m : Nat))]) ((List.range m).map fun (i : Nat) => PyData.int ((m : Int) - 1 - i)) := by
  have h := ei_rngD (K := K) (B := B0) (ρ := msk [.dat (.int (r : Nat)), .dat (.int (m : Nat))]) (t := tCons (tOp (rI0 fun a b => .int (a - b)) (tVar 1) (tC (.int 1))) (tCons (tUn (rU fun i => .int (-i)) (tC (.int 1))) (tCons (tUn (rU fun i => .int (-i)) (tC (.int 1))) tNil))) (lo := (m : Int) - 1) (j := -1) (ea_cons (er_i0 (er_var rfl) er_int fun _ => dat_int _) (ea_cons (er_neg er_int) (ea_cons (er_neg er_int) ea_nil))) (by omega)
  rw [show ((m : Int) - 1 - -1).toNat = m by omega] at h
  exact h
 refine sv_ret (eg_er (er_d (er_tupleL (ea_cons (er_lc (js := [0]) (List.range m) (fun (i : Nat) => PyData.int ((m : Int) - 1 - i)) (fun i => some (PyData.int ((r / 2 ^ (m - 1 - i) % 2 : Nat) : Int))) hi (by rw [List.length_range]; omega) fun i hii => ?_) ea_nil)) ?_) rfl)
 ·have hii := List.mem_range.mp hii
  refine lx1 et_noif (er_d (er_i0 (er_d (er_iC (er_var rfl) (er_var rfl) (by show (0 : Int) ≤ (m : Int) - 1 - i; omega) fun _ => dat_int _) (show _ = PyData.int ((r / 2 ^ (m - 1 - i) : Nat) : Int) from ?_)) er_int fun _ => dat_int _) ?_)
  ·rw [show ((m : Int) - 1 - i).toNat = m - 1 - i by omega]
   congr 1
  ·rw [show (1 : Int) = ((1 : Nat) : Int) from rfl, band_nat, Nat.and_one_is_mod]
 ·show _ = PyData.tuple ((bits m r).map PyData.int)
  rw [fm_some, bits_map, List.map_map]; rfl
theorem ok_rows2 (T : Top K mg) : FnOk P w K mg base CX0 2 T.f_rows_of_two T.fd_rows_of_two ["many"] (spO K RRows2) := by
 have G_row_of_two : FnOk P w K mg base CX0 1 T.f_row_of_two T.fd_row_of_two ["number", "many"] (spP K RRow2) := ok_row2 T
 refine T.F_rows_of_two.okO sc_rows_of_two (by rintro _ _ ⟨m, rfl, _⟩; rfl) fun cdv A outer s H E hr ds es hR => ?_
 obtain ⟨m, rfl, hm, rfl⟩ := hR
 have zl : (2000 : Nat) < sizeLine := by decide
 have p8 : 2 ^ m ≤ 2 ^ 8 := Nat.pow_le_pow_right (by decide) hm
 have p8' : (2 : Nat) ^ 8 = 256 := rfl
 refine ⟨_, (pss_one (ps_ret (pe_lc (x := "number") (cap := ["many"]) (js := [0]) ⟨rfl, by decide +kernel, by decide +kernel, rfl, (by show ∀ p ∈ (_ : List (Str × NameKind)), p.2 = NameKind.free → List.lookup p.1 (defScope s_rows_of_two).names = some NameKind.cell; decide +kernel), by decide +kernel, by decide +kernel, by decide +kernel⟩ rfl rfl (fun _ _ h => h) (pi_range1 (by rfl) T.range_ (pa_cons (pe_op op_shl pe_int (pv 0)) pa_nil st_BinOp)) (fun _ _ _ _ => ⟨pif_nil, (pe_call G_row_of_two hr (by rfl) T.m_row_of_two T.F_row_of_two.kp T.b_row_of_two .nil pass0 (pa_cons (pv 0) (pa_cons (pv 1) pa_nil st_Name) st_Name))⟩)))) , ?_⟩
 refine sv_ret (eg_lc (List.range (2 ^ m)) (fun (i : Nat) => PyData.int (i : Nat)) (fun r => some (rowD m r)) (ei_rngN (ea_cons (er_d (er_iC er_int (er_var rfl) ⟨by omega, by omega, by decide⟩ fun _ => dat_int _) (show _ = PyData.int ((2 ^ m : Nat) : Int) by rw [Int.toNat_natCast, Int.one_mul]; congr 1)) ea_nil) (by omega)) (by rw [List.length_range]; omega) (fun r hr => lx1 et_noif (er_call (ea_cons (er_var rfl) (ea_cons (er_var rfl) ea_nil)) ⟨r, m, rfl, hm, rfl⟩)) ?_)
 rw [fm_some]
end
end K47
namespace K47
open PySem L2 Lw Big Net
def RThP : List PyData → PyData → Prop := fun as d => ∃ (net : List (Nat × Nat)) (r : List Int), as = [dNt net, tZ r] ∧ net.length ≤ 100 ∧ r.length ≤ 8 ∧ (∀ p ∈ net, p.1 < r.length ∧ p.2 < r.length) ∧ d = .tuple [dZ (ledN net r), dZ (plc net r net.length)]
theorem rise_pair : ∀ {L : List Int}, riseN L.length L = true → L.Pairwise (· ≤ ·) := by
 intro L h
 have hs : ∀ i, i + 1 < L.length → L.getD i 0 ≤ L.getD (i + 1) 0 := fun i hi => by
  have := List.all_eq_true.mp h i (List.mem_range.mpr (by omega))
  simp at this
  simpa using this
 rw [List.pairwise_iff_getElem]
 intro i j hi hj hij
 have key : ∀ k, i + k < L.length → L.getD i 0 ≤ L.getD (i + k) 0 := by
  intro k
  induction k with
  | zero => intro _; exact Int.le_refl _
  | succ k ih => intro hk; exact Int.le_trans (ih (by omega)) (hs (i + k) (by omega))
 have := key (j - i) (by omega)
 rw [show i + (j - i) = j by omega, List.getD_eq_getElem?_getD, List.getD_eq_getElem?_getD, List.getElem?_eq_getElem hi, List.getElem?_eq_getElem hj] at this
 exact this
theorem pair_rise {L : List Int} (h : L.Pairwise (· ≤ ·)) : riseN L.length L = true := by
 unfold riseN
 rw [List.all_eq_true]
 intro i hi
 have hi := List.mem_range.mp hi
 have := (List.pairwise_iff_getElem.mp h) i (i + 1) (by omega) (by omega) (by omega)
 rw [List.getD_eq_getElem?_getD, List.getD_eq_getElem?_getD, List.getElem?_eq_getElem (show i < L.length by omega), List.getElem?_eq_getElem (show i + 1 < L.length by omega)]
 show (!decide (L[i] > L[i + 1])) = true
 rw [decide_eq_false (by omega)]; rfl
theorem srt_rise {L : List Int} : PySem.Spec.same (dZ L) (dZ (srtI L)) = riseN L.length L := by
 cases h : riseN L.length L with
 | true =>
  have e := srtI_of (List.Perm.refl L) (rise_pair h)
  rw [← e]
  exact PySem.Spec.same_self _
 | false =>
  cases h2 : PySem.Spec.same (dZ L) (dZ (srtI L)) with
  | false => rfl
  | true =>
   have e := same_eq h2
   injection e with e
   have e : L = srtI L := by
    have := congrArg (List.map fun | PyData.int i => i | _ => 0) e
    rw [List.map_map, List.map_map] at this
    simpa [Function.comp_def] using this
   have := pair_rise (L := L) (by rw [e]; exact srtI_sorted L)
   rw [h] at this; cases this
section
variable {P : Program} {w : World} {K : PySem.W.Frag} {mg : Str → Option Value} {base : Heap}
theorem ok_thr (T : Top K mg) : FnOk P w K mg base CX0 2 T.f_through T.fd_through ["net", "row", "is_behind"] (spV K T.f_is_more RThP) := by
 have G_is_more : FnOk P w K mg base CX0 1 T.f_is_more T.fd_is_more ["one", "other"] (spP K RMore) := ok_more T
 refine T.F_through.okV sc_through (by rintro _ _ ⟨net, r, rfl, _⟩; rfl) fun cdv A outer s H E hr ds d hR => ?_
 obtain ⟨net, r, rfl, hn, hrl, hp, rfl⟩ := hR
 have zl : (2000 : Nat) < sizeLine := by decide
 refine ⟨_, (pss_cons (ps_set (i := 3) sc_through.nd rfl (Or.inl rfl) (pe_callTy (call_listK (K := K) rfl) (by rfl) T.list_ boot_lst (pa_cons (pv 1) pa_nil st_Name)))
   (pss_cons (ps_set (i := 4) sc_through.nd rfl (Or.inl rfl) (pe_lst pa_nil))
   (pss_cons (ps_for PassesOwn.never rfl (pi_enumT (by rfl) T.enumerate_ (pa_cons (pv 0) pa_nil st_Name)) (pg_tup (n := 2) rfl (pgs_cons (pg_name (i := 5) sc_through.nd rfl (Or.inl rfl)) (pgs_cons (pg_name (i := 6) sc_through.nd rfl (Or.inl rfl)) pgs_nil)) (by rfl)) (pss_cons (ps_set (i := 7) sc_through.nd rfl (Or.inl rfl) (pe_ix (ix_listK (K := K) rfl) (pv 3) (pe_ix (ix_tupK (K := K) rfl) (pv 6) pe_int (fun _ _ => rfl)) (fun _ _ => rfl)))
   (pss_cons (ps_set (i := 8) sc_through.nd rfl (Or.inl rfl) (pe_ix (ix_listK (K := K) rfl) (pv 3) (pe_ix (ix_tupK (K := K) rfl) (pv 6) pe_int (fun _ _ => rfl)) (fun _ _ => rfl)))
   (pss_one (ps_if (pt_val (pe_callW (i := 2) rfl (Or.inl rfl) G_is_more hr T.F_is_more.kp T.b_is_more .nil pass0 (pa_cons (pv 7) (pa_cons (pv 8) pa_nil st_Name) st_Name))) (pss_cons (ps_asg (pv 8) (pg_sub (pv 3) (pe_ix (ix_tupK (K := K) rfl) (pv 6) pe_int (fun _ _ => rfl)) set_list))
   (pss_cons (ps_asg (pv 7) (pg_sub (pv 3) (pe_ix (ix_tupK (K := K) rfl) (pv 6) pe_int (fun _ _ => rfl)) set_list))
   (pss_one (ps_expr (pe_bm PySem.F.plainAttrs_list PySem.F.slot_list_append PySem.F.type_list_append mt_append (pv 4) (pa_cons (pv 5) pa_nil st_Name)))))) pss_nil)))))
   (pss_one (ps_ret (pe_tup (pa_cons (pv 3) (pa_cons (pv 4) pa_nil st_Name) st_Name))))))) , ?_⟩
 refine sv_seq (sv_asg (eg_list (.inl (ea_cons (er_var rfl) ea_nil)) ?_))
 refine sv_seq (sv_asg (eg_lst ea_nil (Nat.zero_le _) ?_))
 have hen : enumD (net.map dP) = (List.range net.length).map fun (i : Nat) => PyData.tuple [.int (i : Nat), dP (net.getD i (0, 0))] := by
  unfold enumD
  rw [List.length_map]
  refine List.map_congr_left fun i hi => ?_
  have hi := List.mem_range.mp hi
  rw [List.getD_eq_getElem?_getD, List.getElem?_map, List.getD_eq_getElem?_getD, List.getElem?_eq_getElem hi]; rfl
 refine sv_seq (sv_for (List.range net.length) (fun (i : Nat) => PyData.tuple [.int (i : Nat), dP (net.getD i (0, 0))]) (by rw [← hen]; exact ei_enT (ea_cons (er_var rfl) ea_nil)) (fun k ρ => k ≤ net.length ∧ ∃ v5 v6 v7 v8 : PV, ρ = [.dat (dNt net), .dat (tZ r), .val (.ref T.f_is_more), .own ((ledN (net.take k) r).map PyData.int), .own ((plc net r k).map PyData.int), v5, v6, v7, v8]) ⟨Nat.zero_le _, _, _, _, _, rfl⟩ ?_ ?_)
 ·rintro k hk _ ⟨_, v5, v6, v7, v8, rfl⟩
  rw [List.length_range] at hk
  have ei : (List.range net.length)[k]'(by rw [List.length_range]; exact hk) = k := by simp
  rw [ei]
  have hq := hp (net.getD k (0, 0)) (by rw [List.getD_eq_getElem?_getD, List.getElem?_eq_getElem hk]; exact List.getElem_mem hk)
  have es := led_succ (r := r) hk
  have hpl := plc_len net r k
  have hL := ledN_len (net.take k) r
  have ep : plc net r (k + 1) = if (ledN (net.take k) r).getD (net.getD k (0, 0)).1 0 > (ledN (net.take k) r).getD (net.getD k (0, 0)).2 0 then plc net r k ++ [(k : Int)] else plc net r k := rfl
  unfold stepN at es
  rw [es, ep]
  generalize net.getD k (0, 0) = q at hq
  obtain ⟨a, b⟩ := q
  generalize ledN (net.take k) r = L at hL
  obtain ⟨a1, a2⟩ := getZ (l := L) (i := a) (by rw [hL]; exact hq.1)
  obtain ⟨b1, b2⟩ := getZ (l := L) (i := b) (by rw [hL]; exact hq.2)
  refine gt_two ?_
  refine sv_seq (sv_asg (eg_flat (er_ixL (er_own rfl rfl) (er_ixT (er_var rfl) er_int (n := 0) rfl rfl) a1 a2) rfl ?_))
  refine sv_seq (sv_asg (eg_flat (er_ixL (er_own rfl rfl) (er_ixT (er_var rfl) er_int (n := 1) rfl rfl) b1 b2) rfl ?_))
  show Sv K B0 _ [.dat (dNt net), .dat (tZ r), .val (.ref T.f_is_more), .own (L.map PyData.int), .own ((plc net r k).map PyData.int), .dat (.int (k : Nat)), .dat (dP (a, b)), .dat (.int (L.getD a 0)), .dat (.int (L.getD b 0))] _
  refine sv_if (et_b (er_callV rfl (ea_cons (er_var rfl) (ea_cons (er_var rfl) ea_nil)) ⟨_, _, rfl, rfl⟩)) (fun h => ?_) fun h => sv_next ?_
  ·have h := of_decide_eq_true h
   refine sv_seq (sv_seti (i := 3) (eg_er (er_var rfl) ⟨_, _, _, _, a, rfl, rfl, rfl, er_ixT (er_var rfl) er_int (n := 0) rfl rfl, a1, ?_⟩))
   refine sv_seq (sv_seti (i := 3) (eg_er (er_var rfl) ⟨_, _, _, _, b, rfl, rfl, rfl, er_ixT (er_var rfl) er_int (n := 1) rfl rfl, by rw [List.length_set]; exact b1, ?_⟩))
   refine sv_app (i := 4) (eg_er (er_var rfl) ⟨_, _, _, rfl, rfl, rfl, by rw [List.length_map]; omega, ?_⟩) rfl rfl
   refine ⟨by omega, .dat (.int (k : Nat)), .dat (dP (a, b)), .dat (.int (L.getD a 0)), .dat (.int (L.getD b 0)), ?_⟩
   rw [if_pos h, if_pos h, List.map_append, List.map_set, List.map_set]
   rfl
  ·have h := of_decide_eq_false h
   refine ⟨by omega, .dat (.int (k : Nat)), .dat (dP (a, b)), .dat (.int (L.getD a 0)), .dat (.int (L.getD b 0)), ?_⟩
   rw [if_neg h, if_neg h]
 ·rintro _ ⟨_, v5, v6, v7, v8, rfl⟩
  rw [List.length_range, List.take_length]
  refine sv_frz1 3 rfl (sv_frz1 4 rfl ?_)
  exact sv_ret (eg_er (er_tup (ea_cons (er_var rfl) (ea_cons (er_var rfl) ea_nil)) (by show 2 ≤ sizeLine; decide)) rfl)
theorem pl_dZ {n : Nat} (l : List Int) : Pl (n + 1) (dZ l) := pl_lst fun x hx => by
 obtain ⟨i, _, rfl⟩ := List.mem_map.mp hx
 exact pl_int _
theorem ok_beats (T : Top K mg) : FnOk P w K mg base CX0 3 T.f_beats T.fd_beats ["net", "many"] (spP K RBts) := by
 have G_rows_of_two : FnOk P w K mg base CX0 2 T.f_rows_of_two T.fd_rows_of_two ["many"] (spO K RRows2) := ok_rows2 T
 have G_through : FnOk P w K mg base CX0 2 T.f_through T.fd_through ["net", "row", "is_behind"] (spV K T.f_is_more RThP) := ok_thr T
 refine T.F_beats.okP sc_beats (by rintro _ _ ⟨m, net, rfl, _⟩; rfl) fun cdv A outer s H E hr ds d hR => ?_
 obtain ⟨m, net, rfl, hm, hn, hp, rfl⟩ := hR
 have hu := hr.units
 have zl : (2000 : Nat) < sizeLine := by decide
 refine ⟨_, (pss_cons (ps_for PassesOwn.never rfl (pi_list (pe_call G_rows_of_two hr (by rfl) T.m_rows_of_two T.F_rows_of_two.kp T.b_rows_of_two .nil pass0 (pa_cons (pv 1) pa_nil st_Name))) (pg_name (i := 2) sc_beats.nd rfl (Or.inl rfl)) (pss_cons (ps_set (i := 3) sc_beats.nd rfl (Or.inl rfl) (pe_ix (ix_tupK (K := K) rfl) (pe_call G_through hr (by rfl) T.m_through T.F_through.kp T.b_through .nil pass0 (pa_cons (pv 0) (pa_cons (pv 2) (pa_cons (pe_glob (v := .ref T.f_is_more) (by rfl) T.m_is_more rfl) pa_nil st_Name) st_Name) st_Name)) pe_int (fun _ _ => rfl)))
   (pss_one (ps_if (pt_cmpR (op_neDK (K := K) rfl hu) (pv 3) (pe_callB (call_sortedI (K := K) rfl) (by rfl) T.sorted_ boot_srtI (pa_cons (pv 3) pa_nil st_Name)) (nomark _)) (pss_one (ps_ret (pv 2))) pss_nil))))
   (pss_one (ps_ret pe_non))) , ?_⟩
 refine sv_seq (sv_for (List.range (2 ^ m)) (rowD m) (ei_lst (er_callO (ea_cons (er_var rfl) ea_nil) ⟨m, rfl, hm, rfl⟩)) (fun k ρ => (∀ r, r < k → badN m net r = false) ∧ ∃ v2 v3 : PV, ρ = [.dat (dNt net), .dat (.int (m : Nat)), v2, v3]) ⟨fun r h => absurd h (Nat.not_lt_zero r), _, _, rfl⟩ ?_ ?_)
 ·rintro k hk _ ⟨hb, v2, v3, rfl⟩
  rw [List.length_range] at hk
  have ei : (List.range (2 ^ m))[k]'(by rw [List.length_range]; exact hk) = k := by simp
  rw [ei]
  have hbl := bits_len m k
  have hL := ledN_len net (bits m k)
  refine gt_name (sv_seq (sv_asg (eg_er (er_ixT (n := 0) (er_callV2 (er_var rfl) (er_var rfl) ⟨net, bits m k, rfl, hn, by omega, fun p h => by rw [hbl]; exact hp p h, rfl⟩) er_int rfl rfl) ?_)))
  show Sv K B0 _ [.dat (dNt net), .dat (.int (m : Nat)), .dat (rowD m k), .dat (dZ (ledN net (bits m k)))] _
  have hbad : badN m net k = !riseN m (ledN net (bits m k)) := rfl
  generalize ledN net (bits m k) = L at hL hbad
  have hLm : L.length = m := by omega
  refine sv_if (et_c (et_test (er_eqD (n := 4) (er_var rfl) (er_srtI (ea_cons (er_var rfl) ea_nil) (by omega)) (pl_dZ _) (pl_dZ _) (by decide))) (show _ = badN m net k by rw [srt_rise, hLm, hbad])) (fun h => ?_) fun h => sv_next ⟨fun r hr => ?_, _, _, rfl⟩
  ·refine sv_ret (eg_er (er_d (er_var rfl) ?_) rfl)
   rw [first_some hk hb h]
   rfl
  ·rcases Nat.lt_or_eq_of_le (Nat.le_of_lt_succ hr) with h2 | rfl
   ·exact hb r h2
   ·exact h
 ·rintro _ ⟨hb, v2, v3, rfl⟩
  rw [List.length_range] at hb
  exact sv_ret (eg_er (er_d er_non (by rw [first_none hb]; rfl)) rfl)
end
end K47
namespace K47
open PySem L2 Lw Big Net
theorem e5 : ∀ r : Nat, r < 5 → ∀ b : Nat, b ≤ 8 → ixN ([.int (b : Nat), .int 8, .int 7, .int 6, .int 5] : List PyData).length (r : Nat) = some r ∧ ∃ c : Nat, c ≤ 8 ∧ ([.int (b : Nat), .int 8, .int 7, .int 6, .int 5] : List PyData)[r]? = some (.int (c : Nat))
 | 0, _, b, h => ⟨rfl, b, h, rfl⟩
 | 1, _, b, h => ⟨rfl, 8, by decide, rfl⟩
 | 2, _, b, h => ⟨rfl, 7, by decide, rfl⟩
 | 3, _, b, h => ⟨rfl, 6, by decide, rfl⟩
 | 4, _, b, h => ⟨rfl, 5, by decide, rfl⟩
theorem e6 : ∀ r : Nat, r < 5 → ∀ b : Nat, b ≤ 8 → ixN ([.int (b : Nat), .int 6, .int 5, .int 4, .int 3] : List PyData).length (r : Nat) = some r ∧ ∃ c : Nat, c ≤ 8 ∧ ([.int (b : Nat), .int 6, .int 5, .int 4, .int 3] : List PyData)[r]? = some (.int (c : Nat))
 | 0, _, b, h => ⟨rfl, b, h, rfl⟩
 | 1, _, b, h => ⟨rfl, 6, by decide, rfl⟩
 | 2, _, b, h => ⟨rfl, 5, by decide, rfl⟩
 | 3, _, b, h => ⟨rfl, 4, by decide, rfl⟩
 | 4, _, b, h => ⟨rfl, 3, by decide, rfl⟩
theorem er_slTE {K : PySem.W.Frag} {B : Hp} {ρ : List PV} {te tj : TE} {ds : List PyData} {j : Int} (h : Er K B te ρ (.tuple ds)) (hj : Er K B tj ρ (.int j)) : Er K B (tSl (rSlTA K) te tNoPart (tPart tj)) ρ (.tuple (slD ds none (some j))) := fun G σ r G1 H s1 s2 Q k => h G σ r G1 H s1 s2 _ fun v G2 H2 g2 hv => hj G σ r G2 H2 (s1.trans g2.gg) g2.gh _ fun u G3 H3 g3 hu => by
 rw [hu.int]
 refine ⟨j, rfl, ?_⟩
 have hv3 := hv.same g3.gg
 have := (er_slT (K := K) (B := G3) (ρ := []) (te := tC v) (tl := tNoPart) (th := tPart (tC (.int j))) (lo := none) (hi := some j) (ds := ds) (fun G σ r => ev_c (hv3.same r.1)) eo_none eo_int) G3 σ ⟨Same.refl _, fun _ _ h => (by cases h), fun _ _ _ h => (by cases h), fun _ _ h => (by cases h), fun _ _ h => (by cases h), fun _ _ h => (by cases h)⟩ G3 H3 (Same.refl _) g3.gh Q fun v3 G4 H4 g4 hv4 => k v3 G4 H4 ((g2.trans g3).trans g4) hv4
 obtain ⟨j', e', this⟩ := this
 cases e'
 exact this
section
variable {P : Program} {w : World} {K : PySem.W.Frag} {mg : Str → Option Value} {base : Heap}
theorem ok_law {f : Addr} {fd : FuncData} (F : Fun K "law" "law" s_law f fd) (T : Top K mg) : FnOk P w K mg base CX0 5 f fd ["script"] (spLaw K) := by
 have G__law_deck : FnOk P w K mg base CX0 4 T.f__law_deck T.fd__law_deck ["script"] (spScrO K RDeck) := (ok_deck T).mono (by decide)
 have G__law_next : FnOk P w K mg base CX0 4 T.f__law_next T.fd__law_next ["deck", "many"] (spL K PreN RNx) := (ok_next T).mono (by decide)
 have G__law_net : FnOk P w K mg base CX0 4 T.f__law_net T.fd__law_net ["deck", "many"] (spL K PreNt RNt) := ok_lnet T
 have G__law_right : FnOk P w K mg base CX0 4 T.f__law_right T.fd__law_right ["net", "many"] (spP K fun as d => (∃ d', RBts as d') ∧ d = .bool true) := ok_right T (ok_beats T)
 refine F.okLaw sc_law fun cdv A outer s H E hr ns hns => ?_
 have zl : (2000 : Nat) < sizeLine := by decide
 refine ⟨_, (pss_cons (ps_set (i := 1) sc_law.nd rfl (Or.inl rfl) (pe_call G__law_deck hr (by rfl) T.m__law_deck T.F__law_deck.kp T.b__law_deck .nil pass0 (pa_cons (pv 0) pa_nil st_Name)))
   (pss_cons (ps_for PassesOwn.never rfl (pi_range1 (by rfl) T.range_ (pa_cons pe_int pa_nil st_Constant)) (pg_name (i := 2) sc_law.nd rfl (Or.inl rfl)) (pss_cons (ps_set (i := 3) sc_law.nd rfl (Or.inl rfl) (pe_ix (ix_listK (K := K) rfl) (pe_ix (ix_listK (K := K) rfl) (pe_lst (pa_cons (pe_lst (pa_cons (pe_call G__law_next hr (by rfl) T.m__law_next T.F__law_next.kp T.b__law_next .nil pass0 (pa_cons (pv 1) (pa_cons pe_int pa_nil st_Constant) st_Name)) (pa_cons pe_int (pa_cons pe_int (pa_cons pe_int (pa_cons pe_int pa_nil st_Constant) st_Constant) st_Constant) st_Constant) st_Call)) (pa_cons (pe_lst (pa_cons (pe_call G__law_next hr (by rfl) T.m__law_next T.F__law_next.kp T.b__law_next .nil pass0 (pa_cons (pv 1) (pa_cons pe_int pa_nil st_Constant) st_Name)) (pa_cons pe_int (pa_cons pe_int (pa_cons pe_int (pa_cons pe_int pa_nil st_Constant) st_Constant) st_Constant) st_Constant) st_Call)) pa_nil st_List) st_List)) (pv 2) (fun _ _ => rfl)) (pe_call G__law_next hr (by rfl) T.m__law_next T.F__law_next.kp T.b__law_next .nil pass0 (pa_cons (pv 1) (pa_cons pe_int pa_nil st_Constant) st_Name)) (fun _ _ => rfl)))
   (pss_cons (ps_set (i := 4) sc_law.nd rfl (Or.inl rfl) (pe_call G__law_net hr (by rfl) T.m__law_net T.F__law_net.kp T.b__law_net .nil pass0 (pa_cons (pv 1) (pa_cons (pv 3) pa_nil st_Name) st_Name)))
   (pss_one (ps_for PassesOwn.never rfl (pi_list (pe_lst (pa_cons (pv 4) (pa_cons (pe_slice (sl_tupA (K := K) rfl) (pv 4) po_none (po_some (pe_op op_sub (pe_callB (call_lenK (K := K) rfl) (by rfl) T.len_ PySem.boot_len (pa_cons (pv 4) pa_nil st_Name)) pe_int))) pa_nil st_Subscript) st_Name))) (pg_name (i := 5) sc_law.nd rfl (Or.inl rfl)) (pss_one (ps_if (pt_not (pt_val (pe_call G__law_right hr (by rfl) T.m__law_right T.F__law_right.kp T.b__law_right .nil pass0 (pa_cons (pv 5) (pa_cons (pv 3) pa_nil st_Name) st_Name)))) (pss_one (ps_ret pe_bl)) pss_nil)))))))
   (pss_one (ps_ret (pe_call G__law_right hr (by rfl) T.m__law_right T.F__law_right.kp T.b__law_right .nil pass0 (pa_cons (pe_tup pa_nil) (pa_cons (pe_op op_mod (pe_callB (call_lenK (K := K) rfl) (by rfl) T.len_ PySem.boot_len (pa_cons (pv 0) pa_nil st_Name)) pe_int) pa_nil st_BinOp) st_Tuple)))))) , ?_⟩
 obtain ⟨cs, hcs, hcl, _⟩ := slD_map PyData.int ns none (some 63)
 refine sv_seq (sv_asg (eg_scrO rfl ⟨cs, hcs, rfl⟩ ?_))
 refine sv_seq (sv_for (List.range 2) (fun (i : Nat) => PyData.int (i : Nat)) (ei_rngN (n := 2) (ea_cons er_int ea_nil) (by decide)) (fun k ρ => ∃ (es : List PyData) (v2 v3 v4 v5 : PV), Dk (1100 * k) es ∧ ρ = [.scr ns, .own es, v2, v3, v4, v5]) ⟨_, _, _, _, _, ⟨cs, 0, 0, 0, cs.sum, rfl, by omega, by decide, by decide⟩, rfl⟩ ?_ ?_)
 ·rintro k hk _ ⟨es, v2, v3, v4, v5, hD, rfl⟩
  rw [List.length_range] at hk
  have ei : (List.range 2)[k]'(by rw [List.length_range]; exact hk) = k := by simp
  rw [ei]
  refine gt_name (sv_seqN (fun ρ' => ∃ (c : Nat) (es3 : List PyData), c ≤ 8 ∧ Dk (1100 * k + 3) es3 ∧ ρ' = [.scr ns, .own es3, .dat (.int (k : Nat)), .dat (.int (c : Nat)), v4, v5]) (sv_asg (eg_op (eg_op ?_))) fun ρ1 h1 => ?_)
  ·refine eg_lstD (ega_cons (eg_lstD (ega_cons (eg_lend (i := 1) rfl rfl (ega_ea (ea_cons er_int ea_nil) ⟨_, es, rfl, rfl, ⟨1100 * k, 9, hD, by omega, rfl, by decide, by decide⟩, fun x es1 hx => ?_⟩)))))
   obtain ⟨m1, b1, e1, rfl, b10, b11, s1⟩ := hx
   cases e1
   obtain ⟨b1, rfl⟩ := Int.eq_ofNat_of_zero_le b10
   have D1 := s1 _ hD
   refine ⟨_, rfl, ega_ea (ea_cons er_int (ea_cons er_int (ea_cons er_int (ea_cons er_int ea_nil)))) ⟨by show 5 ≤ sizeLine; decide, _, rfl, ega_cons (eg_lstD (ega_cons (eg_lend (i := 1) rfl rfl (ega_ea (ea_cons er_int ea_nil) ⟨_, es1, rfl, rfl, ⟨1100 * k + 1, 7, D1, by omega, rfl, by decide, by decide⟩, fun x es2 hx => ?_⟩))))⟩⟩
   obtain ⟨m2, b2, e2, rfl, b20, b21, s2⟩ := hx
   cases e2
   obtain ⟨b2, rfl⟩ := Int.eq_ofNat_of_zero_le b20
   have D2 := s2 _ D1
   refine ⟨_, rfl, ega_ea (ea_cons er_int (ea_cons er_int (ea_cons er_int (ea_cons er_int ea_nil)))) ⟨by show 5 ≤ sizeLine; decide, _, rfl, ega_ea ea_nil ⟨by show 2 ≤ sizeLine; decide, _, rfl, ?_⟩⟩⟩
   obtain rfl | rfl : k = 0 ∨ k = 1 := by omega
   ·refine eg_er (er_var rfl) ⟨_, _, rfl, fun G σ va vb ha hb => ev_ixL (n := 0) (ev_c ha) (ev_c hb) rfl rfl, _, rfl, eg_lend (i := 1) rfl rfl (ega_ea (ea_cons er_int ea_nil) ⟨_, es2, rfl, rfl, ⟨1100 * 0 + 1 + 1, 5, D2, by omega, rfl, by decide, by decide⟩, fun x es3 hx => ?_⟩)⟩
    obtain ⟨m3, b3, e3, rfl, b30, b31, s3⟩ := hx
    cases e3
    obtain ⟨b3, rfl⟩ := Int.eq_ofNat_of_zero_le b30
    obtain ⟨x5, c, hc, g5⟩ := e5 b3 (by omega) b1 (by omega)
    exact ⟨_, .int (c : Nat), rfl, fun G σ va vb ha hb => ev_ixL (ev_c ha) (ev_c hb) x5 g5, c, es3, hc, s3 _ D2, rfl⟩
   ·refine eg_er (er_var rfl) ⟨_, _, rfl, fun G σ va vb ha hb => ev_ixL (n := 1) (ev_c ha) (ev_c hb) rfl rfl, _, rfl, eg_lend (i := 1) rfl rfl (ega_ea (ea_cons er_int ea_nil) ⟨_, es2, rfl, rfl, ⟨1100 * 1 + 1 + 1, 5, D2, by omega, rfl, by decide, by decide⟩, fun x es3 hx => ?_⟩)⟩
    obtain ⟨m3, b3, e3, rfl, b30, b31, s3⟩ := hx
    cases e3
    obtain ⟨b3, rfl⟩ := Int.eq_ofNat_of_zero_le b30
    obtain ⟨x5, c, hc, g5⟩ := e6 b3 (by omega) b2 (by omega)
    exact ⟨_, .int (c : Nat), rfl, fun G σ va vb ha hb => ev_ixL (ev_c ha) (ev_c hb) x5 g5, c, es3, hc, s3 _ D2, rfl⟩
  obtain ⟨c, es3, hc, D3, rfl⟩ := h1
  refine sv_seq (sv_asg (eg_lend (i := 1) rfl rfl (ega_ea (ea_cons (er_var rfl) ea_nil) ⟨_, es3, rfl, rfl, ⟨1100 * k + 3, c, D3, by omega, rfl, hc⟩, fun x es4 hx => ?_⟩)))
  obtain ⟨mm, net, em, rfl, hin, hlen, s4⟩ := hx
  have em : c = mm := by injection em with em; injection em with em; omega
  subst em
  obtain ⟨net', hsl, hsl2, hsl3⟩ := slD_map dP net none (some (((net.map dP).length : Int) - 1))
  show Sv K B0 _ [.scr ns, .own es4, .dat (.int (k : Nat)), .dat (.int (c : Nat)), .dat (dNt net), v5] _
  refine sv_for [net, net'] dNt (ei_lst (er_lst (ea_cons (er_var rfl) (ea_cons (er_d (er_slTE (er_var rfl) (er_i0 (er_lenT (ea_cons (er_var rfl) ea_nil)) er_int fun _ => dat_int _)) (show _ = dNt net' by rw [hsl])) ea_nil)) (by show 2 ≤ sizeLine; decide))) (fun _ ρ => ∃ v5 : PV, ρ = [.scr ns, .own es4, .dat (.int (k : Nat)), .dat (.int (c : Nat)), .dat (dNt net), v5]) ⟨_, rfl⟩ ?_ ?_
  ·rintro j hj _ ⟨v5, rfl⟩
   have hs : ([net, net'][j]).length ≤ 60 ∧ InR c ([net, net'][j]) := by
    obtain rfl | rfl : j = 0 ∨ j = 1 := by have : j < 2 := hj; omega
    ·exact ⟨hlen, hin⟩
    ·exact ⟨by show net'.length ≤ 60; omega, hin.sub hsl3⟩
   generalize [net, net'][j] = some' at hs
   exact gt_name (sv_ifF (et_c (et_not (et_b (er_call (ea_cons (er_var rfl) (ea_cons (er_var rfl) ea_nil)) ⟨⟨_, c, some', rfl, hc, by omega, hs.2, rfl⟩, rfl⟩))) rfl) (sv_next ⟨_, rfl⟩))
  ·rintro _ ⟨v5, rfl⟩
   exact ⟨es4, _, _, _, _, (s4 _ D3).mono (by omega), rfl⟩
 ·rintro _ ⟨es, v2, v3, v4, v5, hD, rfl⟩
  refine sv_ret (eg_er (er_call (ea_cons (er_tup ea_nil (Nat.zero_le _)) (ea_cons (er_d (er_iC (er_scrLen rfl) er_int (by decide) fun _ => dat_int _) (show _ = PyData.int ((ns.length % 9 : Nat) : Int) from rfl)) ea_nil)) ⟨⟨_, ns.length % 9, [], rfl, by omega, by decide, fun p h => (by cases h), rfl⟩, rfl⟩) rfl)
end
end K47
namespace K47
open PySem L2 Lw Big Net
theorem all_mk {l : PySem.W.OpenLaw} {w : World} {K : PySem.W.Frag} {h : Heap} {mg : Str → Option Value} {fa : Addr} {fz0 fz1 fz2 fz3 fz4 fz5 fz6 fz7 fz8 fz9 fz10 fz11 fz12 fz13 fz14 fz15 fz16 : Addr} (X : K.In h) (G : h.Ns mainGlobals mg) (hfa : mg "law" = some (.ref fa))
  {odz0 anz0 odz1 anz1 odz2 anz2 odz3 anz3 odz4 anz4 odz5 anz5 odz6 anz6 odz7 anz7 odz8 anz8 odz9 anz9 odz10 anz10 odz11 anz11 odz12 anz12 odz13 anz13 odz14 anz14 odz15 anz15 odz16 anz16 : Option Addr} {slz0 slz1 slz2 slz3 slz4 slz5 slz6 slz7 slz8 slz9 slz10 slz11 slz12 slz13 slz14 slz15 slz16 : Array (Option Value)} {ocz0 kVz0 dcz0 pmz0 cdz0 ctz0 ocz1 kVz1 dcz1 pmz1 cdz1 ctz1 ocz2 kVz2 dcz2 pmz2 cdz2 ctz2 ocz3 kVz3 dcz3 pmz3 cdz3 ctz3 ocz4 kVz4 dcz4 pmz4 cdz4 ctz4 ocz5 kVz5 dcz5 pmz5 cdz5 ctz5 ocz6 kVz6 dcz6 pmz6 cdz6 ctz6 ocz7 kVz7 dcz7 pmz7 cdz7 ctz7 ocz8 kVz8 dcz8 pmz8 cdz8 ctz8 ocz9 kVz9 dcz9 pmz9 cdz9 ctz9 ocz10 kVz10 dcz10 pmz10 cdz10 ctz10 ocz11 kVz11 dcz11 pmz11 cdz11 ctz11 ocz12 kVz12 dcz12 pmz12 cdz12 ctz12 ocz13 kVz13 dcz13 pmz13 cdz13 ctz13 ocz14 kVz14 dcz14 pmz14 cdz14 ctz14 ocz15 kVz15 dcz15 pmz15 cdz15 ctz15 ocz16 kVz16 dcz16 pmz16 cdz16 ctz16 : Value}
  (az0 : PySem.W.nsIn K mainGlobals "through" = some (some (.ref fz0))) (lz0 : K.lookup fz0 = some ⟨ocz0, odz0, .func (PySem.W.fnOf "through" "through" (defArgs s_through) (defBody s_through) (defScope s_through) .none kVz0 dcz0 pmz0 anz0 cdz0 ctz0), slz0⟩) (cz0 : PySem.W.codeIn K cdz0 "through" = true) (kz0 : PySem.W.keepIn K (.ref fz0) = true)
  (az1 : PySem.W.nsIn K mainGlobals "beats" = some (some (.ref fz1))) (lz1 : K.lookup fz1 = some ⟨ocz1, odz1, .func (PySem.W.fnOf "beats" "beats" (defArgs s_beats) (defBody s_beats) (defScope s_beats) .none kVz1 dcz1 pmz1 anz1 cdz1 ctz1), slz1⟩) (cz1 : PySem.W.codeIn K cdz1 "beats" = true) (kz1 : PySem.W.keepIn K (.ref fz1) = true)
  (az2 : PySem.W.nsIn K mainGlobals "is_more" = some (some (.ref fz2))) (lz2 : K.lookup fz2 = some ⟨ocz2, odz2, .func (PySem.W.fnOf "is_more" "is_more" (defArgs s_is_more) (defBody s_is_more) (defScope s_is_more) .none kVz2 dcz2 pmz2 anz2 cdz2 ctz2), slz2⟩) (cz2 : PySem.W.codeIn K cdz2 "is_more" = true) (kz2 : PySem.W.keepIn K (.ref fz2) = true)
  (az3 : PySem.W.nsIn K mainGlobals "rows_of_two" = some (some (.ref fz3))) (lz3 : K.lookup fz3 = some ⟨ocz3, odz3, .func (PySem.W.fnOf "rows_of_two" "rows_of_two" (defArgs s_rows_of_two) (defBody s_rows_of_two) (defScope s_rows_of_two) .none kVz3 dcz3 pmz3 anz3 cdz3 ctz3), slz3⟩) (cz3 : PySem.W.codeIn K cdz3 "rows_of_two" = true) (kz3 : PySem.W.keepIn K (.ref fz3) = true)
  (az4 : PySem.W.nsIn K mainGlobals "row_of_two" = some (some (.ref fz4))) (lz4 : K.lookup fz4 = some ⟨ocz4, odz4, .func (PySem.W.fnOf "row_of_two" "row_of_two" (defArgs s_row_of_two) (defBody s_row_of_two) (defScope s_row_of_two) .none kVz4 dcz4 pmz4 anz4 cdz4 ctz4), slz4⟩) (cz4 : PySem.W.codeIn K cdz4 "row_of_two" = true) (kz4 : PySem.W.keepIn K (.ref fz4) = true)
  (az5 : PySem.W.nsIn K mainGlobals "_law_mix" = some (some (.ref fz5))) (lz5 : K.lookup fz5 = some ⟨ocz5, odz5, .func (PySem.W.fnOf "_law_mix" "_law_mix" (defArgs s__law_mix) (defBody s__law_mix) (defScope s__law_mix) .none kVz5 dcz5 pmz5 anz5 cdz5 ctz5), slz5⟩) (cz5 : PySem.W.codeIn K cdz5 "_law_mix" = true) (kz5 : PySem.W.keepIn K (.ref fz5) = true)
  (az6 : PySem.W.nsIn K mainGlobals "_law_deck" = some (some (.ref fz6))) (lz6 : K.lookup fz6 = some ⟨ocz6, odz6, .func (PySem.W.fnOf "_law_deck" "_law_deck" (defArgs s__law_deck) (defBody s__law_deck) (defScope s__law_deck) .none kVz6 dcz6 pmz6 anz6 cdz6 ctz6), slz6⟩) (cz6 : PySem.W.codeIn K cdz6 "_law_deck" = true) (kz6 : PySem.W.keepIn K (.ref fz6) = true)
  (az7 : PySem.W.nsIn K mainGlobals "_law_next" = some (some (.ref fz7))) (lz7 : K.lookup fz7 = some ⟨ocz7, odz7, .func (PySem.W.fnOf "_law_next" "_law_next" (defArgs s__law_next) (defBody s__law_next) (defScope s__law_next) .none kVz7 dcz7 pmz7 anz7 cdz7 ctz7), slz7⟩) (cz7 : PySem.W.codeIn K cdz7 "_law_next" = true) (kz7 : PySem.W.keepIn K (.ref fz7) = true)
  (az8 : PySem.W.nsIn K mainGlobals "_law_like" = some (some (.ref fz8))) (lz8 : K.lookup fz8 = some ⟨ocz8, odz8, .func (PySem.W.fnOf "_law_like" "_law_like" (defArgs s__law_like) (defBody s__law_like) (defScope s__law_like) .none kVz8 dcz8 pmz8 anz8 cdz8 ctz8), slz8⟩) (cz8 : PySem.W.codeIn K cdz8 "_law_like" = true) (kz8 : PySem.W.keepIn K (.ref fz8) = true)
  (az9 : PySem.W.nsIn K mainGlobals "_law_rows" = some (some (.ref fz9))) (lz9 : K.lookup fz9 = some ⟨ocz9, odz9, .func (PySem.W.fnOf "_law_rows" "_law_rows" (defArgs s__law_rows) (defBody s__law_rows) (defScope s__law_rows) .none kVz9 dcz9 pmz9 anz9 cdz9 ctz9), slz9⟩) (cz9 : PySem.W.codeIn K cdz9 "_law_rows" = true) (kz9 : PySem.W.keepIn K (.ref fz9) = true)
  (az10 : PySem.W.nsIn K mainGlobals "_law_through" = some (some (.ref fz10))) (lz10 : K.lookup fz10 = some ⟨ocz10, odz10, .func (PySem.W.fnOf "_law_through" "_law_through" (defArgs s__law_through) (defBody s__law_through) (defScope s__law_through) .none kVz10 dcz10 pmz10 anz10 cdz10 ctz10), slz10⟩) (cz10 : PySem.W.codeIn K cdz10 "_law_through" = true) (kz10 : PySem.W.keepIn K (.ref fz10) = true)
  (az11 : PySem.W.nsIn K mainGlobals "_law_beats" = some (some (.ref fz11))) (lz11 : K.lookup fz11 = some ⟨ocz11, odz11, .func (PySem.W.fnOf "_law_beats" "_law_beats" (defArgs s__law_beats) (defBody s__law_beats) (defScope s__law_beats) .none kVz11 dcz11 pmz11 anz11 cdz11 ctz11), slz11⟩) (cz11 : PySem.W.codeIn K cdz11 "_law_beats" = true) (kz11 : PySem.W.keepIn K (.ref fz11) = true)
  (az12 : PySem.W.nsIn K mainGlobals "_law_bubbles" = some (some (.ref fz12))) (lz12 : K.lookup fz12 = some ⟨ocz12, odz12, .func (PySem.W.fnOf "_law_bubbles" "_law_bubbles" (defArgs s__law_bubbles) (defBody s__law_bubbles) (defScope s__law_bubbles) .none kVz12 dcz12 pmz12 anz12 cdz12 ctz12), slz12⟩) (cz12 : PySem.W.codeIn K cdz12 "_law_bubbles" = true) (kz12 : PySem.W.keepIn K (.ref fz12) = true)
  (az13 : PySem.W.nsIn K mainGlobals "_law_pair" = some (some (.ref fz13))) (lz13 : K.lookup fz13 = some ⟨ocz13, odz13, .func (PySem.W.fnOf "_law_pair" "_law_pair" (defArgs s__law_pair) (defBody s__law_pair) (defScope s__law_pair) .none kVz13 dcz13 pmz13 anz13 cdz13 ctz13), slz13⟩) (cz13 : PySem.W.codeIn K cdz13 "_law_pair" = true) (kz13 : PySem.W.keepIn K (.ref fz13) = true)
  (az14 : PySem.W.nsIn K mainGlobals "_law_net" = some (some (.ref fz14))) (lz14 : K.lookup fz14 = some ⟨ocz14, odz14, .func (PySem.W.fnOf "_law_net" "_law_net" (defArgs s__law_net) (defBody s__law_net) (defScope s__law_net) .none kVz14 dcz14 pmz14 anz14 cdz14 ctz14), slz14⟩) (cz14 : PySem.W.codeIn K cdz14 "_law_net" = true) (kz14 : PySem.W.keepIn K (.ref fz14) = true)
  (az15 : PySem.W.nsIn K mainGlobals "_law_right" = some (some (.ref fz15))) (lz15 : K.lookup fz15 = some ⟨ocz15, odz15, .func (PySem.W.fnOf "_law_right" "_law_right" (defArgs s__law_right) (defBody s__law_right) (defScope s__law_right) .none kVz15 dcz15 pmz15 anz15 cdz15 ctz15), slz15⟩) (cz15 : PySem.W.codeIn K cdz15 "_law_right" = true) (kz15 : PySem.W.keepIn K (.ref fz15) = true)
  (az16 : PySem.W.nsIn K mainGlobals "law" = some (some (.ref fz16))) (lz16 : K.lookup fz16 = some ⟨ocz16, odz16, .func (PySem.W.fnOf "law" "law" (defArgs s_law) (defBody s_law) (defScope s_law) .none kVz16 dcz16 pmz16 anz16 cdz16 ctz16), slz16⟩) (cz16 : PySem.W.codeIn K cdz16 "law" = true) (kz16 : PySem.W.keepIn K (.ref fz16) = true)
  (z_len : PySem.W.nsIn K mainGlobals "len" = some none)
  (z_range : PySem.W.nsIn K mainGlobals "range" = some none)
  (z_tuple : PySem.W.nsIn K mainGlobals "tuple" = some none)
  (z_isinstance : PySem.W.nsIn K mainGlobals "isinstance" = some none)
  (z_list : PySem.W.nsIn K mainGlobals "list" = some none)
  (z_int : PySem.W.nsIn K mainGlobals "int" = some none)
  (z_bool : PySem.W.nsIn K mainGlobals "bool" = some none)
  (z_sorted : PySem.W.nsIn K mainGlobals "sorted" = some none)
  (z_sum : PySem.W.nsIn K mainGlobals "sum" = some none)
  (z_all : PySem.W.nsIn K mainGlobals "all" = some none)
  (z_enumerate : PySem.W.nsIn K mainGlobals "enumerate" = some none)
  (tt : PySem.W.kitOne K (.type "tuple") (.type "tuple") = some true)
  (ii : PySem.W.kitOne K (.type "int") (.type "int") = some true)
  (ib : PySem.W.kitOne K (.type "int") (.type "bool") = some false)
  (it : PySem.W.kitOne K (.type "int") (.type "tuple") = some false) :
  ∃ fd : FuncData, (∀ (s : Shared) (v : Value), BindsTo s fd ⟨[v], []⟩ [("script", v)]) ∧ ∀ base : Heap, K.In base → base.Ns mainGlobals mg → FnOk l.prog w K mg base CX0 5 fa fd ["script"] (spLaw K) := by
 have e := hfa.symm.trans (PySem.W.mg_of X G az16)
 cases e
 exact ⟨PySem.W.fnOf "law" "law" (defArgs s_law) (defBody s_law) (defScope s_law) .none kVz16 dcz16 pmz16 anz16 cdz16 ctz16, fun s v => .of_eq rfl, fun base _ _ => ok_law (fun_mk (st := s_law) lz16 cz16 kz16)
  ⟨fz0, _, (fun_mk (st := s_through) lz0 cz0 kz0), (fun_mk (st := s_through) lz0 cz0 kz0).binds (ps := ["net", "row", "is_behind"]) fun _ _ _ _ _ _ us hl => match us, hl with | [_, _, _], _ => rfl, PySem.W.mg_of X G az0,
   fz1, _, (fun_mk (st := s_beats) lz1 cz1 kz1), (fun_mk (st := s_beats) lz1 cz1 kz1).binds (ps := ["net", "many"]) fun _ _ _ _ _ _ us hl => match us, hl with | [_, _], _ => rfl, PySem.W.mg_of X G az1,
   fz2, _, (fun_mk (st := s_is_more) lz2 cz2 kz2), (fun_mk (st := s_is_more) lz2 cz2 kz2).binds (ps := ["one", "other"]) fun _ _ _ _ _ _ us hl => match us, hl with | [_, _], _ => rfl, PySem.W.mg_of X G az2,
   fz3, _, (fun_mk (st := s_rows_of_two) lz3 cz3 kz3), (fun_mk (st := s_rows_of_two) lz3 cz3 kz3).binds (ps := ["many"]) fun _ _ _ _ _ _ us hl => match us, hl with | [_], _ => rfl, PySem.W.mg_of X G az3,
   fz4, _, (fun_mk (st := s_row_of_two) lz4 cz4 kz4), (fun_mk (st := s_row_of_two) lz4 cz4 kz4).binds (ps := ["number", "many"]) fun _ _ _ _ _ _ us hl => match us, hl with | [_, _], _ => rfl, PySem.W.mg_of X G az4,
   fz5, _, (fun_mk (st := s__law_mix) lz5 cz5 kz5), (fun_mk (st := s__law_mix) lz5 cz5 kz5).binds (ps := ["cell", "k"]) fun _ _ _ _ _ _ us hl => match us, hl with | [_, _], _ => rfl, PySem.W.mg_of X G az5,
   fz6, _, (fun_mk (st := s__law_deck) lz6 cz6 kz6), (fun_mk (st := s__law_deck) lz6 cz6 kz6).binds (ps := ["script"]) fun _ _ _ _ _ _ us hl => match us, hl with | [_], _ => rfl, PySem.W.mg_of X G az6,
   fz7, _, (fun_mk (st := s__law_next) lz7 cz7 kz7), (fun_mk (st := s__law_next) lz7 cz7 kz7).binds (ps := ["deck", "many"]) fun _ _ _ _ _ _ us hl => match us, hl with | [_, _], _ => rfl, PySem.W.mg_of X G az7,
   fz8, _, (fun_mk (st := s__law_like) lz8 cz8 kz8), (fun_mk (st := s__law_like) lz8 cz8 kz8).binds (ps := ["found", "due"]) fun _ _ _ _ _ _ us hl => match us, hl with | [_, _], _ => rfl, PySem.W.mg_of X G az8,
   fz9, _, (fun_mk (st := s__law_rows) lz9 cz9 kz9), (fun_mk (st := s__law_rows) lz9 cz9 kz9).binds (ps := ["many"]) fun _ _ _ _ _ _ us hl => match us, hl with | [_], _ => rfl, PySem.W.mg_of X G az9,
   fz10, _, (fun_mk (st := s__law_through) lz10 cz10 kz10), (fun_mk (st := s__law_through) lz10 cz10 kz10).binds (ps := ["net", "row"]) fun _ _ _ _ _ _ us hl => match us, hl with | [_, _], _ => rfl, PySem.W.mg_of X G az10,
   fz11, _, (fun_mk (st := s__law_beats) lz11 cz11 kz11), (fun_mk (st := s__law_beats) lz11 cz11 kz11).binds (ps := ["net", "many"]) fun _ _ _ _ _ _ us hl => match us, hl with | [_, _], _ => rfl, PySem.W.mg_of X G az11,
   fz12, _, (fun_mk (st := s__law_bubbles) lz12 cz12 kz12), (fun_mk (st := s__law_bubbles) lz12 cz12 kz12).binds (ps := ["many"]) fun _ _ _ _ _ _ us hl => match us, hl with | [_], _ => rfl, PySem.W.mg_of X G az12,
   fz13, _, (fun_mk (st := s__law_pair) lz13 cz13 kz13), (fun_mk (st := s__law_pair) lz13 cz13 kz13).binds (ps := ["deck", "many"]) fun _ _ _ _ _ _ us hl => match us, hl with | [_, _], _ => rfl, PySem.W.mg_of X G az13,
   fz14, _, (fun_mk (st := s__law_net) lz14 cz14 kz14), (fun_mk (st := s__law_net) lz14 cz14 kz14).binds (ps := ["deck", "many"]) fun _ _ _ _ _ _ us hl => match us, hl with | [_, _], _ => rfl, PySem.W.mg_of X G az14,
   fz15, _, (fun_mk (st := s__law_right) lz15 cz15 kz15), (fun_mk (st := s__law_right) lz15 cz15 kz15).binds (ps := ["net", "many"]) fun _ _ _ _ _ _ us hl => match us, hl with | [_, _], _ => rfl, PySem.W.mg_of X G az15,
   PySem.W.mg_none_of X G z_len,
   PySem.W.mg_none_of X G z_range,
   PySem.W.mg_none_of X G z_tuple,
   PySem.W.mg_none_of X G z_isinstance,
   PySem.W.mg_none_of X G z_list,
   PySem.W.mg_none_of X G z_int,
   PySem.W.mg_none_of X G z_bool,
   PySem.W.mg_none_of X G z_sorted,
   PySem.W.mg_none_of X G z_sum,
   PySem.W.mg_none_of X G z_all,
   PySem.W.mg_none_of X G z_enumerate,
   tt,
   ii,
   ib,
   it⟩⟩
theorem walk {l : PySem.W.OpenLaw} {q : Program} {loose : List Str} {XP : (Str → Option Value) → Heap → Prop} {YP : World → Heap → Prop} {d : DefRec} {K : Params → PySem.W.Frag} (hn : l.most = some 63) (hdf : d.params.defaults = [])
  (hY : ∀ (w : World) (h : Heap), YP w h → (K w.params).In h)
  (F : ∀ (w : World) (mg : Str → Option Value) (fa : Addr) (h : Heap), (K w.params).In h → h.Ns mainGlobals mg → mg d.name = some (.ref fa) →
   ∃ fd : FuncData, (∀ (s : Shared) (u : Value), BindsTo s fd ⟨[u], []⟩ [("script", u)]) ∧ ∀ base : Heap, (K w.params).In base → base.Ns mainGlobals mg → FnOk l.prog w (K w.params) mg base CX0 5 fa fd ["script"] (spLaw (K w.params))) :
  PySem.W.WalkO q loose XP YP l.row.toRowW d [] (fun f vs => PySem.call f vs) :=
 L2.walk_of (n := 63) (k := 5) (x := "script") (CX := fun _ => CX0) (sp := fun w => spLaw (K w.params)) hn (by decide) hdf ⟨rfl, by decide, by decide⟩ hY F (fun _ _ a ns hl _ hS => ⟨a, ns, rfl, hS, hl, fun _ => rfl⟩) fun _ _ _ _ _ z => z
end K47
def PySem.W.Fast.tw16573707549127236710 : Nat := 0
def PySem.W.Fast.tw15788802007669093099 : Nat := 0
def PySem.W.Fast.tw8354288509952521873 : Nat := 0
open PySem PySem.W PyProof.Rows
set_option maxRecDepth 100000 in
set_option maxHeartbeats 0 in
theorem PySem.Challenge.cw_ordertext_k47_beats_holds : PySem.Challenge.rw_ordertext_k47_beats.Holds := by
 w_on; o_law; k_head; (case hw => w_witness2)
 k_fill
 refine K47.walk (l := PySem.Challenge.rw_ordertext_k47_beats) rfl rfl (fun w h Y => PySem.W.kIn_of Y) ?F
 case F =>
  intro w mg fa h KX G hmg
  refine' K47.all_mk KX G hmg ?az0 ?lz0 ?cz0 ?kz0 ?az1 ?lz1 ?cz1 ?kz1 ?az2 ?lz2 ?cz2 ?kz2 ?az3 ?lz3 ?cz3 ?kz3 ?az4 ?lz4 ?cz4 ?kz4 ?az5 ?lz5 ?cz5 ?kz5 ?az6 ?lz6 ?cz6 ?kz6 ?az7 ?lz7 ?cz7 ?kz7 ?az8 ?lz8 ?cz8 ?kz8 ?az9 ?lz9 ?cz9 ?kz9 ?az10 ?lz10 ?cz10 ?kz10 ?az11 ?lz11 ?cz11 ?kz11 ?az12 ?lz12 ?cz12 ?kz12 ?az13 ?lz13 ?cz13 ?kz13 ?az14 ?lz14 ?cz14 ?kz14 ?az15 ?lz15 ?cz15 ?kz15 ?az16 ?lz16 ?cz16 ?kz16 ?z_len ?z_range ?z_tuple ?z_isinstance ?z_list ?z_int ?z_bool ?z_sorted ?z_sum ?z_all ?z_enumerate ?tt ?ii ?ib ?it
  (case az0 => k_is)
  (case lz0 => k_is)
  (case cz0 => k_is)
  (case kz0 => k_is)
  (case az1 => k_is)
  (case lz1 => k_is)
  (case cz1 => k_is)
  (case kz1 => k_is)
  (case az2 => k_is)
  (case lz2 => k_is)
  (case cz2 => k_is)
  (case kz2 => k_is)
  (case az3 => k_is)
  (case lz3 => k_is)
  (case cz3 => k_is)
  (case kz3 => k_is)
  (case az4 => k_is)
  (case lz4 => k_is)
  (case cz4 => k_is)
  (case kz4 => k_is)
  (case az5 => k_is)
  (case lz5 => k_is)
  (case cz5 => k_is)
  (case kz5 => k_is)
  (case az6 => k_is)
  (case lz6 => k_is)
  (case cz6 => k_is)
  (case kz6 => k_is)
  (case az7 => k_is)
  (case lz7 => k_is)
  (case cz7 => k_is)
  (case kz7 => k_is)
  (case az8 => k_is)
  (case lz8 => k_is)
  (case cz8 => k_is)
  (case kz8 => k_is)
  (case az9 => k_is)
  (case lz9 => k_is)
  (case cz9 => k_is)
  (case kz9 => k_is)
  (case az10 => k_is)
  (case lz10 => k_is)
  (case cz10 => k_is)
  (case kz10 => k_is)
  (case az11 => k_is)
  (case lz11 => k_is)
  (case cz11 => k_is)
  (case kz11 => k_is)
  (case az12 => k_is)
  (case lz12 => k_is)
  (case cz12 => k_is)
  (case kz12 => k_is)
  (case az13 => k_is)
  (case lz13 => k_is)
  (case cz13 => k_is)
  (case kz13 => k_is)
  (case az14 => k_is)
  (case lz14 => k_is)
  (case cz14 => k_is)
  (case kz14 => k_is)
  (case az15 => k_is)
  (case lz15 => k_is)
  (case cz15 => k_is)
  (case kz15 => k_is)
  (case az16 => k_is)
  (case lz16 => k_is)
  (case cz16 => k_is)
  (case kz16 => k_is)
  (case z_len => k_is)
  (case z_range => k_is)
  (case z_tuple => k_is)
  (case z_isinstance => k_is)
  (case z_list => k_is)
  (case z_int => k_is)
  (case z_bool => k_is)
  (case z_sorted => k_is)
  (case z_sum => k_is)
  (case z_all => k_is)
  (case z_enumerate => k_is)
  (case tt => first | kit_is | k_is | rfl)
  (case ii => first | kit_is | k_is | rfl)
  (case ib => first | kit_is | k_is | rfl)
  (case it => first | kit_is | k_is | rfl)
