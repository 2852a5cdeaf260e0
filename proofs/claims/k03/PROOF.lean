import PyProof.Rows.All
import Wide.All
import OpenK.AllK
import Wide.FinOn
import Lean
import PyProof.EqAt
import PyProof.EqKinds
import PyProof.TupleCall
import PySem.Challenge.RW_ordertext_k03_numbers_read
set_option Elab.async false
set_option linter.all false
set_option maxRecDepth 100000
namespace L2
open PySem PySem.Spec PyProof.Rows
abbrev Key := Sum Int Str
def keyIs : Key → Value → Bool
 | .inl k, v => Value.isInt k v
 | .inr x, v => Value.isStrOf x v
def keyH (w : World) : Key → Int
 | .inl k => hashInt k
 | .inr x => hashStr w x
theorem keyIs_shape : ∀ {k : Key} {v : Value}, keyIs k v = true → (∃ i t, k = Sum.inl i ∧ v = Value.int i t) ∨ (∃ x t, k = Sum.inr x ∧ v = Value.str x t)
 | .inl i, v, h => by
  obtain ⟨t, e⟩ := Value.isInt_shape (k := i) (v := v) h
  exact .inl ⟨i, t, rfl, e⟩
 | .inr x, v, h => by
  obtain ⟨t, e⟩ := Value.isStrOf_shape (x := x) (v := v) h
  exact .inr ⟨x, t, rfl, e⟩
theorem key_ll (a b : Int) : decide ((Sum.inl a : Key) = Sum.inl b) = (a == b) := by
 by_cases e : a = b
 ·subst e; simp
 ·have h : ¬ (Sum.inl a : Key) = Sum.inl b := fun q => e (Sum.inl.inj q)
  rw [decide_eq_false h]
  exact (beq_eq_false_iff_ne.mpr e).symm
theorem key_rr (a b : Str) : decide ((Sum.inr a : Key) = Sum.inr b) = decide (a = b) := by
 by_cases e : a = b
 ·subst e; simp
 ·have h : ¬ (Sum.inr a : Key) = Sum.inr b := fun q => e (Sum.inr.inj q)
  rw [decide_eq_false h, decide_eq_false e]
theorem key_lr (a : Int) (b : Str) : decide ((Sum.inl a : Key) = Sum.inr b) = false := decide_eq_false (fun q => nomatch q)
theorem key_rl (a : Str) (b : Int) : decide ((Sum.inr a : Key) = Sum.inl b) = false := decide_eq_false (fun q => nomatch q)
def mixKind (prog : Program) (w : World) : PySem.KeyKind prog w Key where
 is := keyIs
 hash := keyH w
 inj := fun v a b ha hb => by
  rcases keyIs_shape ha with ⟨i, t, rfl, rfl⟩ | ⟨x, t, rfl, rfl⟩
  ·rcases keyIs_shape hb with ⟨j, u, rfl, e⟩ | ⟨y, u, rfl, e⟩
   ·injection e with e1 _; rw [e1]
   ·exact nomatch e
  ·rcases keyIs_shape hb with ⟨j, u, rfl, e⟩ | ⟨y, u, rfl, e⟩
   ·exact nomatch e
   ·injection e with e1 _; rw [e1]
 byValue := fun k v h => by
  rcases keyIs_shape h with ⟨i, t, rfl, rfl⟩ | ⟨x, t, rfl, rfl⟩ <;> rfl
 pyHash := fun hv h => by
  rcases keyIs_shape hv with ⟨i, t, rfl, rfl⟩ | ⟨x, t, rfl, rfl⟩
  ·exact wpAny_pyHash_int h
  ·exact wpAny_pyHash_str h
 eqBool := fun hu hv h => by
  rcases keyIs_shape hu with ⟨i, t, rfl, rfl⟩ | ⟨x, t, rfl, rfl⟩
  ·rcases keyIs_shape hv with ⟨j, u, rfl, rfl⟩ | ⟨y, u, rfl, rfl⟩
   ·rw [key_ll] at h; exact wpAny_eqBool_int h
   ·rw [key_lr] at h; exact SeqAt.EqAt.int_str i t y u _ _ _ _ h
  ·rcases keyIs_shape hv with ⟨j, u, rfl, rfl⟩ | ⟨y, u, rfl, rfl⟩
   ·rw [key_rl] at h; exact SeqAt.EqAt.str_int x t j u _ _ _ _ h
   ·rw [key_rr] at h; exact wpAny_eqBool_str h
 «strs» := fun k x t v h => by
  rcases keyIs_shape h with ⟨i, u, rfl, e⟩ | ⟨y, u, rfl, e⟩
  ·exact nomatch e
  ·injection e with e1 _
   subst e1
   cases v <;> rfl
end L2
namespace L2
open PySem PySem.Spec PyProof.Rows
inductive V where
 | non | bl (b : Bool) | int (i : Int) | str (x : Str) | byt (b : Array UInt8) | flt (b : UInt64) | ref (a : Addr) | ty (n : String)
 deriving DecidableEq
def RelV : V → Value → Prop
 | .non, u => u = Value.none
 | .bl b, u => u = Value.bool b
 | .int i, u => ∃ t, u = Value.int i t
 | .str x, u => ∃ t, u = Value.str x t
 | .byt b, u => ∃ t, u = Value.bytes b t
 | .flt b, u => ∃ t, u = Value.float b t
 | .ref a, u => u = Value.ref a
 | .ty n, u => u = Value.type n
abbrev Vals : List V → List Value → Prop := Paired RelV
theorem Vals.length {xs : List V} {us : List Value} (r : Vals xs us) : xs.length = us.length := Paired.length r
theorem Vals.get : ∀ {xs : List V} {us : List Value} {i : Nat} {x : V}, Vals xs us → xs[i]? = some x → ∃ u, us[i]? = some u ∧ RelV x u
 | _, _, _, _, .nil, e => by simp at e
 | _, _, 0, _, .cons r _, e => by simp at e; subst e; exact ⟨_, rfl, r⟩
 | _, _, i + 1, x, .cons _ t, e => by
  obtain ⟨u, h1, h2⟩ := Vals.get (i := i) (x := x) t (by simpa using e)
  exact ⟨u, by simpa using h1, h2⟩
theorem Vals.set {x : V} {u : Value} (r : RelV x u) : ∀ {xs : List V} {us : List Value} (i : Nat), Vals xs us → Vals (xs.set i x) (us.set i u)
 | _, _, _, .nil => .nil
 | _, _, 0, .cons _ t => .cons r t
 | _, _, i + 1, .cons q t => .cons q (Vals.set r i t)
theorem Vals.append : ∀ {xs ys : List V} {us ws : List Value}, Vals xs us → Vals ys ws → Vals (xs ++ ys) (us ++ ws)
 | _, _, _, _, .nil, s => s
 | _, _, _, _, .cons r t, s => .cons r (Vals.append t s)
theorem Vals.take : ∀ {xs : List V} {us : List Value} (n : Nat), Vals xs us → Vals (xs.take n) (us.take n)
 | _, _, 0, _ => .nil
 | _, _, _ + 1, .nil => .nil
 | _, _, n + 1, .cons r t => .cons r (Vals.take n t)
theorem Vals.drop : ∀ {xs : List V} {us : List Value} (n : Nat), Vals xs us → Vals (xs.drop n) (us.drop n)
 | _, _, 0, r => r
 | _, _, _ + 1, .nil => .nil
 | _, _, n + 1, .cons _ t => Vals.drop n t
def RelO : Option V → Option Value → Prop
 | some v, some u => RelV v u
 | none, none => True
 | _, _ => False
def KV {κ : Type} : List (κ × V) → List (κ × Value) → Prop := Paired fun (p : κ × V) (q : κ × Value) => p.1 = q.1 ∧ RelV p.2 q.2
def kV : Key → V
 | .inl i => .int i
 | .inr x => .str x
inductive HO where
 
 | lst (xs : List V)
 
 | tup (xs : List V)
 
 | dK (kvs : List (Key × V)) | dT (kvs : List (List Key × V))
 
 | set (S : Int → Bool) (n : Nat)
 
 | ins (C dx : Addr) (fs : List (Str × V))
 
 | own (x : Addr)
 
 | xd (fs : List (Str × V))
 
 | met (f x : Addr)
 
 | rng (lo hi : Int)
 
 | frz (o : Obj) (u : HO)
 
 | tbl (cr : Nat → Nat → Option Str)
 
 | ext (φ : Heap → Prop)
abbrev Hp := Addr → Option HO
def upd (H : Hp) (a : Addr) (o : HO) : Hp := fun b => if b = a then some o else H b
theorem upd_same {H : Hp} {a : Addr} {o : HO} : upd H a o a = some o := by unfold upd; rw [if_pos rfl]
theorem upd_ne {H : Hp} {a b : Addr} {o : HO} (h : b ≠ a) : upd H a o b = H b := by unfold upd; rw [if_neg h]
theorem ne_of {H : Hp} {a b : Addr} {o u : HO} (h : H a = some o) (h' : H b = some u) (d : o ≠ u) : a ≠ b := by
 intro e; subst e; rw [h] at h'; exact d (Option.some.inj h')
theorem ne_of_none {H : Hp} {a b : Addr} {o : HO} (h : H a = some o) (h' : H b = none) : a ≠ b := by
 intro e; subst e; rw [h] at h'; cases h'
def CodeOf (oc : Obj) (q : Str) : Prop := ∃ (vs : Array Value) (t : Tok), oc.data = .fields vs ∧ vs[1]? = some (.str q t)
def NoDict (h : Heap) (a : Addr) : Prop := ∃ o, h.get? a = some o ∧ o.dict = none
section
variable (P : Program) (w : World)
def ObjOk (H : Hp) (h : Heap) (a : Addr) : HO → Prop
 | .lst xs => xs.length ≤ sizeLine ∧ ∃ (its : List Value) (n : Nat), Vals xs its ∧ h.get? a = some { cls := .type "list", data := .seq its.toArray n }
 | .tup xs => xs.length ≤ sizeLine ∧ ∃ its : List Value, Vals xs its ∧ IsTup h a its.toArray ∧ NoDict h a
 | .dK kvs => kvs.length ≤ sizeLine ∧ (a == sysModules) = false ∧ ∃ vs, KV kvs vs ∧ h.DictOf (mixKind P w) a vs
 | .dT kvs => kvs.length ≤ sizeLine ∧ (a == sysModules) = false ∧ ∃ xs : List (List Key × Addr × Value),
   Paired (fun (p : List Key × V) (q : List Key × Addr × Value) => p.1 = q.1 ∧ H q.2.1 = some (.tup (p.1.map kV)) ∧ RelV p.2 q.2.2) kvs xs ∧
   ∃ o es ep, h.get? a = some o ∧ o.ExactDict ∧ o.data = .dict es ep ∧ es.toList = xs.map (entryOfKey (tupleKind (mixKind P w))) ∧ (xs.map (·.1)).Nodup
 | .set S n => h.SetOf (intKind P w) a S n
 | .ins C dx fs => H dx = some (.own a) ∧ fs.length ≤ 1000 ∧ dx ≠ a ∧ h.get? a = some (PySem.W.instObj C dx) ∧
   ∃ mA, h.Ns1 dx mA ∧ (∀ f, RelO (fs.lookup f) (mA f)) ∧ PySem.Within mA (fs.map (·.1))
 | .own _ => ∃ o, h.get? a = some o
 | .xd fs => ∃ mA, h.Ns1 a mA ∧ ∀ f, RelO (fs.lookup f) (mA f)
 | .rng lo hi => ∃ t u v, h.get? a = some { cls := .type "range", data := .fields #[.int lo t, .int hi u, .int 1 v] }
 | .frz o u => h.get? a = some o ∧ ObjOk H h a u
 | .tbl cr => ∃ ps : Array Value, h.get? a = some { cls := .none, data := .fields ps } ∧ TriplesOk ps.toList ∧ ∀ (pos : Pos) (v : Value), codeAmong pos ps.toList = some v →
   ∃ (c : Addr) (oc : Obj) (q : Str), v = .ref c ∧ cr pos.line pos.col = some q ∧ H c = some (.frz oc (.own c)) ∧ CodeOf oc q
 | .met f x => h.get? a = some (PySem.W.methodObj (.ref f) (.ref x))
 | .ext φ => φ h ∧ (∃ o, h.get? a = some o) ∧ ∀ h1 h2 : Heap, φ h1 → (∀ o, h1.get? a = some o → h2.get? a = some o) → φ h2
def HOk (H : Hp) (h : Heap) : Prop := ∀ a o, H a = some o → ObjOk P w H h a o
end
section
variable {P : Program} {w : World} {H H' : Hp} {h h' : Heap} {a : Addr} {o : HO}
theorem ObjOk.lt (x : ObjOk P w H h a o) : a < h.objs.size := by
 cases o with
 | lst xs => obtain ⟨_, _, _, _, e⟩ := x; exact Heap.lt_size e
 | tup xs => obtain ⟨_, _, _, p, _⟩ := x; exact p.lt
 | dK kvs => obtain ⟨_, _, _, _, o, _, _, e, _⟩ := x; exact Heap.lt_size e
 | dT kvs => obtain ⟨_, _, _, _, o, _, _, e, _⟩ := x; exact Heap.lt_size e
 | set S n => obtain ⟨o, _, _, _, e, _⟩ := x; exact Heap.lt_size e
 | ins C dx fs => obtain ⟨_, _, _, e, _⟩ := x; exact Heap.lt_size e
 | own y => obtain ⟨_, e⟩ := x; exact Heap.lt_size e
 | xd fs => obtain ⟨_, ⟨_, _, _, e, _⟩, _⟩ := x; exact Heap.lt_size e
 | rng lo hi => obtain ⟨_, _, _, e⟩ := x; exact Heap.lt_size e
 | frz ob u => obtain ⟨e, _⟩ := x; exact Heap.lt_size e
 | tbl cr => obtain ⟨_, e, _⟩ := x; exact Heap.lt_size e
 | met f y => exact Heap.lt_size (show h.get? a = some _ from x)
 | ext φ => obtain ⟨_, ⟨_, e⟩, _⟩ := x; exact Heap.lt_size e
theorem Paired.mapP {α β : Type} {F G : α → β → Prop} : ∀ {l₁ : List α} {l₂ : List β}, Paired F l₁ l₂ → (∀ a b, F a b → G a b) → Paired G l₁ l₂
 | _, _, .nil, _ => .nil
 | _, _, .cons r t, f => .cons (f _ _ r) (Paired.mapP t f)
theorem ObjOk.stay (x : ObjOk P w H h a o) (k : ∀ b u, (b = a ∨ H b = some (.own a)) → h.get? b = some u → h'.get? b = some u)
  (ho : ∀ b, H b = some (.own a) → H' b = some (.own a)) (ht : ∀ b xs, H b = some (.tup xs) → H' b = some (.tup xs)) (hz : ∀ b o u, H b = some (.frz o u) → H' b = some (.frz o u)) : ObjOk P w H' h' a o := by
 induction o with
 | lst xs => obtain ⟨z, its, n, r, e⟩ := x; exact ⟨z, its, n, r, k _ _ (.inl rfl) e⟩
 | tup xs => obtain ⟨z, its, r, ⟨ob, e, c⟩, od, e', d'⟩ := x; exact ⟨z, its, r, ⟨ob, k _ _ (.inl rfl) e, c⟩, od, k _ _ (.inl rfl) e', d'⟩
 | dK kvs => obtain ⟨z, y, vs, r, ob, es, ep, e, c⟩ := x; exact ⟨z, y, vs, r, ob, es, ep, k _ _ (.inl rfl) e, c⟩
 | dT kvs =>
  obtain ⟨z, y, xs, r, ob, es, ep, e, c⟩ := x
  exact ⟨z, y, xs, Paired.mapP r fun p q z => ⟨z.1, ht _ _ z.2.1, z.2.2⟩, ob, es, ep, k _ _ (.inl rfl) e, c⟩
 | set S n => obtain ⟨ob, es, ep, t, e, c⟩ := x; exact ⟨ob, es, ep, t, k _ _ (.inl rfl) e, c⟩
 | ins C dx fs =>
  obtain ⟨d, z, ne, e, mA, ⟨od, es, ep, e2, c⟩, r⟩ := x
  exact ⟨ho _ d, z, ne, k _ _ (.inl rfl) e, mA, ⟨od, es, ep, k _ _ (.inr d) e2, c⟩, r⟩
 | own y => obtain ⟨ob, e⟩ := x; exact ⟨ob, k _ _ (.inl rfl) e⟩
 | xd fs => obtain ⟨mA, ⟨od, es, ep, e, c⟩, r⟩ := x; exact ⟨mA, ⟨od, es, ep, k _ _ (.inl rfl) e, c⟩, r⟩
 | rng lo hi => obtain ⟨t, u, v, e⟩ := x; exact ⟨t, u, v, k _ _ (.inl rfl) e⟩
 | frz ob u ih => obtain ⟨e, q⟩ := x; exact ⟨k _ _ (.inl rfl) e, ih q⟩
 | tbl cr =>
  obtain ⟨ps, e, ht3, hc⟩ := x
  exact ⟨ps, k a _ (.inl rfl) e, ht3, fun pos v q => let ⟨c, oc, z, h1, h2, h3, h4⟩ := hc pos v q; ⟨c, oc, z, h1, h2, hz _ _ _ h3, h4⟩⟩
 | met f y =>
  have e : h.get? a = some (PySem.W.methodObj (.ref f) (.ref y)) := x
  show h'.get? a = some (PySem.W.methodObj (.ref f) (.ref y))
  exact k a _ (.inl rfl) e
 | ext φ => obtain ⟨p, ⟨o, e⟩, st⟩ := x; exact ⟨st _ _ p fun o q => k _ _ (.inl rfl) q, ⟨o, k _ _ (.inl rfl) e⟩, st⟩
theorem HOk.lt (x : HOk P w H h) (e : H a = some o) : a < h.objs.size := (x a o e).lt
theorem HOk.fresh (x : HOk P w H h) (e : h.objs.size ≤ a) : H a = none := by
 cases q : H a with
 | none => rfl
 | some u => exact absurd (Nat.lt_of_lt_of_le (x.lt q) e) (Nat.lt_irrefl _)
theorem HOk.kept (x : HOk P w H h) (k : ∀ b u, h.get? b = some u → h'.get? b = some u) : HOk P w H h' := fun a o e =>
 (x a o e).stay (fun b u _ q => k b u q) (fun _ q => q) (fun _ _ q => q) fun _ _ _ q => q
theorem HOk.laid (x : HOk P w H h) (k : ∀ b u, h.get? b = some u → h'.get? b = some u) (hp : h.objs.size ≤ a) (new : ObjOk P w (upd H a o) h' a o) : HOk P w (upd H a o) h' := fun b u e => by
 have hn := x.fresh hp
 by_cases hb : b = a
 ·subst hb; rw [upd_same] at e; cases e; exact new
 ·rw [upd_ne hb] at e
  exact (x b u e).stay (fun c v _ q => k c v q) (fun c q => by rw [upd_ne (ne_of_none q hn)]; exact q) (fun c xs q => by rw [upd_ne (ne_of_none q hn)]; exact q) fun c o u q => by rw [upd_ne (ne_of_none q hn)]; exact q
end
def Rd (H : Hp) (a : Addr) (u : HO) : Prop := H a = some u ∨ ∃ o, H a = some (.frz o u)
theorem Rd.ok {P : Program} {w : World} {H : Hp} {h : Heap} {a : Addr} {u : HO} (r : Rd H a u) (x : HOk P w H h) : ObjOk P w H h a u := by
 rcases r with r | ⟨o, r⟩
 ·exact x a u r
 ·obtain ⟨_, q⟩ := x a _ r
  exact q
def Mut : Option HO → Prop
 | some (.lst _) => True
 | some (.dK _) => True
 | some (.dT _) => True
 | some (.set _ _) => True
 | some (.ins _ _ _) => True
 | some (.ext _) => True
 | _ => False
section
variable {P : Program} {w : World} {H : Hp} {h h' : Heap} {x e : Addr} {o' : HO}
theorem HOk.write (ok : HOk P w H h) (mu : Mut (H x)) (he : e = x ∨ H e = some (.own x)) (k : ∀ b u, b ≠ e → h.get? b = some u → h'.get? b = some u) (heo : ∃ u, h'.get? e = some u)
  (new : ObjOk P w (upd H x o') h' x o') : HOk P w (upd H x o') h' := fun b u q => by
 have nown : ∀ c y, H c = some (.own y) → c ≠ x := fun c y r z => by subst z; rw [r] at mu; exact mu
 have ntup : ∀ c xs, H c = some (.tup xs) → c ≠ x := fun c xs r z => by subst z; rw [r] at mu; exact mu
 have nfrz : ∀ c o u, H c = some (.frz o u) → c ≠ x := fun c o u r z => by subst z; rw [r] at mu; exact mu
 by_cases hb : b = x
 ·subst hb; rw [upd_same] at q; cases q; exact new
 ·rw [upd_ne hb] at q
  by_cases hbe : b = e
  ·have q' : H b = some (.own x) := by
    rcases he with z | z
    ·exact absurd (hbe.trans z) hb
    ·rw [hbe]; exact z
   rw [q] at q'; cases q'
   obtain ⟨v, hv⟩ := heo
   exact ⟨v, by rw [hbe]; exact hv⟩
  ·refine (ok b u q).stay (fun c v hc r => k c v ?_ r) (fun c r => by rw [upd_ne (nown c b r)]; exact r) (fun c xs r => by rw [upd_ne (ntup c xs r)]; exact r) fun c o u r => by rw [upd_ne (nfrz c o u r)]; exact r
   rcases hc with rfl | hc
   ·exact hbe
   ·rintro rfl
    rcases he with z | z
    ·exact nown c b hc z
    ·rw [hc] at z; cases z; exact hb rfl
end
structure Un (fs ex : List Addr) (H H' : Hp) (h h' : Heap) : Prop where
 keep : ∀ b o, h.get? b = some o → H b = none → b ∉ fs → b ∉ ex → h'.get? b = some o
 slot : ∀ b o, h.get? b = some o → H b = none → b ∈ fs → b ∉ ex → ∃ sl, h'.get? b = some { o with slots := sl }
 free : ∀ b o, h.get? b = some o → H b = none → b ∉ ex → H' b = none
 there : ∀ b o, h.get? b = some o → b ∉ ex → ∃ o', h'.get? b = some o'
 tups : ∀ b xs, H b = some (.tup xs) → H' b = some (.tup xs)
 frzs : ∀ b o u, H b = some (.frz o u) → H' b = some (.frz o u)
 tbls : ∀ b cr, H b = some (.tbl cr) → H' b = some (.tbl cr)
section
variable {fs fs' ex ex' : List Addr} {H H1 H2 : Hp} {h h1 h2 h' : Heap} {a x e : Addr} {o : HO}
theorem Un.any (u : Un fs ex H H1 h h1) {b : Addr} {ob : Obj} (q : h.get? b = some ob) (n : H b = none) (hx : b ∉ ex) : ∃ sl, h1.get? b = some { ob with slots := sl } := by
 by_cases hb : b ∈ fs
 ·exact u.slot b ob q n hb hx
 ·exact ⟨ob.slots, u.keep b ob q n hb hx⟩
theorem Un.kept (k : ∀ b u, h.get? b = some u → h'.get? b = some u) : Un fs ex H H h h' :=
 ⟨fun b ob q _ _ _ => k b ob q, fun b ob q _ _ _ => ⟨ob.slots, k b ob q⟩, fun _ _ _ n _ => n, fun b ob q _ => ⟨ob, k b ob q⟩, fun _ _ q => q, fun _ _ _ q => q, fun _ _ q => q⟩
theorem Un.refl : Un fs ex H H h h := Un.kept fun _ _ q => q
theorem Un.laid (k : ∀ b u, h.get? b = some u → h'.get? b = some u) (hp : h.objs.size ≤ a) (hn : H a = none) : Un fs ex H (upd H a o) h h' where
 keep := fun b u q _ _ _ => k b u q
 slot := fun b u q _ _ _ => ⟨u.slots, k b u q⟩
 free := fun b u q n _ => by rw [upd_ne (Nat.ne_of_lt (Nat.lt_of_lt_of_le (Heap.lt_size q) hp))]; exact n
 there := fun b u q _ => ⟨u, k b u q⟩
 tups := fun b xs q => by rw [upd_ne (ne_of_none q hn)]; exact q
 frzs := fun b u xs q => by rw [upd_ne (ne_of_none q hn)]; exact q
 tbls := fun b cr q => by rw [upd_ne (ne_of_none q hn)]; exact q
theorem Un.write (mu : Mut (H x)) (he : e = x ∨ H e = some (.own x)) (k : ∀ b u, b ≠ e → h.get? b = some u → h'.get? b = some u) (heo : ∃ u, h'.get? e = some u) : Un fs ex H (upd H x o) h h' := by
 have hx : ∀ b, H b = none → b ≠ x := fun b n z => by subst z; rw [n] at mu; exact mu
 have hb : ∀ b, H b = none → b ≠ e := fun b n z => by
  subst z
  rcases he with r | r
  ·exact hx b n r
  ·rw [n] at r; cases r
 have hm : ∀ b u, H b = some u → ¬ Mut (some u) → b ≠ x := fun b u q nm z => by subst z; rw [q] at mu; exact nm mu
 refine ⟨fun b u q n _ _ => k b u (hb b n) q, fun b u q n _ _ => ⟨u.slots, k b u (hb b n) q⟩, fun b u q n _ => by rw [upd_ne (hx b n)]; exact n, fun b u q _ => ?_,
  fun b xs q => by rw [upd_ne (hm b _ q fun z => z)]; exact q, fun b u xs q => by rw [upd_ne (hm b _ q fun z => z)]; exact q, fun b cr q => by rw [upd_ne (hm b _ q fun z => z)]; exact q⟩
 by_cases hbe : b = e
 ·subst hbe; exact heo
 ·exact ⟨u, k b u hbe q⟩
end
def trk (h : Heap) (H : Hp) : List Addr := (List.range h.objs.size).filter fun a => (H a).isSome
def hidT (h : Heap) (H : Hp) : Heap := PySem.W.hideAll h (trk h H)
theorem hidT_size (h : Heap) (H : Hp) : (hidT h H).objs.size = h.objs.size := PySem.W.hideAll_size _ _
theorem hidT_get {h : Heap} {H : Hp} {b : Addr} {o : Obj} (e : h.get? b = some o) (n : H b = none) : (hidT h H).get? b = some o :=
 PySem.W.hideAll_get _ e fun hm => by
  have q : (H b).isSome = true := (List.mem_filter.mp hm).2
  rw [n] at q; simp at q
theorem of_hidT {h : Heap} {H : Hp} {b : Addr} {o : Obj} (e : (hidT h H).get? b = some o) : h.get? b = some o ∧ H b = none := by
 have e' : h.get? b = some o := PySem.W.of_hideAll (trk h H) e
 refine ⟨e', ?_⟩
 cases q : H b with
 | none => rfl
 | some x =>
  have hm : b ∈ trk h H := List.mem_filter.mpr ⟨List.mem_range.mpr (Heap.lt_size e'), by simp [q]⟩
  have z : (hidT h H).get? b = none := PySem.W.hideAll_none (trk h H) hm
  rw [z] at e; cases e
end L2
namespace L2
open PySem PySem.Spec PyProof.Rows
structure Mod (K : PySem.W.Frag) (mg : Str → Option Value) (base : Heap) : Prop where
 kin : K.In base
 glob : base.Ns mainGlobals mg
 blt : ∃ mb, base.Ns builtinsNs mb ∧ ∀ x : Str, x ≠ "__name__" → mb x = bootBuiltins x
 nolimit : base.NoLimit
structure Cx where
 prog : Program
 w : World
 K : PySem.W.Frag
 mg : Str → Option Value
 base : Heap
 A : Around
 N : List Str
 s₀ : Shared
 H₀ : Hp
 env : Env
 outer : List Env
 stack : List Env
 ex : List Addr
 fn : Str → Bool
 calm : Bool
 pn : List (Addr × Obj)
 xe : Value → Shared → Prop
def frs (l : List Env) : List Addr := l.filterMap (·.frame)
abbrev Cx.fs (X : Cx) : List Addr := frs X.outer
def Vis (sc : Scope) (x : Str) : Prop := sc.names.lookup x = some .local ∨ sc.names.lookup x = some .cell ∨ sc.names.lookup x = some .free
def Loc (sc : Scope) (x : Str) : Prop := sc.names.lookup x = some .local ∨ sc.names.lookup x = some .cell
def Look (env : Env) (h : Heap) (m : Str → Option Value) (x : Str) (u : Value) : Prop :=
 (env.kindOf x = some .local ∧ m x = some u) ∨ ((env.kindOf x = some .cell ∨ env.kindOf x = some .free) ∧ ∃ c, env.cells.lookup x = some c ∧ h.IsCell c (some u))
structure Cx.Ok (X : Cx) : Prop where
 mod : Mod X.K X.mg X.base
 kind : X.env.scope.kind = .function
 glob : X.env.globals = mainGlobals
 blt : X.env.builtins = builtinsNs
 above : X.s₀.heap.objs.size ≤ X.env.locals
 inj : ∀ x y c, X.env.cells.lookup x = some c → X.env.cells.lookup y = some c → x = y
 has : ∀ x, (X.env.kindOf x = some .cell ∨ X.env.kindOf x = some .free) → ∃ c, X.env.cells.lookup x = some c
 cab : ∀ x c, X.fn x = true → X.env.cells.lookup x = some c → X.s₀.heap.objs.size ≤ c
 hd : X.calm = true → X.A.handled = none
 frames : X.A.frames = some X.stack
 stk : X.stack = X.outer ∨ (X.stack = X.env :: X.outer ∧ X.env.frame = some X.env.locals)
 exf : ∀ b ∈ X.ex, b ≠ X.env.locals ∧ ∀ x c, X.env.cells.lookup x = some c → c ≠ b
 bs : ∀ b o, X.base.get? b = some o → X.s₀.heap.get? b = some o ∧ X.H₀ b = none
 bsz : X.base.objs.size ≤ X.s₀.heap.objs.size
 noex : ∀ b o, X.base.get? b = some o → b ∉ X.ex
 exfs : ∀ b ∈ X.ex, b ∉ X.fs
 funs : X.s₀.heap.FunFrames X.base X.outer
 frf : ∀ b ∈ X.fs, X.H₀ b = none
structure Inv (X : Cx) (pins : List (Addr × Obj)) (σ : List (Option V)) (H : Hp) (s : Shared) : Prop where
 ok : X.Ok
 os : s.os = X.s₀.os
 bare : AllBare s.gens
 base : Un X.fs X.ex X.H₀ H X.s₀.heap s.heap
 loc : ∃ m, s.heap.Ns X.env.locals m ∧ ∀ (i : Nat) (x : Str) (v : V), X.N[i]? = some x → σ[i]? = some (some v) → Vis X.env.scope x → ∃ u, RelV v u ∧ Look X.env s.heap m x u
 cell : ∀ x c, X.env.cells.lookup x = some c → ∃ v, s.heap.IsCell c v
 free : H X.env.locals = none
 freeC : ∀ x c, X.env.cells.lookup x = some c → H c = none
 pin : ∀ p ∈ X.pn ++ pins, s.heap.get? p.1 = some p.2 ∧ H p.1 = none ∧ p.1 ≠ X.env.locals ∧ p.1 ∉ X.fs ∧ ∀ v, p.2.data ≠ .cell v
 hok : HOk X.prog X.w H s.heap
 len : σ.length = X.N.length
section
variable {X : Cx} {pins : List (Addr × Obj)} {σ : List (Option V)} {H H' : Hp} {s : Shared} {h' : Heap}
theorem Cx.Ok.nofr (ok : X.Ok) {b : Addr} {o : Obj} (e : X.base.get? b = some o) : b ∉ X.fs := fun hb => by
 have := (ok.funs.mem hb).1
 rw [e] at this; cases this
theorem Inv.bs (I : Inv X pins σ H s) : ∀ b o, X.base.get? b = some o → s.heap.get? b = some o ∧ H b = none := fun b o e =>
 ⟨I.base.keep b o (I.ok.bs b o e).1 (I.ok.bs b o e).2 (I.ok.nofr e) (I.ok.noex b o e), I.base.free b o (I.ok.bs b o e).1 (I.ok.bs b o e).2 (I.ok.noex b o e)⟩
theorem Inv.bk (I : Inv X pins σ H s) : ∀ b o, X.base.get? b = some o → s.heap.get? b = some o := fun b o e => (I.bs b o e).1
theorem Inv.mod (I : Inv X pins σ H s) : Mod X.K X.mg X.base := I.ok.mod
theorem Inv.kIn (I : Inv X pins σ H s) : X.K.In s.heap := I.ok.mod.kin.keeps I.bk
theorem Inv.lt (I : Inv X pins σ H s) : X.env.locals < s.heap.objs.size := let ⟨_, hn, _⟩ := I.loc; hn.lt
theorem Inv.sz (I : Inv X pins σ H s) : X.s₀.heap.objs.size ≤ s.heap.objs.size := Nat.le_trans I.ok.above (Nat.le_of_lt I.lt)
theorem Inv.nofs (I : Inv X pins σ H s) {a : Addr} (h : s.heap.objs.size ≤ a) : a ∉ X.fs := fun hb => by
 obtain ⟨_, o, ho, _⟩ := I.ok.funs.mem hb
 exact absurd (Nat.lt_of_lt_of_le (Heap.lt_size ho) (Nat.le_trans I.sz h)) (Nat.lt_irrefl _)
theorem Inv.cne (I : Inv X pins σ H s) : ∀ x c, X.env.cells.lookup x = some c → c ≠ X.env.locals := fun x c e z => by
 obtain ⟨v, o, ho, hd⟩ := I.cell x c e
 obtain ⟨m, ⟨o', es, ep, ho', hd', _⟩, _⟩ := I.loc
 rw [z, ho'] at ho; cases ho; rw [hd'] at hd; cases hd
theorem Inv.funs (I : Inv X pins σ H s) : s.heap.FunFrames X.base X.outer := by
 have all : ∀ (l : List Env), (∀ b ∈ frs l, b ∈ X.fs) → X.s₀.heap.FunFrames X.base l → s.heap.FunFrames X.base l := by
  intro l
  induction l with
  | nil => intro _ _; trivial
  | cons env r ih =>
   intro hs hl
   obtain ⟨hk, ⟨L, o, hf, hn, ho, hd⟩, hr⟩ := hl
   have hL : L ∈ X.fs := hs L (by unfold frs; rw [List.filterMap_cons, hf]; exact List.mem_cons_self)
   obtain ⟨sl, e⟩ := I.base.slot L o ho (I.ok.frf L hL) hL fun z => I.ok.exfs L z hL
   exact ⟨hk, ⟨L, _, hf, hn, e, hd⟩, ih (fun b hb => hs b (by unfold frs; rw [List.filterMap_cons, hf]; exact List.mem_cons_of_mem _ hb)) hr⟩
 exact all X.outer (fun _ hb => hb) I.ok.funs
theorem Inv.stack (I : Inv X pins σ H s) : s.heap.FunFrames X.base X.stack := by
 rcases I.ok.stk with e | ⟨e, hf⟩
 ·rw [e]; exact I.funs
 ·rw [e]
  obtain ⟨m, hn, _⟩ := I.loc
  refine .cons (by rw [I.ok.kind]; decide) hf hn ?_ I.funs
  exact Heap.get?_none_of_le (Nat.le_trans I.ok.bsz I.ok.above)
theorem Inv.stkSub (I : Inv X pins σ H s) : ∀ b ∈ frs X.stack, b ∈ X.env.locals :: X.fs := fun b hb => by
 rcases I.ok.stk with e | ⟨e, hf⟩
 ·rw [e] at hb; exact List.mem_cons_of_mem _ hb
 ·rw [e] at hb
  unfold frs at hb
  rw [List.filterMap_cons, hf] at hb
  exact hb
theorem Inv.stkFree (I : Inv X pins σ H s) : ∀ b ∈ frs X.stack, H b = none := fun b hb => by
 rcases List.mem_cons.mp (I.stkSub b hb) with e | hb
 ·rw [e]; exact I.free
 ·obtain ⟨_, o, ho, _⟩ := I.ok.funs.mem hb
  exact I.base.free b o ho (I.ok.frf b hb) fun z => I.ok.exfs b z hb
theorem Inv.step {g' : Array GenState} {t' : Nat} {d' : Drawn} {ch : List Addr} (I : Inv X pins σ H s)
  (hch : ∀ b ∈ ch, (b ∈ X.ex ∨ X.s₀.heap.objs.size ≤ b) ∧ b ≠ X.env.locals ∧ (∀ x c, X.env.cells.lookup x = some c → c ≠ b) ∧ ∀ p ∈ X.pn ++ pins, p.1 ≠ b)
  (keep : ∀ b o, b ≠ X.env.locals → b ∉ X.fs → b ∉ ch → s.heap.get? b = some o → H b = none → h'.get? b = some o)
  (slot : ∀ b o, b ≠ X.env.locals → b ∈ X.fs → b ∉ ch → s.heap.get? b = some o → H b = none → ∃ sl, h'.get? b = some { o with slots := sl }) (free : ∀ b o, b ∉ ch → s.heap.get? b = some o → H b = none → H' b = none)
  (there : ∀ b o, b ∉ ch → s.heap.get? b = some o → ∃ o', h'.get? b = some o')
  (tups : ∀ b xs, H b = some (.tup xs) → H' b = some (.tup xs)) (frzs : ∀ b o u, H b = some (.frz o u) → H' b = some (.frz o u)) (tbls : ∀ b cr, H b = some (.tbl cr) → H' b = some (.tbl cr))
  (ns : ∀ m, s.heap.Ns X.env.locals m → h'.Ns X.env.locals m) (hok : HOk X.prog X.w H' h') (hg : AllBare g') :
  Inv X pins σ H' { s with heap := h', gens := g', drawn := d', toks := t' } := by
 have neL : ∀ b o, X.s₀.heap.get? b = some o → b ≠ X.env.locals := fun b o e => Nat.ne_of_lt (Nat.lt_of_lt_of_le (Heap.lt_size e) I.ok.above)
 have neC : ∀ b o, X.s₀.heap.get? b = some o → b ∉ X.ex → b ∉ ch := fun b o e hx hb => by
  rcases (hch b hb).1 with z | z
  ·exact hx z
  ·exact absurd (Nat.lt_of_lt_of_le (Heap.lt_size e) z) (Nat.lt_irrefl _)
 have cellK : ∀ x c, X.env.cells.lookup x = some c → ∀ v, s.heap.IsCell c v → h'.IsCell c v := fun x c e v ⟨o, ho, hd⟩ => by
  have nch : c ∉ ch := fun z => (hch c z).2.2.1 x c e rfl
  by_cases hc : c ∈ X.fs
  ·obtain ⟨sl, q⟩ := slot c o (I.cne x c e) hc nch ho (I.freeC x c e)
   exact ⟨_, q, hd⟩
  ·exact ⟨o, keep c o (I.cne x c e) hc nch ho (I.freeC x c e), hd⟩
 refine ⟨I.ok, I.os, hg, ⟨fun b o e n hb hx => ?_, fun b o e n hb hx => ?_, fun b o e n hx => ?_, fun b o e hx => ?_, fun b xs e => tups b xs (I.base.tups b xs e), fun b o xs e => frzs b o xs (I.base.frzs b o xs e), fun b ps e => ?_⟩, ?_, fun x c e => ?_, ?_, fun x c e => ?_, fun p hp => ?_, hok, I.len⟩
 ·exact keep b o (neL b o e) hb (neC b o e hx) (I.base.keep b o e n hb hx) (I.base.free b o e n hx)
 ·obtain ⟨sl, e1⟩ := I.base.slot b o e n hb hx
  obtain ⟨sl', e2⟩ := slot b _ (neL b o e) hb (neC b o e hx) e1 (I.base.free b o e n hx)
  exact ⟨sl', e2⟩
 ·obtain ⟨o', e1⟩ := I.base.there b o e hx
  exact free b o' (neC b o e hx) e1 (I.base.free b o e n hx)
 ·obtain ⟨o', e1⟩ := I.base.there b o e hx
  exact there b o' (neC b o e hx) e1
 ·exact tbls b ps (I.base.tbls b ps e)
 ·obtain ⟨m, hn, hl⟩ := I.loc
  refine ⟨m, ns m hn, fun i x v e1 e2 e3 => ?_⟩
  obtain ⟨u, r, l⟩ := hl i x v e1 e2 e3
  refine ⟨u, r, ?_⟩
  rcases l with l | ⟨k, c, e, z⟩
  ·exact .inl l
  ·exact .inr ⟨k, c, e, cellK x c e _ z⟩
 ·obtain ⟨v, z⟩ := I.cell x c e
  exact ⟨v, cellK x c e v z⟩
 ·obtain ⟨m, ⟨o, _, _, ho, _⟩, _⟩ := I.loc
  exact free _ o (fun z => (hch _ z).2.1 rfl) ho I.free
 ·obtain ⟨v, o, ho, hd⟩ := I.cell x c e
  exact free c o (fun z => (hch c z).2.2.1 x c e rfl) ho (I.freeC x c e)
 ·obtain ⟨e, n, ne, nf, d⟩ := I.pin p hp
  have nch : p.1 ∉ ch := fun z => (hch p.1 z).2.2.2 p hp rfl
  exact ⟨keep p.1 p.2 ne nf nch e n, free p.1 p.2 nch e n, ne, nf, d⟩
theorem Inv.un {t' : Nat} (I : Inv X pins σ H s) (u : Un X.fs [] H H' s.heap h') (hok : HOk X.prog X.w H' h') : Inv X pins σ H' { s with heap := h', toks := t' } := by
 obtain ⟨m, ⟨o, es, ep, ho, r⟩, _⟩ := id I.loc
 obtain ⟨sl, hL⟩ := u.any ho I.free (by simp)
 exact I.step (g' := s.gens) (d' := s.drawn) (ch := []) (fun _ z => nomatch z) (fun b o _ hb _ e n => u.keep b o e n hb (by simp)) (fun b o _ hb _ e n => u.slot b o e n hb (by simp)) (fun b o _ e n => u.free b o e n (by simp)) (fun b o _ e => u.there b o e (by simp)) u.tups u.frzs u.tbls (fun m' hm => by
  obtain ⟨o', es', ep', ho', r'⟩ := hm
  rw [ho] at ho'; cases ho'
  exact ⟨_, es', ep', hL, r'⟩) hok I.bare
theorem Inv.call {g' : Array GenState} {t' : Nat} {d' : Drawn} {ch : List Addr} (I : Inv X pins σ H s) (u : Un (frs X.stack) ch H H' s.heap h') (hok : HOk X.prog X.w H' h') (hg : AllBare g')
  (hch : ∀ b ∈ ch, (b ∈ X.ex ∨ X.s₀.heap.objs.size ≤ b) ∧ b ≠ X.env.locals ∧ (∀ x c, X.env.cells.lookup x = some c → c ≠ b) ∧ ∀ p ∈ X.pn ++ pins, p.1 ≠ b) :
  Inv X pins σ H' { s with heap := h', gens := g', drawn := d', toks := t' } := by
 obtain ⟨m, ⟨o, es, ep, ho, r⟩, _⟩ := id I.loc
 obtain ⟨sl, hL⟩ := u.any ho I.free fun z => (hch _ z).2.1 rfl
 exact I.step (ch := ch) hch (fun b o hL hb hc e n => u.keep b o e n (fun z => (List.mem_cons.mp (I.stkSub b z)).elim hL hb) hc) (fun b o _ _ hc e n => u.any e n hc) (fun b o hc e n => u.free b o e n hc) (fun b o hc e => u.there b o e hc) u.tups u.frzs u.tbls (fun m' hm => by
  obtain ⟨o', es', ep', ho', r'⟩ := hm
  rw [ho] at ho'; cases ho'
  exact ⟨_, es', ep', hL, r'⟩) hok hg
theorem Inv.turned {t' : Nat} {it : Addr} (I : Inv X pins σ H s) (k : ∀ b o, b ≠ it → s.heap.get? b = some o → h'.get? b = some o) (hn : H it = none) (hL : it ≠ X.env.locals)
  (h1 : it ∈ X.ex ∨ X.s₀.heap.objs.size ≤ it) (h2 : ∀ x c, X.env.cells.lookup x = some c → c ≠ it) (h3 : ∀ p ∈ X.pn ++ pins, p.1 ≠ it) : Inv X pins σ H { s with heap := h', toks := t' } := by
 have nit : ∀ b u, H b = some u → b ≠ it := fun b u e z => by rw [z, hn] at e; cases e
 refine I.step (g' := s.gens) (d' := s.drawn) (ch := [it]) (fun b hb => ?_) (fun b o _ _ hc e _ => k b o (fun z => hc (by simp [z])) e) (fun b o _ _ hc e _ => ⟨o.slots, k b o (fun z => hc (by simp [z])) e⟩) (fun _ _ _ _ n => n)
  (fun b o hc e => ⟨o, k b o (fun z => hc (by simp [z])) e⟩) (fun _ _ e => e) (fun _ _ _ e => e) (fun _ _ e => e) (fun m hm => ?_) (fun b u e => ?_) I.bare
 ·have e : b = it := by simpa using hb
  subst e
  exact ⟨h1, hL, h2, h3⟩
 ·obtain ⟨o, es, ep, ho, r⟩ := hm
  exact ⟨o, es, ep, k _ o (Ne.symm hL) ho, r⟩
 ·refine (I.hok b u e).stay (fun c v hc q => k c v ?_ q) (fun _ q => q) (fun _ _ q => q) fun _ _ _ q => q
  rcases hc with z | z
  ·rw [z]; exact nit b u e
  ·exact nit c _ z
theorem Inv.tok (I : Inv X pins σ H s) (t : Nat) : Inv X pins σ H { s with toks := t } := I.un (h' := s.heap) (t' := t) Un.refl I.hok
theorem Inv.kept {t' : Nat} (I : Inv X pins σ H s) (k : ∀ b u, s.heap.get? b = some u → h'.get? b = some u) : Inv X pins σ H { s with heap := h', toks := t' } := I.un (Un.kept k) (I.hok.kept k)
theorem Inv.laid {a : Addr} {o : HO} {t' : Nat} (I : Inv X pins σ H s) (k : ∀ b u, s.heap.get? b = some u → h'.get? b = some u) (hp : s.heap.objs.size ≤ a) (new : ObjOk X.prog X.w (upd H a o) h' a o) :
  Inv X pins σ (upd H a o) { s with heap := h', toks := t' } := I.un (Un.laid k hp (I.hok.fresh hp)) (I.hok.laid k hp new)
theorem Inv.write {x e : Addr} {o : HO} {t' : Nat} (I : Inv X pins σ H s) (mu : Mut (H x)) (he : e = x ∨ H e = some (.own x)) (k : ∀ b u, b ≠ e → s.heap.get? b = some u → h'.get? b = some u) (heo : ∃ u, h'.get? e = some u)
  (new : ObjOk X.prog X.w (upd H x o) h' x o) : Inv X pins σ (upd H x o) { s with heap := h', toks := t' } := I.un (Un.write mu he k heo) (I.hok.write mu he k heo new)
theorem Inv.pins_of {pins' : List (Addr × Obj)} (I : Inv X pins σ H s) (h : ∀ p ∈ pins', s.heap.get? p.1 = some p.2 ∧ H p.1 = none ∧ p.1 ≠ X.env.locals ∧ p.1 ∉ X.fs ∧ ∀ v, p.2.data ≠ .cell v) : Inv X pins' σ H s :=
 ⟨I.ok, I.os, I.bare, I.base, I.loc, I.cell, I.free, I.freeC, fun p hp => (List.mem_append.mp hp).elim (fun z => I.pin p (List.mem_append_left _ z)) (h p), I.hok, I.len⟩
theorem nodup_ix {N : List Str} (hN : N.Nodup) {i j : Nat} {x : Str} (a : N[i]? = some x) (b : N[j]? = some x) : i = j := by
 obtain ⟨h1, e1⟩ := List.getElem?_eq_some_iff.mp a
 obtain ⟨h2, e2⟩ := List.getElem?_eq_some_iff.mp b
 exact (List.getElem_inj hN).mp (e1.trans e2.symm)
theorem store_ok2 {M : Model} {A : Around} {E : Value → Shared → Prop} {i : Nat} {x : Str} {v : V} {u : Value} {Q : Unit → Shared → Prop} (I : Inv X pins σ H s) (hN : X.N.Nodup) (hi : X.N[i]? = some x) (hx : Loc X.env.scope x) (r : RelV v u)
  (h : ∀ s', Inv X pins (σ.set i (some v)) H s' → (∃ a, Heap.SameBut a s.heap s'.heap ∧ (a = X.env.locals ∨ X.env.cells.lookup x = some a)) → Q () s') (hf : X.fn x = true ∨ X.env.scope.names.lookup x = some .local := by first | exact .inl rfl | exact .inr rfl | assumption) : wpAny M A (storeName X.env x u) Q E s := by
 obtain ⟨m, hn, hl⟩ := id I.loc
 have hcls : (X.env.scope.kind == .class || (X.env.scope.kind == .module && X.env.locals != X.env.globals)) = false := by rw [I.ok.kind]; rfl
 have hiσ : i < σ.length := by rw [I.len]; exact (List.getElem?_eq_some_iff.mp hi).1
 have cne := I.cne
 have tracked : ∀ {a : Addr} {h' : Heap}, (∃ o, s.heap.get? a = some o ∧ H a = none) → Heap.SameBut a s.heap h' → HOk X.prog X.w H h' := fun {a h'} ha hs b ob e => by
  obtain ⟨_, _, hfree⟩ := ha
  refine (I.hok b ob e).stay (fun c w' hc q => (hs.2 c ?_).trans q) (fun _ q => q) (fun _ _ q => q) fun _ _ _ q => q
  rintro rfl
  rcases hc with rfl | hc
  ·rw [hfree] at e; cases e
  ·rw [hfree] at hc; cases hc
 rcases hx with hk | hk
 ·refine wpAny_storeName_local hk hn (fun h' hn' hs => ?_) hcls
  obtain ⟨oL, _, _, hoL, _⟩ := id hn
  refine h _ ⟨I.ok, I.os, I.bare, ⟨fun b o e n hb hx => ?_, fun b o e n hb hx => ?_, I.base.free, fun b o e hx => ?_, I.base.tups, I.base.frzs, I.base.tbls⟩, ⟨_, hn', fun j y v' e1 e2 e3 => ?_⟩, fun y c e => ?_, I.free, I.freeC, fun p hp => ?_, tracked ⟨oL, hoL, I.free⟩ hs, by simpa using I.len⟩ ⟨_, hs, .inl rfl⟩
  ·exact (hs.2 b (Nat.ne_of_lt (Nat.lt_of_lt_of_le (Heap.lt_size e) I.ok.above))).trans (I.base.keep b o e n hb hx)
  ·obtain ⟨sl, e1⟩ := I.base.slot b o e n hb hx
   exact ⟨sl, (hs.2 b (Nat.ne_of_lt (Nat.lt_of_lt_of_le (Heap.lt_size e) I.ok.above))).trans e1⟩
  ·obtain ⟨o', e1⟩ := I.base.there b o e hx
   exact ⟨o', (hs.2 b (Nat.ne_of_lt (Nat.lt_of_lt_of_le (Heap.lt_size e) I.ok.above))).trans e1⟩
  ·by_cases hj : j = i
   ·subst hj
    rw [hi] at e1; cases e1
    rw [List.getElem?_set_self hiσ] at e2
    cases e2
    exact ⟨u, r, .inl ⟨hk, by simp⟩⟩
   ·rw [List.getElem?_set_ne (Ne.symm hj)] at e2
    obtain ⟨u', r', q⟩ := hl j y v' e1 e2 e3
    refine ⟨u', r', ?_⟩
    rcases q with ⟨k, e⟩ | ⟨k, c, e, z⟩
    ·refine .inl ⟨k, ?_⟩
     have : y ≠ x := fun e => hj (nodup_ix hN e1 (e ▸ hi))
     simp [this, e]
    ·exact .inr ⟨k, c, e, z.sameBut hs (cne y c e)⟩
  ·obtain ⟨w', z⟩ := I.cell y c e
   exact ⟨w', z.sameBut hs (cne y c e)⟩
  ·obtain ⟨e, n, ne, nf, d⟩ := I.pin p hp
   exact ⟨(hs.2 p.1 ne).trans e, n, ne, nf, d⟩
 ·have hfn : X.fn x = true := by
   rcases hf with z | z
   ·exact z
   ·rw [z] at hk; cases hk
  obtain ⟨c, hc⟩ := I.ok.has x (.inl hk)
  obtain ⟨w', z⟩ := I.cell x c hc
  refine wpAny_storeName_cell I.ok.kind hk hc z (fun h' hc' hs => ?_)
  obtain ⟨oc, hoc, hocd⟩ := id z
  refine h { s with heap := h' } ⟨I.ok, I.os, I.bare, ⟨fun b o e n hb hx => ?_, fun b o e n hb hx => ?_, I.base.free, fun b o e hx => ?_, I.base.tups, I.base.frzs, I.base.tbls⟩, ⟨m, hn.sameBut hs (Ne.symm (cne x c hc)), fun j y v' e1 e2 e3 => ?_⟩, fun y c' e => ?_, I.free, I.freeC, fun p hp => ?_, tracked ⟨oc, hoc, I.freeC x c hc⟩ hs, by simpa using I.len⟩ ⟨c, hs, .inr hc⟩
  ·exact (hs.2 b (Nat.ne_of_lt (Nat.lt_of_lt_of_le (Heap.lt_size e) (I.ok.cab x c hfn hc)))).trans (I.base.keep b o e n hb hx)
  ·obtain ⟨sl, e1⟩ := I.base.slot b o e n hb hx
   exact ⟨sl, (hs.2 b (Nat.ne_of_lt (Nat.lt_of_lt_of_le (Heap.lt_size e) (I.ok.cab x c hfn hc)))).trans e1⟩
  ·obtain ⟨o', e1⟩ := I.base.there b o e hx
   exact ⟨o', (hs.2 b (Nat.ne_of_lt (Nat.lt_of_lt_of_le (Heap.lt_size e) (I.ok.cab x c hfn hc)))).trans e1⟩
  ·by_cases hj : j = i
   ·subst hj
    rw [hi] at e1; cases e1
    rw [List.getElem?_set_self hiσ] at e2
    cases e2
    exact ⟨u, r, .inr ⟨.inl hk, c, hc, hc'⟩⟩
   ·rw [List.getElem?_set_ne (Ne.symm hj)] at e2
    obtain ⟨u', r', q⟩ := hl j y v' e1 e2 e3
    refine ⟨u', r', ?_⟩
    rcases q with q | ⟨k, c', e, z'⟩
    ·exact .inl q
    ·refine .inr ⟨k, c', e, z'.sameBut hs ?_⟩
     rintro rfl
     exact hj (nodup_ix hN e1 (I.ok.inj _ _ _ e hc ▸ hi))
  ·by_cases hcc : c' = c
   ·subst hcc; exact ⟨_, hc'⟩
   ·obtain ⟨w2, z2⟩ := I.cell y c' e
    exact ⟨w2, z2.sameBut hs hcc⟩
  ·obtain ⟨e, n, ne, nf, d⟩ := I.pin p hp
   refine ⟨(hs.2 p.1 ?_).trans e, n, ne, nf, d⟩
   intro q
   rw [q, hoc] at e
   have q' : oc = p.2 := Option.some.inj e
   exact d w' (by rw [← q']; exact hocd)
theorem store_ok {M : Model} {A : Around} {E : Value → Shared → Prop} {i : Nat} {x : Str} {v : V} {u : Value} {Q : Unit → Shared → Prop} (I : Inv X pins σ H s) (hN : X.N.Nodup) (hi : X.N[i]? = some x) (hx : Loc X.env.scope x) (r : RelV v u)
  (h : ∀ s', Inv X pins (σ.set i (some v)) H s' → Q () s') (hf : X.fn x = true ∨ X.env.scope.names.lookup x = some .local := by first | exact .inl rfl | exact .inr rfl | assumption) : wpAny M A (storeName X.env x u) Q E s :=
 store_ok2 I hN hi hx r (fun s' I' _ => h s' I') hf
theorem Inv.call' {s' : Shared} {ch : List Addr} (I : Inv X pins σ H s) (ho : s'.os = s.os) (u : Un (frs X.stack) ch H H' s.heap s'.heap) (hok : HOk X.prog X.w H' s'.heap) (hg : AllBare s'.gens)
  (hch : ∀ b ∈ ch, (b ∈ X.ex ∨ X.s₀.heap.objs.size ≤ b) ∧ b ≠ X.env.locals ∧ (∀ x c, X.env.cells.lookup x = some c → c ≠ b) ∧ ∀ p ∈ X.pn ++ pins, p.1 ≠ b) : Inv X pins σ H' s' := by
 obtain ⟨h', g', d', t', o'⟩ := s'
 have e : o' = s.os := ho
 subst e
 exact I.call (g' := g') (t' := t') (d' := d') u hok hg hch
end
abbrev XK := Value → Option Addr → Hp → Prop
abbrev St := List (Option V)
abbrev VK := V → Hp → Prop
abbrev TE := St → Hp → VK → Prop
abbrev TT := St → Hp → (Bool → Hp → Prop) → Prop
abbrev TA := St → Hp → (List V → Hp → Prop) → Prop
structure Ends where
 nx : St → Hp → Prop
 rt : VK
 bk : St → Hp → Prop := fun _ _ => False
 ct : St → Hp → Prop := fun _ _ => False
abbrev TS := Ends → St → Hp → Prop
def EP (X : Cx) (pins : List (Addr × Obj)) (σ : St) (Q : VK) (u : Value) (s' : Shared) : Prop := ∃ v H', Inv X pins σ H' s' ∧ RelV v u ∧ Q v H'
def TP (X : Cx) (pins : List (Addr × Obj)) (σ : St) (Q : Bool → Hp → Prop) (b : Bool) (s' : Shared) : Prop := ∃ H', Inv X pins σ H' s' ∧ Q b H'
def AP (X : Cx) (pins : List (Addr × Obj)) (σ : St) (Q : List V → Hp → Prop) (us : List Value) (s' : Shared) : Prop := ∃ vs H', Inv X pins σ H' s' ∧ Vals vs us ∧ Q vs H'
def SP (X : Cx) (pins : List (Addr × Obj)) (D : Ends) (f : Flow) (s' : Shared) : Prop :=
 match f with
 | .next => ∃ σ' H', Inv X pins σ' H' s' ∧ D.nx σ' H'
 | .brk => ∃ σ' H', Inv X pins σ' H' s' ∧ D.bk σ' H'
 | .cont => ∃ σ' H', Inv X pins σ' H' s' ∧ D.ct σ' H'
 | .ret u => ∃ v σ' H', Inv X pins σ' H' s' ∧ RelV v u ∧ D.rt v H'
def PE (X : Cx) (e : Expr) (t : TE) : Prop :=
 ∀ (pins : List (Addr × Obj)) (s : Shared) (σ : St) (H : Hp) (Q : VK), Inv X pins σ H s → t σ H Q → wpAny (model X.prog X.w) X.A (eval e X.env) (EP X pins σ Q) X.xe s
def PT (X : Cx) (e : Expr) (t : TT) : Prop :=
 ∀ (pins : List (Addr × Obj)) (s : Shared) (σ : St) (H : Hp) (Q : Bool → Hp → Prop), Inv X pins σ H s → t σ H Q → wpAny (model X.prog X.w) X.A (isTrue e X.env (eval e X.env)) (TP X pins σ Q) X.xe s
def PW (X : Cx) (e : Expr) (t : TT) : Prop :=
 ∀ (whole : Sem Value) (pins : List (Addr × Obj)) (s : Shared) (σ : St) (H : Hp) (Q : Bool → Hp → Prop), Inv X pins σ H s → t σ H Q → wpAny (model X.prog X.w) X.A (isTrue e X.env whole) (TP X pins σ Q) X.xe s
theorem PW.pt {X : Cx} {e : Expr} {t : TT} (h : PW X e t) : PT X e t := h _
def PA (X : Cx) (es : List Expr) (t : TA) : Prop :=
 ∀ (pos : Pos) (pins : List (Addr × Obj)) (s : Shared) (σ : St) (H : Hp) (Q : List V → Hp → Prop), Inv X pins σ H s → t σ H Q → wpAny (model X.prog X.w) X.A (spliced (backTo pos (starEach es X.env))) (AP X pins σ Q) X.xe s
def PS (X : Cx) (st : Stmt) (t : TS) : Prop :=
 ∀ (pins : List (Addr × Obj)) (s : Shared) (σ : St) (H : Hp) (D : Ends), Inv X pins σ H s → t D σ H → wpAny (model X.prog X.w) X.A (exec st X.env) (SP X pins D) X.xe s
def PSs (X : Cx) (st : List Stmt) (t : TS) : Prop :=
 ∀ (pins : List (Addr × Obj)) (s : Shared) (σ : St) (H : Hp) (D : Ends), Inv X pins σ H s → t D σ H → wpAny (model X.prog X.w) X.A (execs st X.env) (SP X pins D) X.xe s
theorem thn {α : Type} {t : Sem α} {Q Q' : α → Shared → Prop} {M : Model} {A : Around} {E : Value → Shared → Prop} {s : Shared} (h : wpAny M A t Q E s) (hQ : ∀ a s, Q a s → Q' a s) : wpAny M A t Q' E s := wpAny_mono h hQ fun _ _ x => x
end L2
namespace L2
open PySem PySem.Spec PyProof.Rows
section
variable {X : Cx}
def tVar (i : Nat) : TE := fun σ H Q => ∃ v, σ[i]? = some (some v) ∧ Q v H
def tC (v : V) : TE := fun _ H Q => Q v H
theorem pe_var {i : Nat} {x : Str} {pos : Pos} (hN : X.N[i]? = some x) (hv : Vis X.env.scope x) (hd : (x == ("__debug__" : Str)) = false := by decide) (hcd : (x == ("__classdict__" : Str)) = false := by decide) : PE X (.Name x pos) (tVar i) := by
 intro pins s σ H Q I h
 obtain ⟨v, e, h⟩ := h
 obtain ⟨m, hn, hl⟩ := I.loc
 obtain ⟨u, r, l⟩ := hl i x v hN e hv
 have fin : EP X pins σ Q u s := ⟨v, H, I, r, h⟩
 rcases l with ⟨hk, hm⟩ | ⟨hk, c, hc, hcell⟩
 ·exact wpAny_Name (wpAny_loadName_local I.ok.kind hk hn hm fin) hd
 ·rcases hk with hk | hk
  ·exact wpAny_Name (wpAny_loadName_cell I.ok.kind hk hc hcell fin) hd
  ·exact wpAny_Name (wpAny_loadName_free I.ok.kind hk hc hcell fin hcd) hd
theorem pe_int {i j pos} : PE X (.Constant (.int i) j pos) (tC (.int i)) := fun _ _ _ H _ I h => wpAny_Constant_int ⟨.int i, H, I.tok _, ⟨_, rfl⟩, h⟩
theorem pe_bl {b j pos} : PE X (.Constant (.bool b) j pos) (tC (.bl b)) := fun _ _ _ H _ I h => Constant_bool ⟨.bl b, H, I, rfl, h⟩
theorem pe_non {j pos} : PE X (.Constant .none j pos) (tC .non) := fun _ _ _ H _ I h => Constant_none ⟨.non, H, I, rfl, h⟩
theorem pe_str {x j pos} : PE X (.Constant (.str x) j pos) (tC (.str x)) := fun _ _ _ H _ I h => Calls.Constant_str ⟨.str x, H, I.tok _, ⟨_, rfl⟩, h⟩
def Gl (X : Cx) (x : Str) : Prop := X.env.kindOf x = some .globalImplicit
theorem ld_glob {E : Value → Shared → Prop} {pins : List (Addr × Obj)} {s : Shared} {σ : St} {H : Hp} {x : Str} {u : Value} {pos : Pos} {Q : Value → Shared → Prop} (I : Inv X pins σ H s) (hg : Gl X x) (hm : X.mg x = some u) (h : Q u s)
  (hd : (x == ("__debug__" : Str)) = false := by decide) : wpAny (model X.prog X.w) X.A (eval (.Name x pos) X.env) Q E s :=
 Calls.Name_function_global I.ok.kind hg (Calls.loadGlobal_global (by rw [I.ok.glob]; exact I.mod.glob.keeps I.bk) hm h) hd
theorem ld_blt {E : Value → Shared → Prop} {pins : List (Addr × Obj)} {s : Shared} {σ : St} {H : Hp} {x : Str} {u : Value} {pos : Pos} {Q : Value → Shared → Prop} (I : Inv X pins σ H s) (hg : Gl X x) (hm : X.mg x = none) (hv : bootBuiltins x = some u) (h : Q u s)
  (hn : x ≠ "__name__" := by decide) (hd : (x == ("__debug__" : Str)) = false := by decide) : wpAny (model X.prog X.w) X.A (eval (.Name x pos) X.env) Q E s := by
 obtain ⟨mb, h1, h2⟩ := I.mod.blt
 exact Calls.Name_function_global I.ok.kind hg (Calls.loadGlobal_builtin (by rw [I.ok.glob]; exact I.mod.glob.keeps I.bk) hm (by rw [I.ok.blt]; exact h1.keeps I.bk) ((h2 x hn).trans hv) h) hd
theorem pe_glob {x : Str} {v : V} {u : Value} {pos : Pos} (hg : Gl X x) (hm : X.mg x = some u) (r : RelV v u) (hd : (x == ("__debug__" : Str)) = false := by decide) : PE X (.Name x pos) (tC v) :=
 fun _ _ _ H _ I h => ld_glob I hg hm ⟨v, H, I, r, h⟩ hd
theorem pe_bltn {x : Str} {v : V} {u : Value} {pos : Pos} (hg : Gl X x) (hm : X.mg x = none) (hv : bootBuiltins x = some u) (r : RelV v u) (hn : x ≠ "__name__" := by decide) (hd : (x == ("__debug__" : Str)) = false := by decide) : PE X (.Name x pos) (tC v) :=
 fun _ _ _ H _ I h => ld_blt I hg hm hv ⟨v, H, I, r, h⟩ hn hd
variable {a b : Expr} {ta tb : TE} {pos : Pos}
def tB (t : TE) : TT := fun σ H Q => t σ H fun x H1 => ∃ c, x = .bl c ∧ Q c H1
theorem pt_val {e : Expr} {t : TE} (h : PE X e t) (he : ∀ whole, isTrue e X.env whole = (do let v ← whole; standAt e.pos; holding [v] (truthy v)) := by intro _; rfl) : PT X e (tB t) := by
 intro pins s σ H Q I hw
 refine isTrue_plain (thn (h pins s σ H _ I hw) fun v s1 ⟨x, H1, I1, r1, q1⟩ => ?_) (he _)
 obtain ⟨d, rfl, q⟩ := q1
 cases r1
 exact wpAny_truthy_bool ⟨H1, I1, q⟩
variable {tA tB' : TT} {rest : List Expr}
def tAnd (t u : TT) : TT := fun σ H Q => t σ H fun c H1 => if c = true then u σ H1 Q else Q false H1
def tOr (t u : TT) : TT := fun σ H Q => t σ H fun c H1 => if c = true then Q true H1 else u σ H1 Q
def tNot (t : TT) : TT := fun σ H Q => t σ H fun c H1 => Q (!c) H1
theorem pw_and1 (ha : PT X a tA) : PW X (.BoolOp .And [a] pos) tA := by
 intro wh pins s σ H Q I h
 refine isTrue_and (thn (ha pins s σ H Q I h) fun c s1 e => ?_)
 cases c with
 | true => exact isTrue_and_nil e
 | false => exact e
theorem pw_or1 (ha : PT X a tA) : PW X (.BoolOp .Or [a] pos) tA := by
 intro wh pins s σ H Q I h
 refine isTrue_or (thn (ha pins s σ H Q I h) fun c s1 e => ?_)
 cases c with
 | false => exact isTrue_or_nil e
 | true => exact e
theorem pw_and (ha : PT X a tA) (hb : PW X (.BoolOp .And (b :: rest) pos) tB') : PW X (.BoolOp .And (a :: b :: rest) pos) (tAnd tA tB') := by
 intro wh pins s σ H Q I h
 refine isTrue_and (thn (ha pins s σ H _ I h) fun c s1 ⟨H1, I1, q1⟩ => ?_)
 cases c with
 | true => exact hb wh pins s1 σ H1 Q I1 q1
 | false => exact ⟨H1, I1, q1⟩
theorem pw_or (ha : PT X a tA) (hb : PW X (.BoolOp .Or (b :: rest) pos) tB') : PW X (.BoolOp .Or (a :: b :: rest) pos) (tOr tA tB') := by
 intro wh pins s σ H Q I h
 refine isTrue_or (thn (ha pins s σ H _ I h) fun c s1 ⟨H1, I1, q1⟩ => ?_)
 cases c with
 | true => exact ⟨H1, I1, q1⟩
 | false => exact hb wh pins s1 σ H1 Q I1 q1
theorem pt_not (ha : PT X a tA) : PT X (.UnaryOp .Not a pos) (tNot tA) := by
 intro pins s σ H Q I h
 exact isTrue_not (ha pins s σ H (fun c H1 => Q (!c) H1) I h)
def tAndV (ta tb : TE) : TE := fun σ H Q => ta σ H fun x H1 => ∃ c, x = .bl c ∧ if c = true then tb σ H1 Q else Q (.bl false) H1
theorem pe_one {op} {t : TE} (h : PE X a t) : PE X (.BoolOp op [a] pos) t := fun pins s σ H Q I hw => BoolOp_one (h pins s σ H Q I hw)
theorem pe_and (ha : PE X a ta) (hb : PE X (.BoolOp .And (b :: rest) pos) tb) : PE X (.BoolOp .And (a :: b :: rest) pos) (tAndV ta tb) := by
 intro pins s σ H Q I h
 refine BoolOp_and (thn (ha pins s σ H _ I h) fun v s1 ⟨x, H1, I1, r1, q1⟩ => ?_)
 obtain ⟨c, rfl, q1⟩ := q1
 cases r1
 refine wpAny_truthy_bool ?_
 cases c with
 | true => exact hb pins s1 σ H1 Q I1 q1
 | false => exact ⟨.bl false, H1, I1, rfl, q1⟩
end
end L2
namespace L2
open PySem PySem.Spec PyProof.Rows
def SqL (K : PySem.W.Frag) (H : Hp) (a : Addr) (xs : List V) : Prop :=
 Rd H a (.lst xs) ∨
  ∃ (o : Obj) (its : Array Value) (n : Nat), K.lookup a = some o ∧ o.cls = .type "list" ∧ o.dict = none ∧ o.data = .seq its n ∧ its.size ≤ sizeLine ∧ Vals xs its.toList
def SqT (K : PySem.W.Frag) (H : Hp) (a : Addr) (xs : List V) : Prop :=
 Rd H a (.tup xs) ∨
  ∃ (o : Obj) (its : Array Value) (n : Nat), K.lookup a = some o ∧ o.cls = .type "tuple" ∧ o.data = .seq its n ∧ its.size ≤ sizeLine ∧ Vals xs its.toList
def absV : Value → Option V
 | .none => some .non
 | .bool b => some (.bl b)
 | .int i _ => some (.int i)
 | .str x _ => some (.str x)
 | .bytes b _ => some (.byt b)
 | .float b _ => some (.flt b)
 | .ref a => some (.ref a)
 | .type n => some (.ty n)
 | _ => none
theorem RelV.abs {x : V} {u : Value} (r : RelV x u) : absV u = some x := by
 cases x with
 | non => cases r; rfl
 | bl _ => cases r; rfl
 | int _ => obtain ⟨t, rfl⟩ := r; rfl
 | str _ => obtain ⟨t, rfl⟩ := r; rfl
 | byt _ => obtain ⟨t, rfl⟩ := r; rfl
 | flt _ => obtain ⟨t, rfl⟩ := r; rfl
 | ref _ => cases r; rfl
 | ty _ => cases r; rfl
theorem RelV.inj {x y : V} {u : Value} (r : RelV x u) (q : RelV y u) : x = y := Option.some.inj (r.abs.symm.trans q.abs)
theorem Vals.inj : ∀ {xs ys : List V} {us : List Value}, Vals xs us → Vals ys us → xs = ys
 | _, _, _, .nil, .nil => rfl
 | _, _, _, .cons r t, .cons r' t' => by rw [r.inj r', Vals.inj t t']
section
variable {X : Cx} {pins : List (Addr × Obj)} {σ : St} {H : Hp} {s : Shared} {a : Addr} {xs ys : List V}
theorem SqL.of {K : PySem.W.Frag} (h : H a = some (.lst xs)) : SqL K H a xs := .inl (.inl h)
theorem SqT.of {K : PySem.W.Frag} (h : H a = some (.tup xs)) : SqT K H a xs := .inl (.inl h)
theorem Inv.list (I : Inv X pins σ H s) (h : SqL X.K H a xs) : ∃ its : List Value, Vals xs its ∧ PlainL s.heap a its.toArray ∧ xs.length ≤ sizeLine := by
 rcases h with h | ⟨o, its, n, hk, hc, hd, hs, hz, r⟩
 ·obtain ⟨z, its, n, r, e⟩ := h.ok I.hok
  exact ⟨its, r, ⟨_, n, e, rfl, rfl, rfl⟩, z⟩
 ·refine ⟨its.toList, r, ⟨o, n, I.kIn a o hk, hc, hd, by simpa using hs⟩, ?_⟩
  have e := r.length
  simp only [Array.length_toList] at e
  omega
theorem Inv.tuple (I : Inv X pins σ H s) (h : SqT X.K H a xs) : ∃ its : List Value, Vals xs its ∧ IsTup s.heap a its.toArray ∧ xs.length ≤ sizeLine := by
 rcases h with h | ⟨o, its, n, hk, hc, hs, hz, r⟩
 ·obtain ⟨z, its, r, p, _⟩ := h.ok I.hok
  exact ⟨its, r, p, z⟩
 ·refine ⟨its.toList, r, ⟨o, I.kIn a o hk, hc, n, by simpa using hs⟩, ?_⟩
  have e := r.length
  simp only [Array.length_toList] at e
  omega
theorem Inv.list_inj (I : Inv X pins σ H s) (h : SqL X.K H a xs) (h' : SqL X.K H a ys) : xs = ys := by
 obtain ⟨its, r, ⟨o, n, e, _, _, d⟩, _⟩ := I.list h
 obtain ⟨its', r', ⟨o', n', e', _, _, d'⟩, _⟩ := I.list h'
 rw [e] at e'; cases e'
 rw [d] at d'
 injection d' with d1 _
 have : its = its' := by simpa using congrArg Array.toList d1
 subst this
 exact r.inj r'
theorem Inv.tuple_inj (I : Inv X pins σ H s) (h : SqT X.K H a xs) (h' : SqT X.K H a ys) : xs = ys := by
 obtain ⟨its, r, ⟨o, e, _, n, d⟩, _⟩ := I.tuple h
 obtain ⟨its', r', ⟨o', e', _, n', d'⟩, _⟩ := I.tuple h'
 rw [e] at e'; cases e'
 rw [d] at d'
 injection d' with d1 _
 have : its = its' := by simpa using congrArg Array.toList d1
 subst this
 exact r.inj r'
end
abbrev Cx.wish (X : Cx) (E : Value → Shared → Prop) : Cx := { X with xe := E }
abbrev Cx.nox (X : Cx) : Cx := X.wish fun _ _ => False
theorem Cx.Ok.wish {X : Cx} (ok : X.Ok) (E : Value → Shared → Prop) : (X.wish E).Ok :=
 ⟨ok.mod, ok.kind, ok.glob, ok.blt, ok.above, ok.inj, ok.has, ok.cab, ok.hd, ok.frames, ok.stk, ok.exf, ok.bs, ok.bsz, ok.noex, ok.exfs, ok.funs, ok.frf⟩
theorem Cx.Ok.unwish {X : Cx} {E : Value → Shared → Prop} (ok : (X.wish E).Ok) : X.Ok :=
 ⟨ok.mod, ok.kind, ok.glob, ok.blt, ok.above, ok.inj, ok.has, ok.cab, ok.hd, ok.frames, ok.stk, ok.exf, ok.bs, ok.bsz, ok.noex, ok.exfs, ok.funs, ok.frf⟩
section
variable {X : Cx} {pins : List (Addr × Obj)} {σ : St} {H : Hp} {s : Shared} {E : Value → Shared → Prop}
theorem Inv.wish (I : Inv X pins σ H s) (E : Value → Shared → Prop) : Inv (X.wish E) pins σ H s := ⟨I.ok.wish E, I.os, I.bare, I.base, I.loc, I.cell, I.free, I.freeC, I.pin, I.hok, I.len⟩
theorem Inv.unwish (I : Inv (X.wish E) pins σ H s) : Inv X pins σ H s := ⟨I.ok.unwish, I.os, I.bare, I.base, I.loc, I.cell, I.free, I.freeC, I.pin, I.hok, I.len⟩
theorem SP.unwish {D : Ends} {f : Flow} {s' : Shared} (h : SP (X.wish E) pins D f s') : SP X pins D f s' := by
 cases f with
 | next => obtain ⟨σ', H', I, q⟩ := h; exact ⟨σ', H', I.unwish, q⟩
 | brk => obtain ⟨σ', H', I, q⟩ := h; exact ⟨σ', H', I.unwish, q⟩
 | cont => obtain ⟨σ', H', I, q⟩ := h; exact ⟨σ', H', I.unwish, q⟩
 | ret u => obtain ⟨v, σ', H', I, r, q⟩ := h; exact ⟨v, σ', H', I.unwish, r, q⟩
theorem PT.nox {e : Expr} {t : TT} (h : PT X.nox e t) : PT X e t := fun pins s σ H Q I hw =>
 wpAny_mono (h pins s σ H Q (I.wish _) hw) (fun _ _ ⟨H', I', q⟩ => ⟨H', I'.unwish, q⟩) fun _ _ z => False.elim z
theorem PSs.nox {st : List Stmt} {t : TS} (h : PSs X.nox st t) : PSs X st t := fun pins s σ H D I hw =>
 wpAny_mono (h pins s σ H D (I.wish _) hw) (fun _ _ q => q.unwish) fun _ _ z => False.elim z
end
section
variable {X : Cx} {st : Stmt} {rest : List Stmt} {t u : TS} {e : Expr} {te : TE} {pos : Pos}
def tNext : TS := fun D σ H => D.nx σ H
def tSeq (t u : TS) : TS := fun D σ H => t { D with nx := u D } σ H
theorem pss_nil : PSs X [] tNext := fun _ _ σ H _ I h => wpAny_execs_nil ⟨σ, H, I, h⟩
theorem pss_cons (h1 : PS X st t) (h2 : PSs X rest u) : PSs X (st :: rest) (tSeq t u) := by
 intro pins s σ H D I h
 refine wpAny_execs_cons (thn (h1 pins s σ H { D with nx := u D } I h) fun f s1 q => ?_)
 cases f with
 | next =>
  obtain ⟨σ', H', I', q⟩ := q
  exact h2 pins s1 σ' H' D I' q
 | ret v => exact q
 | brk => exact q
 | cont => exact q
theorem pss_one (h1 : PS X st t) : PSs X [st] t := by
 intro pins s σ H D I h
 refine wpAny_execs_cons (thn (h1 pins s σ H D I h) fun f s1 q => ?_)
 cases f with
 | next => exact wpAny_execs_nil q
 | ret v => exact q
 | brk => exact q
 | cont => exact q
def tRet (te : TE) : TS := fun D σ H => te σ H D.rt
theorem ps_ret (he : PE X e te) : PS X (.Return (some e) pos) (tRet te) := by
 intro pins s σ H D I h
 exact wpAny_Return_some (thn (he pins s σ H _ I h) fun v s1 ⟨x, H1, I1, r1, q1⟩ => ⟨x, σ, H1, I1, r1, q1⟩)
def tIfS (c : TT) (t u : TS) : TS := fun D σ H => c σ H fun b H1 => if b = true then t D σ H1 else u D σ H1
theorem ps_if {c : Expr} {a b : List Stmt} {tc : TT} (hc : PT X c tc) (ha : PSs X a t) (hb : PSs X b u) : PS X (.If c a b pos) (tIfS tc t u) := by
 intro pins s σ H D I h
 refine wpAny_If (thn (hc pins s σ H _ I h) fun d s1 ⟨H1, I1, q1⟩ => ?_)
 cases d with
 | true => exact ha pins s1 σ H1 D I1 q1
 | false => exact hb pins s1 σ H1 D I1 q1
def tNever : TS := fun _ _ _ => False
theorem pss_never {sts : List Stmt} : PSs X sts tNever := fun _ _ _ _ _ _ h => h.elim
end
abbrev TG := V → St → Hp → (St → Hp → Prop) → Prop
def PG (X : Cx) (target : Expr) (t : TG) : Prop :=
 ∀ (pins : List (Addr × Obj)) (s : Shared) (σ : St) (H : Hp) (v : V) (u : Value) (Q : St → Hp → Prop), Inv X pins σ H s → RelV v u → t v σ H Q →
  wpAny (model X.prog X.w) X.A (assign target X.env u) (fun _ s' => ∃ σ' H', Inv X pins σ' H' s' ∧ Q σ' H') X.xe s
abbrev TSet := V → V → V → Hp → (Hp → Prop) → Prop
def PSet (X : Cx) (t : TSet) : Prop :=
 ∀ (pins : List (Addr × Obj)) (s : Shared) (σ : St) (H : Hp) (o i v : V) (ov iv u : Value) (Q : Hp → Prop), Inv X pins σ H s → RelV o ov → RelV i iv → RelV v u → t o i v H Q →
  wpAny (model X.prog X.w) X.A (setItem ov iv u) (fun _ s' => ∃ H', Inv X pins σ H' s' ∧ Q H') X.xe s
section
variable {X : Cx} {pos : Pos}
def gName (i : Nat) : TG := fun v σ H Q => Q (σ.set i (some v)) H
theorem pg_name {i : Nat} {x : Str} (hN : X.N.Nodup) (hi : X.N[i]? = some x) (hx : Loc X.env.scope x) (hf : X.fn x = true ∨ X.env.scope.names.lookup x = some .local := by first | exact .inl rfl | exact .inr rfl | assumption) : PG X (.Name x pos) (gName i) := by
 intro pins s σ H v u Q I r h
 exact wpAny_assign_Name (store_ok I hN hi hx r (fun s' I' => ⟨_, H, I', h⟩) hf)
def gSub (to ti : TE) (t : TSet) : TG := fun v σ H Q => to σ H fun o H1 => ti σ H1 fun i H2 => t o i v H2 fun H3 => Q σ H3
theorem pg_sub {o i : Expr} {to ti : TE} {t : TSet} (ho : PE X o to) (hi : PE X i ti) (hs : PSet X t)
  (ha : ∀ v, assign (.Subscript o i pos) X.env v = (do
   let ov ← holding [v] (eval o X.env)
   let iv ← holding [v, ov] (eval i X.env)
   standAt pos
   holding [v, ov, iv] (setItem ov iv v)
   release [v, ov, iv] []) := by intro _; rfl) : PG X (.Subscript o i pos) (gSub to ti t) := by
 intro pins s σ H v u Q I r h
 rw [ha]
 refine wpAny_bind (wpAny_holding (thn (ho pins s σ H _ I h) fun ov s1 ⟨x, H1, I1, r1, q1⟩ => ?_))
 refine wpAny_bind (wpAny_holding (thn (hi pins s1 σ H1 _ I1 q1) fun iv s2 ⟨y, H2, I2, r2, q2⟩ => ?_))
 refine wpAny_bind (wpAny_standAt (wpAny_bind (wpAny_holding (thn (hs pins s2 σ H2 x y v ov iv u _ I2 r1 r2 r q2) fun _ s3 ⟨H3, I3, q3⟩ => ?_))))
 exact wpAny_release ⟨σ, H3, I3, q3⟩
def tAsg (te : TE) (g : TG) : TS := fun D σ H => te σ H fun x H1 => g x σ H1 D.nx
theorem ps_asg {tg e : Expr} {te : TE} {g : TG} (he : PE X e te) (hg : PG X tg g) (hs : swapsWithSole [tg] e pos.line X.env = pure false := by rfl) (hw : swappedStores [tg] e X.env = pure none := by rfl)
  (h1 : (assignEach [tg] X.env).map (·.2) = [assign tg X.env] := by rfl) : PS X (.Assign [tg] e pos) (tAsg te g) := by
 intro pins s σ H D I h
 refine wpAny_Assign_stores (thn (he pins s σ H _ I h) fun v s1 ⟨x, H1, I1, r1, q1⟩ => ?_) hs hw
 rw [h1]
 exact thn (hg pins s1 σ H1 x v _ I1 r1 q1) fun _ s2 q => q
theorem ps_set {i : Nat} {x : Str} {e : Expr} {te : TE} {pos' : Pos} (hN : X.N.Nodup) (hi : X.N[i]? = some x) (hx : Loc X.env.scope x) (he : PE X e te) (hs : swapsWith e (some (.Name x pos')) pos.line X.env = pure false := by rfl) (hf : X.fn x = true ∨ X.env.scope.names.lookup x = some .local := by first | exact .inl rfl | exact .inr rfl | assumption) :
  PS X (.Assign [.Name x pos'] e pos) (tAsg te (gName i)) := by
 intro pins s σ H D I h
 refine wpAny_Assign_Name (thn (he pins s σ H _ I h) fun v s1 ⟨y, H1, I1, r1, q1⟩ => ?_) hs
 exact store_ok I1 hN hi hx r1 (fun s2 I2 => ⟨_, H1, I2, q1⟩) hf
def tPar (i j : Nat) (ta : TA) : TS := fun D σ H => ta σ H fun vs H1 => ∃ v w, vs = [v, w] ∧ D.nx ((σ.set i (some v)).set j (some w)) H1
theorem ps_par {i j : Nat} {x y : Str} {a b : Expr} {ta : TA} {px py pt : Pos} {kt k2 pt2} (hc : X.calm = true) (hN : X.N.Nodup) (hi : X.N[i]? = some x) (hj : X.N[j]? = some y) (hij : i ≠ j)
  (hx : X.env.scope.names.lookup x = some .local) (hy : X.env.scope.names.lookup y = some .local) (ha : PA X [a, b] ta)
  (hw : swappedStores [.Tuple [.Name x px, .Name y py] kt pt] (.Tuple [a, b] k2 pt2) X.env = pure (some [x, y]))
  (hs : swapsWithSole [.Tuple [.Name x px, .Name y py] kt pt] (.Tuple [a, b] k2 pt2) pos.line X.env = pure false := by rfl) :
  PS X (.Assign [.Tuple [.Name x px, .Name y py] kt pt] (.Tuple [a, b] k2 pt2) pos) (tPar i j ta) := by
 intro pins s σ H D I h
 rw [exec_Assign_arm]
 refine wpAny_bind (wpAny_standAt ?_)
 rw [hs]
 refine wpAny_bind (wpAny_pure ?_)
 rw [if_neg (by decide)]
 refine wpAny_bind (Tuple_ (thn (ha _ pins s σ H _ I h) fun us s1 ⟨vs, H1, I1, r1, q1⟩ => ?_))
 obtain ⟨v, w, e1, q1⟩ := q1
 subst e1
 obtain ⟨u1, u2, rfl, rv, rw'⟩ : ∃ u1 u2, us = [u1, u2] ∧ RelV v u1 ∧ RelV w u2 := by
  cases r1 with
  | cons p q =>
   cases q with
   | cons p' q' =>
    cases q'
    exact ⟨_, _, rfl, p, p'⟩
 refine wpAny_newObj_type ?_ (by show 2 ≤ sizeLine; decide)
 have I2 : Inv X pins σ H1 { s1 with heap := s1.heap.push { cls := .type "tuple", data := .seq [u1, u2].toArray } } := I1.kept (t' := s1.toks) fun b o e => Heap.get?_push_of_some _ e
 rw [hw]
 refine wpAny_bind (wpAny_pure ?_)
 show wpAny (model X.prog X.w) X.A (do rule "assign.swapped-stores"; let items ← unpackItems (.ref s1.heap.objs.size) 2 none; assignInOrder [fun v => bindName X.env y v, fun v => bindName X.env x v] items.reverse; pure Flow.next) _ _ _
 refine wpAny_bind (wpAny_rule (wpAny_bind (unpackItems_tuple (items := #[u1, u2]) (I.ok.hd hc) (IsTup.new s1.heap _) fun h' hx' => ?_)))
 have I3 := I2.kept (h' := h') (t' := s1.toks) fun b o e => hx' b o (Nat.ne_of_lt (Heap.lt_size e)) e
 show wpAny _ _ (assignInOrder [fun v => bindName X.env y v, fun v => bindName X.env x v] [u2, u1] >>= fun _ => pure Flow.next) _ _ _
 refine wpAny_bind (assignInOrder_cons (wpAny_bindName (store_ok I3 hN hj (.inl hy) rw' (fun s2 I4 => ?_) (.inr hy))))
 refine assignInOrder_cons (wpAny_bindName (store_ok I4 hN hi (.inl hx) rv (fun s3 I5 => assignInOrder_nil (wpAny_pure ?_)) (.inr hx)))
 rw [List.set_comm _ _ (Ne.symm hij)] at I5
 exact ⟨_, H1, I5, q1⟩
end
section
variable {X : Cx} {pos : Pos}
def tWhile (c : TT) (tb : TS) : TS := fun D σ H => ∃ W : Nat → St → Hp → Prop, (∃ m, W m σ H) ∧ ∀ m σ H, W m σ H →
 c σ H fun b H1 => if b = true then ∃ N : St → Hp → Prop, (∀ σ' H', N σ' H' → ∃ m', m' < m ∧ W m' σ' H') ∧ tb { D with nx := N, ct := N, bk := D.nx } σ H1 else D.nx σ H1
theorem ps_while {c : Expr} {body : List Stmt} {tc : TT} {tb : TS} (hp : PassesOwn (model X.prog X.w) X.A X.env X.xe) (hc : PT X c tc) (hb : PSs X body tb) : PS X (.While c body [] pos) (tWhile tc tb) := by
 intro pins s σ H D I h
 obtain ⟨W, ⟨m0, w0⟩, turn⟩ := h
 refine wpAny_While (codeAny_whileLoop (fun n s' => ∃ σ' H', Inv X pins σ' H' s' ∧ W n σ' H') ?_ m0 ⟨σ, H, I, w0⟩)
 rintro n s1 ⟨σ1, H1, I1, w1⟩
 refine wpAny_passesOwn hp (thn (hc pins s1 σ1 H1 _ I1 (turn n σ1 H1 w1)) fun b s2 ⟨H2, I2, q2⟩ => ?_)
 cases b with
 | true =>
  obtain ⟨N, hN, q2⟩ := q2
  rw [if_pos rfl]
  refine wpAny_passesOwn hp (thn (hb pins s2 σ1 H2 _ I2 q2) fun f s3 q3 => ?_)
  cases f with
  | next =>
   obtain ⟨σ3, H3, I3, n3⟩ := q3
   obtain ⟨m', hm, w3⟩ := hN σ3 H3 n3
   exact ⟨m', hm, σ3, H3, I3, w3⟩
  | cont =>
   obtain ⟨σ3, H3, I3, n3⟩ := q3
   obtain ⟨m', hm, w3⟩ := hN σ3 H3 n3
   exact ⟨m', hm, σ3, H3, I3, w3⟩
  | brk => exact q3
  | ret v => exact q3
 | false =>
  rw [if_neg Bool.false_ne_true]
  exact wpAny_execs_nil ⟨σ1, H2, I2, q2⟩
end
structure It where
 go : Nat → Hp → Prop
 yld : Nat → Hp → V → Hp → Prop
 stop : Nat → Hp → Prop
def FpOk (X : Cx) (pins : List (Addr × Obj)) (H : Hp) (b : Addr) : Prop :=
 H b = none ∧ b ≠ X.env.locals ∧ b ∉ X.fs ∧ (b ∈ X.ex ∨ X.s₀.heap.objs.size ≤ b) ∧ (∀ x c, X.env.cells.lookup x = some c → c ≠ b) ∧ ∀ p ∈ X.pn ++ pins, p.1 ≠ b
theorem Inv.fpOk {X : Cx} {pins : List (Addr × Obj)} {σ : St} {H H' : Hp} {s : Shared} {b : Addr} (I : Inv X pins σ H s) (hb : s.heap.objs.size ≤ b) (hn : H' b = none) : FpOk X pins H' b := by
 refine ⟨hn, Nat.ne_of_gt (Nat.lt_of_lt_of_le I.lt hb), I.nofs hb, .inr (Nat.le_trans I.sz hb), fun x c e z => ?_, fun p hp z => ?_⟩
 ·obtain ⟨v, q⟩ := I.cell x c e
  exact absurd (Nat.lt_of_lt_of_le q.lt (by rw [z]; exact hb)) (Nat.lt_irrefl _)
 ·exact absurd (Nat.lt_of_lt_of_le (Heap.lt_size (I.pin p hp).1) (by rw [z]; exact hb)) (Nat.lt_irrefl _)
structure Turn (P : Program) (w : World) (K : PySem.W.Frag) (tg : Expr) (J : It) (fp : List Addr) (it : Addr) (tn : Nat → Heap → Prop) : Prop where
 mem : it ∈ fp
 obj : ∀ i h, tn i h → ∀ b ∈ fp, ∃ o, h.get? b = some o ∧ ∀ v, o.data ≠ .cell v
 keep : ∀ i h h', tn i h → (∀ b ∈ fp, ∀ o, h.get? b = some o → h'.get? b = some o) → tn i h'
 item : ∀ (X : Cx), X.prog = P → X.w = w → X.K = K → X.calm = true → ∀ (i : Nat) (pins : List (Addr × Obj)) (s : Shared) (σ : St) (H : Hp) (E : Value → Shared → Prop), Inv X pins σ H s → (∀ b ∈ fp, FpOk X pins H b) → tn i s.heap → J.go i H →
  wpAny (model P w) X.A (pyNext (.ref it)) (fun r s1 => ∃ u, r = some u ∧
   wpAny (model P w) X.A (letOwnedTupleGo tg (.ref it) u) (fun _ s2 => ∃ x H', Inv X pins σ H' s2 ∧ RelV x u ∧ J.yld i H x H' ∧ tn (i + 1) s2.heap ∧ ∀ b ∈ fp, H' b = none) E s1) E s
 done : ∀ (X : Cx), X.prog = P → X.w = w → X.K = K → X.calm = true → ∀ (i : Nat) (pins : List (Addr × Obj)) (s : Shared) (σ : St) (H : Hp) (E : Value → Shared → Prop), Inv X pins σ H s → (∀ b ∈ fp, FpOk X pins H b) → tn i s.heap → J.stop i H →
  wpAny (model P w) X.A (pyNext (.ref it)) (fun r s1 => r = none ∧ Inv X pins σ H s1) E s
 self : ∀ (A : Around) (i : Nat) (s : Shared) (Q : Value → Shared → Prop) (E : Value → Shared → Prop), tn i s.heap → Q (.ref it) s → wpAny (model P w) A (pyIter (.ref it)) Q E s
abbrev TI := St → Hp → (It → Hp → Prop) → Prop
def PIE (X : Cx) (pins : List (Addr × Obj)) (σ : St) (tg : Expr) (R : It → Hp → Prop) (itv : Value) (s2 : Shared) : Prop :=
 ∃ (it : Addr) (fp : List Addr) (tn : Nat → Heap → Prop) (J : It) (H' : Hp), itv = .ref it ∧ Inv X pins σ H' s2 ∧ Turn X.prog X.w X.K tg J fp it tn ∧ tn 0 s2.heap ∧ (∀ b ∈ fp, FpOk X pins H' b) ∧ R J H'
def PI (X : Cx) (tg iter : Expr) (wi : TI) : Prop :=
 ∀ (pins : List (Addr × Obj)) (s : Shared) (σ : St) (H : Hp) (R : It → Hp → Prop), Inv X pins σ H s → wi σ H R →
  wpAny (model X.prog X.w) X.A (eval iter X.env) (fun v s1 => wpAny (model X.prog X.w) X.A (pyIter v) (PIE X pins σ tg R) X.xe s1) X.xe s
theorem go_of {M : Model} {A : Around} {E : Value → Shared → Prop} {s : Shared} {tg : Expr} {it : Addr} {u : Value} {o : Obj} {n : String} {vs : Array Value} {Q : Unit → Shared → Prop} (ho : s.heap.get? it = some o) (hc : o.cls = .type n) (hd : o.data = .fields vs)
  (hn : ["enumerate", "zip", "dict_itemiterator", "dict_reverseitemiterator", "odict_iterator", "itertools.zip_longest", "itertools.pairwise"].contains n = false) (hQ : Q () s) : wpAny M A (letOwnedTupleGo tg (.ref it) u) Q E s := by
 unfold letOwnedTupleGo
 cases tg <;> first
  | exact wpAny_pure hQ
  | (cases u <;> first
    | exact wpAny_pure hQ
    | (refine wpAny_bind (wpAny_load ho ?_); rw [hc, hd]; show wpAny M A (if (["enumerate", "zip", "dict_itemiterator", "dict_reverseitemiterator", "odict_iterator", "itertools.zip_longest", "itertools.pairwise"].contains n && vs[0]? == some (rawInt _)) = true then _ else _) Q E s; rw [if_neg (by intro h; rw [hn, Bool.false_and] at h; cases h)]; exact wpAny_pure hQ))
def Itl (K : PySem.W.Frag) (a : Addr) : It :=
 ⟨fun i H => ∃ xs x, SqL K H a xs ∧ xs[i]? = some x, fun i H x H' => H' = H ∧ ∀ xs, SqL K H a xs → xs[i]? = some x, fun i H => ∃ xs, SqL K H a xs ∧ xs.length ≤ i⟩
def Itt (K : PySem.W.Frag) (a : Addr) : It :=
 ⟨fun i H => ∃ xs x, SqT K H a xs ∧ xs[i]? = some x, fun i H x H' => H' = H ∧ ∀ xs, SqT K H a xs → xs[i]? = some x, fun i H => ∃ xs, SqT K H a xs ∧ xs.length ≤ i⟩
def Itr (lo : Int) (n : Nat) : It := ⟨fun i _ => i < n, fun i H x H' => H' = H ∧ x = .int (lo + i), fun i _ => n ≤ i⟩
theorem turn_list {P : Program} {w : World} {K : PySem.W.Frag} {tg : Expr} (a it : Addr) : Turn P w K tg (Itl K a) [it] it (fun i h => h.IsListIter it a i) where
 mem := by simp
 obj := fun i h st b hb => by
  have e : b = it := by simpa using hb
  subst e
  obtain ⟨o, e, c, d⟩ := st
  exact ⟨o, e, fun v z => by rw [d] at z; cases z⟩
 keep := fun i h h' st k => st.at fun o e => k it (by simp) o e
 item := by
  intro X hP hw hK hc i pins s σ H E I hf st hg
  subst hP hw hK
  obtain ⟨xs, x, hq, hx⟩ := hg
  obtain ⟨its, rv, p, hz⟩ := I.list hq
  obtain ⟨u, hu, ru⟩ := rv.get hx
  obtain ⟨f0, f1, f2, f3, f4, f5⟩ := hf it (by simp)
  refine wpAny_pyNext_list_item st p.isList (x := u) (by simpa using hu) fun h' st' sb => ?_
  have I1 : Inv X pins σ H { s with heap := h' } := I.turned (t' := s.toks) (fun b o hb e => (sb.2 b hb).trans e) f0 f1 f3 f4 f5
  obtain ⟨o, e, c, d⟩ := id st'
  exact ⟨u, rfl, go_of (s := { s with heap := h' }) e c d (by decide) ⟨x, H, I1, ru, ⟨rfl, fun ys hy => by rw [I.list_inj hy hq]; exact hx⟩, st', fun b hb => (hf b hb).1⟩⟩
 done := by
  intro X hP hw hK hc i pins s σ H E I hf st hg
  subst hP hw hK
  obtain ⟨xs, hq, hx⟩ := hg
  obtain ⟨its, rv, p, hz⟩ := I.list hq
  obtain ⟨f0, f1, f2, f3, f4, f5⟩ := hf it (by simp)
  have hl := rv.length
  exact wpAny_pyNext_list_end (I.ok.hd hc) st p.isList (by simp; omega) fun h' eb => ⟨rfl, I.turned (t' := s.toks) (fun b o hb e => eb b o hb e) f0 f1 f3 f4 f5⟩
 self := fun _ _ _ _ _ st h => wpAny_pyIter_listiter st h
theorem turn_tuple {P : Program} {w : World} {K : PySem.W.Frag} {tg : Expr} (a it : Addr) : Turn P w K tg (Itt K a) [it] it (fun i h => h.IsTupleIter it a i) where
 mem := by simp
 obj := fun i h st b hb => by
  have e : b = it := by simpa using hb
  subst e
  obtain ⟨o, e, c, d⟩ := st
  exact ⟨o, e, fun v z => by rw [d] at z; cases z⟩
 keep := fun i h h' st k => st.at fun o e => k it (by simp) o e
 item := by
  intro X hP hw hK hc i pins s σ H E I hf st hg
  subst hP hw hK
  obtain ⟨xs, x, hq, hx⟩ := hg
  obtain ⟨its, rv, p, hz⟩ := I.tuple hq
  obtain ⟨u, hu, ru⟩ := rv.get hx
  obtain ⟨f0, f1, f2, f3, f4, f5⟩ := hf it (by simp)
  refine wpAny_pyNext_tuple_item st (show s.heap.IsTuple a its.toArray from p) (x := u) (by simpa using hu) fun h' st' sb => ?_
  have I1 : Inv X pins σ H { s with heap := h' } := I.turned (t' := s.toks) (fun b o hb e => (sb.2 b hb).trans e) f0 f1 f3 f4 f5
  obtain ⟨o, e, c, d⟩ := id st'
  exact ⟨u, rfl, go_of (s := { s with heap := h' }) e c d (by decide) ⟨x, H, I1, ru, ⟨rfl, fun ys hy => by rw [I.tuple_inj hy hq]; exact hx⟩, st', fun b hb => (hf b hb).1⟩⟩
 done := by
  intro X hP hw hK hc i pins s σ H E I hf st hg
  subst hP hw hK
  obtain ⟨xs, hq, hx⟩ := hg
  obtain ⟨its, rv, p, hz⟩ := I.tuple hq
  obtain ⟨f0, f1, f2, f3, f4, f5⟩ := hf it (by simp)
  have hl := rv.length
  exact wpAny_pyNext_tuple_end (I.ok.hd hc) st (show s.heap.IsTuple a its.toArray from p) (by simp; omega) fun h' eb => ⟨rfl, I.turned (t' := s.toks) (fun b o hb e => eb b o hb e) f0 f1 f3 f4 f5⟩
 self := fun _ _ _ _ _ st h => wpAny_pyIter_tupleiter st h
theorem turn_range {P : Program} {w : World} {K : PySem.W.Frag} {tg : Expr} (it : Addr) (lo : Int) (n : Nat) : Turn P w K tg (Itr lo n) [it] it (fun i h => IsRangeIter h it (lo + (i : Nat) * 1) ((n : Int) - (i : Nat)) 1) where
 mem := by simp
 obj := fun i h st b hb => by
  have e : b = it := by simpa using hb
  subst e
  exact ⟨_, st, fun v z => by
   have z' : Data.fields _ = Data.cell v := z
   cases z'⟩
 keep := fun i h h' st k => k it (by simp) _ st
 item := by
  intro X hP hw hK hc i pins s σ H E I hf st hg
  subst hP hw hK
  obtain ⟨f0, f1, f2, f3, f4, f5⟩ := hf it (by simp)
  have W := Walks.range (prog := X.prog) (w := X.w) (I.ok.hd hc) it lo 1 n
  refine W.item i s _ _ hg st fun v h' tk hv st' kk => ?_
  obtain ⟨t, rfl⟩ := hv
  have I1 : Inv X pins σ H { s with heap := h', toks := tk } := I.turned (fun b o hb e => kk b o (by simpa using hb) e) f0 f1 f3 f4 f5
  refine ⟨_, rfl, go_of (s := { s with heap := h', toks := tk }) (n := "range_iterator") st' rfl rfl (by decide) ⟨.int (lo + i), H, I1, ⟨t, ?_⟩, ⟨rfl, rfl⟩, st', fun b hb => (hf b hb).1⟩⟩
  rw [Int.mul_one]
 done := by
  intro X hP hw hK hc i pins s σ H E I hf st hg
  subst hP hw hK
  obtain ⟨f0, f1, f2, f3, f4, f5⟩ := hf it (by simp)
  exact wpAny_pyNext_range_end (I.ok.hd hc) st (by have : n ≤ i := hg; omega) fun h' eb => ⟨rfl, I.turned (t' := s.toks) (fun b o hb e => eb b o hb e) f0 f1 f3 f4 f5⟩
 self := fun _ _ _ _ _ st h => wpAny_pyIter_rangeiter st h
end L2
namespace L2
open PySem PySem.Spec PyProof.Rows
section
variable {X : Cx} {tg : Expr}
def iList (K : PySem.W.Frag) (tl : TE) : TI := fun σ H R => tl σ H fun x H1 => ∃ a, x = .ref a ∧ (∃ xs, SqL K H1 a xs) ∧ R (Itl K a) H1
def iTup (K : PySem.W.Frag) (tl : TE) : TI := fun σ H R => tl σ H fun x H1 => ∃ a, x = .ref a ∧ (∃ xs, SqT K H1 a xs) ∧ R (Itt K a) H1
theorem pi_list {l : Expr} {tl : TE} (hl : PE X l tl) : PI X tg l (iList X.K tl) := by
 intro pins s σ H R I h
 refine thn (hl pins s σ H _ I h) fun v s1 ⟨x, H1, I1, r1, q1⟩ => ?_
 obtain ⟨a, e, ⟨xs, hq⟩, q⟩ := q1
 subst e
 cases r1
 obtain ⟨its, rv, p, hz⟩ := I1.list hq
 refine wpAny_pyIter_list p.isList ?_
 refine ⟨s1.heap.objs.size, [s1.heap.objs.size], _, _, H1, rfl, I1.kept (t' := s1.toks) fun b o e => Heap.get?_push_of_some _ e, turn_list a _, ⟨_, Heap.get?_push_size _ rfl, rfl, rfl⟩, fun b hb => ?_, q⟩
 have e : b = s1.heap.objs.size := by simpa using hb
 subst e
 exact I1.fpOk (Nat.le_refl _) (I1.hok.fresh (Nat.le_refl _))
theorem pi_tup {l : Expr} {tl : TE} (hl : PE X l tl) : PI X tg l (iTup X.K tl) := by
 intro pins s σ H R I h
 refine thn (hl pins s σ H _ I h) fun v s1 ⟨x, H1, I1, r1, q1⟩ => ?_
 obtain ⟨a, e, ⟨xs, hq⟩, q⟩ := q1
 subst e
 cases r1
 obtain ⟨its, rv, p, hz⟩ := I1.tuple hq
 refine wpAny_pyIter_tuple (show s1.heap.IsTuple a its.toArray from p) ?_
 refine ⟨s1.heap.objs.size, [s1.heap.objs.size], _, _, H1, rfl, I1.kept (t' := s1.toks) fun b o e => Heap.get?_push_of_some _ e, turn_tuple a _, ⟨_, Heap.get?_push_size _ rfl, rfl, rfl⟩, fun b hb => ?_, q⟩
 have e : b = s1.heap.objs.size := by simpa using hb
 subst e
 exact I1.fpOk (Nat.le_refl _) (I1.hok.fresh (Nat.le_refl _))
theorem range_it {pins : List (Addr × Obj)} {σ : St} {H : Hp} {s : Shared} {R : It → Hp → Prop} {E : Value → Shared → Prop} {lo hi : Int} {t u v : Tok} {tk : Nat} (I : Inv X pins σ H s) (h1 : -(2 ^ 62) ≤ lo) (h2 : lo < 2 ^ 62) (h3 : -(2 ^ 62) ≤ hi) (h4 : hi < 2 ^ 62)
  (q : R (Itr lo (hi - lo).toNat) H) : wpAny (model X.prog X.w) X.A (pyIter (.ref s.heap.objs.size)) (PIE X pins σ tg R) E { s with heap := s.heap.push { cls := .type "range", data := .fields #[.int lo t, .int hi u, .int 1 v] }, toks := tk } := by
 refine wpAny_pyIter_range (IsRange.new ..) (small_one h1 h2 h3 h4) ?_
 have I1 : Inv X pins σ H { s with heap := s.heap.push { cls := .type "range", data := .fields #[.int lo t, .int hi u, .int 1 v] }, toks := tk } := I.kept fun b o e => Heap.get?_push_of_some _ e
 refine ⟨(s.heap.push { cls := .type "range", data := .fields #[.int lo t, .int hi u, .int 1 v] }).objs.size, [(s.heap.push { cls := .type "range", data := .fields #[.int lo t, .int hi u, .int 1 v] }).objs.size], _, _, H, rfl,
  I1.kept (t' := tk) fun b o e => Heap.get?_push_of_some _ e, turn_range _ lo (hi - lo).toNat, ?_, fun b hb => ?_, q⟩
 ·have e1 : lo + ((0 : Nat) : Int) * 1 = lo := by simp
  have e2 : (((hi - lo).toNat : Nat) : Int) - ((0 : Nat) : Int) = Builtin.Range.rangeSize lo hi 1 := by rw [rangeSize_one]; split <;> omega
  show IsRangeIter _ _ (lo + ((0 : Nat) : Int) * 1) ((((hi - lo).toNat : Nat) : Int) - ((0 : Nat) : Int)) 1
  rw [e1, e2]
  exact Heap.get?_push_size _ rfl
 ·have e : b = (s.heap.push { cls := .type "range", data := .fields #[.int lo t, .int hi u, .int 1 v] }).objs.size := by simpa using hb
  subst e
  exact I1.fpOk (Nat.le_refl _) (I1.hok.fresh (Nat.le_refl _))
def iRng1 (ta : TA) : TI := fun σ H R => ta σ H fun vs H1 => ∃ j : Int, vs = [.int j] ∧ -(2 ^ 62) ≤ j ∧ j < 2 ^ 62 ∧ R (Itr 0 j.toNat) H1
theorem pi_range1 {a : Expr} {ta : TA} {p pos : Pos} (hg : Gl X "range") (hm : X.mg "range" = none) (ha : PA X [a] ta) (hs : starEach [a] X.env = [(false, eval a X.env)] := by rfl) : PI X tg (.Call (.Name "range" p) [a] [] pos) (iRng1 ta) := by
 intro pins s σ H R I h
 refine Call_ (ld_blt I hg hm boot_range (PyProof.Rows.callWith_type1 (thn (ha pos pins s σ H _ I h) fun us s1 ⟨vs, H1, I1, r1, q1⟩ => ?_) hs rfl))
 obtain ⟨j, e, q1, q2, q⟩ := q1
 subst e
 cases r1 with
 | cons r rr =>
  cases rr
  obtain ⟨t, rfl⟩ := r
  exact call_range_1 (range_it I1 (by omega) (by omega) q1 q2 (by simpa using q))
def tFor (wi : TI) (g : TG) (tb : TS) : TS := fun D σ H => wi σ H fun J H1 => ∃ W : Nat → Nat → St → Hp → Prop, (∃ m, W 0 m σ H1) ∧ ∀ i m σ H, W i m σ H →
 (J.stop i H ∧ D.nx σ H) ∨ (J.go i H ∧ ∃ N : St → Hp → Prop, (∀ σ' H', N σ' H' → ∃ m', m' < m ∧ W (i + 1) m' σ' H') ∧ ∀ x H', J.yld i H x H' → g x σ H' fun σ2 H2 => tb { D with nx := N, ct := N, bk := D.nx } σ2 H2)
def pinsAt (fp : List Addr) (h : Heap) : List (Addr × Obj) := fp.filterMap fun b => (h.get? b).map fun o => (b, o)
theorem mem_pinsAt {fp : List Addr} {h : Heap} {b : Addr} {o : Obj} (hb : b ∈ fp) (e : h.get? b = some o) : (b, o) ∈ pinsAt fp h := List.mem_filterMap.mpr ⟨b, hb, by rw [e]; rfl⟩
theorem of_pinsAt {fp : List Addr} {h : Heap} {p : Addr × Obj} (hp : p ∈ pinsAt fp h) : p.1 ∈ fp ∧ h.get? p.1 = some p.2 := by
 obtain ⟨b, hb, e⟩ := List.mem_filterMap.mp hp
 cases q : h.get? b with
 | none => rw [q] at e; cases e
 | some o =>
  rw [q] at e
  have e' : (b, o) = p := Option.some.inj e
  subst e'
  exact ⟨hb, q⟩
theorem Inv.pinned {pins : List (Addr × Obj)} {σ : St} {H : Hp} {s : Shared} {fp : List Addr} (I : Inv X pins σ H s) (hf : ∀ b ∈ fp, FpOk X pins H b) (ho : ∀ b ∈ fp, ∃ o, s.heap.get? b = some o ∧ ∀ v, o.data ≠ .cell v) : Inv X (pins ++ pinsAt fp s.heap) σ H s :=
 I.pins_of fun p hp => (List.mem_append.mp hp).elim (fun z => I.pin p (List.mem_append_right _ z)) fun z => by
  obtain ⟨hb, e⟩ := of_pinsAt z
  obtain ⟨f0, f1, f2, _⟩ := hf p.1 hb
  obtain ⟨o, e', d⟩ := ho p.1 hb
  rw [e] at e'; cases e'
  exact ⟨e, f0, f1, f2, d⟩
theorem Inv.unpinned {pins pl : List (Addr × Obj)} {σ : St} {H : Hp} {s : Shared} (I : Inv X (pins ++ pl) σ H s) : Inv X pins σ H s := I.pins_of fun p hp => I.pin p (List.mem_append_right _ (List.mem_append_left _ hp))
theorem ps_for {iter : Expr} {body : List Stmt} {wi : TI} {g : TG} {tb : TS} {pos : Pos} (hp : PassesOwn (model X.prog X.w) X.A X.env X.xe) (hc : X.calm = true) (hi : PI X tg iter wi) (hg : PG X tg g) (hb : PSs X body tb)
  (hs : ∀ x, foldedSetIterable iter X.env x = pure x := by intro _; rfl) : PS X (.For tg iter body [] pos) (tFor wi g tb) := by
 intro pins s σ H D I h
 refine wpAny_For (thn (hi pins s σ H _ I h) fun v s1 h1 => thn h1 fun itv s2 h2 => ?_) hs
 obtain ⟨it, fp, tn, J, H2, e, I2, T, st2, f2, W, ⟨m0, w0⟩, turn⟩ := h2
 subst e
 have stat : ∀ {H' : Hp}, (∀ b ∈ fp, H' b = none) → ∀ b ∈ fp, FpOk X pins H' b := fun hn b hb => ⟨hn b hb, (f2 b hb).2⟩
 refine codeAny_forLoop_any (fun n s' => ∃ i σ' H', Inv X pins σ' H' s' ∧ tn i s'.heap ∧ (∀ b ∈ fp, H' b = none) ∧ W i n σ' H') ?_ m0 ⟨0, σ, H2, I2, st2, fun b hb => (f2 b hb).1, w0⟩
 rintro n s3 ⟨i, σ3, H3, I3, st3, fr3, w3⟩
 rcases turn i n σ3 H3 w3 with ⟨stop, qn⟩ | ⟨go, N, hN, step⟩
 ·refine wpAny_passesOwn hp (thn (T.done X rfl rfl rfl hc i pins s3 σ3 H3 X.xe I3 (stat fr3) st3 stop) fun r s4 ⟨hr, I4⟩ => ?_)
  subst hr
  exact wpAny_execs_nil ⟨σ3, H3, I4, qn⟩
 ·refine wpAny_passesOwn hp (thn (T.item X rfl rfl rfl hc i pins s3 σ3 H3 X.xe I3 (stat fr3) st3 go) fun r s4 ⟨u, hr, h4⟩ => ?_)
  subst hr
  refine wpAny_passesOwn hp (thn h4 fun _ s5 ⟨x, H5, I5, r5, y5, st5, fr5⟩ => ?_)
  have I5' := I5.pinned (stat fr5) (T.obj _ _ st5)
  refine wpAny_passesOwn hp (thn (hg _ s5 σ3 H5 x u _ I5' r5 (step x H5 y5)) fun _ s6 ⟨σ6, H6, I6, q6⟩ => ?_)
  refine wpAny_passesOwn hp (thn (hb _ s6 σ6 H6 _ I6 q6) fun f s7 q7 => ?_)
  have again : ∀ {σ7 : St} {H7 : Hp}, Inv X (pins ++ pinsAt fp s5.heap) σ7 H7 s7 → N σ7 H7 → ∃ m, m < n ∧ ∃ i σ' H', Inv X pins σ' H' s7 ∧ tn i s7.heap ∧ (∀ b ∈ fp, H' b = none) ∧ W i m σ' H' := fun {σ7 H7} I7 n7 => by
   obtain ⟨m', hm, w7⟩ := hN σ7 H7 n7
   refine ⟨m', hm, i + 1, σ7, H7, I7.unpinned, T.keep _ _ _ st5 fun b hb o e => (I7.pin (b, o) (List.mem_append_right _ (List.mem_append_right _ (mem_pinsAt hb e)))).1, fun b hb => ?_, w7⟩
   obtain ⟨o, e, d⟩ := T.obj _ _ st5 b hb
   exact (I7.pin (b, o) (List.mem_append_right _ (List.mem_append_right _ (mem_pinsAt hb e)))).2.1
  cases f with
  | next => obtain ⟨σ7, H7, I7, n7⟩ := q7; exact again I7 n7
  | cont => obtain ⟨σ7, H7, I7, n7⟩ := q7; exact again I7 n7
  | brk => obtain ⟨σ7, H7, I7, q7⟩ := q7; exact ⟨σ7, H7, I7.unpinned, q7⟩
  | ret v => obtain ⟨x7, σ7, H7, I7, r7, q7⟩ := q7; exact ⟨x7, σ7, H7, I7.unpinned, r7, q7⟩
end
theorem for_range {lo : Int} {n : Nat} {g : TG} {tb : TS} {D : Ends} {σ : St} {H : Hp} (Pv : Nat → St → Hp → Prop) (h0 : Pv 0 σ H)
  (hs : ∀ i σ H, i < n → Pv i σ H → g (.int (lo + i)) σ H fun σ2 H2 => tb { D with nx := Pv (i + 1), ct := Pv (i + 1), bk := D.nx } σ2 H2) (hd : ∀ σ H, Pv n σ H → D.nx σ H) :
  ∃ W : Nat → Nat → St → Hp → Prop, (∃ m, W 0 m σ H) ∧ ∀ i m σ H, W i m σ H →
   ((Itr lo n).stop i H ∧ D.nx σ H) ∨ ((Itr lo n).go i H ∧ ∃ N : St → Hp → Prop, (∀ σ' H', N σ' H' → ∃ m', m' < m ∧ W (i + 1) m' σ' H') ∧ ∀ x H', (Itr lo n).yld i H x H' → g x σ H' fun σ2 H2 => tb { D with nx := N, ct := N, bk := D.nx } σ2 H2) := by
 refine ⟨fun i m σ H => m = n - i ∧ i ≤ n ∧ Pv i σ H, ⟨n, by simp, Nat.zero_le _, h0⟩, ?_⟩
 rintro i m σ H ⟨rfl, hi, p⟩
 by_cases hlt : i < n
 ·refine .inr ⟨hlt, Pv (i + 1), fun σ' H' p' => ⟨n - (i + 1), by omega, rfl, hlt, p'⟩, fun x H' y => ?_⟩
  obtain ⟨e, y⟩ := y
  subst e y
  exact hs i σ _ hlt p
 ·have e : i = n := by omega
  subst e
  exact .inl ⟨Nat.le_refl _, hd σ H p⟩
theorem while_by {c : TT} {tb : TS} {D : Ends} {σ : St} {H : Hp} (Pv : St → Hp → Prop) (μ : St → Hp → Nat) (h0 : Pv σ H)
  (hs : ∀ σ H, Pv σ H → c σ H fun b H1 => if b = true then tb { D with nx := fun σ' H' => Pv σ' H' ∧ μ σ' H' < μ σ H, ct := fun σ' H' => Pv σ' H' ∧ μ σ' H' < μ σ H, bk := D.nx } σ H1 else D.nx σ H1)
  (mono : ∀ σ H Q Q', (∀ b H1, Q b H1 → Q' b H1) → c σ H Q → c σ H Q') : tWhile c tb D σ H := by
 refine ⟨fun m σ H => m = μ σ H ∧ Pv σ H, ⟨_, rfl, h0⟩, ?_⟩
 rintro m σ H ⟨rfl, p⟩
 refine mono σ H _ _ (fun b H1 q => ?_) (hs σ H p)
 cases b with
 | true => exact ⟨_, fun σ' H' ⟨p', l⟩ => ⟨_, l, rfl, p'⟩, q⟩
 | false => exact q
end L2
namespace L2
open PySem PySem.Spec PyProof.Rows
abbrev R2 := V → V → Hp → VK → Prop
def OpR (X : Cx) (f : Value → Value → Sem Value) (r : R2) : Prop :=
 ∀ (pins : List (Addr × Obj)) (s : Shared) (σ : St) (H : Hp) (x y : V) (v u : Value) (Q : VK), Inv X pins σ H s → RelV x v → RelV y u → r x y H Q →
  wpAny (model X.prog X.w) X.A (f v u) (EP X pins σ Q) X.xe s
def UnR (X : Cx) (f : Value → Sem Value) (r : V → Hp → VK → Prop) : Prop :=
 ∀ (pins : List (Addr × Obj)) (s : Shared) (σ : St) (H : Hp) (x : V) (v : Value) (Q : VK), Inv X pins σ H s → RelV x v → r x H Q →
  wpAny (model X.prog X.w) X.A (f v) (EP X pins σ Q) X.xe s
def CallR (X : Cx) (f : Value) (r : List V → Hp → VK → Prop) : Prop :=
 ∀ (pins : List (Addr × Obj)) (s : Shared) (σ : St) (H : Hp) (xs : List V) (us : List Value) (Q : VK), Inv X pins σ H s → Vals xs us → r xs H Q →
  wpAny (model X.prog X.w) X.A (call f us) (EP X pins σ Q) X.xe s
def tOp (r : R2) (ta tb : TE) : TE := fun σ H Q => ta σ H fun x H1 => tb σ H1 fun y H2 => r x y H2 Q
def tUn (r : V → Hp → VK → Prop) (ta : TE) : TE := fun σ H Q => ta σ H fun x H1 => r x H1 Q
def rI (C : Int → Int → Prop) (g : Int → Int → V) : R2 := fun x y H Q => ∃ i j, x = .int i ∧ y = .int j ∧ C i j ∧ Q (g i j) H
def rI0 (g : Int → Int → V) : R2 := fun x y H Q => ∃ i j, x = .int i ∧ y = .int j ∧ Q (g i j) H
def rU (g : Int → V) : V → Hp → VK → Prop := fun x H Q => ∃ i, x = .int i ∧ Q (g i) H
section
variable {X : Cx} {a b c : Expr} {ta tb tc : TE} {pos : Pos}
theorem binT (ha : PE X a ta) (hb : PE X b tb) {pins : List (Addr × Obj)} {s : Shared} {σ : St} {H : Hp} {R : V → V → Hp → Prop} (I : Inv X pins σ H s)
  (h : ta σ H fun x H1 => tb σ H1 fun y H2 => R x y H2) {Q : Value → Shared → Prop} {f : Value → Value → Sem Value}
  (hf : ∀ v u s2 x y H2, Inv X pins σ H2 s2 → RelV x v → RelV y u → R x y H2 → wpAny (model X.prog X.w) X.A (f v u) Q X.xe s2) :
  wpAny (model X.prog X.w) X.A (eval a X.env) (fun v s₁ => wpAny (model X.prog X.w) X.A (eval b X.env) (fun u s₂ => wpAny (model X.prog X.w) X.A (f v u) Q X.xe s₂) X.xe s₁) X.xe s := by
 refine thn (ha pins s σ H _ I h) fun v s1 ⟨x, H1, I1, r1, q1⟩ => ?_
 refine thn (hb pins s1 σ H1 _ I1 q1) fun u s2 ⟨y, H2, I2, r2, q2⟩ => ?_
 exact hf v u s2 x y H2 I2 r1 r2 q2
theorem pe_op {op : Operator} {r : R2} (ho : OpR X (binaryOp op) r) (ha : PE X a ta) (hb : PE X b tb) : PE X (.BinOp a op b pos) (tOp r ta tb) := by
 intro pins s σ H Q I h
 exact wpAny_BinOp (binT ha hb I h fun v u s2 x y H2 I2 rx ry q => ho pins s2 σ H2 x y v u Q I2 rx ry q)
theorem pe_un {op : UnaryOp} {r : V → Hp → VK → Prop} (ho : UnR X (unaryOp op) r) (ha : PE X a ta) : PE X (.UnaryOp op a pos) (tUn r ta) := by
 intro pins s σ H Q I h
 exact UnaryOp_ (thn (ha pins s σ H _ I h) fun v s1 ⟨x, H1, I1, r1, q1⟩ => ho pins s1 σ H1 x v Q I1 r1 q1)
theorem opI {f : Value → Value → Sem Value} {C : Int → Int → Prop} {g : Int → Int → Int}
  (rule : ∀ (i j : Int) (t u : Tok) (s : Shared) (Q : Value → Shared → Prop) (E : Value → Shared → Prop), C i j → Q (.int (g i j) s.toks) { s with toks := s.toks + 1 } → wpAny (model X.prog X.w) X.A (f (.int i t) (.int j u)) Q E s) :
  OpR X f (rI C fun i j => .int (g i j)) := by
 intro pins s σ H x y v u Q I rx ry h
 obtain ⟨i, j, rfl, rfl, hc, q⟩ := h
 obtain ⟨t, rfl⟩ := rx
 obtain ⟨t', rfl⟩ := ry
 exact rule i j t t' s _ _ hc ⟨.int (g i j), H, I.tok _, ⟨_, rfl⟩, q⟩
theorem opI0 {f : Value → Value → Sem Value} {g : Int → Int → Int}
  (rule : ∀ (i j : Int) (t u : Tok) (s : Shared) (Q : Value → Shared → Prop) (E : Value → Shared → Prop), Q (.int (g i j) s.toks) { s with toks := s.toks + 1 } → wpAny (model X.prog X.w) X.A (f (.int i t) (.int j u)) Q E s) :
  OpR X f (rI0 fun i j => .int (g i j)) := by
 intro pins s σ H x y v u Q I rx ry h
 obtain ⟨i, j, rfl, rfl, q⟩ := h
 obtain ⟨t, rfl⟩ := rx
 obtain ⟨t', rfl⟩ := ry
 exact rule i j t t' s _ _ ⟨.int (g i j), H, I.tok _, ⟨_, rfl⟩, q⟩
theorem opB0 {f : Value → Value → Sem Value} {g : Int → Int → Bool}
  (rule : ∀ (i j : Int) (t u : Tok) (s : Shared) (Q : Value → Shared → Prop) (E : Value → Shared → Prop), Q (.bool (g i j)) s → wpAny (model X.prog X.w) X.A (f (.int i t) (.int j u)) Q E s) :
  OpR X f (rI0 fun i j => .bl (g i j)) := by
 intro pins s σ H x y v u Q I rx ry h
 obtain ⟨i, j, rfl, rfl, q⟩ := h
 obtain ⟨t, rfl⟩ := rx
 obtain ⟨t', rfl⟩ := ry
 exact rule i j t t' s _ _ ⟨.bl (g i j), H, I, rfl, q⟩
def CPow (i j : Int) : Prop := 0 ≤ j ∧ j ≤ 1000000 ∧ i.natAbs < 2 ^ 64
theorem op_add : OpR X (binaryOp .Add) (rI0 fun i j => .int (i + j)) := opI0 fun _ _ _ _ _ _ _ q => add_int q
theorem op_sub : OpR X (binaryOp .Sub) (rI0 fun i j => .int (i - j)) := opI0 fun _ _ _ _ _ _ _ q => sub_int q
theorem op_mod : OpR X (binaryOp .Mod) (rI (fun _ j => 0 < j) fun i j => .int (i % j)) := opI fun i j _ _ _ _ _ hc q => by
 have h1 : (0 : Int) < j := hc
 exact mod_int' (by omega) (by rw [Int.fmod_eq_emod_of_nonneg i (by omega)]; exact q)
theorem op_pow : OpR X (binaryOp .Pow) (rI CPow fun i j => .int (i ^ j.toNat)) := opI fun _ _ _ _ _ _ _ hc q => pow_int_small hc.1 hc.2.1 hc.2.2 q
theorem unI {f : Value → Sem Value} {g : Int → Int}
  (rule : ∀ (i : Int) (t : Tok) (s : Shared) (Q : Value → Shared → Prop) (E : Value → Shared → Prop), Q (.int (g i) s.toks) { s with toks := s.toks + 1 } → wpAny (model X.prog X.w) X.A (f (.int i t)) Q E s) :
  UnR X f (rU fun i => .int (g i)) := by
 intro pins s σ H x v Q I rx h
 obtain ⟨i, rfl, q⟩ := h
 obtain ⟨t, rfl⟩ := rx
 exact rule i t s _ _ ⟨.int (g i), H, I.tok _, ⟨_, rfl⟩, q⟩
theorem un_neg : UnR X (unaryOp .USub) (rU fun i => .int (-i)) := unI fun _ _ _ _ _ q => neg_int q
end
def scal : V → V → Bool
 | .non, .non => true | .non, .int _ => true | .int _, .non => true | .non, .bl _ => true | .bl _, .non => true | .non, .str _ => true | .str _, .non => true
 | .int _, .int _ => true | .bl _, .bl _ => true | .str _, .str _ => true | .byt _, .byt _ => true
 | .int _, .str _ => true | .str _, .int _ => true | .bl _, .str _ => true | .str _, .bl _ => true
 | _, _ => false
def rEq : R2 := fun x y H Q => scal x y = true ∧ Q (.bl (decide (x = y))) H
def rNe : R2 := fun x y H Q => scal x y = true ∧ Q (.bl (!decide (x = y))) H
theorem dec_int {i j : Int} : decide (V.int i = V.int j) = (i == j) := by
 rw [Bool.eq_iff_iff]
 simp
theorem dec_bl {i j : Bool} : decide (V.bl i = V.bl j) = (i == j) := by
 rw [Bool.eq_iff_iff]
 simp
theorem dec_str {i j : Str} : decide (V.str i = V.str j) = (i == j) := by
 rw [Bool.eq_iff_iff]
 simp
theorem dec_byt {i j : Array UInt8} : decide (V.byt i = V.byt j) = (i.toList == j.toList) := by
 rw [Bool.eq_iff_iff]
 cases i
 cases j
 simp
section
variable {X : Cx} {a b c : Expr} {ta tb tc : TE} {pos : Pos}
theorem fin_bl {pins : List (Addr × Obj)} {σ : St} {H : Hp} {s : Shared} {Q : VK} {k k' : Bool} (I : Inv X pins σ H s) (q : Q (.bl k) H) (e : k = k') : EP X pins σ Q (.bool k') s := by
 subst e
 exact ⟨.bl k, H, I, rfl, q⟩
theorem op_eq : OpR X (compareOp .Eq) rEq := by
 intro pins s σ H x y v u Q I rx ry h
 obtain ⟨hs, q⟩ := h
 cases x with
 | non =>
  cases rx
  cases y with
  | non => cases ry; exact PySem.EqNone.eq_none_none (fin_bl I q (by simp))
  | bl j => cases ry; exact PySem.EqNone.eq_none_bool (fin_bl I q (by simp))
  | int j => obtain ⟨t', rfl⟩ := ry; exact PySem.EqNone.eq_none_int (fin_bl I q (by simp))
  | str j => obtain ⟨t', rfl⟩ := ry; exact PySem.EqNone.eq_none_str (fin_bl I q (by simp))
  | _ => exact absurd (show false = true from hs) Bool.false_ne_true
 | bl i =>
  cases rx
  cases y with
  | non => cases ry; exact PySem.EqNone.eq_bool_none (fin_bl I q (by simp))
  | bl j => cases ry; exact eq_bool (fin_bl I q dec_bl)
  | str j => obtain ⟨t', rfl⟩ := ry; exact PySem.EqMixed.eq_bool_str (fin_bl I q (by simp))
  | _ => exact absurd (show false = true from hs) Bool.false_ne_true
 | int i =>
  obtain ⟨t, rfl⟩ := rx
  cases y with
  | non => cases ry; exact PySem.EqNone.eq_int_none (fin_bl I q (by simp))
  | int j => obtain ⟨t', rfl⟩ := ry; exact eq_int (fin_bl I q dec_int)
  | str j => obtain ⟨t', rfl⟩ := ry; exact PySem.EqMixed.eq_int_str (fin_bl I q (by simp))
  | _ => exact absurd (show false = true from hs) Bool.false_ne_true
 | str i =>
  obtain ⟨t, rfl⟩ := rx
  cases y with
  | non => cases ry; exact PySem.EqNone.eq_str_none (fin_bl I q (by simp))
  | bl j => cases ry; exact PySem.EqMixed.eq_str_bool (fin_bl I q (by simp))
  | int j => obtain ⟨t', rfl⟩ := ry; exact PySem.EqMixed.eq_str_int (fin_bl I q (by simp))
  | str j => obtain ⟨t', rfl⟩ := ry; exact eq_str (fin_bl I q dec_str)
  | _ => exact absurd (show false = true from hs) Bool.false_ne_true
 | byt i =>
  obtain ⟨t, rfl⟩ := rx
  cases y with
  | byt j => obtain ⟨t', rfl⟩ := ry; exact PySem.W.eq_bytes (fin_bl I q dec_byt)
  | _ => exact absurd (show false = true from hs) Bool.false_ne_true
 | _ => cases y <;> exact absurd (show false = true from hs) Bool.false_ne_true
theorem op_ne : OpR X (compareOp .NotEq) rNe := by
 intro pins s σ H x y v u Q I rx ry h
 obtain ⟨hs, q⟩ := h
 cases x with
 | non =>
  cases rx
  cases y with
  | non => cases ry; exact PySem.EqNone.ne_none_none (fin_bl I q (by simp))
  | bl j => cases ry; exact PySem.EqNone.ne_none_bool (fin_bl I q (by simp))
  | int j => obtain ⟨t', rfl⟩ := ry; exact PySem.EqNone.ne_none_int (fin_bl I q (by simp))
  | str j => obtain ⟨t', rfl⟩ := ry; exact PySem.EqNone.ne_none_str (fin_bl I q (by simp))
  | _ => exact absurd (show false = true from hs) Bool.false_ne_true
 | bl i =>
  cases rx
  cases y with
  | non => cases ry; exact PySem.EqNone.ne_bool_none (fin_bl I q (by simp))
  | bl j => cases ry; exact ne_bool (fin_bl I q (congrArg not dec_bl))
  | str j => obtain ⟨t', rfl⟩ := ry; exact PySem.EqMixed.ne_bool_str (fin_bl I q (by simp))
  | _ => exact absurd (show false = true from hs) Bool.false_ne_true
 | int i =>
  obtain ⟨t, rfl⟩ := rx
  cases y with
  | non => cases ry; exact PySem.EqNone.ne_int_none (fin_bl I q (by simp))
  | int j => obtain ⟨t', rfl⟩ := ry; exact ne_int (fin_bl I q (congrArg not dec_int))
  | str j => obtain ⟨t', rfl⟩ := ry; exact PySem.EqMixed.ne_int_str (fin_bl I q (by simp))
  | _ => exact absurd (show false = true from hs) Bool.false_ne_true
 | str i =>
  obtain ⟨t, rfl⟩ := rx
  cases y with
  | non => cases ry; exact PySem.EqNone.ne_str_none (fin_bl I q (by simp))
  | bl j => cases ry; exact PySem.EqMixed.ne_str_bool (fin_bl I q (by simp))
  | int j => obtain ⟨t', rfl⟩ := ry; exact PySem.EqMixed.ne_str_int (fin_bl I q (by simp))
  | str j => obtain ⟨t', rfl⟩ := ry; exact ne_str (fin_bl I q (congrArg not dec_str))
  | _ => exact absurd (show false = true from hs) Bool.false_ne_true
 | byt i =>
  obtain ⟨t, rfl⟩ := rx
  cases y with
  | byt j => obtain ⟨t', rfl⟩ := ry; exact PySem.W.ne_bytes (fin_bl I q (congrArg not dec_byt))
  | _ => exact absurd (show false = true from hs) Bool.false_ne_true
 | _ => cases y <;> exact absurd (show false = true from hs) Bool.false_ne_true
theorem op_lt : OpR X (compareOp .Lt) (rI0 fun i j => .bl (decide (i < j))) := opB0 fun _ _ _ _ _ _ _ q => lt_int q
theorem op_gt : OpR X (compareOp .Gt) (rI0 fun i j => .bl (decide (j < i))) := opB0 fun _ _ _ _ _ _ _ q => gt_int q
theorem op_in_str : OpR X (compareOp .In) (fun x y H Q => ∃ i j, x = .str i ∧ y = .str j ∧ Q (.bl (!(Builtin.Str.occurrences j i 0 j.length 1).isEmpty)) H) := by
 intro pins s σ H x y v u Q I rx ry h
 obtain ⟨i, j, rfl, rfl, q⟩ := h
 obtain ⟨t, rfl⟩ := rx
 obtain ⟨t', rfl⟩ := ry
 exact in_str (fin_bl I q rfl)
theorem op_isN : OpR X (compareOp .Is) (fun x y H Q => y = .non ∧ Q (.bl (decide (x = .non))) H) := by
 intro pins s σ H x y v u Q I rx ry h
 obtain ⟨rfl, q⟩ := h
 cases ry
 refine is_none_gen (fin_bl I q ?_)
 cases x <;> first
  | (cases rx; rfl)
  | (obtain ⟨t, rfl⟩ := rx; rfl)
theorem op_notN : OpR X (compareOp .IsNot) (fun x y H Q => y = .non ∧ Q (.bl (!decide (x = .non))) H) := by
 intro pins s σ H x y v u Q I rx ry h
 obtain ⟨rfl, q⟩ := h
 cases ry
 refine isnot_none_gen (fin_bl I q ?_)
 cases x <;> first
  | (cases rx; rfl)
  | (obtain ⟨t, rfl⟩ := rx; rfl)
theorem nomark (b : Expr) {op : CmpOp} (h : op ≠ .In := by decide) (h2 : op ≠ .NotIn := by decide) : behindInMarks op b = false := by
 have e1 : (op == CmpOp.In) = false := by cases op <;> first | rfl | exact absurd rfl h
 have e2 : (op == CmpOp.NotIn) = false := by cases op <;> first | rfl | exact absurd rfl h2
 cases b <;> simp [behindInMarks, e1, e2]
theorem pe_cmpR {op : CmpOp} {r : R2} (ho : OpR X (compareOp op) r) (ha : PE X a ta) (hb : PE X b tb) (hm : behindInMarks op b = false) : PE X (.Compare a [op] [b] pos) (tOp r ta tb) := by
 intro pins s σ H Q I h
 exact wpAny_Compare1 (binT ha hb I h fun v u s2 x y H2 I2 rx ry q => ho pins s2 σ H2 x y v u Q I2 rx ry q) hm
def tTest (t : TE) : TT := fun σ H Q => t σ H fun x H' => ∃ k, x = .bl k ∧ Q k H'
theorem pt_cmpR {op : CmpOp} {r : R2} (ho : OpR X (compareOp op) r) (ha : PE X a ta) (hb : PE X b tb) (hm : behindInMarks op b = false) : PT X (.Compare a [op] [b] pos) (tTest (tOp r ta tb)) := by
 intro pins s σ H Q I h
 refine wpAny_isTrue_Compare1 (thn (ha pins s σ H _ I h) fun v s1 ⟨x, H1, I1, r1, q1⟩ => thn (hb pins s1 σ H1 _ I1 q1) fun u s2 ⟨y, H2, I2, r2, q2⟩ =>
  thn (ho pins s2 σ H2 x y v u _ I2 r1 r2 q2) fun c s3 ⟨z, H3, I3, r3, k, e, q3⟩ => ?_) hm
 subst e
 cases r3
 exact wpAny_truthy_bool ⟨H3, I3, q3⟩
theorem line63 : (sizeLine : Nat) < 2 ^ 63 := by rw [sizeLine_eq]; decide
theorem op_add_str : OpR X (binaryOp .Add) (fun x y H Q => ∃ i j, x = .str i ∧ y = .str j ∧ i.length + j.length ≤ sizeLine ∧ Q (.str (i ++ j)) H) := by
 intro pins s σ H x y v u Q I rx ry h
 obtain ⟨i, j, rfl, rfl, hz, q⟩ := h
 obtain ⟨t, rfl⟩ := rx
 obtain ⟨t', rfl⟩ := ry
 exact add_str (fun t' tk => ⟨.str (i ++ j), H, I.tok _, ⟨_, rfl⟩, q⟩) hz
theorem vals1 {x : V} {us : List Value} (r : Vals [x] us) : ∃ u, us = [u] ∧ RelV x u := by
 cases r with
 | cons r1 r2 => cases r2; exact ⟨_, rfl, r1⟩
theorem vals2 {x y : V} {us : List Value} (r : Vals [x, y] us) : ∃ u w', us = [u, w'] ∧ RelV x u ∧ RelV y w' := by
 cases r with
 | cons r1 r2 =>
  cases r2 with
  | cons r3 r4 => cases r4; exact ⟨_, _, rfl, r1, r3⟩
theorem call_abs : CallR X (.builtin "abs") (fun xs H Q => ∃ i, xs = [.int i] ∧ Q (.int (if i < 0 then -i else i)) H) := by
 intro pins s σ H xs us Q I r h
 obtain ⟨i, rfl, q⟩ := h
 obtain ⟨u, rfl, t, rfl⟩ := vals1 r
 exact call_abs_int fun u tk => ⟨.int (if i < 0 then -i else i), H, I.tok _, ⟨_, rfl⟩, q⟩
theorem call_max2 (hc : X.calm = true) : CallR X (.builtin "max") (fun xs H Q => ∃ i j, xs = [.int i, .int j] ∧ Q (.int (if j > i then j else i)) H) := by
 intro pins s σ H xs us Q I r h
 obtain ⟨i, j, rfl, q⟩ := h
 obtain ⟨u, w', rfl, ⟨t, rfl⟩, ⟨t', rfl⟩⟩ := vals2 r
 refine max_two_ints (I.ok.hd hc) fun h' tk k => ⟨_, H, I.kept k, ?_, q⟩
 by_cases hj : j > i
 ·rw [if_pos hj, if_pos hj]; exact ⟨_, rfl⟩
 ·rw [if_neg hj, if_neg hj]; exact ⟨_, rfl⟩
theorem call_int1 : CallR X (.type "int") (fun xs H Q => (∃ i, xs = [.int i] ∧ Q (.int i) H) ∨ ∃ k, xs = [.bl k] ∧ Q (.int (if k then 1 else 0)) H) := by
 intro pins s σ H xs us Q I r h
 rcases h with ⟨i, rfl, q⟩ | ⟨k, rfl, q⟩
 ·obtain ⟨u, rfl, t, rfl⟩ := vals1 r
  exact call_int_int ⟨.int i, H, I, ⟨_, rfl⟩, q⟩
 ·obtain ⟨u, rfl, r1⟩ := vals1 r
  cases r1
  exact call_int_bool ⟨.int (if k then 1 else 0), H, I.tok _, ⟨_, rfl⟩, q⟩
theorem call_str_int : CallR X (.type "str") (fun xs H Q => ∃ i, xs = [.int i] ∧ i.natAbs.log2 < 1920 ∧ Q (.str (toString i)) H) := by
 intro pins s σ H xs us Q I r h
 obtain ⟨i, rfl, hz, q⟩ := h
 obtain ⟨u, rfl, t, rfl⟩ := vals1 r
 exact PySem.P.str_of_int hz ⟨.str _, H, I.tok _, ⟨_, rfl⟩, q⟩
end
end L2
namespace L2
open PySem PySem.Spec PyProof.Rows
structure ObjM (h : Heap) (x dx C : Addr) (mA : Str → Option Value) : Prop where
 obj : h.get? x = some (PySem.W.instObj C dx)
 ns : h.Ns1 dx mA
 ne : dx ≠ x
theorem lookIn_ns {h : Heap} {dx : Addr} {mA : Str → Option Value} (n : h.Ns1 dx mA) : ∃ od, h.get? dx = some od ∧ ∀ name, PySem.W.lookIn name od = some (mA name) := by
 obtain ⟨o, es, ep, ho, hd, hk, _, hm⟩ := n
 refine ⟨o, ho, fun name => ?_⟩
 have e := hm name
 unfold nsFind findBy at e
 rw [← Array.find?_toList] at e
 unfold PySem.W.lookIn
 rw [hd]
 dsimp only
 split
 ·rename_i y q
  rw [q] at e
  exact congrArg some e
 ·rename_i q
  rw [q] at e
  have a : es.toList.any (·.refKey) = false := by
   rw [List.any_eq_false]
   intro y hy
   obtain ⟨z, t, hkey⟩ := hk y (Array.mem_toList_iff.mp hy)
   simp [DictEntry.refKey, hkey]
  have a' : ¬ es.toList.any (·.refKey) = true := by rw [a]; exact Bool.false_ne_true
  rw [if_neg a']
  exact congrArg some e
theorem ObjM.look {h : Heap} {x dx C : Addr} {mA : Str → Option Value} (I : ObjM h x dx C mA) : ∃ od, PySem.W.InstAt h x (PySem.W.instObj C dx) C (some od) ∧ ∀ name, PySem.W.lookIn name od = some (mA name) :=
 let ⟨od, ho, hl⟩ := lookIn_ns I.ns
 ⟨od, ⟨I.obj, rfl, rfl, ho⟩, hl⟩
section
variable {P : Program} {w : World} {H H' : Hp} {h h' : Heap} {a C dx : Addr} {fs fs' : List (Str × V)}
theorem ins_get (hok : HOk P w H h) (e : H a = some (.ins C dx fs)) : ∃ mA, ObjM h a dx C mA ∧ (∀ f, RelO (fs.lookup f) (mA f)) ∧ PySem.Within mA (fs.map (·.1)) ∧ fs.length ≤ 1000 ∧ H dx = some (.own a) := by
 obtain ⟨d, z, ne, ob, mA, n, r, q⟩ := (show ObjOk P w H h a (.ins C dx fs) from hok a _ e)
 exact ⟨mA, ⟨ob, n, ne⟩, r, q, z, d⟩
end
structure Cls (K : PySem.W.Frag) (C : Addr) : Prop where
 pg : PySem.W.plainGet K C Str.empty = true
 hd : PySem.W.hasDictIn K C = true
 po : PySem.W.plainOver K C = true
 sa : PySem.W.findIn K (.ref C) "__setattr__" = some (some (.builtin "object.__setattr__"))
theorem Cls.get {K : PySem.W.Frag} {C : Addr} (c : Cls K C) (f : Str) : PySem.W.plainGet K C f = true := c.pg
section
variable {X : Cx} {pins : List (Addr × Obj)} {σ : St} {H : Hp} {s : Shared} {A : Around} {E : Value → Shared → Prop} {Q : Value → Shared → Prop} {c : Value} {b : Bool}
inductive TyOf (K : PySem.W.Frag) (H : Hp) : V → Value → Prop where
 | non : TyOf K H .non (.type "NoneType")
 | bl (x : Bool) : TyOf K H (.bl x) (.type "bool")
 | int (i : Int) : TyOf K H (.int i) (.type "int")
 | str (x : Str) : TyOf K H (.str x) (.type "str")
 | flt (x : UInt64) : TyOf K H (.flt x) (.type "float")
 | lst {a : Addr} {xs : List V} (e : H a = some (.lst xs)) : TyOf K H (.ref a) (.type "list")
 | frz {a : Addr} {o : Obj} {xs : List V} (e : H a = some (.frz o (.lst xs))) : TyOf K H (.ref a) (.type "list")
 | tup {a : Addr} {xs : List V} (e : H a = some (.tup xs)) : TyOf K H (.ref a) (.type "tuple")
 | dK {a : Addr} {kvs : List (Key × V)} (e : H a = some (.dK kvs)) : TyOf K H (.ref a) (.type "dict")
 | dT {a : Addr} {kvs : List (List Key × V)} (e : H a = some (.dT kvs)) : TyOf K H (.ref a) (.type "dict")
 | ins {a C dx : Addr} {fs : List (Str × V)} (e : H a = some (.ins C dx fs)) (cl : Cls K C) (ha : PySem.W.findIn K (.ref C) "__class__" = some (some (.builtin "object.__class__")))
   (hn : PySem.W.specialIn K (.builtin "object.__class__") "__get__" = some (some (.builtin "getset_descriptor.__get__"))) (htk : PySem.W.takesIn K (.builtin "object.__class__") = some true)
   (hm : PySem.W.mroIn K C (.type "object") = some true) : TyOf K H (.ref a) (.ref C)
theorem isinst_ok {x : V} {u t : Value} (I : Inv X pins σ H s) (rx : RelV x u) (ty : TyOf X.K H x t) (e : PySem.W.kitOne X.K t c = some b) (h : ∀ tk, Q (.bool b) { s with toks := tk }) :
  wpAny (model X.prog X.w) A (call (.builtin "isinstance") [u, c]) Q E s := by
 cases ty with
 | non => cases (show u = Value.none from rx); exact PySem.W.kia_one PySem.W.kitx_none I.kIn True.intro e (fun z => nomatch z) h
 | bl y => cases (show u = Value.bool y from rx); exact PySem.W.kia_one PySem.W.kitx_bool I.kIn True.intro e (fun z => nomatch z) h
 | int i => obtain ⟨t, q⟩ := (show ∃ t, u = Value.int i t from rx); cases q; exact PySem.W.kia_one PySem.W.kitx_int I.kIn True.intro e (fun z => nomatch z) h
 | str y => obtain ⟨t, q⟩ := (show ∃ t, u = Value.str y t from rx); cases q; exact PySem.W.kia_one PySem.W.kitx_str I.kIn True.intro e (fun z => nomatch z) h
 | flt y => obtain ⟨t, q⟩ := (show ∃ t, u = Value.float y t from rx); cases q; exact PySem.W.kia_one PySem.W.kitx_float I.kIn True.intro e (fun z => nomatch z) h
 | @lst a xs ea =>
  cases (show u = Value.ref a from rx)
  obtain ⟨_, _, n, _, h1⟩ := (show ObjOk X.prog X.w H s.heap a (.lst xs) from I.hok a _ ea)
  exact PySem.W.kia_one PySem.W.kitx_list I.kIn ⟨_, h1, rfl⟩ e (fun z => nomatch z) h
 | @frz a ob xs ea =>
  cases (show u = Value.ref a from rx)
  obtain ⟨_, _, _, n, _, h1⟩ := (show ObjOk X.prog X.w H s.heap a (.frz ob (.lst xs)) from I.hok a _ ea)
  exact PySem.W.kia_one PySem.W.kitx_list I.kIn ⟨_, h1, rfl⟩ e (fun z => nomatch z) h
 | @tup a xs ea =>
  cases (show u = Value.ref a from rx)
  obtain ⟨_, _, _, p, _⟩ := (show ObjOk X.prog X.w H s.heap a (.tup xs) from I.hok a _ ea)
  obtain ⟨o, h1, h2, _⟩ := p
  exact PySem.W.kia_one PySem.W.kitx_tuple I.kIn ⟨o, h1, h2⟩ e (fun z => nomatch z) h
 | @dK a kvs ea =>
  cases (show u = Value.ref a from rx)
  obtain ⟨_, _, vs, _, p⟩ := (show ObjOk X.prog X.w H s.heap a (.dK kvs) from I.hok a _ ea)
  obtain ⟨o, es, ep, h1, h2, _⟩ := p
  exact PySem.W.kia_one PySem.W.kitx_dict I.kIn ⟨o, h1, h2.1⟩ e (fun z => nomatch z) h
 | @dT a kvs ea =>
  cases (show u = Value.ref a from rx)
  obtain ⟨_, _, xs, _, o, es, ep, h1, h2, _⟩ := (show ObjOk X.prog X.w H s.heap a (.dT kvs) from I.hok a _ ea)
  exact PySem.W.kia_one PySem.W.kitx_dict I.kIn ⟨o, h1, h2.1⟩ e (fun z => nomatch z) h
 | @ins a C dx fs ea cl ha hn htk hm =>
  cases (show u = Value.ref a from rx)
  obtain ⟨mA, O, _⟩ := ins_get I.hok ea
  obtain ⟨od, J, _⟩ := O.look
  exact PySem.W.kia_one (PySem.W.kitx_own (cl.get _) cl.hd ha hn htk hm) I.kIn J e (fun z => nomatch z) h
end
end L2
namespace L2
open PySem PySem.Spec PyProof.Rows
structure Room (k : Nat) (A : Around) : Prop where
 hd : A.handled = none
 dp : A.depth + 3 * k + 5 < recursionLimit
 un : A.units + 16 * k + 200 < cLine
theorem Room.mono {j k : Nat} {A : Around} (r : Room k A) (h : j ≤ k) : Room j A := ⟨r.hd, by have := r.dp; omega, by have := r.un; omega⟩
theorem Room.deeper {k : Nat} {A : Around} (r : Room (k + 1) A) (env : Env) : Room k (A.deeper env) :=
 ⟨r.hd, by have := r.dp; show A.depth + 1 + 3 * k + 5 < _; omega, by have := r.un; show A.units + 3 + 16 * k + 200 < _; omega⟩
theorem Room.depth {k : Nat} {A : Around} (r : Room k A) : A.depth < recursionLimit := by have := r.dp; omega
theorem Room.units {k : Nat} {A : Around} (r : Room k A) : A.units + 64 < cLine := by have := r.un; omega
def tNil : TA := fun _ H Q => Q [] H
def tCons (ta : TE) (tr : TA) : TA := fun σ H Q => ta σ H fun x H1 => tr σ H1 fun xs H2 => Q (x :: xs) H2
section
variable {X : Cx} {e : Expr} {es : List Expr} {te : TE} {t : TA} {pos : Pos}
theorem pa_nil : PA X [] tNil := fun _ _ _ _ H Q I h => Calls.spliced_nil ⟨[], H, I, .nil, h⟩
theorem pa_cons (ha : PE X e te) (hr : PA X es t) (hs : starEach (e :: es) X.env = (false, eval e X.env) :: starEach es X.env := by rfl) : PA X (e :: es) (tCons te t) := by
 intro pos pins s σ H Q I h
 rw [hs]
 show wpAny _ _ (spliced ((false, eval e X.env) :: backTo pos (starEach es X.env))) _ _ s
 refine Calls.spliced_cons (thn (ha pins s σ H _ I h) fun u s1 ⟨x, H1, I1, r1, q1⟩ => ?_)
 exact thn (hr pos pins s1 σ H1 _ I1 q1) fun us s2 ⟨xs, H2, I2, r2, q2⟩ => ⟨x :: xs, H2, I2, .cons r1 r2, q2⟩
def tTup (t : TA) : TE := fun σ H Q => t σ H fun xs H1 => xs.length ≤ sizeLine ∧ ∀ p, H1 p = none → Q (.ref p) (upd H1 p (.tup xs))
def tLst (t : TA) : TE := fun σ H Q => t σ H fun xs H1 => xs.length ≤ sizeLine ∧ ∀ p, H1 p = none → Q (.ref p) (upd H1 p (.lst xs))
theorem pe_tup {x1} (h : PA X es t) : PE X (.Tuple es x1 pos) (tTup t) := by
 intro pins s σ H Q I hq
 refine wpAny_Tuple_spliced (thn (h pos pins s σ H _ I hq) fun us s1 ⟨xs, H1, I1, r, z, q⟩ => ⟨by rw [← r.length]; exact z, ?_⟩)
 have hf : H1 s1.heap.objs.size = none := I1.hok.fresh (Nat.le_refl _)
 refine ⟨.ref s1.heap.objs.size, upd H1 s1.heap.objs.size (.tup xs), I1.laid (t' := s1.toks) (fun b u e => Heap.get?_push_of_some _ e) (Nat.le_refl _) ?_, rfl, q _ hf⟩
 exact ⟨z, us, r, ⟨_, Heap.get?_push_size _ rfl, rfl, _, rfl⟩, _, Heap.get?_push_size _ rfl, rfl⟩
theorem pe_lst (h : PA X es t) : PE X (.List es pos) (tLst t) := by
 intro pins s σ H Q I hq
 refine wpAny_List_spliced (thn (h pos pins s σ H _ I hq) fun us s1 ⟨xs, H1, I1, r, z, q⟩ => ⟨by rw [← r.length]; exact z, ?_⟩)
 have hf : H1 s1.heap.objs.size = none := I1.hok.fresh (Nat.le_refl _)
 refine ⟨.ref s1.heap.objs.size, upd H1 s1.heap.objs.size (.lst xs), I1.laid (t' := s1.toks) (fun b u e => Heap.get?_push_of_some _ e) (Nat.le_refl _) ?_, rfl, q _ hf⟩
 exact ⟨z, us, 0, r, Heap.get?_push_size _ rfl⟩
end
abbrev Sp := List V → Hp → VK → XK → Prop
abbrev CXT := List Env → Hp → Shared → XK → Value → Shared → Prop
structure Env0 (P : Program) (w : World) (K : PySem.W.Frag) (mg : Str → Option Value) (base : Heap) (A : Around) (outer : List Env) (s : Shared) (H : Hp) : Prop where
 frames : A.frames = some outer
 mod : Mod K mg base
 bs : ∀ b o, base.get? b = some o → s.heap.get? b = some o ∧ H b = none
 bsz : base.objs.size ≤ s.heap.objs.size
 funs : s.heap.FunFrames base outer
 frf : ∀ b ∈ frs outer, H b = none
 hok : HOk P w H s.heap
 bare : AllBare s.gens
def CE (outer : List Env) (P : Program) (w : World) (H : Hp) (s : Shared) (Q : VK) (u : Value) (s' : Shared) : Prop :=
 ∃ v H', s'.os = s.os ∧ AllBare s'.gens ∧ Un (frs outer) [] H H' s.heap s'.heap ∧ HOk P w H' s'.heap ∧ RelV v u ∧ Q v H'
def CR (CX : CXT) (outer : List Env) (P : Program) (w : World) (H : Hp) (s : Shared) (Q : VK) (E : XK) (r : Result) (s' : Shared) : Prop :=
 match r with
 | .ok (.ret u) => CE outer P w H s Q u s'
 | .ok _ => False
 | .error e => CX outer H s E e s'
structure FnOk (P : Program) (w : World) (K : PySem.W.Frag) (mg : Str → Option Value) (base : Heap) (CX : CXT) (k : Nat) (f : Addr) (fd : FuncData) (ps : List Str) (sp : Sp) : Prop where
 len : ∀ vs H Q E, sp vs H Q E → vs.length = ps.length
 run : ∀ (A : Around) (outer : List Env) (s : Shared) (H : Hp) (args : Args) (us : List Value) (vs : List V) (Q : VK) (E : XK), Room k A → Env0 P w K mg base A outer s H → BindsTo s fd args (ps.zip us) → Vals vs us → sp vs H Q E →
  codeAny (model P w) A (.call (.ref f) args) (CR CX outer P w H s Q E) s
theorem FnOk.mono {P : Program} {w : World} {K : PySem.W.Frag} {mg : Str → Option Value} {base : Heap} {CX : CXT} {j k : Nat} {f : Addr} {fd : FuncData} {ps : List Str} {sp : Sp} (F : FnOk P w K mg base CX j f fd ps sp) (h : j ≤ k) :
  FnOk P w K mg base CX k f fd ps sp := ⟨F.len, fun A outer s H args us vs Q E hr => F.run A outer s H args us vs Q E (hr.mono h)⟩
theorem FnOk.imp {P : Program} {w : World} {K : PySem.W.Frag} {mg : Str → Option Value} {base : Heap} {CX : CXT} {k : Nat} {f : Addr} {fd : FuncData} {ps : List Str} {sp sp' : Sp} (F : FnOk P w K mg base CX k f fd ps sp)
  (h : ∀ vs H Q E, sp' vs H Q E → sp vs H Q E) : FnOk P w K mg base CX k f fd ps sp' :=
 ⟨fun vs H Q E q => F.len vs H Q E (h _ _ _ _ q), fun A outer s H args us vs Q E hr he hb hv hs => F.run A outer s H args us vs Q E hr he hb hv (h _ _ _ _ hs)⟩
section
variable {X : Cx} {pins : List (Addr × Obj)} {σ : St} {H : Hp} {s s' : Shared}
theorem Inv.env0 (I : Inv X pins σ H s) : Env0 X.prog X.w X.K X.mg X.base X.A X.stack s H :=
 ⟨I.ok.frames, I.ok.mod, I.bs, Nat.le_trans I.ok.bsz I.sz, I.stack, I.stkFree, I.hok, I.bare⟩
theorem Inv.after {Q : VK} {u : Value} (I : Inv X pins σ H s) (h : CE X.stack X.prog X.w H s Q u s') : EP X pins σ Q u s' := by
 obtain ⟨v, H', os, bare, un, hok, r, q⟩ := h
 obtain ⟨hh, g, d, t, os'⟩ := s'
 obtain rfl : os' = s.os := os
 exact ⟨v, H', I.call (h' := hh) (g' := g) (d' := d) (t' := t) (ch := []) un hok bare (fun b z => absurd z (by simp)), r, q⟩
end
def tCall (sp : Sp) (dvs : List V) (E : XK) (t : TA) : TE := fun σ H Q => t σ H fun vs H1 => sp (vs ++ dvs) H1 Q E
def Binds (K : PySem.W.Frag) (fd : FuncData) (ps : List Str) (ds : List Value) : Prop :=
 ∀ (s : Shared) (us : List Value), K.In s.heap → (us ++ ds).length = ps.length → BindsTo s fd ⟨us, []⟩ (ps.zip (us ++ ds))
theorem Binds.all {K : PySem.W.Frag} {fd : FuncData} {ps : List Str} (h : ∀ us : List Value, us.length = ps.length → bindArgs fd ⟨us, []⟩ = pure (ps.zip us)) : Binds K fd ps [] := fun s us _ hl => by
 rw [List.append_nil] at hl ⊢
 exact .of_eq (h us hl)
def Passes (CX : CXT) (X : Cx) (E : XK) : Prop := ∀ (pins : List (Addr × Obj)) (σ : St) (H : Hp) (s : Shared) (e : Value) (s' : Shared), Inv X pins σ H s → CX X.stack H s E e s' → X.xe e s'
section
variable {X : Cx} {CX : CXT} {k : Nat} {f C : Addr} {fd : FuncData} {ps : List Str} {sp : Sp} {dvs : List V} {ds : List Value} {E : XK} {x m : Str} {p pos apos : Pos} {e o : Expr} {es : List Expr} {ta : TE} {t : TA}
theorem run_fn {pins : List (Addr × Obj)} {σ : St} {H : Hp} {s : Shared} {Q : VK} {us : List Value} {vs : List V} (F : FnOk X.prog X.w X.K X.mg X.base CX k f fd ps sp) (hr : Room k X.A) (hb : Binds X.K fd ps ds) (hd : Vals dvs ds) (hx : Passes CX X E)
  (I : Inv X pins σ H s) (r : Vals vs us) (h : sp (vs ++ dvs) H Q E) : wpAny (model X.prog X.w) X.A (call (.ref f) us) (EP X pins σ Q) X.xe s := by
 have r2 : Vals (vs ++ dvs) (us ++ ds) := r.append hd
 have hl : (us ++ ds).length = ps.length := by rw [← r2.length]; exact F.len _ _ _ _ h
 refine wpAny_call (codeAny_mono (F.run X.A X.stack s H ⟨us, []⟩ (us ++ ds) (vs ++ dvs) Q E hr I.env0 (hb s us I.kIn hl) r2 h) fun r s' hq => ?_)
 cases r with
 | error e => exact hx pins σ H s e s' I hq
 | ok fl =>
  cases fl with
  | ret u => exact I.after hq
  | next => exact False.elim hq
  | brk => exact False.elim hq
  | cont => exact False.elim hq
theorem pe_call (F : FnOk X.prog X.w X.K X.mg X.base CX k f fd ps sp) (hr : Room k X.A) (hg : Gl X x) (hm : X.mg x = some (.ref f)) (hk : PySem.W.keepIn X.K (.ref f) = true) (hb : Binds X.K fd ps ds) (hd : Vals dvs ds) (hx : Passes CX X E)
  (ha : PA X (e :: es) t) (hdb : (x == ("__debug__" : Str)) = false := by decide) (he : starEach (e :: es) X.env = (false, eval e X.env) :: starEach es X.env := by rfl) (hpl : (backTo pos (starEach es X.env)).any (·.1) = false := by rfl) :
  PE X (.Call (.Name x p) (e :: es) [] pos) (tCall sp dvs E t) := by
 intro pins s σ H Q I h
 refine wpAny_Call_Name_kw (ld_glob I hg hm ?_ hdb)
 refine PySem.W.callWith_K (h₀ := X.base) I.ok.mod.kin hk (thn (ha pos pins s σ H _ I h) fun us s1 ⟨vs, H1, I1, r, q⟩ => ⟨I1.kIn, ?_⟩) he hpl
 exact run_fn F hr hb hd hx I1 r q
end
structure FnScope (N P : List Str) (sc : Scope) : Prop where
 kind : sc.kind = .function
 co : sc.isCoroutine = false
 gen : sc.isGenerator = false
 nd : N.Nodup
 pre : N.take P.length = P
 par : ∀ x ∈ P, sc.names.lookup x = some .local ∨ sc.names.lookup x = some .cell
 nofree : ∀ y ∈ sc.names, y.2 ≠ .free
theorem bindL_out {kindOf : Str → Option NameKind} {x : Str} : ∀ {binds : List (Str × Value)} {m : Str → Option Value}, (∀ v, (x, v) ∉ binds) → bindL kindOf binds m x = m x
 | [], _, _ => rfl
 | (n, v) :: r, m, h => by
  unfold bindL
  rw [bindL_out fun w hw => h w (List.mem_cons_of_mem _ hw)]
  split
  ·have : x ≠ n := by rintro rfl; exact h v List.mem_cons_self
   simp [this]
  ·rfl
theorem bindC_out {kindOf : Str → Option NameKind} {x : Str} : ∀ {binds : List (Str × Value)} {m : Str → Option Value}, (∀ v, (x, v) ∉ binds) → bindC kindOf binds m x = m x
 | [], _, _ => rfl
 | (n, v) :: r, m, h => by
  unfold bindC
  rw [bindC_out fun w hw => h w (List.mem_cons_of_mem _ hw)]
  split
  ·rfl
  ·have : x ≠ n := by rintro rfl; exact h v List.mem_cons_self
   simp [this]
theorem bindL_get {kindOf : Str → Option NameKind} {x : Str} {v : Value} : ∀ {P : List Str} {vs : List Value} {i : Nat} {m : Str → Option Value}, P.Nodup → P[i]? = some x → vs[i]? = some v → kindOf x = some .local →
  bindL kindOf (P.zip vs) m x = some v
 | [], _, _, _, _, h, _, _ => by simp at h
 | _ :: _, [], _, _, _, _, h, _ => by simp at h
 | p :: P, w :: vs, 0, m, nd, h1, h2, hk => by
  simp at h1 h2; subst h1; subst h2
  show bindL kindOf ((p, w) :: P.zip vs) m p = _
  unfold bindL
  rw [bindL_out fun v hv => (List.nodup_cons.mp nd).1 (List.of_mem_zip hv).1, if_pos hk]
  simp
 | p :: P, w :: vs, i + 1, m, nd, h1, h2, hk => by
  show bindL kindOf ((p, w) :: P.zip vs) m x = _
  unfold bindL
  exact bindL_get (i := i) (List.nodup_cons.mp nd).2 (by simpa using h1) (by simpa using h2) hk
theorem bindC_get {kindOf : Str → Option NameKind} {x : Str} {v : Value} : ∀ {P : List Str} {vs : List Value} {i : Nat} {m : Str → Option Value}, P.Nodup → P[i]? = some x → vs[i]? = some v → kindOf x ≠ some .local →
  bindC kindOf (P.zip vs) m x = some v
 | [], _, _, _, _, h, _, _ => by simp at h
 | _ :: _, [], _, _, _, _, h, _ => by simp at h
 | p :: P, w :: vs, 0, m, nd, h1, h2, hk => by
  simp at h1 h2; subst h1; subst h2
  show bindC kindOf ((p, w) :: P.zip vs) m p = _
  unfold bindC
  rw [bindC_out fun v hv => (List.nodup_cons.mp nd).1 (List.of_mem_zip hv).1, if_neg hk]
  simp
 | p :: P, w :: vs, i + 1, m, nd, h1, h2, hk => by
  show bindC kindOf ((p, w) :: P.zip vs) m x = _
  unfold bindC
  exact bindC_get (i := i) (List.nodup_cons.mp nd).2 (by simpa using h1) (by simpa using h2) hk
def start (N : List Str) (vs : List V) : St := vs.map some ++ List.replicate (N.length - vs.length) none
def cxOf (CX : CXT) (P : Program) (w : World) (K : PySem.W.Frag) (mg : Str → Option Value) (base : Heap) (N : List Str) (qual : Str) (scope : Scope) (f : Addr) (cd : Value) (A : Around) (outer : List Env) (s : Shared) (H : Hp) (E : XK) : Cx where
 prog := P
 w := w
 K := K
 mg := mg
 base := base
 A := A.deeper (envOfC qual scope s.heap.objs.size f cd)
 N := N
 s₀ := s
 H₀ := H
 env := envOfC qual scope s.heap.objs.size f cd
 outer := outer
 stack := envOfC qual scope s.heap.objs.size f cd :: outer
 ex := []
 calm := true
 fn := fun _ => true
 pn := []
 xe := fun e s' => wpAny (model P w) (A.deeper (envOfC qual scope s.heap.objs.size f cd)) (leaving (envOfC qual scope s.heap.objs.size f cd) e) (fun _ s'' => CX outer H s E e s'') (fun e' s'' => CX outer H s E e' s'') s'
theorem cell_has {sc : Scope} {n : Nat} {x : Str} (h : sc.names.lookup x = some .cell) : ∃ c, (cellsFrom n sc.names []).lookup x = some c := by
 have q := PySem.W.cellsFrom_some sc.names n [] (.inl h)
 exact Option.isSome_iff_exists.mp q
theorem inv_start {CX : CXT} {P : Program} {w : World} {K : PySem.W.Frag} {mg : Str → Option Value} {base : Heap} {N ps : List Str} {qual : Str} {scope : Scope} {f : Addr} {cd : Value} {A : Around} {outer : List Env} {s s1 : Shared} {H : Hp} {E : XK} {us : List Value} {vs : List V}
  (S : FnScope N ps scope) (hd : A.handled = none) (e0 : Env0 P w K mg base A outer s H) (hl : vs.length = ps.length) (r : Vals vs us)
  (x : InCallC s s.heap.objs.size (bindL (envOfC qual scope s.heap.objs.size f cd).kindOf (ps.zip us) fun _ => none) (cellsFrom (s.heap.objs.size + 1) scope.names []) (bindC (envOfC qual scope s.heap.objs.size f cd).kindOf (ps.zip us) fun _ => none) s1) :
  Inv (cxOf CX P w K mg base N qual scope f cd A outer s H E) [] (start N vs) H s1 := by
 have hpl : ps.length ≤ N.length := by have := congrArg List.length S.pre; rw [List.length_take] at this; omega
 obtain ⟨h1, tk, rfl, hk⟩ := x.done
 have noA : ∀ b : Addr, b ∉ (cxOf CX P w K mg base N qual scope f cd A outer s H E).ex := fun b z => absurd (show b ∈ ([] : List Addr) from z) (by simp)
 refine ⟨⟨e0.mod, S.kind, rfl, rfl, Nat.le_refl _, fun y z c h1 h2 => ?_, fun y hy => ?_, fun y c _ h => ?_, fun _ => hd, Around.frames_deeper e0.frames, .inr ⟨rfl, rfl⟩, fun b z => absurd z (noA b), e0.bs, e0.bsz, fun b _ _ => noA b, fun b z => absurd z (noA b), e0.funs, e0.frf⟩,
  rfl, e0.bare, Un.kept hk, ⟨_, x.toInCall.ns, fun i y v h1 h2 h3 => ?_⟩, fun y c h => ⟨_, x.cell y c h⟩, e0.hok.fresh (Nat.le_refl _), fun y c h => ?_, fun p hp => absurd (show p ∈ ([] : List (Addr × Obj)) from hp) (by simp), e0.hok.kept hk, ?_⟩
 ·exact name_of_addr x.apart (PySem.mem_of_lookup h1) (PySem.mem_of_lookup h2)
 ·have hy : scope.names.lookup y = some .cell ∨ scope.names.lookup y = some .free := hy
  rcases hy with hy | hy
  ·exact cell_has hy
  ·exact absurd rfl (S.nofree _ (PySem.mem_of_lookup hy))
 ·exact Nat.le_of_lt (x.above y c (PySem.mem_of_lookup h))
 ·have hi : i < vs.length := by
   unfold start at h2
   by_cases hi : i < vs.length
   ·exact hi
   ·rw [List.getElem?_append_right (by simpa using hi)] at h2
    rw [List.getElem?_replicate] at h2
    split at h2 <;> cases h2
  have ha : vs[i]? = some v := by
   unfold start at h2
   rw [List.getElem?_append_left (by simpa using hi), List.getElem?_map] at h2
   cases e : vs[i]? with
   | none => rw [e] at h2; cases h2
   | some a => rw [e] at h2; cases h2; rfl
  obtain ⟨u, hu, rv⟩ := r.get ha
  have hp : ps[i]? = some y := by
   rw [← S.pre, List.getElem?_take_of_lt (by omega)]; exact h1
  have ndP : ps.Nodup := by rw [← S.pre]; exact S.nd.sublist (List.take_sublist _ _)
  refine ⟨u, rv, ?_⟩
  rcases S.par y (List.mem_of_getElem? hp) with k | k
  ·exact .inl ⟨k, bindL_get ndP hp hu k⟩
  ·obtain ⟨c, e⟩ := cell_has (n := s.heap.objs.size + 1) k
   refine .inr ⟨.inl k, c, e, ?_⟩
   have q := x.cell y c e
   rw [bindC_get ndP hp hu (by show scope.names.lookup y ≠ _; rw [k]; decide)] at q
   exact q
 ·exact e0.hok.fresh (Nat.le_of_lt (x.above y c (PySem.mem_of_lookup h)))
 ·unfold start
  show _ = N.length
  rw [List.length_append, List.length_map, List.length_replicate]
  omega
theorem fn_of {CX : CXT} {P : Program} {w : World} {K : PySem.W.Frag} {mg : Str → Option Value} {base : Heap} {k : Nat} {f : Addr} {name qual : Str} {params : Arguments} {body : List Stmt} {scope : Scope} {dV kV doc pm cdv ct oc : Value} {an od : Option Addr}
  {osl : Array (Option Value)} {N ps : List Str} {sp : Sp} (lk : K.lookup f = some ⟨oc, od, .func (PySem.W.fnOf name qual params body scope dV kV doc pm an cdv ct), osl⟩) (hcd : PySem.W.codeIn K cdv qual = true) (S : FnScope N ps scope)
  (len : ∀ vs H Q E, sp vs H Q E → vs.length = ps.length)
  (hbody : ∀ (A : Around) (outer : List Env) (s : Shared) (H : Hp) (vs : List V) (Q : VK) (E : XK), Room k (A.deeper (envOfC qual scope s.heap.objs.size f cdv)) → sp vs H Q E →
   ∃ t, PSs (cxOf CX P w K mg base N qual scope f cdv A outer s H E) body t ∧ t { nx := fun _ H' => Q .non H', rt := Q } (start N vs) H) :
  FnOk P w K mg base CX (k + 1) f (PySem.W.fnOf name qual params body scope dV kV doc pm an cdv ct) ps sp := by
 refine ⟨len, fun A outer s H args us vs Q E hr e0 hb r hsp => ?_⟩
 have hl := len _ _ _ _ hsp
 have KX : K.In s.heap := e0.mod.kin.keeps fun b o e => (e0.bs b o e).1
 have lim : s.heap.NoLimit := e0.mod.nolimit.keeps fun b o e => (e0.bs b o e).1
 have hkind : ∀ y ∈ ps.zip us, scope.names.lookup y.1 = some .local ∨ (scope.names.lookup y.1 = some .cell ∧ ((cellsFrom (s.heap.objs.size + 1) scope.names []).lookup y.1).isSome = true) := fun ⟨n, v⟩ hy => by
  rcases S.par n (List.of_mem_zip hy).1 with q | q
  ·exact .inl q
  ·exact .inr ⟨q, PySem.W.cellsFrom_some _ _ _ (.inl q)⟩
 refine codeAny_call_function hr.depth (KX _ _ lk) rfl S.co S.gen rfl (PySem.W.codeRec_of KX hcd) (hb _ _ _ _ ?_)
 refine wpAny_newFunctionEnv_cells S.kind hkind fun env he s1 x => ?_
 subst he
 refine ⟨lim.keeps x.toInCall.keep, codeAny_func ?_⟩
 obtain ⟨t, ht, hq⟩ := hbody A outer s H vs Q E (hr.deeper _) hsp
 have I : Inv (cxOf CX P w K mg base N qual scope f cdv A outer s H E) [] (start N vs) H s1 := inv_start S hr.hd e0 hl r x
 refine wpAny_mono (ht [] s1 (start N vs) H _ I hq) (fun fl s' hs => ?_) fun e s' hs => hs
 have fin : ∀ {σ' : St} {H' : Hp} {v : V} {u : Value}, Inv (cxOf CX P w K mg base N qual scope f cdv A outer s H E) [] σ' H' s' → RelV v u → Q v H' → CE outer P w H s Q u s' :=
  fun {σ' H' v u} J rv q => ⟨v, H', J.os, J.bare, J.base, J.hok, rv, q⟩
 cases fl with
 | ret u =>
  obtain ⟨v, σ', H', J, rv, q⟩ := hs
  exact fin J rv q
 | next =>
  obtain ⟨σ', H', J, q⟩ := hs
  exact fin (v := V.non) (u := Value.none) J rfl q
 | brk =>
  obtain ⟨_, _, _, q⟩ := hs
  exact False.elim q
 | cont =>
  obtain ⟨_, _, _, q⟩ := hs
  exact False.elim q
end L2
namespace L2
open PySem PySem.Spec PyProof.Rows
section
variable {X : Cx} {x : Str} {p pos : Pos} {e : Expr} {es : List Expr} {t : TA} {id T : String} {r : List V → Hp → VK → Prop}
def tCB (r : List V → Hp → VK → Prop) (t : TA) : TE := fun σ H Q => t σ H fun vs H1 => r vs H1 Q
theorem pe_callB (hc : CallR X (.builtin id) r) (hg : Gl X x) (hm : X.mg x = none) (hv : bootBuiltins x = some (.builtin id)) (ha : PA X (e :: es) t) (hn : x ≠ "__name__" := by decide) (hdb : (x == ("__debug__" : Str)) = false := by decide)
  (he : starEach (e :: es) X.env = (false, eval e X.env) :: starEach es X.env := by rfl) (hpl : (backTo pos (starEach es X.env)).any (·.1) = false := by rfl) : PE X (.Call (.Name x p) (e :: es) [] pos) (tCB r t) := by
 intro pins s σ H Q I h
 refine wpAny_Call_Name_kw (ld_blt I hg hm hv ?_ hn hdb)
 exact PyProof.Rows.callWith_builtin1 (thn (ha pos pins s σ H _ I h) fun us s1 ⟨vs, H1, I1, r1, q1⟩ => hc pins s1 σ H1 vs us Q I1 r1 q1) he hpl
theorem pe_callTy (hc : CallR X (.type T) r) (hg : Gl X x) (hm : X.mg x = none) (hv : bootBuiltins x = some (.type T)) (ha : PA X (e :: es) t) (hn : x ≠ "__name__" := by decide) (hdb : (x == ("__debug__" : Str)) = false := by decide)
  (he : starEach (e :: es) X.env = (false, eval e X.env) :: starEach es X.env := by rfl) (hpl : (backTo pos (starEach es X.env)).any (·.1) = false := by rfl) : PE X (.Call (.Name x p) (e :: es) [] pos) (tCB r t) := by
 intro pins s σ H Q I h
 refine wpAny_Call_Name_kw (ld_blt I hg hm hv ?_ hn hdb)
 exact PyProof.Rows.callWith_type1 (thn (ha pos pins s σ H _ I h) fun us s1 ⟨vs, H1, I1, r1, q1⟩ => hc pins s1 σ H1 vs us Q I1 r1 q1) he hpl
end
end L2
namespace HT
open PySem PyProof.Rows
section
variable {prog : Program} {w : World} {A : Around} {E : Value → Shared → Prop} {s : Shared}
def sIx (n d : Nat) : Option Int → Nat
 | none => d
 | some v => if v < 0 then (v + (n : Int)).toNat else min v.toNat n
theorem sIx_nat (n d k : Nat) : sIx n d (some (k : Int)) = min k n := by
 show (if (k : Int) < 0 then ((k : Int) + (n : Int)).toNat else min (k : Int).toNat n) = min k n
 rw [if_neg (by omega), Int.toNat_natCast]
end
end HT
namespace L2
open PySem PySem.Spec PyProof.Rows
abbrev TO := St → Hp → (Option Int → Hp → Prop) → Prop
def PO (X : Cx) (e : Option Expr) (t : TO) : Prop :=
 ∀ (pins : List (Addr × Obj)) (s : Shared) (σ : St) (H : Hp) (Q : Option Int → Hp → Prop), Inv X pins σ H s → t σ H Q →
  wpAny (model X.prog X.w) X.A (evalPart e X.env) (fun u s' => ∃ o H', Inv X pins σ H' s' ∧ IsPart u o ∧ Q o H') X.xe s
def tNoPart : TO := fun _ H Q => Q none H
def tPart (t : TE) : TO := fun σ H Q => t σ H fun x H1 => ∃ i, x = .int i ∧ Q (some i) H1
theorem intsAre_of {ns : List Int} : ∀ {us : List Value}, Vals (ns.map V.int) us → IntsAre us ns := by
 induction ns with
 | nil => intro us r; rw [List.map_nil] at r; cases r; exact .nil
 | cons n ns ih =>
  intro us r
  rw [List.map_cons] at r
  cases r with
  | cons r1 r2 =>
   obtain ⟨t, e⟩ := r1
   subst e
   exact .cons n t (ih r2)
section
variable {X : Cx} {e : Expr} {te : TE} {lo hi : Option Expr} {tl th : TO} {pos p2 : Pos}
theorem po_none : PO X none tNoPart := by
 intro pins s σ H Q I h
 rw [evalPart_none]
 exact wpAny_pure ⟨none, H, I, .none, h⟩
theorem po_some (h : PE X e te) : PO X (some e) (tPart te) := by
 intro pins s σ H Q I hw
 rw [evalPart_some]
 refine thn (h pins s σ H _ I hw) fun u s1 ⟨x, H1, I1, r1, q1⟩ => ?_
 obtain ⟨i, rfl, q⟩ := q1
 obtain ⟨t, rfl⟩ := r1
 exact ⟨some i, H1, I1, .int i t, q⟩
def SlR (X : Cx) (r : V → Option Int → Option Int → Hp → VK → Prop) : Prop :=
 ∀ (pins : List (Addr × Obj)) (s : Shared) (σ : St) (H : Hp) (x : V) (v vl vu : Value) (lo hi : Option Int) (sl : Addr) (Q : VK), Inv X pins σ H s → RelV x v → s.heap.IsSliceOf sl vl vu .none → IsPart vl lo → IsPart vu hi → r x lo hi H Q →
  ∃ T id, typeLookup (.type T) "__getitem__" = pure (some (.builtin id)) ∧ s.TypeIs v T ∧ wpAny (model X.prog X.w) X.A (getItem v (.ref sl)) (EP X pins σ Q) X.xe s
def tSl (r : V → Option Int → Option Int → Hp → VK → Prop) (te : TE) (tl th : TO) : TE := fun σ H Q => te σ H fun x H1 => tl σ H1 fun l H2 => th σ H2 fun u H3 => r x l u H3 Q
theorem pe_slice {r : V → Option Int → Option Int → Hp → VK → Prop} (hr : SlR X r) (he : PE X e te) (hl : PO X lo tl) (hu : PO X hi th) : PE X (.Subscript e (.Slice lo hi none p2) pos) (tSl r te tl th) := by
 intro pins s σ H Q I h
 refine Subscript_ (thn (he pins s σ H _ I h) fun v s1 ⟨x, H1, I1, r1, q1⟩ => ?_)
 refine wpAny_Slice (thn (hl pins s1 σ H1 _ I1 q1) fun vl s2 ⟨l, H2, I2, pl, q2⟩ => thn (hu pins s2 σ H2 _ I2 q2) fun vu s3 ⟨u, H3, I3, pu, q3⟩ => ?_)
 rw [evalPart_none]
 refine wpAny_pure ?_
 have I4 : Inv X pins σ H3 { s3 with heap := s3.heap.push { cls := .type "slice", data := .fields #[vl, vu, .none] } } := I3.kept (t' := s3.toks) fun b ob q => Heap.get?_push_of_some _ q
 obtain ⟨T, id, hT, ht, hg⟩ := hr pins { s3 with heap := s3.heap.push { cls := .type "slice", data := .fields #[vl, vu, .none] } } σ H3 x v vl vu l u s3.heap.objs.size Q I4 r1 (Heap.IsSliceOf.new ..) pl pu q3
 show wpAny (model X.prog X.w) X.A (subscriptTail e (.Slice lo hi none p2) v (.ref s3.heap.objs.size)) (EP X pins σ Q) X.xe { s3 with heap := s3.heap.push { cls := .type "slice", data := .fields #[vl, vu, .none] } }
 exact tail_any (ops := [.ref s3.heap.objs.size, v]) ht hT hg (by with_unfolding_all rfl)
def cutV (xs : List V) (lo hi : Option Int) : List V := (xs.drop (HT.sIx xs.length 0 lo)).take (HT.sIx xs.length xs.length hi - HT.sIx xs.length 0 lo)
theorem cutV_length (xs : List V) (lo hi : Option Int) : (cutV xs lo hi).length ≤ xs.length := by
 unfold cutV
 rw [List.length_take, List.length_drop]
 omega
end
end L2
namespace L2
open PySem PySem.Spec PyProof.Rows
def ixN (n : Nat) (i : Int) : Option Nat := if 0 ≤ i then (if i < n then some i.toNat else none) else if -(n : Int) ≤ i then some (i + n).toNat else none
def atI {α : Type} (xs : List α) (i : Int) : Option α := (ixN xs.length i).bind fun j => xs[j]?
theorem ixN_seq {n : Nat} {i : Int} {j : Nat} (h : ixN n i = some j) : seqIndex? i n = some j ∧ j < n ∧ -(n : Int) ≤ i ∧ i < n := by
 unfold ixN at h
 by_cases h0 : 0 ≤ i
 ·rw [if_pos h0] at h
  by_cases h1 : i < n
  ·rw [if_pos h1] at h
   have e : i.toNat = j := Option.some.inj h
   exact ⟨by rw [seqIndex_of h0 h1, e], by omega, by omega, h1⟩
  ·rw [if_neg h1] at h; cases h
 ·rw [if_neg h0] at h
  by_cases h1 : -(n : Int) ≤ i
  ·rw [if_pos h1] at h
   have e : (i + n).toNat = j := Option.some.inj h
   exact ⟨by rw [seqIndex_neg (by omega) h1, e], by omega, h1, by omega⟩
  ·rw [if_neg h1] at h; cases h
theorem atI_get {α : Type} {xs : List α} {i : Int} {v : α} (h : atI xs i = some v) : ∃ j, seqIndex? i xs.length = some j ∧ xs[j]? = some v ∧ j < xs.length ∧ -(xs.length : Int) ≤ i ∧ i < xs.length := by
 unfold atI at h
 cases e : ixN xs.length i with
 | none => rw [e] at h; cases h
 | some j =>
  rw [e] at h
  obtain ⟨h1, h2, h3, h4⟩ := ixN_seq e
  exact ⟨j, h1, h, h2, h3, h4⟩
theorem atI_nat {α : Type} {xs : List α} {j : Nat} {v : α} (h : xs[j]? = some v) : atI xs (j : Int) = some v := by
 have hj : j < xs.length := (List.getElem?_eq_some_iff.mp h).1
 have e : ixN xs.length (j : Int) = some j := by
  unfold ixN
  rw [if_pos (by omega), if_pos (by omega)]; simp
 unfold atI; rw [e]; exact h
def PlainIx (b : Expr) : Prop := ∀ o i, subscripted b false o i = operate [o, i] (getItem o i)
def IxR (X : Cx) (r : R2) : Prop :=
 ∀ (value slice : Expr) (pins : List (Addr × Obj)) (s : Shared) (σ : St) (H : Hp) (x y : V) (v u : Value) (Q : VK), Inv X pins σ H s → RelV x v → RelV y u → r x y H Q →
  subscripted slice false v u = operate [v, u] (getItem v u) → wpAny (model X.prog X.w) X.A (subscriptTail value slice v u) (EP X pins σ Q) X.xe s
def MtR (X : Cx) (id : String) (r : V → List V → Hp → VK → Prop) : Prop :=
 ∀ (pins : List (Addr × Obj)) (s : Shared) (σ : St) (H : Hp) (x : V) (xs : List V) (v : Value) (us : List Value) (Q : VK), Inv X pins σ H s → RelV x v → Vals xs us → r x xs H Q →
  wpAny (model X.prog X.w) X.A (call (.builtin id) (v :: us)) (EP X pins σ Q) X.xe s
section
variable {X : Cx} {a b : Expr} {ta tb : TE} {pos : Pos}
theorem pe_ix {r : R2} (hr : IxR X r) (ha : PE X a ta) (hb : PE X b tb) (hs : PlainIx b) : PE X (.Subscript a b pos) (tOp r ta tb) := by
 intro pins s σ H Q I h
 exact Subscript_ (binT ha hb I h fun v u s2 x y H2 I2 rx ry q => hr a b pins s2 σ H2 x y v u Q I2 rx ry q (hs _ _))
def rIxL (K : PySem.W.Frag) : R2 := fun x y H Q => ∃ p xs i v, x = .ref p ∧ y = .int i ∧ SqL K H p xs ∧ atI xs i = some v ∧ Q v H
def rIxT (K : PySem.W.Frag) : R2 := fun x y H Q => ∃ p xs i v, x = .ref p ∧ y = .int i ∧ SqT K H p xs ∧ atI xs i = some v ∧ Q v H
def rIxS : R2 := fun x y H Q => ∃ z i c, x = .str z ∧ y = .int i ∧ z.length ≤ sizeLine ∧ atI z.cps.toList i = some c ∧ Q (.str ⟨#[c]⟩) H
theorem ix_list : IxR X (rIxL X.K) := by
 intro value slice pins s σ H x y v u Q I rx ry h hs
 obtain ⟨p, xs, i, z, rfl, rfl, hq, he, q⟩ := h
 cases rx
 obtain ⟨t, rfl⟩ := ry
 obtain ⟨its, r, pl, hz⟩ := I.list hq
 obtain ⟨j, h1, h2, h3, h4, h5⟩ := atI_get he
 obtain ⟨w, ew, rw'⟩ := r.get h2
 have hl := r.length
 have hn := line63
 have fin : EP X pins σ Q w s := ⟨z, H, I, rw', q⟩
 by_cases h0 : 0 ≤ i
 ·have hj : i.toNat = j := by
   rw [seqIndex_of h0 h5] at h1
   exact Option.some.inj h1
  exact item_listR pl.isList h0 (by omega) (by rw [hj]; simpa using ew) fin hs
 ·have hj : (i + (its.toArray.size : Int)).toNat = j := by
   rw [seqIndex_neg (by omega) h4] at h1
   rw [List.size_toArray, ← hl]
   exact Option.some.inj h1
  exact subscriptTail_builtinR (x := w) pl.isList.typeIs slot_list_getitem.lookup
   (wpAny_getItem_list_neg (Q := fun r s' => r = w ∧ EP X pins σ Q r s') pl.isList (by omega) (by rw [List.size_toArray] <;> omega) (by omega) (by rw [hj]; simpa using ew) ⟨rfl, fin⟩) hs
theorem ix_tup : IxR X (rIxT X.K) := by
 intro value slice pins s σ H x y v u Q I rx ry h hs
 obtain ⟨p, xs, i, z, rfl, rfl, hq, he, q⟩ := h
 cases rx
 obtain ⟨t, rfl⟩ := ry
 obtain ⟨its, r, pl, hz⟩ := I.tuple hq
 obtain ⟨j, h1, h2, h3, h4, h5⟩ := atI_get he
 obtain ⟨w, ew, rw'⟩ := r.get h2
 have hl := r.length
 have hn := line63
 have fin : EP X pins σ Q w s := ⟨z, H, I, rw', q⟩
 exact subscriptTail_builtinR (x := w) pl.typeIs slot_tuple_getitem.lookup
  (getItem_tuple (j := j) (Q := fun r s' => r = w ∧ EP X pins σ Q r s') pl (by omega) (by omega) (by rw [List.size_toArray, ← hl]; exact h1) (by simpa using ew) ⟨rfl, fin⟩) hs
theorem ix_str : IxR X rIxS := by
 intro value slice pins s σ H x y v u Q I rx ry h hs
 obtain ⟨z, i, c, rfl, rfl, hz, he, q⟩ := h
 obtain ⟨t, rfl⟩ := rx
 obtain ⟨t', rfl⟩ := ry
 obtain ⟨j, h1, h2, h3, h4, h5⟩ := atI_get he
 have hl : z.cps.toList.length = z.length := by simp [Str.length]
 rw [hl] at h1 h4 h5
 have hn := line63
 exact tail_any (typeIs_str s z t) slot_str_getitem.lookup (getItem_str (c := c) (by
  have e1 : decide (i < -(2 ^ 63 : Int)) = false := decide_eq_false (by omega)
  have e2 : decide (i ≥ 2 ^ 63) = false := decide_eq_false (by omega)
  rw [e1, e2, Bool.or_false]) (by rw [h1]; simpa using h2) ⟨.str ⟨#[c]⟩, H, I.tok _, ⟨_, rfl⟩, q⟩) hs
theorem mapSeq_set (its : List Value) (n j : Nat) (u : Value) : Obj.mapSeq (·.setIfInBounds j u) { cls := .type "list", data := .seq its.toArray n } = { cls := .type "list", data := .seq (its.set j u).toArray n } := by
 simp [Obj.mapSeq]
theorem Inv.lst {pins : List (Addr × Obj)} {σ : St} {H : Hp} {s : Shared} {p : Addr} {xs : List V} (I : Inv X pins σ H s) (h : H p = some (.lst xs)) :
  ∃ (its : List Value) (n : Nat), Vals xs its ∧ s.heap.get? p = some { cls := .type "list", data := .seq its.toArray n } ∧ xs.length ≤ sizeLine := by
 obtain ⟨z, its, n, r, e⟩ := I.hok p _ h
 exact ⟨its, n, r, e, z⟩
theorem Inv.lstUpd {pins : List (Addr × Obj)} {σ : St} {H : Hp} {s : Shared} {p : Addr} {xs ys : List V} {its its' : List Value} {n n' : Nat} {f : Obj → Obj} (I : Inv X pins σ H s) (h : H p = some (.lst xs))
  (ho : s.heap.get? p = some { cls := .type "list", data := .seq its.toArray n }) (hf : f { cls := .type "list", data := .seq its.toArray n } = { cls := .type "list", data := .seq its'.toArray n' }) (r : Vals ys its') (hz : ys.length ≤ sizeLine) (t : Nat) :
  Inv X pins σ (upd H p (.lst ys)) { s with heap := s.heap.update p f, toks := t } := by
 have e : (s.heap.update p f).get? p = some { cls := .type "list", data := .seq its'.toArray n' } := by
  rw [Heap.get?_update_self f ho (by rw [hf] <;> rfl), hf]
 refine I.write (x := p) (e := p) (by rw [h]; trivial) (.inl rfl) (fun b u hb q => (Heap.get?_update_other _ _ (Ne.symm hb)).trans q) ⟨_, e⟩ ?_
 exact ⟨hz, its', n', r, e⟩
def rSetL : V → V → V → Hp → (Hp → Prop) → Prop := fun o i v H Q => ∃ p xs k j, o = .ref p ∧ i = .int k ∧ H p = some (.lst xs) ∧ ixN xs.length k = some j ∧ Q (upd H p (.lst (xs.set j v)))
theorem set_list : PSet X rSetL := by
 intro pins s σ H o i v ov iv u Q I ro ri rv h
 obtain ⟨p, xs, k, j, rfl, rfl, hp, hj, q⟩ := h
 cases ro
 obtain ⟨t, rfl⟩ := ri
 obtain ⟨its, n, r, ho, hz⟩ := I.lst hp
 obtain ⟨h1, h2, h3, h4⟩ := ixN_seq hj
 have hl := r.length
 have hn := line63
 have I' : Inv X pins σ (upd H p (.lst (xs.set j v))) { s with heap := s.heap.update p (Obj.mapSeq (·.setIfInBounds j u)) } :=
  I.lstUpd hp ho (mapSeq_set its n j u) (r.set rv j) (by rw [List.length_set]; exact hz) s.toks
 by_cases h0 : 0 ≤ k
 ·have hk : k.toNat = j := by
   rw [seqIndex_of h0 h4] at h1
   exact Option.some.inj h1
  exact PySem.W.ki_setAt ho h0 (by omega) (by rw [List.size_toArray, ← hl]; exact h4) (by rw [hk]; exact ⟨_, I', q⟩)
 ·have hk : (k + (its.toArray.size : Int)).toNat = j := by
   rw [seqIndex_neg (by omega) h3] at h1
   rw [List.size_toArray, ← hl]
   exact Option.some.inj h1
  exact PySem.W.ki_setBack ho (by omega) (by rw [List.size_toArray, ← hl]; exact h3) (by omega) (by rw [hk]; exact ⟨_, I', q⟩)
theorem slice_bounds (lo hi : Option Int) (n : Nat) : (sliceBounds lo hi none n).1 = ((HT.sIx n 0 lo : Nat) : Int) ∧ (sliceBounds lo hi none n).2.1 = ((HT.sIx n n hi : Nat) : Int) ∧ (sliceBounds lo hi none n).2.2 = 1 := by
 refine ⟨?_, ?_, rfl⟩
 ·cases lo with
  | none => simp [sliceBounds, HT.sIx]
  | some i =>
   simp only [sliceBounds, HT.sIx, Option.getD_none, show (1 : Int) > 0 by decide, if_true]
   by_cases h : i < 0
   ·simp only [h, if_true] <;> omega
   ·simp only [h, if_false] <;> omega
 ·cases hi with
  | none => simp [sliceBounds, HT.sIx]
  | some i =>
   simp only [sliceBounds, HT.sIx, Option.getD_none, show (1 : Int) > 0 by decide, if_true]
   by_cases h : i < 0
   ·simp only [h, if_true] <;> omega
   ·simp only [h, if_false] <;> omega
theorem slicePick_cut (its : List Value) (lo hi : Option Int) : slicePick its.toArray lo hi none = ((its.drop (HT.sIx its.length 0 lo)).take (HT.sIx its.length its.length hi - HT.sIx its.length 0 lo)).toArray := by
 obtain ⟨h1, h2, h3⟩ := slice_bounds lo hi its.toArray.size
 unfold slicePick
 rw [h1, h2, h3]
 simp only [sliceRange_one, pick_run, List.size_toArray] <;> rfl
def rSlL (K : PySem.W.Frag) : V → Option Int → Option Int → Hp → VK → Prop := fun x lo hi H Q => ∃ a xs, x = .ref a ∧ SqL K H a xs ∧ ∀ p, H p = none → Q (.ref p) (upd H p (.lst (cutV xs lo hi)))
theorem sl_list : SlR X (rSlL X.K) := by
 intro pins s σ H x v vl vu lo hi sl Q I rx hs pl pu h
 obtain ⟨a, xs, rfl, hx, q⟩ := h
 cases rx
 obtain ⟨its, r, ht, hz⟩ := I.list hx
 have hlen := r.length
 refine ⟨"list", _, slot_list_getitem.lookup, ht.isList.typeIs, ?_⟩
 refine wpAny_getItem_list_slice ht.isList hs pl pu .none (by simp) ?_ (by rw [List.size_toArray] <;> omega)
 rw [slicePick_cut, ← hlen]
 refine ⟨.ref s.heap.objs.size, _, I.laid (t' := s.toks) (o := .lst (cutV xs lo hi)) (fun b ob q => Heap.get?_push_of_some _ q) (Nat.le_refl _) ?_, rfl, q _ (I.hok.fresh (Nat.le_refl _))⟩
 exact ⟨Nat.le_trans (cutV_length xs lo hi) hz, _, 0, (r.drop (HT.sIx xs.length 0 lo)).take (HT.sIx xs.length xs.length hi - HT.sIx xs.length 0 lo), Heap.get?_push_size _ rfl⟩
def flatV : V → Bool
 | .non => true
 | .bl _ => true
 | .int _ => true
 | .str _ => true
 | _ => false
def eqV : V → V → Bool
 | .non, .non => true
 | .bl a, .bl b => a == b
 | .bl a, .int b => (if a then 1 else 0) == b
 | .int a, .bl b => a == (if b then 1 else 0)
 | .int a, .int b => a == b
 | .str a, .str b => a == b
 | _, _ => false
theorem eqAt_V {A : Around} {s : Shared} {y x : V} {u v : Value} (ry : RelV y u) (rx : RelV x v) (fy : flatV y = true) (fx : flatV x = true) : SeqAt.EqAt A s u v (eqV y x) := by
 cases y with
 | non =>
  cases ry
  cases x with
  | non => cases rx; exact SeqAt.EqAt.same _
  | bl b => cases rx; exact SeqAt.EqAt.none_bool b
  | int b => obtain ⟨t, rfl⟩ := rx; exact SeqAt.EqAt.none_int b t
  | str b => obtain ⟨t, rfl⟩ := rx; exact SeqAt.EqAt.none_str b t
  | _ => exact absurd (show false = true from fx) Bool.false_ne_true
 | bl a =>
  cases ry
  cases x with
  | non => cases rx; exact SeqAt.EqAt.bool_none a
  | bl b => cases rx; exact SeqAt.EqAt.bool_bool a b
  | int b => obtain ⟨t, rfl⟩ := rx; exact SeqAt.EqAt.bool_int a b t
  | str b => obtain ⟨t, rfl⟩ := rx; exact SeqAt.EqAt.bool_str a b t
  | _ => exact absurd (show false = true from fx) Bool.false_ne_true
 | int a =>
  obtain ⟨t', rfl⟩ := ry
  cases x with
  | non => cases rx; exact SeqAt.EqAt.int_none a t'
  | bl b => cases rx; exact SeqAt.EqAt.int_bool a t' b
  | int b => obtain ⟨t, rfl⟩ := rx; exact SeqAt.EqAt.int_int a t' b t
  | str b => obtain ⟨t, rfl⟩ := rx; exact SeqAt.EqAt.int_str a t' b t
  | _ => exact absurd (show false = true from fx) Bool.false_ne_true
 | str a =>
  obtain ⟨t', rfl⟩ := ry
  cases x with
  | non => cases rx; exact SeqAt.EqAt.str_none a t'
  | bl b => cases rx; exact SeqAt.EqAt.str_bool a t' b
  | int b => obtain ⟨t, rfl⟩ := rx; exact SeqAt.EqAt.str_int a t' b t
  | str b => obtain ⟨t, rfl⟩ := rx; exact SeqAt.EqAt.str_str a t' b t
  | _ => exact absurd (show false = true from fx) Bool.false_ne_true
 | _ => exact absurd (show false = true from fy) Bool.false_ne_true
def eqU (x : V) (u : Value) : Bool := match u with
 | .none => eqV .non x
 | .bool b => eqV (.bl b) x
 | .int i _ => eqV (.int i) x
 | .str z _ => eqV (.str z) x
 | _ => false
theorem eqU_of {x y : V} {u : Value} (r : RelV y u) (f : flatV y = true) : eqU x u = eqV y x := by
 cases y with
 | non => cases r; rfl
 | bl b => cases r; rfl
 | int i => obtain ⟨t, rfl⟩ := r; rfl
 | str z => obtain ⟨t, rfl⟩ := r; rfl
 | _ => exact absurd (show false = true from f) Bool.false_ne_true
theorem any_eqU {x : V} : ∀ {xs : List V} {us : List Value}, Vals xs us → xs.all flatV = true → us.any (eqU x) = xs.any fun y => eqV y x
 | _, _, .nil, _ => rfl
 | y :: xs, u :: us, .cons r t, f => by
  rw [List.all_cons, Bool.and_eq_true] at f
  rw [List.any_cons, List.any_cons, eqU_of r f.1, any_eqU t f.2]
theorem mem_eqAt {A : Around} {s : Shared} {x : V} {v : Value} (rx : RelV x v) (fx : flatV x = true) : ∀ {xs : List V} {us : List Value}, Vals xs us → xs.all flatV = true → ∀ u ∈ us, SeqAt.EqAt A s u v (eqU x u)
 | _, _, .nil, _ => fun u hu => by cases hu
 | y :: xs, u :: us, .cons r t, f => fun u' hu => by
  rw [List.all_cons, Bool.and_eq_true] at f
  rcases List.mem_cons.mp hu with rfl | hu
  ·rw [eqU_of r f.1]; exact eqAt_V r rx f.1 fx
  ·exact mem_eqAt rx fx t f.2 u' hu
def inV (x : V) (xs : List V) : Bool := xs.any fun y => eqV y x
def rIn (K : PySem.W.Frag) (neg : Bool) : R2 := fun x y H Q => ∃ p xs, y = .ref p ∧ (SqL K H p xs ∨ SqT K H p xs) ∧ flatV x = true ∧ xs.all flatV = true ∧ Q (.bl (if neg then !inV x xs else inV x xs)) H
theorem op_in_seq : OpR X (compareOp .In) (rIn X.K false) := by
 intro pins s σ H x y v u Q I rx ry h
 obtain ⟨p, xs, rfl, hq, fx, fs, q⟩ := h
 cases ry
 rcases hq with hq | hq
 ·obtain ⟨its, r, pl, hz⟩ := I.list hq
  refine SeqAt.in_listAt (eqU x) pl.isList (fun w hw => mem_eqAt rx fx r fs w (by simpa using hw)) ⟨.bl _, H, I, rfl, ?_⟩
  rw [show its.toArray.any (eqU x) = its.any (eqU x) by simp, any_eqU r fs]
  exact q
 ·obtain ⟨its, r, pl, hz⟩ := I.tuple hq
  refine SeqAt.in_tupleAt (eqU x) pl (fun w hw => mem_eqAt rx fx r fs w (by simpa using hw)) ⟨.bl _, H, I, rfl, ?_⟩
  rw [show its.toArray.any (eqU x) = its.any (eqU x) by simp, any_eqU r fs]
  exact q
theorem op_notIn_str : OpR X (compareOp .NotIn) (fun x y H Q => ∃ i j, x = .str i ∧ y = .str j ∧ Q (.bl (!(!(Builtin.Str.occurrences j i 0 j.length 1).isEmpty))) H) := by
 intro pins s σ H x y v u Q I rx ry h
 obtain ⟨i, j, rfl, rfl, q⟩ := h
 obtain ⟨t, rfl⟩ := rx
 obtain ⟨t', rfl⟩ := ry
 exact notIn_str ⟨.bl _, H, I, rfl, q⟩
theorem call_len_seq : CallR X (.builtin "len") (fun xs H Q => ∃ p ys, xs = [.ref p] ∧ (SqL X.K H p ys ∨ SqT X.K H p ys) ∧ Q (.int ys.length) H) := by
 intro pins s σ H xs us Q I r h
 obtain ⟨p, ys, rfl, hq, q⟩ := h
 obtain ⟨u, rfl, rx⟩ := vals1 r
 cases rx
 have hn := line63
 rcases hq with hq | hq
 ·obtain ⟨its, r', pl, hz⟩ := I.list hq
  have hlen := r'.length
  exact Calls.call_len_list pl.isList (by simp only [List.size_toArray] <;> omega) ⟨.int ys.length, H, I.tok _, ⟨s.toks + 1, by rw [List.size_toArray, hlen]⟩, q⟩
 ·obtain ⟨its, r', pl, hz⟩ := I.tuple hq
  have hlen := r'.length
  exact len_tuple pl (by simp only [List.size_toArray] <;> omega) ⟨.int ys.length, H, I.tok _, ⟨s.toks + 1, by rw [List.size_toArray, hlen]⟩, q⟩
theorem call_len_str : CallR X (.builtin "len") (fun xs H Q => ∃ z, xs = [.str z] ∧ z.length ≤ sizeLine ∧ Q (.int z.length) H) := by
 intro pins s σ H xs us Q I r h
 obtain ⟨z, rfl, hz, q⟩ := h
 obtain ⟨u, rfl, t, rfl⟩ := vals1 r
 have hn := line63
 exact len_str (by omega) ⟨.int z.length, H, I.tok _, ⟨_, rfl⟩, q⟩
def tyV (K : PySem.W.Frag) (T : String) (x : V) (H : Hp) : Prop := match x with
 | .str _ => T = "str"
 | .int _ => T = "int"
 | .ref p => (T = "list" ∧ ∃ xs, SqL K H p xs) ∨ (T = "tuple" ∧ ∃ o, K.lookup p = some o ∧ o.cls = .type "tuple" ∧ o.dict = none) ∨
   (T = "dict" ∧ ((∃ kvs, H p = some (.dK kvs)) ∨ ∃ kvs, H p = some (.dT kvs))) ∨ (T = "set" ∧ ∃ S n, H p = some (.set S n))
 | _ => False
theorem tyV_is {pins : List (Addr × Obj)} {σ : St} {H : Hp} {s : Shared} {T : String} {x : V} {v : Value} (I : Inv X pins σ H s) (r : RelV x v) (ty : tyV X.K T x H) :
  s.TypeIs v T ∧ ∀ a, v = .ref a → ∃ ob, s.heap.get? a = some ob ∧ ob.dict = none := by
 cases x with
 | str z =>
  obtain ⟨t, rfl⟩ := r
  cases (show T = "str" from ty)
  exact ⟨typeIs_str s z t, fun _ e => nomatch e⟩
 | int i =>
  obtain ⟨t, rfl⟩ := r
  cases (show T = "int" from ty)
  exact ⟨typeIs_int s i t, fun _ e => nomatch e⟩
 | ref p =>
  cases r
  rcases ty with ⟨rfl, xs, hq⟩ | ⟨rfl, o, hk, hc, hd⟩ | ⟨rfl, hk⟩ | ⟨rfl, S, n, hk⟩
  ·obtain ⟨its, _, pl, _⟩ := I.list hq
   refine ⟨pl.isList.typeIs, fun a e => ?_⟩
   cases e
   obtain ⟨o, n, e, c, hd, _⟩ := pl
   exact ⟨o, e, hd⟩
  ·refine ⟨⟨o, I.kIn p o hk, hc⟩, fun a e => ?_⟩
   cases e
   exact ⟨o, I.kIn _ o hk, hd⟩
  ·have z : ∃ o, s.heap.get? p = some o ∧ o.ExactDict := by
    rcases hk with ⟨kvs, hk⟩ | ⟨kvs, hk⟩
    ·obtain ⟨_, _, _, _, o, _, _, e, ex, _⟩ := I.hok p _ hk
     exact ⟨o, e, ex⟩
    ·obtain ⟨_, _, _, _, o, _, _, e, ex, _⟩ := I.hok p _ hk
     exact ⟨o, e, ex⟩
   obtain ⟨o, e, ex⟩ := z
   refine ⟨⟨o, e, ex.1⟩, fun a e2 => ?_⟩
   cases e2
   exact ⟨o, e, ex.2.1⟩
  ·obtain ⟨o, _, _, _, e, ex, _⟩ := I.hok p _ hk
   refine ⟨⟨o, e, ex.1⟩, fun a e2 => ?_⟩
   cases e2
   exact ⟨o, e, ex.2.1⟩
 | _ => exact False.elim ty
def tBM (K : PySem.W.Frag) (T : String) (r : V → List V → Hp → VK → Prop) (to : TE) (t : TA) : TE := fun σ H Q => to σ H fun x H1 => tyV K T x H1 ∧ t σ H1 fun xs H2 => r x xs H2 Q
variable {o e : Expr} {es : List Expr} {to : TE} {t : TA} {name : Str} {apos cpos : Pos} {T id : String} {r : V → List V → Hp → VK → Prop}
theorem pe_bm (pa : PlainAttrs T) (slot : Slot T name id) (hty : typeOf (.builtin id) = pure (.type "method_descriptor")) (hm : MtR X id r) (ho : PE X o to) (ha : PA X (e :: es) t)
  (hbase : attributeBase o name X.env (eval o X.env) = eval o X.env := by rfl)
  (hfew : ((backTo cpos (starEach (e :: es) X.env)).all (fun x => !x.1) && (backToKw cpos (keywordEach [] X.env)).all (fun x => x.1.isSome)
   && decide ((e :: es).length + ([] : List Keyword).length + (if ([] : List Keyword).isEmpty then 0 else 1) < 30)) = true := by rfl)
  (hline : (apos.endLine == cpos.line) = true := by rfl) (hs : starEach (e :: es) X.env = (false, eval e X.env) :: starEach es X.env := by rfl) (hplain : (backTo cpos (starEach es X.env)).any (·.1) = false := by rfl) :
  PE X (.Call (.Attribute o name apos) (e :: es) [] cpos) (tBM X.K T r to t) := by
 intro pins s σ H Q I h
 refine wpAny_Call_method_late hbase hfew hline rfl (thn (ho pins s σ H _ I h) fun v s1 ⟨x, H1, I1, r1, ty, q1⟩ => ?_)
 obtain ⟨h1, h2⟩ := tyV_is I1 r1 ty
 refine ⟨T, id, pa, slot, hty, h1, h2, ?_⟩
 have hA := ha cpos pins s1 σ H1 _ I1 q1
 rw [hs] at hA ⊢
 refine Calls.callWith_builtin (by show (false || (backTo cpos (starEach es X.env)).any (·.1)) = false; rw [hplain] <;> rfl) (Calls.evalArgs_plain ?_)
 exact thn hA fun us s2 ⟨vs, H2, I2, r2, q2⟩ => hm pins s2 σ H2 x vs v us Q I2 r1 r2 q2
end
end L2
namespace L2
open PySem PySem.Spec PyProof.Rows
theorem Vals.one : ∀ {x : V} {us : List Value}, Vals [x] us → ∃ u, us = [u] ∧ RelV x u
 | _, _, .cons r .nil => ⟨_, rfl, r⟩
section
variable {X : Cx} {pins : List (Addr × Obj)} {σ : St} {H : Hp} {s : Shared} {l b : Addr} {xs ys zs : List V}
theorem Inv.lnew {its : List Value} {t' : Nat} (I : Inv X pins σ H s) (hv : Vals ys its) (hz : ys.length ≤ sizeLine) :
  Inv X pins σ (upd H s.heap.objs.size (.lst ys)) { s with heap := s.heap.push { cls := .type "list", data := .seq its.toArray }, toks := t' } :=
 I.laid (fun _ _ q => Heap.get?_push_of_some _ q) (Nat.le_refl _) ⟨hz, its, 0, hv, Heap.get?_push_size _ rfl⟩
theorem Inv.fresh (I : Inv X pins σ H s) : H s.heap.objs.size = none := I.hok.fresh (Nat.le_refl _)
theorem Inv.lstM (I : Inv X pins σ H s) (hH : H l = some (.lst xs)) : xs.length ≤ sizeLine ∧ ∃ (its : List Value) (n : Nat), Vals xs its ∧ xs.length = its.length ∧ s.heap.get? l = some { cls := .type "list", data := .seq its.toArray n } := by
 obtain ⟨z, its, n, r, e⟩ := I.hok l _ hH
 exact ⟨z, its, n, r, r.length, e⟩
end
section
variable {X : Cx}
def rCat : R2 := fun x y H Q => ∃ l b xs zs, x = .ref l ∧ y = .ref b ∧ H l = some (.lst xs) ∧ H b = some (.lst zs) ∧ xs.length + zs.length ≤ sizeLine ∧ ∀ p, H p = none → Q (.ref p) (upd H p (.lst (xs ++ zs)))
theorem op_cat : OpR X (binaryOp .Add) rCat := by
 intro pins s σ H x y v u Q I rx ry h
 obtain ⟨l, b, xs, zs, rfl, rfl, hH, hB, hz, q⟩ := h
 cases rx
 cases ry
 obtain ⟨z, its, n, r, hl, e⟩ := I.lstM hH
 obtain ⟨z2, its2, n2, r2, hl2, e2⟩ := I.lstM hB
 refine PySem.P.add_list e e2 ?_ (by rw [List.size_toArray, List.size_toArray]; omega)
 have ea : its.toArray ++ its2.toArray = (its ++ its2).toArray := by simp
 rw [ea]
 exact ⟨.ref _, _, I.lnew (t' := s.toks) (r.append r2) (by rw [List.length_append]; omega), rfl, q _ I.fresh⟩
end
section
variable {prog : Program} {w : World} {A : Around} {E : Value → Shared → Prop} {s : Shared}
set_option maxRecDepth 100000 in
end
end L2
namespace Att
open PySem PySem.W PySem.Calls PyProof.Rows
theorem ints_of_wellAll {P : Params} {h : Heap} : ∀ (ns : List Int) (vs : List Value), WellAll P h vs (ns.map WData.int) → IntsAre vs ns := by
 intro ns
 induction ns with
 | nil =>
  intro vs w
  rw [List.map_nil] at w
  cases w
  exact .nil
 | cons n ns ih =>
  intro vs w
  rw [List.map_cons] at w
  cases w with
  | cons a b =>
   cases a
   exact .cons _ _ (ih _ b)
theorem script_of {l : OpenLaw} {n : Nat} (hn : l.most = some n) {P : Params} {h : Heap} {args : List WData} {vals : List Value}
  (hpre : l.row.toRowW.claim.pre args = true) (hwl : WellAll P h vals args) :
  ∃ a vs ns, vals = [Value.ref a] ∧ args = [WData.list (ns.map WData.int)] ∧ h.get? a = some { cls := .type "list", data := .seq vs.toArray } ∧ IntsAre vs ns ∧ ns.length ≤ n := by
 have hsh : WShape.hasAll [] args [.list .int] = true := (pre_splitW hpre).1
 have hc : l.pre.holds [] { args := args } = true := (pre_splitW hpre).2
 obtain ⟨d, r, rfl, h1, h2⟩ := hasAllW_cons hsh
 obtain rfl := hasAllW_nil h2
 obtain ⟨xs, rfl, h3⟩ := hasW_list h1
 obtain ⟨ns, rfl⟩ := items_int h3
 have hlen : ns.length ≤ n := by
  unfold OpenLaw.pre at hc
  have h4 : (WTm.not (.lt (.lit (.int (n : Int))) (.len (.arg 0)))).holds [] { args := [.list (ns.map .int)] } = true := by
   have h4 := (holds_andW hc).1
   rw [hn] at h4
   exact h4
  have h5 := condW_of h4 (w_not (w_lt w_lit (w_len_list (w_arg rfl))))
  rw [List.length_map] at h5
  refine Nat.le_of_not_lt fun q => ?_
  have q' : (n : Int) < ((ns.length : Nat) : Int) := by omega
  first
   | (rw [decide_eq_true q'] at h5; exact absurd h5 (by decide))
   | (simp at h5; omega)
 cases hwl with
 | cons w1 w2 =>
  cases w2
  cases w1 with
  | list ho hall => exact ⟨_, _, ns, rfl, rfl, ho, ints_of_wellAll ns _ hall, hlen⟩
theorem post_true (l : OpenLaw) (args : List WData) : l.row.toRowW.claim.post args (.bool true) args = true :=
 postW_of (r := l.row.toRowW) (X := (true == true))
  (show WShape.has [] (.bool true) .bool = true by first | rfl | decide | simp [WShape.has, WShape.arms, WShape.armsAll])
  (show (WTm.eq .res (.lit (.bool true))).value [] { args := args, res := some (.bool true), after := args } = some (.bool (true == true)) from w_eq_bool (w_res rfl) w_lit) rfl
theorem attach_call {l : OpenLaw} {n : Nat} {q : Program} {loose : List Str} {XP : (Str → Option Value) → Heap → Prop} {YP : World → Heap → Prop} {d : DefRec}
  (hn : l.most = some n) (hdf : d.params.defaults = [])
  (call : ∀ (w : World) (s₀ s₁ : Shared) (mg mb : Str → Option Value) (fa : Addr) (o : Obj) (pm cd doc : Value) (a : Addr) (vs : List Value) (ns : List Int),
   Ground q loose [] XP w s₀ mg mb s₁.heap → YP w s₁.heap →
   s₁.heap.get? fa = some o → o.data = .func (docDef d.name d.params d.body d.scope pm cd doc) → s₁.heap.CodeRec cd d.name → mg d.name = some (.ref fa) →
   s₁.heap.get? a = some { cls := .type "list", data := .seq vs.toArray } → IntsAre vs ns → ns.length ≤ n → s₁.gens = #[] →
   codeAny (model l.prog w) callerA (.call (.ref fa) ⟨[.ref a], []⟩) (fun r s' => r = .ok (.ret (.bool true)) ∧ OldK s₁.heap s'.heap ∧ s'.os = s₁.os ∧ AllBare s'.gens) s₁) :
  WalkO q loose XP YP l.row.toRowW d [] (fun f vs => PySem.call f vs) := by
 intro w s₀ s₁ mg mb G Y fa o pm cd doc dV kV ho hd hcd hD hmg hg args vals as hpre hlay hrd hwl hlo
 obtain rfl : dV = .none := Dflts.none hD hdf
 obtain rfl : kV = .none := Dflts.noKw hD
 obtain ⟨a, vs, ns, rfl, rfl, hobj, hints, hlen⟩ := script_of hn hpre hwl
 refine enter_call (codeAny_mono (call w s₀ s₁ mg mb fa o pm cd doc a vs ns G Y ho (fd_plain hd) hcd hmg hobj hints hlen hg) fun r s' hq => ?_)
 obtain ⟨rfl, h2, h3, h4⟩ := hq
 exact ⟨.inl ⟨.bool true, .bool true, [], rfl, fun _ => rfl, .bool true, post_true l _, fun _ => ⟨List.Pairwise.nil, fun _ hm => (nomatch hm)⟩⟩, h2, h3, h4⟩
end Att
namespace L2
open PySem PySem.Spec PyProof.Rows
theorem vals_ints : ∀ {vs : List Value} {ns : List Int}, IntsAre vs ns → Vals (ns.map V.int) vs
 | _, _, .nil => .nil
 | _, _, .cons n t h => .cons ⟨t, rfl⟩ (vals_ints h)
def Only (H : Hp) : Prop := ∀ b, H b = none ∨ ∃ o xs, H b = some (.frz o (.lst xs))
theorem law_call {P : Program} {w : World} {K : PySem.W.Frag} {mg mb : Str → Option Value} {CX : CXT} {k : Nat} {fa a : Addr} {fd : FuncData} {x : Str} {sp : Sp} {s₁ : Shared} {vs : List Value} {ns : List Int}
  (KX : K.In s₁.heap) (hns : s₁.heap.Ns mainGlobals mg) (hb : s₁.heap.Ns builtinsNs mb) (hbb : ∀ x : Str, x ≠ "__name__" → mb x = bootBuiltins x) (hlim : s₁.heap.NoLimit) (hg : s₁.gens = #[])
  (ha : s₁.heap.get? a = some { cls := .type "list", data := .seq vs.toArray }) (hi : IntsAre vs ns) (hl : ns.length ≤ sizeLine) (hr : Room k callerA)
  (F : ∀ base : Heap, K.In base → base.Ns mainGlobals mg → FnOk P w K mg base CX k fa fd [x] sp) (hbind : ∀ (s : Shared) (u : Value), BindsTo s fd ⟨[u], []⟩ [(x, u)])
  (hsp : ∀ H : Hp, Only H → SqL K H a (ns.map V.int) → sp [.ref a] H (fun v _ => v = .bl true) fun _ _ _ => False)
  (hCX : ∀ H e s', CX [] H s₁ (fun _ _ _ => False) e s' → False) :
  codeAny (model P w) callerA (.call (.ref fa) ⟨[.ref a], []⟩) (fun r s' => r = .ok (.ret (.bool true)) ∧ OldK s₁.heap s'.heap ∧ s'.os = s₁.os ∧ AllBare s'.gens) s₁ := by
 have rv := vals_ints hi
 have lenV := hi.length
 have core : ∀ H : Hp, Only H → SqL K H a (ns.map V.int) → HOk P w H s₁.heap → (∀ b, H b ≠ none → b = a) → (H a ≠ none → K.lookup a = none) →
   codeAny (model P w) callerA (.call (.ref fa) ⟨[.ref a], []⟩) (fun r s' => r = .ok (.ret (.bool true)) ∧ OldK s₁.heap s'.heap ∧ s'.os = s₁.os ∧ AllBare s'.gens) s₁ := by
  intro H hO hS hok hA hK
  have base_of : ∀ {b : Addr} {o : Obj}, s₁.heap.get? b = some o → H b = none → (hidT s₁.heap H).get? b = some o := fun e n => hidT_get e n
  have noA : ∀ {b : Addr} {o : Obj} {es : Array DictEntry} {ep : Nat}, s₁.heap.get? b = some o → o.data = .dict es ep → H b = none := fun {b o es ep} e d => by
   cases q : H b with
   | none => rfl
   | some u =>
    have e' : b = a := hA b (by rw [q]; simp)
    subst e'
    rw [ha] at e; cases e
    have d' : Data.seq vs.toArray _ = Data.dict es ep := d
    cases d'
  have nsK : ∀ {b : Addr} {m : Str → Option Value}, s₁.heap.Ns b m → (hidT s₁.heap H).Ns b m := fun {b m} ⟨o, es, ep, e, d, r⟩ => ⟨o, es, ep, base_of e (noA e d), d, r⟩
  have hKb : K.In (hidT s₁.heap H) := fun b o e => base_of (KX b o e) (by
   cases q : H b with
   | none => rfl
   | some u =>
    have e' : b = a := hA b (by rw [q]; simp)
    subst e'
    rw [hK (by rw [q]; simp)] at e; cases e)
  have hM : Mod K mg (hidT s₁.heap H) := ⟨hKb, nsK hns, ⟨mb, nsK hb, hbb⟩, let ⟨mc, h1, h2⟩ := hlim; ⟨mc, nsK h1, h2⟩⟩
  have e0 : Env0 P w K mg (hidT s₁.heap H) callerA [] s₁ H := ⟨rfl, hM, fun b o e => of_hidT e, Nat.le_of_eq (hidT_size _ _), trivial, fun b hb => absurd (show b ∈ ([] : List Addr) from hb) (by simp), hok, .of_eq hg⟩
  refine codeAny_mono ((F _ hKb (nsK hns)).run callerA [] s₁ H ⟨[.ref a], []⟩ [.ref a] [.ref a] _ _ hr e0 (hbind s₁ (.ref a)) (.cons rfl .nil) (hsp H hO hS)) fun r s' h => ?_
  cases r with
  | error e => exact (hCX H e s' h).elim
  | ok fl =>
   cases fl with
   | next => exact False.elim h
   | brk => exact False.elim h
   | cont => exact False.elim h
   | ret u =>
    obtain ⟨v, H', os, bare, un, hok', r', q⟩ := h
    have q' : v = .bl true := q
    subst q'
    obtain rfl : u = Value.bool true := r'
    refine ⟨rfl, OldK.of_keep fun b o e => ?_, os, bare⟩
    cases q : H b with
    | none => exact un.keep b o e q (by intro z; exact absurd (show b ∈ ([] : List Addr) from z) (by simp)) (by simp)
    | some u =>
     rcases hO b with z | ⟨ob, xs, z⟩
     ·rw [q] at z; cases z
     ·have z2 := un.frzs b ob _ z
      obtain ⟨e1, _⟩ := hok b _ z
      obtain ⟨e2, _⟩ := hok' b _ z2
      rw [e] at e1; cases e1
      exact e2
 cases hk : K.lookup a with
 | some o =>
  have e := KX a o hk
  rw [ha] at e
  cases e
  refine core (fun _ => none) (fun _ => .inl rfl) (.inr ⟨_, vs.toArray, _, hk, rfl, rfl, rfl, by rw [List.size_toArray, lenV]; exact hl, by simpa using rv⟩) (fun b u z => by have z' : (none : Option HO) = some u := z; cases z') (fun b z => absurd rfl z) fun z => absurd rfl z
 | none =>
  refine core (fun b => if b = a then some (.frz { cls := .type "list", data := .seq vs.toArray } (.lst (ns.map V.int))) else none) (fun b => ?_) (.inl (.inr ⟨{ cls := .type "list", data := .seq vs.toArray }, if_pos rfl⟩)) (fun b u z => ?_) (fun b z => ?_) fun _ => hk
  ·by_cases hb : b = a
   ·exact .inr ⟨_, _, if_pos hb⟩
   ·exact .inl (if_neg hb)
  ·by_cases hb : b = a
   ·have z' := (if_pos hb).symm.trans z
    cases z'
    subst hb
    exact ⟨ha, by rw [List.length_map]; exact hl, vs, _, rv, ha⟩
   ·have z' := (if_neg hb).symm.trans z
    cases z'
  ·by_cases hb : b = a
   ·exact hb
   ·exact absurd (if_neg hb) z
end L2
namespace L2
open PySem PySem.Spec PyProof.Rows
theorem walk_of {l : PySem.W.OpenLaw} {n k : Nat} {q : Program} {loose : List Str} {XP : (Str → Option Value) → Heap → Prop} {YP : World → Heap → Prop} {d : DefRec} {K : Params → PySem.W.Frag} {CX : World → CXT} {sp : World → Sp} {x : Str}
  (hn : l.most = some n) (hn2 : n ≤ sizeLine) (hdf : d.params.defaults = []) (hr : Room k callerA)
  (hY : ∀ (w : World) (h : Heap), YP w h → (K w.params).In h)
  (F : ∀ (w : World) (mg : Str → Option Value) (fa : Addr) (h : Heap), (K w.params).In h → h.Ns mainGlobals mg → mg d.name = some (.ref fa) →
   ∃ fd : FuncData, (∀ (s : Shared) (u : Value), BindsTo s fd ⟨[u], []⟩ [(x, u)]) ∧
    ∀ base : Heap, (K w.params).In base → base.Ns mainGlobals mg → FnOk l.prog w (K w.params) mg base (CX w) k fa fd [x] (sp w))
  (hsp : ∀ (w : World) (H : Hp) (a : Addr) (ns : List Int), ns.length ≤ n → Only H → SqL (K w.params) H a (ns.map V.int) → sp w [.ref a] H (fun v _ => v = .bl true) fun _ _ _ => False)
  (hCX : ∀ (w : World) (H : Hp) (s : Shared) (e : Value) (s' : Shared), CX w [] H s (fun _ _ _ => False) e s' → False) :
  PySem.W.WalkO q loose XP YP l.row.toRowW d [] (fun f vs => PySem.call f vs) := by
 refine Att.attach_call hn hdf fun w s₀ s₁ mg mb fa o pm cd doc a vs ns G Y ho hd hcd hmg hobj hints hlen hg => ?_
 have KX := hY w _ Y
 obtain ⟨fd, hb, hF⟩ := F w mg fa _ KX G.T.g hmg
 exact law_call KX G.T.g G.T.b G.T.builtins G.T.nolimit hg hobj hints (Nat.le_trans hlen hn2) hr hF hb (fun H hO hS => hsp w H a ns hlen hO hS) fun H e s' => hCX w H s₁ e s'
end L2
namespace L2
open PySem PySem.Spec PyProof.Rows
def defArgs (s : Stmt) : Arguments := match s with
 | .FunctionDef _ a _ _ _ _ _ _ _ _ => a
 | _ => { posonlyargs := [], args := [], vararg := none, kwonlyargs := [], kw_defaults := [], kwarg := none, defaults := [] }
def defBody (s : Stmt) : List Stmt := match s with
 | .FunctionDef _ _ b _ _ _ _ _ _ _ => b
 | _ => []
def defScope (s : Stmt) : Scope := match s with
 | .FunctionDef _ _ _ _ _ _ sc _ _ _ => sc
 | _ => { kind := .function, names := [], isGenerator := false, isCoroutine := false }
abbrev CX0 : CXT := fun _ _ _ _ _ _ => False
abbrev E0 : XK := fun _ _ _ => False
theorem pass0 {X : Cx} : Passes CX0 X E0 := fun _ _ _ _ _ _ _ h => h.elim
structure Fun (K : PySem.W.Frag) (x qual : Str) (st : Stmt) (f : Addr) (fd : FuncData) : Prop where
 ex : ∃ (oc : Value) (od : Option Addr) (kV doc pm : Value) (an : Option Addr) (cdv ct : Value) (osl : Array (Option Value)),
  fd = PySem.W.fnOf x qual (defArgs st) (defBody st) (defScope st) .none kV doc pm an cdv ct ∧ K.lookup f = some ⟨oc, od, .func fd, osl⟩ ∧ PySem.W.codeIn K cdv qual = true
 kp : PySem.W.keepIn K (.ref f) = true
section
variable {P : Program} {w : World} {K : PySem.W.Frag} {mg : Str → Option Value} {base : Heap}
theorem Fun.ok {x qual : Str} {st : Stmt} {f : Addr} {fd : FuncData} {N ps : List Str} {k : Nat} {sp : Sp} (F : Fun K x qual st f fd) (S : FnScope N ps (defScope st)) (len : ∀ vs H Q E, sp vs H Q E → vs.length = ps.length)
  (hbody : ∀ (cdv : Value) (A : Around) (outer : List Env) (s : Shared) (H : Hp) (vs : List V) (Q : VK) (E : XK), Room k (A.deeper (envOfC qual (defScope st) s.heap.objs.size f cdv)) → sp vs H Q E →
   ∃ t, PSs (cxOf CX0 P w K mg base N qual (defScope st) f cdv A outer s H E).nox (defBody st) t ∧ t { nx := fun _ H' => Q .non H', rt := Q } (start N vs) H) : FnOk P w K mg base CX0 (k + 1) f fd ps sp := by
 obtain ⟨oc, od, kV, doc, pm, an, cdv, ct, osl, rfl, lk, hcd⟩ := F.ex
 refine fn_of lk hcd S len fun A outer s H vs Q E hr hsp => ?_
 obtain ⟨t, h, q⟩ := hbody cdv A outer s H vs Q E hr hsp
 exact ⟨t, h.nox, q⟩
theorem Fun.binds {x qual : Str} {st : Stmt} {f : Addr} {fd : FuncData} {ps : List Str} (F : Fun K x qual st f fd)
  (h : ∀ (kV doc pm : Value) (an : Option Addr) (cdv ct : Value) (us : List Value), us.length = ps.length → bindArgs (PySem.W.fnOf x qual (defArgs st) (defBody st) (defScope st) .none kV doc pm an cdv ct) ⟨us, []⟩ = pure (ps.zip us)) : Binds K fd ps [] := by
 obtain ⟨oc, od, kV, doc, pm, an, cdv, ct, osl, rfl, lk, hcd⟩ := F.ex
 exact .all (h kV doc pm an cdv ct)
theorem fun_mk {x qual : Str} {st : Stmt} {f : Addr} {oc : Value} {od an : Option Addr} {osl : Array (Option Value)} {kV doc pm cdv ct : Value} (l : K.lookup f = some ⟨oc, od, .func (PySem.W.fnOf x qual (defArgs st) (defBody st) (defScope st) .none kV doc pm an cdv ct), osl⟩)
  (c : PySem.W.codeIn K cdv qual = true) (k : PySem.W.keepIn K (.ref f) = true) : Fun K x qual st f (PySem.W.fnOf x qual (defArgs st) (defBody st) (defScope st) .none kV doc pm an cdv ct) := ⟨⟨oc, od, kV, doc, pm, an, cdv, ct, osl, rfl, l, c⟩, k⟩
end
section
variable {X : Cx}
theorem pv (i : Nat) {x : Str} {pos : Pos} (hN : X.N[i]? = some x := by rfl) (hv : Vis X.env.scope x := by first | exact Or.inl rfl | exact Or.inr (Or.inl rfl) | exact Or.inr (Or.inr rfl)) (hd : (x == ("__debug__" : Str)) = false := by decide)
  (hcd : (x == ("__classdict__" : Str)) = false := by decide) : PE X (.Name x pos) (tVar i) := pe_var hN hv hd hcd
end
theorem iteF {A B : Prop} (h : B) : if false = true then A else B := by
 rw [if_neg Bool.false_ne_true]
 exact h
theorem iteT {A B : Prop} (h : A) : if true = true then A else B := by
 rw [if_pos rfl]
 exact h
theorem ite2 {c A B : Prop} [Decidable c] (h1 : c → A) (h2 : ¬ c → B) : if c then A else B := by
 by_cases h : c
 ·rw [if_pos h]
  exact h1 h
 ·rw [if_neg h]
  exact h2 h
theorem iteNS {c A B : Prop} [Decidable c] (hc : c) (h : B) : if (!decide c) = true then A else B := by
 rw [decide_eq_true hc]
 exact iteF h
def Same (H H' : Hp) : Prop := ∀ b o, H b = some o → H' b = some o
theorem Same.refl (H : Hp) : Same H H := fun _ _ h => h
theorem Same.trans {H H1 H2 : Hp} (a : Same H H1) (b : Same H1 H2) : Same H H2 := fun c o h => b c o (a c o h)
theorem Same.free {H H' : Hp} (e : Same H H') {l : Addr} (h : H' l = Option.none) : H l = Option.none := by
 cases q : H l with
 | none => rfl
 | some o =>
  rw [e l o q] at h
  cases h
theorem Same.seq {K : PySem.W.Frag} {H H' : Hp} {a : Addr} {xs : List V} (e : Same H H') (h : SqL K H a xs) : SqL K H' a xs := by
 rcases h with (h | ⟨o, h⟩) | h
 ·exact .inl (.inl (e _ _ h))
 ·exact .inl (.inr ⟨o, e _ _ h⟩)
 ·exact .inr h
end L2
set_option maxHeartbeats 4000000
namespace L2
open PySem PySem.Spec PyProof.Rows
section
variable {X : Cx}
def CMulW (i j : Int) : Prop := i.natAbs < 2 ^ 4000 ∧ j.natAbs < 2 ^ 4000
theorem CMulW.ok {i j : Int} (h : CMulW i j) : IntMulOk i j :=
 IntMulOk.of_le (m := 4000) (n := 4000) (intBits_le_iff.mpr h.1) (intBits_le_iff.mpr h.2) (by decide)
theorem op_mulW : OpR X (binaryOp .Mult) (rI CMulW fun i j => .int (i * j)) := opI fun _ _ _ _ _ _ _ hc q => mul_int q hc.ok
def CDivW (i j : Int) : Prop := j ≠ 0 ∧ j.natAbs < 2 ^ 4000
theorem noPy {i j : Int} (h : CDivW i j) : Builtin.divisionGoesByPylong i j = false := by
 refine PyProof.noPylong_of_log2 ?_
 have h0 : j.natAbs ≠ 0 := by have := h.1; omega
 have := (Nat.log2_lt h0).mpr h.2
 omega
theorem op_fdivW : OpR X (binaryOp .FloorDiv) (rI CDivW fun i j => .int (i.fdiv j)) := opI fun _ _ _ _ _ _ _ hc q => floordiv_int hc.1 q (.inl (noPy hc))
def CDivP (i j : Int) : Prop := 0 < j ∧ j.natAbs < 2 ^ 4000
theorem op_fdivP : OpR X (binaryOp .FloorDiv) (rI CDivP fun i j => .int (i / j)) := opI fun i j _ _ _ _ _ hc q => by
 refine floordiv_int (by have := hc.1; omega) ?_ (.inl (noPy ⟨by have := hc.1; omega, hc.2⟩))
 rw [Int.fdiv_eq_ediv_of_nonneg i (by have := hc.1; omega)]
 exact q
theorem call_sum (hc : X.calm = true) : CallR X (.builtin "sum") (fun xs H Q => ∃ (p : Addr) (ns : List Int), xs = [.ref p] ∧ SqL X.K H p (ns.map V.int) ∧ Q (.int ns.sum) H) := by
 intro pins s σ H xs us Q I r h
 obtain ⟨p, ns, rfl, hq, q⟩ := h
 obtain ⟨u, rfl, r1⟩ := vals1 r
 cases r1
 obtain ⟨its, rv, pl, hz⟩ := I.list hq
 have hi : IntsAre its ns := intsAre_of rv
 have hl : s.heap.IsList p its.toArray := by
  obtain ⟨o, n, e, c, _, d⟩ := pl
  exact ⟨o, e, c, n, d⟩
 obtain ⟨xs, hx⟩ := hi.allInts.items
 have hl' : s.heap.IsList p (intItems xs) := hx ▸ hl
 refine sum_intListG (I.ok.hd hc) hl' fun h' tk t' hk => ?_
 have e1 : ns = xs.toList.map (·.1) := by
  rw [← nums_intItems, ← hx]
  exact (show numsOf its.toArray.toList = ns from hi.numsOf).symm
 have e2 : preSum (numAt xs) xs.size = ns.sum := by
  rw [preSum_eq, List.take_of_length_le (by simp), e1]
 rw [e2]
 exact ⟨.int ns.sum, H, I.kept hk, ⟨_, rfl⟩, q⟩
theorem plainIs {h : Heap} {p : Addr} {its : Array Value} (pl : PlainL h p its) : h.IsList p its := by
 obtain ⟨o, n, e, c, _, d⟩ := pl
 exact ⟨o, e, c, n, d⟩
end
end L2
namespace L2
open PySem PySem.Spec PyProof.Rows
def clOf (env : Env) : List (Str × NameKind) → List (Str × Addr) → List (Str × Addr)
 | [], acc => acc
 | (n, k) :: r, acc => clOf env r (if (k == NameKind.free) = true then (n, (env.cells.lookup n).getD 0) :: acc else acc)
theorem closure_eq {env : Env} : ∀ (names : List (Str × NameKind)) (acc : List (Str × Addr)), (∀ p ∈ names, p.2 = .free → ∃ c, env.cells.lookup p.1 = some c) →
  (forIn names acc fun (x : Str × NameKind) (cs : List (Str × Addr)) => (match x with
   | (name, kind) => if (kind == NameKind.free) = true then (do let __do_lift ← cellOf env name; pure (ForInStep.yield ((name, __do_lift) :: cs))) else pure (ForInStep.yield cs) : Sem (ForInStep (List (Str × Addr))))) = pure (clOf env names acc) := by
 intro names
 induction names with
 | nil => intro acc _; rfl
 | cons p r ih =>
  intro acc h
  obtain ⟨n, k⟩ := p
  rw [List.forIn_cons]
  have hr := fun acc => ih acc fun q hq => h q (List.mem_cons_of_mem _ hq)
  by_cases hk : k = .free
  ·subst hk
   obtain ⟨c, hc⟩ := h (n, .free) List.mem_cons_self rfl
   have e : cellOf env n = pure c := by unfold cellOf; rw [hc]
   simp only [beq_self_eq_true, if_true, e, pure_bind]
   rw [hr]
   simp only [clOf, beq_self_eq_true, if_true, hc, Option.getD_some]
  ·have hb : (k == NameKind.free) = false := by simpa using hk
   simp only [hb, Bool.false_eq_true, if_false, pure_bind]
   rw [hr]
   simp only [clOf, hb, Bool.false_eq_true, if_false]
theorem closureFor_eq {env : Env} {scope : Scope} (h : ∀ p ∈ scope.names, p.2 = .free → ∃ c, env.cells.lookup p.1 = some c) : closureFor scope env = pure (clOf env scope.names []) := by
 unfold closureFor
 have e := closure_eq (env := env) scope.names [] h
 simp only [e, pure_bind]
theorem clOf_mem {env : Env} {y : Str} {c : Addr} : ∀ {names : List (Str × NameKind)} {acc : List (Str × Addr)}, (∀ p ∈ names, p.2 = .free → ∃ c, env.cells.lookup p.1 = some c) → (∀ y c, acc.lookup y = some c → env.cells.lookup y = some c) →
  (clOf env names acc).lookup y = some c → env.cells.lookup y = some c
 | [], _, _, ha, e => ha _ _ e
 | (n, k) :: r, acc, h, ha, e => by
  refine clOf_mem (names := r) (fun p hp => h p (List.mem_cons_of_mem _ hp)) (fun y c q => ?_) e
  by_cases hk : (k == NameKind.free) = true
  ·rw [if_pos hk] at q
   obtain ⟨c', hc'⟩ := h (n, k) List.mem_cons_self (by simpa using hk)
   rw [List.lookup_cons] at q
   cases hy : y == n with
   | true =>
    rw [hy] at q
    have hy' : y = n := by simpa using hy
    subst hy'
    rw [hc'] at q
    cases q
    exact hc'
   | false =>
    rw [hy] at q
    exact ha y c q
  ·rw [if_neg hk] at q
   exact ha y c q
theorem clOf_acc {env : Env} {y : Str} : ∀ {names : List (Str × NameKind)} {acc : List (Str × Addr)}, (acc.lookup y).isSome = true → ((clOf env names acc).lookup y).isSome = true
 | [], _, h => h
 | (n, k) :: r, acc, h => by
  refine clOf_acc (names := r) ?_
  split
  ·rw [List.lookup_cons]
   split
   ·rfl
   ·exact h
  ·exact h
theorem clOf_has {env : Env} {y : Str} : ∀ {names : List (Str × NameKind)} {acc : List (Str × Addr)}, (y, NameKind.free) ∈ names → ((clOf env names acc).lookup y).isSome = true
 | (n, k) :: r, acc, h => by
  rcases List.mem_cons.mp h with e | h
  ·cases e
   refine clOf_acc (names := r) ?_
   rw [if_pos (by simp), List.lookup_cons]
   simp
  ·exact clOf_has (names := r) h
abbrev compCx (X : Cx) (scope : Scope) (Nc : List Str) (C : Addr) (s0 : Shared) (H0 : Hp) (ex : List Addr) : Cx :=
 { X with N := Nc, s₀ := s0, H₀ := H0, env := compEnvC scope (clOf X.env scope.names []) C X.env, outer := X.stack, ex := ex, fn := fun _ => false, pn := [], xe := fun _ _ => False }
structure CompScopeN (fr sc : Scope) (xs cap : List Str) : Prop where
 kind : sc.kind = .function
 cell : ∀ p ∈ sc.names, p.2 ≠ .cell
 names : ∀ p ∈ sc.names, p.2 = .local → sc.names.lookup p.1 = some .local
 free : ∀ p ∈ sc.names, p.2 = .free → fr.names.lookup p.1 = some .cell
 caps : ∀ y ∈ cap, (y, NameKind.free) ∈ sc.names
 noboth : ∀ y ∈ cap, sc.names.lookup y ≠ some .local
structure CompScope (fr sc : Scope) (x : Str) (cap : List Str) : Prop where
 kind : sc.kind = .function
 cell : ∀ p ∈ sc.names, p.2 ≠ .cell
 names : ∀ p ∈ sc.names, p.2 = .local → sc.names.lookup p.1 = some .local
 tgt : sc.names.lookup x = some .local
 free : ∀ p ∈ sc.names, p.2 = .free → fr.names.lookup p.1 = some .cell
 caps : ∀ y ∈ cap, (y, NameKind.free) ∈ sc.names
 nd : (x :: cap).Nodup
 noboth : ∀ y ∈ cap, sc.names.lookup y ≠ some .local
theorem relabel_mem {sc : Scope} {env : Env} {y : Str} {k : NameKind} (h : (y, k) ∈ (relabel sc env).names) : ∃ k', (y, k') ∈ sc.names ∧ (k = k' ∨ (k' = .free ∧ k = .cell)) := by
 unfold relabel at h
 obtain ⟨⟨n, k'⟩, hm, e⟩ := List.mem_map.mp h
 by_cases hc : (k' == NameKind.free && env.scope.kind == .function && env.kindOf n == some .cell) = true
 ·have e : (n, NameKind.cell) = (y, k) := by simpa [hc] using e
  cases e
  refine ⟨k', hm, .inr ⟨?_, rfl⟩⟩
  rw [Bool.and_eq_true, Bool.and_eq_true] at hc
  simpa using hc.1.1
 ·have e : (n, k') = (y, k) := by simpa [hc] using e
  cases e
  exact ⟨k, hm, .inl rfl⟩
section
variable {X : Cx} {pins : List (Addr × Obj)} {σ : St} {H : Hp} {s : Shared} {sc : Scope} {xs cap : List Str}
theorem CompScopeN.cells (S : CompScopeN X.env.scope sc xs cap) (ok : X.Ok) : ∀ p ∈ sc.names, p.2 = .free → ∃ c, X.env.cells.lookup p.1 = some c :=
 fun p hp e => ok.has p.1 (.inl (S.free p hp e))
theorem CompScopeN.sub (S : CompScopeN X.env.scope sc xs cap) (ok : X.Ok) {y : Str} {c : Addr} (h : (clOf X.env sc.names []).lookup y = some c) : X.env.cells.lookup y = some c :=
 clOf_mem (S.cells ok) (fun _ _ z => by simp at z) h
theorem neLt {a b : Addr} (h : a < b) : a ≠ b := Nat.ne_of_lt h
theorem neGt {a b : Addr} (h : b < a) : a ≠ b := Nat.ne_of_gt h
def capV (σ : St) (js : List Nat) : St := js.map fun j => (σ[j]?).join
theorem comp_invN (S : CompScopeN X.env.scope sc xs cap) {js : List Nat} (hjs : js.map (fun j => X.N[j]?) = cap.map some) (I : Inv X pins σ H s) {fp : List Addr} (hf : ∀ b ∈ fp, FpOk X pins H b) (hlt : ∀ b ∈ fp, b < s.heap.objs.size)
  {h1 : Heap} {tk : Nat} {D C : Addr} {oD : Obj} {m : Str → Option Value} (hD : D = s.heap.objs.size) (hC : C = s.heap.objs.size + 1) (keep : ∀ b o, s.heap.get? b = some o → h1.get? b = some o) (hoD : h1.get? D = some oD) (hnc : ∀ v, oD.data ≠ .cell v) (hns : h1.Ns C m) :
  Inv (compCx X sc (xs ++ cap) C s H fp) [(D, oD)] (xs.map (fun _ => none) ++ capV σ js) H { s with heap := h1, toks := tk } := by
 subst hD hC
 have lenJ : js.length = cap.length := by have := congrArg List.length hjs; simpa using this
 have ok := I.ok
 refine ⟨⟨ok.mod, S.kind, ok.glob, ok.blt, ?_, fun y z c h1 h2 => ok.inj y z c (S.sub ok h1) (S.sub ok h2), fun y hy => ?_, (fun y c h => Bool.noConfusion h), ok.hd, ok.frames, .inl rfl, fun b hb => ⟨?_, fun y c e => (hf b hb).2.2.2.2.1 y c (S.sub ok e)⟩, I.bs, Nat.le_trans ok.bsz I.sz, fun b o e hb => ?_, fun b hb hb' => ?_, I.stack, I.stkFree⟩,
  rfl, I.bare, Un.kept keep, ⟨m, hns, fun i y v e1 e2 e3 => ?_⟩, fun y c e => ?_, I.hok.fresh (Nat.le_succ _), fun y c e => I.freeC y c (S.sub ok e), fun p hp => ?_, I.hok.kept keep, ?_⟩
 ·exact Nat.le_succ _
 ·have hy' : ∃ k, (y, k) ∈ (relabel sc X.env).names ∧ (k = .cell ∨ k = .free) := by
   rcases hy with hy | hy
   ·exact ⟨_, PySem.mem_of_lookup hy, .inl rfl⟩
   ·exact ⟨_, PySem.mem_of_lookup hy, .inr rfl⟩
  obtain ⟨k, hm, hk⟩ := hy'
  obtain ⟨k', hm', hk'⟩ := relabel_mem hm
  have hfree : k' = .free := by
   rcases hk' with e | ⟨e, _⟩
   ·subst e
    rcases hk with e | e
    ·exact absurd e (S.cell _ hm')
    ·exact e
   ·exact e
  subst hfree
  exact Option.isSome_iff_exists.mp (clOf_has hm')
 ·exact neLt (Nat.lt_succ_of_lt (hlt b hb))
 ·obtain ⟨_, _, _, z, _⟩ := hf b hb
  rcases z with z | z
  ·exact ok.noex b o e z
  ·have := Heap.lt_size (ok.bs b o e).1
   exact absurd (Nat.lt_of_lt_of_le this z) (Nat.lt_irrefl _)
 ·obtain ⟨_, z1, z2, _⟩ := hf b hb
  rcases List.mem_cons.mp (I.stkSub b hb') with z | z
  ·exact z1 z
  ·exact z2 z
 ·have e2 : (xs.map (fun _ => (none : Option V)) ++ capV σ js)[i]? = some (some v) := e2
  have e1 : (xs ++ cap)[i]? = some y := e1
  by_cases hi : i < xs.length
  ·rw [List.getElem?_append_left (by rw [List.length_map]; exact hi), List.getElem?_map, List.getElem?_eq_getElem hi] at e2
   cases e2
  ·obtain ⟨i, rfl⟩ : ∃ i', i = xs.length + i' := ⟨i - xs.length, by omega⟩
   rw [List.getElem?_append_right (by rw [List.length_map]; omega), List.length_map, Nat.add_sub_cancel_left] at e2
   rw [List.getElem?_append_right (by omega), Nat.add_sub_cancel_left] at e1
   have e1' := e1
   have e2' := e2
   have hy : y ∈ cap := List.mem_of_getElem? e1'
   unfold capV at e2'
   rw [List.getElem?_map] at e2'
   cases ej : js[i]? with
   | none => rw [ej] at e2'; cases e2'
   | some j =>
    rw [ej] at e2'
    have e2'' : (σ[j]?).join = some v := Option.some.inj e2'
    have eN : X.N[j]? = some y := by
     have := congrArg (fun l => l[i]?) hjs
     simp only [List.getElem?_map, ej, e1', Option.map_some] at this
     exact Option.some.inj this
    have eσ : σ[j]? = some (some v) := by
     cases q : σ[j]? with
     | none => rw [q] at e2''; cases e2''
     | some w' =>
      rw [q] at e2''
      have : w' = some v := by simpa using e2''
      rw [this]
    have kc : X.env.scope.names.lookup y = some .cell := S.free (y, .free) (S.caps y hy) rfl
    obtain ⟨m0, hn0, hl0⟩ := I.loc
    obtain ⟨u, ru, lk⟩ := hl0 j y v eN eσ (.inr (.inl kc))
    refine ⟨u, ru, ?_⟩
    rcases lk with ⟨k, _⟩ | ⟨_, c, ec, hc⟩
    ·have k' : X.env.scope.names.lookup y = some .local := k
     rw [kc] at k'; cases k'
    ·obtain ⟨c', hc'⟩ := Option.isSome_iff_exists.mp (clOf_has (env := X.env) (acc := []) (S.caps y hy))
     have hcc : c' = c := Option.some.inj ((S.sub ok hc').symm.trans ec)
     subst hcc
     refine .inr ⟨?_, c', hc', ?_⟩
     ·rcases e3 with e3 | e3 | e3
      ·exfalso
       have hm := PySem.mem_of_lookup e3
       obtain ⟨k', hm', hk'⟩ := relabel_mem hm
       rcases hk' with e | ⟨_, e⟩
       ·subst e
        exact S.noboth y hy (S.names _ hm' rfl)
       ·cases e
      ·exact .inl e3
      ·exact .inr e3
     ·obtain ⟨o, ho, hd⟩ := hc
      exact ⟨o, keep _ o ho, hd⟩
 ·obtain ⟨v, o, ho, hd⟩ := I.cell y c (S.sub ok e)
  exact ⟨v, o, keep _ o ho, hd⟩
 ·have hp' : p = (s.heap.objs.size, oD) := by simpa using hp
  subst hp'
  refine ⟨hoD, I.hok.fresh (Nat.le_refl _), neLt (Nat.lt_succ_self _), fun hb => ?_, hnc⟩
  obtain ⟨_, o, ho, _⟩ := I.stack.mem hb
  exact Nat.lt_irrefl _ (Heap.lt_size ho)
 ·show (xs.map (fun _ => (none : Option V)) ++ capV σ js).length = (xs ++ cap).length
  unfold capV
  simp [lenJ]
theorem comp_endN (S : CompScopeN X.env.scope sc xs cap) (I : Inv X pins σ H s) {fp : List Addr} (hf : ∀ b ∈ fp, FpOk X pins H b) {D C : Addr} {pn' : List (Addr × Obj)} {σ' : St} {H' : Hp} {s' : Shared} {ys : List V} {its : List Value} {k : Nat} {h' : Heap}
  (hD : D = s.heap.objs.size) (hC : C = s.heap.objs.size + 1) (J : Inv (compCx X sc (xs ++ cap) C s H fp) pn' σ' H' s') (hnD : H' D = none) (hoD : s'.heap.get? D = some { cls := .type "list", data := .seq its.toArray k }) (rv : Vals ys its) (hz : ys.length ≤ sizeLine)
  (hs : Heap.SameBut C s'.heap h') : Inv X pins σ (upd H' D (.lst ys)) { s' with heap := h' } := by
 subst hD hC
 have base : Un (frs X.stack) fp H H' s.heap s'.heap := J.base
 have hnC : H' (s.heap.objs.size + 1) = none := J.free
 have neC : ∀ {b : Addr} {o : Obj}, s.heap.get? b = some o → b ≠ s.heap.objs.size + 1 := fun e => neLt (Nat.lt_succ_of_lt (Heap.lt_size e))
 have neD : ∀ {b : Addr} {o : Obj}, s.heap.get? b = some o → b ≠ s.heap.objs.size := fun e => neLt (Heap.lt_size e)
 have neDH : ∀ {b : Addr} {o : HO}, H b = some o → b ≠ s.heap.objs.size := fun e => neLt (I.hok.lt e)
 refine I.call' (s' := { s' with heap := h' }) (ch := fp) J.os ⟨fun b o e n hb hx => ?_, fun b o e n hb hx => ?_, fun b o e n hx => ?_, fun b o e hx => ?_, fun b xs e => ?_, fun b o u e => ?_, fun b ps e => ?_⟩ (fun b u e => ?_) J.bare fun b hb => ?_
 ·exact (hs.2 b (neC e)).trans (base.keep b o e n hb hx)
 ·obtain ⟨sl, q⟩ := base.slot b o e n hb hx
  exact ⟨sl, (hs.2 b (neC e)).trans q⟩
 ·rw [upd_ne (neD e)]; exact base.free b o e n hx
 ·obtain ⟨o', q⟩ := base.there b o e hx
  exact ⟨o', (hs.2 b (neC e)).trans q⟩
 ·rw [upd_ne (neDH e)]; exact base.tups b xs e
 ·rw [upd_ne (neDH e)]; exact base.frzs b o u e
 ·rw [upd_ne (neDH e)]; exact base.tbls b ps e
 ·by_cases hb : b = s.heap.objs.size
  ·subst hb
   rw [upd_same] at e
   cases e
   exact ⟨hz, its, k, rv, (hs.2 _ (neLt (Nat.lt_succ_self _))).trans hoD⟩
  ·rw [upd_ne hb] at e
   have J' : ObjOk X.prog X.w H' s'.heap b u := J.hok b u e
   refine J'.stay (fun c v hc q => (hs.2 c ?_).trans q) (fun c q => ?_) (fun c xs q => ?_) fun c o u q => ?_
   ·rintro rfl
    rcases hc with rfl | hc
    ·rw [hnC] at e; cases e
    ·rw [hnC] at hc; cases hc
   ·rw [upd_ne (ne_of_none q hnD)]; exact q
   ·rw [upd_ne (ne_of_none q hnD)]; exact q
   ·rw [upd_ne (ne_of_none q hnD)]; exact q
 ·obtain ⟨_, z1, _, z3, z4, z5⟩ := hf b hb
  exact ⟨z3, z1, z4, z5⟩
end
section
variable {X : Cx} {pins : List (Addr × Obj)} {σ : St} {H : Hp} {s : Shared} {sc : Scope} {x : Str} {cap : List Str}
def PIf (X : Cx) (ifs : List Expr) (t : TT) : Prop :=
 ∀ (pins : List (Addr × Obj)) (s : Shared) (σ : St) (H : Hp) (Q : Bool → Hp → Prop), Inv X pins σ H s → t σ H Q →
  wpAny (model X.prog X.w) X.A (forIn ifs true fun c r => if r = true then do let ok ← isTrue c X.env (eval c X.env); pure (ForInStep.yield ok) else pure (ForInStep.yield r)) (TP X pins σ Q) X.xe s
def tNoIf : TT := fun _ H Q => Q true H
theorem tNoIf_of {σ : St} {H : Hp} {A B : Hp → Prop} (h : A H) : tNoIf σ H (fun b H2 => if b = true then A H2 else B H2) := by
 unfold tNoIf
 exact iteT h
theorem pif_nil {X : Cx} : PIf X [] tNoIf := fun _ _ _ H _ I h => wpAny_tests_nil ⟨H, I, h⟩
theorem pif_one {X : Cx} {c : Expr} {t : TT} (h : PT X c t) : PIf X [c] t := fun pins s σ H Q I q => wpAny_tests_one (h pins s σ H Q I q)
end
section
variable {prog : Program} {w : World} {A : Around} {R : Result → Shared → Prop} {s : Shared}
theorem comp_turns {elt target iter : Expr} {ifs : List Expr} {scope : Scope} {pos : Pos} {it acc : Value} {env : Env} (J : Nat → Shared → Prop)
  (turn : ∀ n s, J n s → wpAny (model prog w) A (pyNext it) (fun r s₁ => match r with
   | none => R (.ok .next) s₁
   | some v => wpAny (model prog w) A (letOwnedTupleGo target it v) (fun _ s₂ => wpAny (model prog w) A (assign target env v) (fun _ s₃ =>
     wpAny (model prog w) A (forIn ifs true fun c r => if r = true then do let ok ← isTrue c env (eval c env); pure (ForInStep.yield ok) else pure (ForInStep.yield r)) (fun ok s₄ =>
      if ok = true then wpAny (model prog w) A (eval elt env) (fun x s₅ =>
       wpAny (model prog w) A (call (.builtin "list.append") [acc, x]) (fun _ s₆ => ∃ m, m < n ∧ J m s₆) (fun _ _ => False) s₅) (fun _ _ => False) s₄
      else ∃ m, m < n ∧ J m s₄) (fun _ _ => False) s₃) (fun _ _ => False) s₂) (fun _ _ => False) s₁) (fun _ _ => False) s)
  (n : Nat) (h : J n s) : codeAny (model prog w) A (.compLoop (.ListComp elt [⟨target, iter, ifs, 0⟩] scope pos) 0 it acc env) R s := by
 refine codeAny_loop rfl J (fun n s hJ => ?_) n h
 show wpAny _ A ((compTurn (.ListComp elt [⟨target, iter, ifs, 0⟩] scope pos) 0 it acc env).onRaise (fun x => do noteFrame x env; theTreesLotGoes x)) _ _ s
 refine wpAny_noted ?_
 rw [compTurn_list]
 refine wpAny_bind (wpAny_standAt (wpAny_bind (wpAny_mono (turn n s hJ) (fun r s₁ h₁ => ?_) fun _ _ z => z.elim)))
 cases r with
 | none => exact wpAny_pure h₁
 | some v =>
  refine wpAny_bind (wpAny_mono h₁ (fun _ s₂ h₂ => ?_) fun _ _ z => z.elim)
  refine wpAny_bind (wpAny_mono h₂ (fun _ s₃ h₃ => wpAny_bind (wpAny_mono h₃ (fun ok s₄ h₄ => ?_) fun _ _ z => z.elim)) fun _ _ z => z.elim)
  cases ok with
  | false => exact wpAny_pure ⟨rfl, h₄⟩
  | true =>
   exact wpAny_bind (wpAny_bind (wpAny_mono h₄ (fun x s₅ h₅ => wpAny_bind (wpAny_mono h₅ (fun _ s₆ h₆ => wpAny_pure (wpAny_pure ⟨rfl, h₆⟩)) fun _ _ z => z.elim)) fun _ _ z => z.elim))
end
section
variable {X : Cx} {pins : List (Addr × Obj)} {σ : St} {H : Hp} {s : Shared} {sc : Scope} {x : Str} {cap : List Str}
def LCw (J : It) (js : List Nat) (σ : St) (tt : TT) (te : TE) (Q : VK) (W : Nat → Nat → List V → Hp → Prop) : Prop :=
 ∀ i m ys H, W i m ys H → ys.length < sizeLine ∧
  ((J.stop i H ∧ ∀ p, H p = none → Q (.ref p) (upd H p (.lst ys))) ∨
   (J.go i H ∧ ∀ x H', J.yld i H x H' → tt (some x :: capV σ js) H' fun b H2 => if b = true then te (some x :: capV σ js) H2 fun v H3 => ∃ m', m' < m ∧ W (i + 1) m' (ys ++ [v]) H3 else ∃ m', m' < m ∧ W (i + 1) m' ys H2))
def tLC (wi : TI) (js : List Nat) (tt : TT) (te : TE) : TE := fun σ H Q => wi σ H fun J H1 => ∃ W : Nat → Nat → List V → Hp → Prop, (∃ m, W 0 m [] H1) ∧ LCw J js σ tt te Q W
def LCwN (n : Nat) (J : It) (js : List Nat) (σ : St) (g : TG) (tt : TT) (te : TE) (Q : VK) (W : Nat → Nat → List V → Hp → Prop) : Prop :=
 ∀ i m ys H, W i m ys H → ys.length < sizeLine ∧
  ((J.stop i H ∧ ∀ p, H p = none → Q (.ref p) (upd H p (.lst ys))) ∨
   (J.go i H ∧ ∀ x H', J.yld i H x H' → ∀ ws : List (Option V), ws.length = n → g x (ws ++ capV σ js) H' fun σ2 H2 => ∃ ws', σ2 = ws' ++ capV σ js ∧ ws'.length = n ∧ tt σ2 H2 fun b H3 => if b = true then te σ2 H3 fun v H4 => ∃ m', m' < m ∧ W (i + 1) m' (ys ++ [v]) H4 else ∃ m', m' < m ∧ W (i + 1) m' ys H3))
end
section
variable {X : Cx} {pins : List (Addr × Obj)} {σ : St} {H : Hp} {s : Shared} {sc : Scope} {xs cap : List Str}
theorem comp_runN (S : CompScopeN X.env.scope sc xs cap) {js : List Nat} (hjs : js.map (fun j => X.N[j]?) = cap.map some) (hc : X.calm = true) {elt iter : Expr} {ifs : List Expr} {pos : Pos} {tg : Expr} {g : TG} {tt : TT} {te : TE} (hg : ∀ C s0 H0 ex, PG (compCx X sc (xs ++ cap) C s0 H0 ex) tg g)
  (hb : ∀ C s0 H0 ex, PIf (compCx X sc (xs ++ cap) C s0 H0 ex) ifs tt ∧ PE (compCx X sc (xs ++ cap) C s0 H0 ex) elt te)
  (I : Inv X pins σ H s) {J : It} {fp : List Addr} {it : Addr} {tn : Nat → Heap → Prop} (T : Turn X.prog X.w X.K tg J fp it tn) (st : tn 0 s.heap) (hf : ∀ b ∈ fp, FpOk X pins H b)
  {Q : VK} {W : Nat → Nat → List V → Hp → Prop} (w0 : ∃ m, W 0 m [] H) (turn : LCwN xs.length J js σ g tt te Q W) {RR : Value → Addr → Result → Shared → Prop} {E : Value → Shared → Prop}
  (hR : ∀ D C s' σ' H' ys its k, D = s.heap.objs.size → C = s.heap.objs.size + 1 → Inv (compCx X sc (xs ++ cap) C s H fp) [(D, { cls := .type "list", data := .seq its.toArray k })] σ' H' s' → Vals ys its → ys.length ≤ sizeLine → (∀ p, H' p = none → Q (.ref p) (upd H' p (.lst ys))) → RR (.ref D) C (.ok .next) s') :
  wpAny (model X.prog X.w) X.A (newList []) (fun acc s₃ => wpAny (model X.prog X.w) X.A (newFunctionEnv sc X.env.globals (clOf X.env sc.names []) [] X.env.qual none .none (some X.env)) (fun cenv s₄ =>
   codeAny (model X.prog X.w) X.A (.compStart (.ListComp elt [⟨tg, iter, ifs, 0⟩] sc pos) 0 (.ref it) acc { cenv with scope := relabel sc X.env }) (RR acc cenv.locals) s₄) E s₃) E s := by
 refine wpAny_newObj_type (wpAny_newFunctionEnv S.cell (by intro y hy; simp at hy) (fun h₁ hns₁ hsb₁ => ?_) S.kind)
 dsimp only at hns₁ hsb₁ ⊢
 have hlt : ∀ b ∈ fp, b < s.heap.objs.size := fun b hb' => by
  obtain ⟨o, e, _⟩ := T.obj 0 _ st b hb'
  exact Heap.lt_size e
 generalize hH2 : s.heap.push { cls := .type "list", dict := none, data := .seq ([] : List Value).toArray } = H2 at hns₁ hsb₁ ⊢
 have hC : H2.objs.size = s.heap.objs.size + 1 := by rw [← hH2, Heap.size_push]
 have old : ∀ b o, s.heap.get? b = some o → h₁.get? b = some o := fun b o e =>
  hsb₁.extBut b o (by rw [hC]; exact neLt (Nat.lt_succ_of_lt (Heap.lt_size e))) (Heap.get?_push_of_some _ (hH2 ▸ Heap.get?_push_of_some _ e))
 have hacc : h₁.get? s.heap.objs.size = some { cls := .type "list", data := .seq ([] : List Value).toArray } :=
  hsb₁.extBut _ _ (by rw [hC]; exact neLt (Nat.lt_succ_self _)) (Heap.get?_push_of_some _ (hH2 ▸ Heap.get?_push_size _ rfl))
 have st₁ : tn 0 h₁ := T.keep _ _ _ st fun b _ o e => old b o e
 obtain ⟨m0, w0⟩ := w0
 rw [hC] at hns₁ hsb₁ ⊢
 generalize hCe : s.heap.objs.size + 1 = C at hns₁ hsb₁ hR ⊢
 generalize hDe : s.heap.objs.size = D at hacc hR ⊢
 have hDe' := hDe.symm
 have hC' : C = s.heap.objs.size + 1 := hCe.symm
 have ltD : ∀ {b : Addr}, b < s.heap.objs.size → b ≠ D := fun h => by rw [← hDe]; exact neLt h
 have loop : ∀ s₃ : Shared, s₃ = { s with heap := h₁, toks := s.toks + ([] : List (Str × Value)).length } →
   codeAny (model X.prog X.w) X.A (.compLoop (.ListComp elt [⟨tg, iter, ifs, 0⟩] sc pos) 0 (.ref it) (.ref D) (compEnvC sc (clOf X.env sc.names []) C X.env)) (RR (.ref D) C) s₃ := by
  rintro s₃ rfl
  have I0 : Inv (compCx X sc (xs ++ cap) C s H fp) [(D, { cls := .type "list", data := .seq ([] : List Value).toArray })] (xs.map (fun _ => none) ++ capV σ js) H { s with heap := h₁, toks := s.toks + ([] : List (Str × Value)).length } :=
   comp_invN S hjs I hf hlt hDe' hC' old hacc (fun v z => by cases z) hns₁
  have fpD : ∀ b ∈ fp, b ≠ D := fun b hb' => ltD (hlt b hb')
  refine comp_turns (fun n s' => ∃ i ws H' ys its k, ws.length = xs.length ∧ Inv (compCx X sc (xs ++ cap) C s H fp) [(D, { cls := .type "list", data := .seq its.toArray k })] (ws ++ capV σ js) H' s' ∧ tn i s'.heap ∧ (∀ b ∈ fp, H' b = none) ∧ Vals ys its ∧ W i n ys H')
   ?_ m0 ⟨0, xs.map (fun _ => none), H, [], [], 0, List.length_map _, I0, st₁, fun b hb' => (hf b hb').1, .nil, w0⟩
  rintro n s3 ⟨i, ws, H3, ys, its, k, hws, I3, st3, fr3, rv, w3⟩
  obtain ⟨hlen, hor⟩ := turn i n ys H3 w3
  have stat : ∀ {H' : Hp} {o : Obj}, (∀ b ∈ fp, H' b = none) → ∀ b ∈ fp, FpOk (compCx X sc (xs ++ cap) C s H fp) [(D, o)] H' b := fun {H' o} hn b hb' =>
   ⟨hn b hb', (I3.ok.exf b hb').1, I3.ok.exfs b hb', .inl hb', (I3.ok.exf b hb').2, fun p hp => by
    have hp' : p = (D, o) := by simpa using hp
    rw [hp']
    exact Ne.symm (fpD b hb')⟩
  rcases hor with ⟨stop, qn⟩ | ⟨go, step⟩
  ·refine thn (T.done (compCx X sc (xs ++ cap) C s H fp) rfl rfl rfl hc i _ s3 _ H3 _ I3 (stat fr3) st3 stop) fun r s4 ⟨hr, I4⟩ => ?_
   subst hr
   exact hR D C s4 _ H3 ys its k rfl rfl I4 rv (Nat.le_of_lt hlen) qn
  ·refine thn (T.item (compCx X sc (xs ++ cap) C s H fp) rfl rfl rfl hc i _ s3 _ H3 _ I3 (stat fr3) st3 go) fun r s4 ⟨u, hr, h4⟩ => ?_
   subst hr
   refine thn h4 fun _ s5 ⟨xv, H5, I5, r5, y5, st5, fr5⟩ => ?_
   have I5' := I5.pinned (stat fr5) (T.obj _ _ st5)
   refine thn (hg C s H fp _ s5 _ H5 xv u _ I5' r5 (step xv H5 y5 ws hws)) fun _ s6 ⟨σ6, H6, I6, ws', e6, hws', q6⟩ => ?_
   subst e6
   refine thn ((hb C s H fp).1 _ s6 _ H6 _ I6 q6) fun ok s7 ⟨H7, I7, q7⟩ => ?_
   have fin : ∀ {s8 : Shared} {H8 : Hp} {σ8 : St}, Inv (compCx X sc (xs ++ cap) C s H fp) ([(D, { cls := .type "list", data := .seq its.toArray k })] ++ pinsAt fp s5.heap) σ8 H8 s8 → tn (i + 1) s8.heap ∧ (∀ b ∈ fp, H8 b = none) ∧ s8.heap.get? D = some { cls := .type "list", data := .seq its.toArray k } ∧ H8 D = none ∧ D ≠ C := fun {s8 H8 σ8} I8 => by
    have pinD := I8.pin (D, { cls := .type "list", data := .seq its.toArray k }) (List.mem_append_right _ (List.mem_append_left _ (List.mem_singleton.mpr rfl)))
    have pinF : ∀ b ∈ fp, ∀ o, s5.heap.get? b = some o → s8.heap.get? b = some o ∧ H8 b = none := fun b hb' o e =>
     have z := I8.pin (b, o) (List.mem_append_right _ (List.mem_append_right _ (mem_pinsAt hb' e)))
     ⟨z.1, z.2.1⟩
    refine ⟨T.keep _ _ _ st5 fun b hb' o e => (pinF b hb' o e).1, fun b hb' => ?_, pinD.1, pinD.2.1, pinD.2.2.1⟩
    obtain ⟨o, e, _⟩ := T.obj _ _ st5 b hb'
    exact (pinF b hb' o e).2
   cases ok with
   | false =>
    rw [if_neg Bool.false_ne_true] at q7 ⊢
    obtain ⟨m', hm, w7⟩ := q7
    obtain ⟨f1, f2, _⟩ := fin I7
    exact ⟨m', hm, i + 1, ws', H7, ys, its, k, hws', I7.unpinned, f1, f2, rv, w7⟩
   | true =>
    rw [if_pos rfl] at q7 ⊢
    refine thn ((hb C s H fp).2 _ s7 _ H7 _ I7 q7) fun u8 s8 ⟨v, H8, I8, r8, q8⟩ => ?_
    obtain ⟨f1, f2, f3, f4, f5⟩ := fin I8
    obtain ⟨m', hm, w8⟩ := q8
    have rv' : Vals (ys ++ [v]) (its ++ [u8]) := rv.append (.cons r8 .nil)
    refine wpAny_list_append_plain ⟨k, f3⟩ (fun h9 hl9 hs9 => ?_) (by rw [List.size_toArray, ← rv.length]; exact Nat.le_of_lt hlen)
    obtain ⟨k9, e9⟩ := hl9
    have e9' : h9.get? D = some { cls := .type "list", data := .seq (its ++ [u8]).toArray k9 } := by rw [e9]; simp
    have In : Inv (compCx X sc (xs ++ cap) C s H fp) (pinsAt fp s5.heap) (ws' ++ capV σ js) H8 s8 := I8.pins_of fun p hp => I8.pin p (List.mem_append_right _ (List.mem_append_right _ hp))
    have It' : Inv (compCx X sc (xs ++ cap) C s H fp) (pinsAt fp s5.heap) (ws' ++ capV σ js) H8 { s8 with heap := h9 } :=
     In.turned (it := D) (h' := h9) (t' := s8.toks) (fun b o hb' e => hs9.extBut b o hb' e) f4 f5 (.inr (Nat.le_of_eq hDe)) (fun y c e z => by
      obtain ⟨v', o, ho, _⟩ := I.cell y c (S.sub I.ok e)
      exact ltD (Heap.lt_size ho) z) fun p hp z => by
      have hp' : p ∈ pinsAt fp s5.heap := by simpa using hp
      exact fpD p.1 (of_pinsAt hp').1 z
    refine ⟨m', hm, i + 1, ws', H8, ys ++ [v], its ++ [u8], k9, hws', It'.pins_of fun p hp => ?_, T.keep _ _ _ f1 fun b hb' o e => hs9.extBut b o (fpD b hb') e, f2, rv', w8⟩
    have hp' : p = (D, { cls := .type "list", data := .seq (its ++ [u8]).toArray k9 }) := by simpa using hp
    subst hp'
    refine ⟨e9', f4, f5, fun hb' => ?_, fun v z => by cases z⟩
    obtain ⟨_, o, ho, _⟩ := I.stack.mem hb'
    exact ltD (Heap.lt_size ho) rfl
 exact codeAny_compStart_list (loop _ rfl) (T.self X.A 0 _ _ _ st₁ (loop _ rfl))
theorem lcw_n {J : It} {js : List Nat} {tt : TT} {te : TE} {Q : VK} {W : Nat → Nat → List V → Hp → Prop} (h : LCw J js σ tt te Q W) : LCwN 1 J js σ (gName 0) tt te Q W := fun i m ys H w => by
 obtain ⟨a, b⟩ := h i m ys H w
 refine ⟨a, b.imp id fun ⟨go, st⟩ => ⟨go, fun x H' y ws hw => ?_⟩⟩
 match ws, hw with
 | [v], _ => exact ⟨[some x], rfl, rfl, st x H' y⟩
end
section
variable {X : Cx} {pins : List (Addr × Obj)} {σ : St} {H : Hp} {s : Shared} {sc : Scope} {x : Str} {cap : List Str}
theorem CompScope.n {fr : Scope} (S : CompScope fr sc x cap) : CompScopeN fr sc [x] cap := ⟨S.kind, S.cell, S.names, S.free, S.caps, S.noboth⟩
theorem CompScope.pg (S : CompScope X.env.scope sc x cap) {px : Pos} (C : Addr) (s0 : Shared) (H0 : Hp) (ex : List Addr) : PG (compCx X sc ([x] ++ cap) C s0 H0 ex) (.Name x px) (gName 0) := pg_name S.nd rfl (.inl (lookup_relabel_local S.tgt)) (.inr (lookup_relabel_local S.tgt))
theorem pe_lc (S : CompScope X.env.scope sc x cap) {js : List Nat} (hjs : js.map (fun j => X.N[j]?) = cap.map some) (hc : X.calm = true) (hxe : ∀ e s, ¬ X.xe e s) {elt iter : Expr} {ifs : List Expr} {pos px : Pos} {wi : TI} {tt : TT} {te : TE}
  (hi : PI X (.Name x px) iter wi) (hb : ∀ C s0 H0 ex, PIf (compCx X sc (x :: cap) C s0 H0 ex) ifs tt ∧ PE (compCx X sc (x :: cap) C s0 H0 ex) elt te)
  (hs : ∀ x, foldedSetIterable iter X.env x = pure x := by intro _; rfl) : PE X (.ListComp elt [⟨.Name x px, iter, ifs, 0⟩] sc pos) (tLC wi js tt te) := by
 intro pins s σ H Q I h
 rw [eval_ListComp]
 refine wpAny_comprehension_free (use := none) rfl hs (closureFor_eq (S.n.cells I.ok)) S.kind S.names (thn (hi pins s σ H _ I h) fun xv s₁ h₁ => thn h₁ fun itv s₂ h₂ => ?_)
 obtain ⟨it, fp, tn, J, H2, e, I2, T, st2, f2, W, w0, turn⟩ := h₂
 subst e
 refine comp_runN (xs := [x]) (Q := Q) (RR := fun acc C => compPost (model X.prog X.w) X.A X.xe none (EP X pins σ Q) acc C) S.n hjs hc S.pg hb I2 T st2 f2 w0 (lcw_n turn) ?_
 intro D C s' σ' H' ys its k hD hC J' rv hz q
 obtain ⟨m, hn, _⟩ := J'.loc
 have pinD := J'.pin (D, { cls := .type "list", data := .seq its.toArray k }) (List.mem_append_right _ (List.mem_singleton.mpr rfl))
 exact ⟨m, hn, fun h' hs' => ⟨.ref D, _, comp_endN (xs := [x]) S.n I2 f2 hD hC J' pinD.2.1 pinD.1 rv hz hs', rfl, q D pinD.2.1⟩⟩
end
end L2
namespace L2
open PySem PySem.Spec PyProof.Rows
section
variable {X : Cx} {pins : List (Addr × Obj)} {σ : St} {H : Hp} {s : Shared} {sc : Scope} {x : Str} {cap : List Str}
def tLCs (i : Nat) (wi : TI) (js : List Nat) (tt : TT) (te : TE) : TS := fun D σ H => tLC wi js tt te σ H fun v H' => D.nx (σ.set i (some v)) H'
theorem ps_lc (S : CompScope X.env.scope sc x cap) {js : List Nat} (hjs : js.map (fun j => X.N[j]?) = cap.map some) (hc : X.calm = true) (hxe : ∀ e s, ¬ X.xe e s) {elt iter : Expr} {ifs : List Expr} {pos px py spos : Pos} {wi : TI} {tt : TT} {te : TE} {i : Nat} {y : Str}
  (hN : X.N.Nodup) (hi' : X.N[i]? = some y) (hy : X.env.scope.names.lookup y = some .local)
  (hi : PI X (.Name x px) iter wi) (hb : ∀ C s0 H0 ex, PIf (compCx X sc (x :: cap) C s0 H0 ex) ifs tt ∧ PE (compCx X sc (x :: cap) C s0 H0 ex) elt te)
  (hsw : swapsWith (.ListComp elt [⟨.Name x px, iter, ifs, 0⟩] sc pos) (some (.Name y py)) spos.line X.env = pure true := by rfl)
  (hs : ∀ x, foldedSetIterable iter X.env x = pure x := by intro _; rfl) : PS X (.Assign [.Name y py] (.ListComp elt [⟨.Name x px, iter, ifs, 0⟩] sc pos) spos) (tLCs i wi js tt te) := by
 intro pins s σ H D0 I h
 rw [exec_Assign_Name_used _ _ _ _ hsw]
 refine wpAny_bind (wpAny_standAt (wpAny_bind ?_))
 show wpAny _ X.A (do let _ ← comprehension (.ListComp elt [⟨.Name x px, iter, ifs, 0⟩] sc pos) sc X.env _ (newList []) false (eval iter X.env) (some (assign (.Name y py) X.env))) _ _ s
 refine wpAny_bind (wpAny_mono (wpAny_comprehension_free (use := some (assign (.Name y py) X.env)) (Q := fun _ s' => SP X pins D0 .next s') rfl hs (closureFor_eq (S.n.cells I.ok)) S.kind S.names
  (thn (hi pins s σ H _ I h) fun xv s₁ h₁ => thn h₁ fun itv s₂ h₂ => ?_)) (fun _ s' hq => wpAny_pure (wpAny_pure hq)) fun _ _ e => e)
 obtain ⟨it, fp, tn, J, H2, e, I2, T, st2, f2, W, w0, turn⟩ := h₂
 subst e
 refine comp_runN (xs := [x]) (Q := fun v H' => D0.nx (σ.set i (some v)) H') (RR := fun acc C => compPost (model X.prog X.w) X.A X.xe (some (assign (.Name y py) X.env)) (fun _ s' => SP X pins D0 .next s') acc C) S.n hjs hc S.pg hb I2 T st2 f2 w0 (lcw_n turn) ?_
 intro D C s' σ' H' ys its k hD hC J' rv hz q
 have gtC : ∀ {b : Addr}, b < s₂.heap.objs.size → b ≠ C := fun h => by rw [hC]; exact neLt (Nat.lt_succ_of_lt h)
 have pinD := J'.pin (D, { cls := .type "list", data := .seq its.toArray k }) (List.mem_append_right _ (List.mem_singleton.mpr rfl))
 obtain ⟨m, hn, _⟩ := id J'.loc
 have hn : s'.heap.Ns C m := hn
 obtain ⟨oC, es, ep, hoC, hdC, rest⟩ := id hn
 have hCn : C ∉ X.fs ∧ C ≠ X.env.locals := by
  constructor
  ·intro hb'
   obtain ⟨_, o, ho, _⟩ := I2.funs.mem hb'
   exact gtC (Heap.lt_size ho) rfl
  ·exact fun z => gtC I2.lt z.symm
 have I3 : Inv X pins σ (upd H' D (.lst ys)) s' := comp_endN (xs := [x]) (h' := s'.heap) S.n I2 f2 hD hC J' pinD.2.1 pinD.1 rv hz (.refl ..)
 have hDC : C ≠ D := by rw [hC, hD]; exact neGt (Nat.lt_succ_self _)
 have hH'C : H' C = none := J'.free
 have I4 : Inv X [(C, oC)] σ (upd H' D (.lst ys)) s' := I3.pins_of fun p hp => by
  have hp' : p = (C, oC) := by simpa using hp
  subst hp'
  exact ⟨hoC, by rw [upd_ne hDC]; exact hH'C, hCn.2, hCn.1, fun v z => by rw [hdC] at z; cases z⟩
 have I5 : Inv X (pins ++ [(C, oC)]) σ (upd H' D (.lst ys)) s' := I3.pins_of fun p hp => by
  rcases List.mem_append.mp hp with hp | hp
  ·exact I3.pin p (List.mem_append_right _ hp)
  ·exact I4.pin p (List.mem_append_right _ hp)
 show wpAny _ X.A (assign (.Name y py) X.env (.ref D)) _ _ _
 refine wpAny_assign_Name (store_ok I5 hN hi' (.inl hy) (v := .ref D) rfl (fun s6 I6 => ?_) (.inr hy))
 have pinC := I6.pin (C, oC) (List.mem_append_right _ (List.mem_append_right _ (List.mem_singleton.mpr rfl)))
 refine ⟨m, ⟨oC, es, ep, pinC.1, hdC, rest⟩, fun h' hs' => ⟨_, _, ?_, q D pinD.2.1⟩⟩
 refine I6.unpinned.turned (it := C) (h' := h') (t' := s6.toks) (fun b o hb' e => hs'.extBut b o hb' e) pinC.2.1 hCn.2 (.inr ?_) (fun y' c e z => ?_) fun p hp z => ?_
 ·rw [hC]; exact Nat.le_succ_of_le I2.sz
 ·obtain ⟨v', o, ho, _⟩ := I2.cell y' c e
  exact gtC (Heap.lt_size ho) z
 ·exact gtC (Heap.lt_size (I2.pin p hp).1) z
end
section
variable {X : Cx}
theorem call_all (hc : X.calm = true) : CallR X (.builtin "all") (fun xs H Q => ∃ (p : Addr) (bs : List Bool), xs = [.ref p] ∧ SqL X.K H p (bs.map V.bl) ∧ Q (.bl (bs.all id)) H) := by
 intro pins s σ H xs us Q I r h
 obtain ⟨p, bs, rfl, hq, q⟩ := h
 obtain ⟨u, rfl, r1⟩ := vals1 r
 cases r1
 obtain ⟨its, rv, pl, hz⟩ := I.list hq
 have hl := plainIs pl
 have hlt : p < s.heap.objs.size := by obtain ⟨_, e, _⟩ := hl; exact Heap.lt_size e
 have hlen : its.length = bs.length := by rw [← rv.length, List.length_map]
 refine call_all_walk (wpAny_pyIter_list hl ?_)
 refine ⟨s.heap.objs.size, [s.heap.objs.size, p], [s.heap.objs.size], its.toArray.size, _, _, fun i => (bs[i]?).getD true, rfl, Walks.list (A := X.A.in1) (I.ok.hd hc) _ p (Nat.ne_of_lt hlt) its.toArray,
  ⟨⟨_, Heap.get?_push_size _ rfl, rfl, rfl⟩, hl.push _⟩, fun i v s' Q' E' hP hQ => ?_, fun h' tk hk => ?_⟩
 ·have hP' : its[i]? = some v := by simpa using hP
  have hi : i < bs.length := by rw [← hlen]; exact (List.getElem?_eq_some_iff.mp hP').1
  obtain ⟨u, hu, ru⟩ := rv.get (i := i) (x := V.bl bs[i]) (by rw [List.getElem?_map, List.getElem?_eq_getElem hi]; rfl)
  rw [hP'] at hu
  cases hu
  cases (show v = Value.bool bs[i] from ru)
  simp only [List.getElem?_eq_getElem hi, Option.getD_some] at hQ
  exact wpAny_truthy_bool hQ
 ·have e : ((List.range its.toArray.size).all fun i => (bs[i]?).getD true) = bs.all id := by
   rw [List.size_toArray, hlen]; exact PyProof.Rows.LSm.range_all bs
  rw [e]
  exact ⟨.bl (bs.all id), H, I.kept fun b o e => hk b o (fun hm => by rw [List.mem_singleton.mp hm] at e; exact Nat.lt_irrefl _ (Heap.lt_size e)) (Heap.get?_push_of_some _ e), rfl, q⟩
end
end L2
namespace L2
open PySem PySem.Spec PyProof.Rows
mutual
def Dat (K : PySem.W.Frag) (G : Hp) : V → PyData → Prop
 | v, .none => v = .non
 | v, .bool b => v = .bl b
 | v, .int i => v = .int i
 | v, .str x => v = .str x
 | v, .list ds => ∃ p xs, v = .ref p ∧ G p = some (.lst xs) ∧ Dats K G xs ds
 | v, .tuple ds => ∃ p xs, v = .ref p ∧ SqT K G p xs ∧ Dats K G xs ds
 | _, .dict _ => False
def Dats (K : PySem.W.Frag) (G : Hp) : List V → List PyData → Prop
 | xs, [] => xs = []
 | xs, d :: ds => ∃ y ys, xs = y :: ys ∧ Dat K G y d ∧ Dats K G ys ds
end
theorem Same.tup {K : PySem.W.Frag} {H H' : Hp} {a : Addr} {xs : List V} (e : Same H H') (h : SqT K H a xs) : SqT K H' a xs := by
 rcases h with (h | ⟨o, h⟩) | h
 ·exact .inl (.inl (e _ _ h))
 ·exact .inl (.inr ⟨o, e _ _ h⟩)
 ·exact .inr h
section
variable {K : PySem.W.Frag} {G G' : Hp}
theorem dat_int (i : Int) : Dat K G (.int i) (.int i) := by unfold Dat; rfl
theorem dat_str (x : Str) : Dat K G (.str x) (.str x) := by unfold Dat; rfl
theorem dat_bl (b : Bool) : Dat K G (.bl b) (.bool b) := by unfold Dat; rfl
theorem dat_non : Dat K G .non .none := by unfold Dat; rfl
theorem dat_tup {p : Addr} {xs : List V} {ds : List PyData} (h : SqT K G p xs) (r : Dats K G xs ds) : Dat K G (.ref p) (.tuple ds) := by unfold Dat; exact ⟨p, xs, rfl, h, r⟩
theorem dat_lst {p : Addr} {xs : List V} {ds : List PyData} (h : G p = some (.lst xs)) (r : Dats K G xs ds) : Dat K G (.ref p) (.list ds) := by unfold Dat; exact ⟨p, xs, rfl, h, r⟩
theorem dats_nil : Dats K G [] [] := by unfold Dats; rfl
theorem dats_cons {x : V} {xs : List V} {d : PyData} {ds : List PyData} (h : Dat K G x d) (r : Dats K G xs ds) : Dats K G (x :: xs) (d :: ds) := by
 unfold Dats; exact ⟨x, xs, rfl, h, r⟩
theorem Dat.int {v : V} {i : Int} (h : Dat K G v (.int i)) : v = .int i := by unfold Dat at h; exact h
theorem Dat.str {v : V} {x : Str} (h : Dat K G v (.str x)) : v = .str x := by unfold Dat at h; exact h
theorem Dat.bl {v : V} {x : Bool} (h : Dat K G v (.bool x)) : v = .bl x := by unfold Dat at h; exact h
theorem Dat.non {v : V} (h : Dat K G v .none) : v = .non := by unfold Dat at h; exact h
theorem Dat.tup {v : V} {ds : List PyData} (h : Dat K G v (.tuple ds)) : ∃ p xs, v = .ref p ∧ SqT K G p xs ∧ Dats K G xs ds := by unfold Dat at h; exact h
theorem Dat.lst {v : V} {ds : List PyData} (h : Dat K G v (.list ds)) : ∃ p xs, v = .ref p ∧ G p = some (.lst xs) ∧ Dats K G xs ds := by unfold Dat at h; exact h
theorem Dats.nil {xs : List V} (h : Dats K G xs []) : xs = [] := by unfold Dats at h; exact h
theorem Dats.cons {xs : List V} {d : PyData} {ds : List PyData} (h : Dats K G xs (d :: ds)) : ∃ y ys, xs = y :: ys ∧ Dat K G y d ∧ Dats K G ys ds := by unfold Dats at h; exact h
theorem Dats.length : ∀ {ds : List PyData} {xs : List V}, Dats K G xs ds → xs.length = ds.length
 | [], _, h => by rw [h.nil]; rfl
 | d :: ds, _, h => by
  obtain ⟨y, ys, rfl, _, r⟩ := h.cons
  show ys.length + 1 = ds.length + 1
  rw [r.length]
theorem Dats.get : ∀ {ds : List PyData} {xs : List V} {i : Nat} {d : PyData}, Dats K G xs ds → ds[i]? = some d → ∃ x, xs[i]? = some x ∧ Dat K G x d
 | [], _, _, _, _, e => by simp at e
 | d :: ds, _, 0, _, h, e => by
  obtain ⟨y, ys, rfl, hd, r⟩ := h.cons
  simp at e; subst e; exact ⟨y, rfl, hd⟩
 | d :: ds, _, i + 1, d', h, e => by
  obtain ⟨y, ys, rfl, hd, r⟩ := h.cons
  obtain ⟨x, h1, h2⟩ := Dats.get (i := i) (d := d') r (by simpa using e)
  exact ⟨x, by simpa using h1, h2⟩
theorem dats_append : ∀ {ds es : List PyData} {xs ys : List V}, Dats K G xs ds → Dats K G ys es → Dats K G (xs ++ ys) (ds ++ es)
 | [], _, _, _, h, r => by rw [h.nil]; exact r
 | d :: ds, _, _, _, h, r => by
  obtain ⟨y, ys, rfl, hd, r'⟩ := h.cons
  exact dats_cons hd (dats_append r' r)
theorem dats_snoc {ds : List PyData} {d : PyData} {xs : List V} {x : V} (h : Dats K G xs ds) (r : Dat K G x d) : Dats K G (xs ++ [x]) (ds ++ [d]) := dats_append h (dats_cons r dats_nil)
theorem dats_take : ∀ {ds : List PyData} {xs : List V} (n : Nat), Dats K G xs ds → Dats K G (xs.take n) (ds.take n)
 | _, _, 0, _ => dats_nil
 | [], _, n + 1, h => by rw [h.nil]; exact dats_nil
 | d :: ds, _, n + 1, h => by
  obtain ⟨y, ys, rfl, hd, r⟩ := h.cons
  exact dats_cons hd (dats_take n r)
theorem dats_drop : ∀ {ds : List PyData} {xs : List V} (n : Nat), Dats K G xs ds → Dats K G (xs.drop n) (ds.drop n)
 | _, _, 0, h => h
 | [], _, n + 1, h => by rw [h.nil]; exact dats_nil
 | d :: ds, _, n + 1, h => by
  obtain ⟨y, ys, rfl, hd, r⟩ := h.cons
  exact dats_drop n r
theorem Dats.ints : ∀ {ns : List Int} {xs : List V}, Dats K G xs (ns.map PyData.int) → xs = ns.map V.int
 | [], _, h => h.nil
 | n :: ns, _, h => by
  obtain ⟨y, ys, rfl, hd, r⟩ := h.cons
  rw [hd.int, Dats.ints r]; rfl
end
mutual
theorem Dat.same {K : PySem.W.Frag} {G G' : Hp} (e : Same G G') : ∀ {d : PyData} {v : V}, Dat K G v d → Dat K G' v d
 | .none, _, h => by rw [h.non]; exact dat_non
 | .bool b, _, h => by rw [h.bl]; exact dat_bl b
 | .int i, _, h => by rw [h.int]; exact dat_int i
 | .str x, _, h => by rw [h.str]; exact dat_str x
 | .list ds, _, h => by
  obtain ⟨p, xs, rfl, h1, h2⟩ := h.lst
  exact dat_lst (e _ _ h1) (Dats.same e h2)
 | .tuple ds, _, h => by
  obtain ⟨p, xs, rfl, h1, h2⟩ := h.tup
  exact dat_tup (e.tup h1) (Dats.same e h2)
 | .dict _, _, h => by unfold Dat at h; exact h.elim
theorem Dats.same {K : PySem.W.Frag} {G G' : Hp} (e : Same G G') : ∀ {ds : List PyData} {xs : List V}, Dats K G xs ds → Dats K G' xs ds
 | [], _, h => by rw [h.nil]; exact dats_nil
 | d :: ds, _, h => by
  obtain ⟨y, ys, rfl, hd, r⟩ := h.cons
  exact dats_cons (Dat.same e hd) (Dats.same e r)
end
section
variable {X : Cx} {pins : List (Addr × Obj)} {σ : St} {H G : Hp} {s : Shared}
mutual
theorem Dat.reads (I : Inv X pins σ H s) (e : Same G H) : ∀ {d : PyData} {v : V} {u : Value}, Dat X.K G v d → RelV v u → ∃ as, Reads s.heap u d as
 | .none, _, u, h, r => by
  rw [h.non] at r
  cases (show u = Value.none from r)
  exact ⟨_, .none⟩
 | .bool b, _, u, h, r => by
  rw [h.bl] at r
  cases (show u = Value.bool b from r)
  exact ⟨_, .bool b⟩
 | .int i, _, u, h, r => by
  rw [h.int] at r
  obtain ⟨t, q⟩ := (show ∃ t, u = Value.int i t from r)
  subst q
  exact ⟨_, .int i t⟩
 | .str x, _, u, h, r => by
  rw [h.str] at r
  obtain ⟨t, q⟩ := (show ∃ t, u = Value.str x t from r)
  subst q
  exact ⟨_, .str x t⟩
 | .list ds, _, u, h, r => by
  obtain ⟨p, xs, rfl, h1, h2⟩ := h.lst
  cases (show u = Value.ref p from r)
  obtain ⟨its, rv, ⟨o, n, e1, c, _, d1⟩, _⟩ := I.list (SqL.of (e _ _ h1))
  obtain ⟨as, ra⟩ := Dats.reads I e h2 rv
  exact ⟨_, Reads.list e1 c d1 (by simpa using ra)⟩
 | .tuple ds, _, u, h, r => by
  obtain ⟨p, xs, rfl, h1, h2⟩ := h.tup
  cases (show u = Value.ref p from r)
  obtain ⟨its, rv, ⟨o, e1, c, n, d1⟩, _⟩ := I.tuple (e.tup h1)
  obtain ⟨as, ra⟩ := Dats.reads I e h2 rv
  exact ⟨_, Reads.tuple e1 c d1 (by simpa using ra)⟩
 | .dict _, _, _, h, _ => by unfold Dat at h; exact h.elim
theorem Dats.reads (I : Inv X pins σ H s) (e : Same G H) : ∀ {ds : List PyData} {xs : List V} {us : List Value}, Dats X.K G xs ds → Vals xs us → ∃ as, ReadsAll s.heap us ds as
 | [], _, us, h, r => by
  rw [h.nil] at r
  cases r
  exact ⟨_, .nil⟩
 | d :: ds, _, us, h, r => by
  obtain ⟨y, ys, rfl, hd, hr⟩ := h.cons
  cases r with
  | cons r1 r2 =>
   obtain ⟨as, ra⟩ := Dat.reads I e hd r1
   obtain ⟨bs, rb⟩ := Dats.reads I e hr r2
   exact ⟨_, .cons ra rb⟩
end
end
mutual
def noBool : PyData → Bool
 | .bool _ => false
 | .dict _ => false
 | .list xs => noBools xs
 | .tuple xs => noBools xs
 | .none | .int _ | .str _ => true
def noBools : List PyData → Bool
 | [] => true
 | x :: xs => noBool x && noBools xs
end
mutual
theorem noMix_of : ∀ a b : PyData, noBool a = true → noBool b = true → SeqAt.noMix a b = true
 | .list xs, .list ys, h, k => by rw [SeqAt.noMix]; exact noMixs_of xs ys (by simpa [noBool] using h) (by simpa [noBool] using k)
 | .tuple xs, .tuple ys, h, k => by rw [SeqAt.noMix]; exact noMixs_of xs ys (by simpa [noBool] using h) (by simpa [noBool] using k)
 | .bool _, _, h, _ => by simp [noBool] at h
 | .dict _, _, h, _ => by simp [noBool] at h
 | .none, .bool _, _, k | .int _, .bool _, _, k | .str _, .bool _, _, k | .list _, .bool _, _, k | .tuple _, .bool _, _, k => by simp [noBool] at k
 | .none, .dict _, _, k | .int _, .dict _, _, k | .str _, .dict _, _, k | .list _, .dict _, _, k | .tuple _, .dict _, _, k => by simp [noBool] at k
 | .none, .none, _, _ | .none, .int _, _, _ | .none, .str _, _, _ | .none, .list _, _, _ | .none, .tuple _, _, _ => by simp [SeqAt.noMix]
 | .int _, .none, _, _ | .int _, .int _, _, _ | .int _, .str _, _, _ | .int _, .list _, _, _ | .int _, .tuple _, _, _ => by simp [SeqAt.noMix]
 | .str _, .none, _, _ | .str _, .int _, _, _ | .str _, .str _, _, _ | .str _, .list _, _, _ | .str _, .tuple _, _, _ => by simp [SeqAt.noMix]
 | .list _, .none, _, _ | .list _, .int _, _, _ | .list _, .str _, _, _ | .list _, .tuple _, _, _ => by simp [SeqAt.noMix]
 | .tuple _, .none, _, _ | .tuple _, .int _, _, _ | .tuple _, .str _, _, _ | .tuple _, .list _, _, _ => by simp [SeqAt.noMix]
theorem noMixs_of : ∀ a b : List PyData, noBools a = true → noBools b = true → SeqAt.noMixAll a b = true
 | [], [], _, _ | [], _ :: _, _, _ | _ :: _, [], _, _ => by simp [SeqAt.noMixAll]
 | x :: xs, y :: ys, h, k => by
  have h' : noBool x = true ∧ noBools xs = true := by simpa [noBools] using h
  have k' : noBool y = true ∧ noBools ys = true := by simpa [noBools] using k
  rw [SeqAt.noMixAll, noMix_of x y h'.1 k'.1, noMixs_of xs ys h'.2 k'.2]; rfl
end
structure Pl (n : Nat) (d : PyData) : Prop where
 lay : d.canLay0 = true
 dep : d.depth ≤ n
 nb : noBool d = true
theorem Pl.shaped {n : Nat} {d : PyData} (h : Pl n d) (k : n ≤ 64) : SeqAt.shaped d = true := by
 show (PyData.canLay0 d && decide (PyData.depth d ≤ 64)) = true
 rw [Bool.and_eq_true]
 exact ⟨h.lay, decide_eq_true (Nat.le_trans h.dep k)⟩
theorem Pl.mix {n : Nat} {a b : PyData} (h : Pl n a) (k : Pl n b) : SeqAt.noMix a b = true := noMix_of a b h.nb k.nb
mutual
theorem same_eq : ∀ {a b : PyData}, PySem.Spec.same a b = true → a = b
 | .none, b, h => by cases b <;> first | rfl | simp [PySem.Spec.same] at h
 | .bool x, b, h => by cases b <;> simp [PySem.Spec.same] at h <;> rw [h]
 | .int x, b, h => by cases b <;> simp [PySem.Spec.same] at h <;> rw [h]
 | .str x, b, h => by cases b <;> simp [PySem.Spec.same] at h <;> rw [h]
 | .list x, b, h => by
  cases b <;> simp [PySem.Spec.same] at h
  rw [sameAll_eq h]
 | .tuple x, b, h => by
  cases b <;> simp [PySem.Spec.same] at h
  rw [sameAll_eq h]
 | .dict x, b, h => by
  cases b <;> simp [PySem.Spec.same] at h
  rw [samePairs_eq h]
theorem sameAll_eq : ∀ {a b : List PyData}, PySem.Spec.sameAll a b = true → a = b
 | [], [], _ => rfl
 | [], _ :: _, h => by simp [PySem.Spec.sameAll] at h
 | _ :: _, [], h => by simp [PySem.Spec.sameAll] at h
 | x :: xs, y :: ys, h => by
  have h' : PySem.Spec.same x y = true ∧ PySem.Spec.sameAll xs ys = true := by simpa [PySem.Spec.sameAll] using h
  rw [same_eq h'.1, sameAll_eq h'.2]
theorem samePairs_eq : ∀ {a b : List (PyData × PyData)}, PySem.Spec.samePairs a b = true → a = b
 | [], [], _ => rfl
 | [], _ :: _, h => by simp [PySem.Spec.samePairs] at h
 | _ :: _, [], h => by simp [PySem.Spec.samePairs] at h
 | (x, z) :: xs, (y, w) :: ys, h => by
  have h' : (PySem.Spec.same x y = true ∧ PySem.Spec.same z w = true) ∧ PySem.Spec.samePairs xs ys = true := by simpa [PySem.Spec.samePairs] using h
  rw [same_eq h'.1.1, same_eq h'.1.2, samePairs_eq h'.2]
end
section
variable {X : Cx}
def rEqD (K : PySem.W.Frag) (g : Bool → Bool) : R2 := fun x y H Q => ∃ (G : Hp) (a b : PyData), Same G H ∧ Dat K G x a ∧ Dat K G y b ∧ (SeqAt.shaped a = true ∧ SeqAt.shaped b = true ∧ SeqAt.noMix a b = true) ∧ Q (.bl (g (PySem.Spec.same a b))) H
theorem op_eqD (hu : X.A.units + 64 < cLine) : OpR X (compareOp .Eq) (rEqD X.K fun b => b) := by
 intro pins s σ H x y v u Q I rx ry h
 obtain ⟨G, a, b, e, ha, hb, ⟨sa, sb, nm⟩, q⟩ := h
 obtain ⟨as, ra⟩ := Dat.reads I e ha rx
 obtain ⟨bs, rb⟩ := Dat.reads I e hb ry
 exact eq_dataH_same ra rb sa sb hu nm ⟨.bl (PySem.Spec.same a b), H, I, rfl, q⟩
theorem op_neD (hu : X.A.units + 64 < cLine) : OpR X (compareOp .NotEq) (rEqD X.K fun b => !b) := by
 intro pins s σ H x y v u Q I rx ry h
 obtain ⟨G, a, b, e, ha, hb, ⟨sa, sb, nm⟩, q⟩ := h
 obtain ⟨as, ra⟩ := Dat.reads I e ha rx
 obtain ⟨bs, rb⟩ := Dat.reads I e hb ry
 exact ne_dataH_same ra rb sa sb hu nm ⟨.bl (!PySem.Spec.same a b), H, I, rfl, q⟩
end
theorem pl_int (i : Int) {n : Nat} : Pl n (.int i) := ⟨by unfold PyData.canLay0; rfl, by unfold PyData.depth; omega, by unfold noBool; rfl⟩
theorem canLayAll0_of : ∀ {ds : List PyData}, (∀ d ∈ ds, d.canLay0 = true) → PyData.canLayAll0 ds = true
 | [], _ => rfl
 | d :: ds, h => by
  unfold PyData.canLayAll0
  rw [h d (by simp), canLayAll0_of fun e he => h e (by simp [he])]; rfl
theorem depthAll_of : ∀ {ds : List PyData} {n : Nat}, (∀ d ∈ ds, d.depth ≤ n) → PyData.depthAll ds ≤ n
 | [], _, _ => by unfold PyData.depthAll; omega
 | d :: ds, n, h => by
  have h1 := h d (by simp)
  have h2 := depthAll_of (ds := ds) (n := n) fun e he => h e (by simp [he])
  unfold PyData.depthAll
  omega
theorem noBools_of : ∀ {ds : List PyData}, (∀ d ∈ ds, noBool d = true) → noBools ds = true
 | [], _ => rfl
 | d :: ds, h => by
  unfold noBools
  rw [h d (by simp), noBools_of fun e he => h e (by simp [he])]; rfl
theorem pl_tup {n : Nat} {ds : List PyData} (h : ∀ d ∈ ds, Pl n d) : Pl (n + 1) (.tuple ds) := by
 refine ⟨?_, ?_, ?_⟩
 ·unfold PyData.canLay0; exact canLayAll0_of fun d hd => (h d hd).lay
 ·have := depthAll_of fun d hd => (h d hd).dep
  unfold PyData.depth; omega
 ·unfold noBool; exact noBools_of fun d hd => (h d hd).nb
theorem pl_lst {n : Nat} {ds : List PyData} (h : ∀ d ∈ ds, Pl n d) : Pl (n + 1) (.list ds) := by
 refine ⟨?_, ?_, ?_⟩
 ·unfold PyData.canLay0; exact canLayAll0_of fun d hd => (h d hd).lay
 ·have := depthAll_of fun d hd => (h d hd).dep
  unfold PyData.depth; omega
 ·unfold noBool; exact noBools_of fun d hd => (h d hd).nb
end L2
namespace L2
open PySem PySem.Spec PyProof.Rows
structure Grow (G H G' H' : Hp) : Prop where
 gg : Same G G'
 gh : Same G' H'
 hh : Same H H'
 fr : ∀ b o, G' b = some o → G b = some o ∨ H b = none
theorem Grow.refl {G H : Hp} (s : Same G H) : Grow G H G H := ⟨Same.refl _, s, Same.refl _, fun _ _ h => .inl h⟩
theorem Grow.trans {G H G1 H1 G2 H2 : Hp} (a : Grow G H G1 H1) (b : Grow G1 H1 G2 H2) : Grow G H G2 H2 :=
 ⟨a.gg.trans b.gg, b.gh, a.hh.trans b.hh, fun x o h => by
  rcases b.fr x o h with h | h
  ·exact a.fr x o h
  ·exact .inr (a.hh.free h)⟩
theorem grow_new {G H : Hp} {p : Addr} {o : HO} (s : Same G H) (hp : H p = none) : Grow G H (upd G p o) (upd H p o) := by
 have hg : G p = none := s.free hp
 refine ⟨fun b u e => ?_, fun b u e => ?_, fun b u e => ?_, fun b u e => ?_⟩
 ·rw [upd_ne (ne_of_none e hg)]; exact e
 ·by_cases h : b = p
  ·subst h; rw [upd_same] at e ⊢; exact e
  ·rw [upd_ne h] at e ⊢; exact s b u e
 ·rw [upd_ne (ne_of_none e hp)]; exact e
 ·by_cases h : b = p
  ·subst h; exact .inr hp
  ·rw [upd_ne h] at e; exact .inl e
theorem grow_h {G H H' : Hp} (s : Same G H) (h : Same H H') : Grow G H G H' := ⟨Same.refl _, s.trans h, h, fun _ _ e => .inl e⟩
theorem Grow.out {G H G' H' : Hp} (a : Grow G H G' H') {p : Addr} {o : HO} (hp : H p = some o) (hg : G p = none) : G' p = none := by
 cases e : G' p with
 | none => rfl
 | some u =>
  rcases a.fr p u e with h | h
  ·rw [hg] at h; cases h
  ·rw [hp] at h; cases h
def Ev (K : PySem.W.Frag) (t : TE) (σ : St) (G : Hp) (d : PyData) : Prop :=
 ∀ G1 H, Same G G1 → Same G1 H → ∀ Q : VK, (∀ v G' H', Grow G1 H G' H' → Dat K G' v d → Q v H') → t σ H Q
def EvT (t : TT) (σ : St) (G : Hp) (b : Bool) : Prop :=
 ∀ G1 H, Same G G1 → Same G1 H → ∀ Q : Bool → Hp → Prop, (∀ G' H', Grow G1 H G' H' → Q b H') → t σ H Q
def EvA (K : PySem.W.Frag) (t : TA) (σ : St) (G : Hp) (ds : List PyData) : Prop :=
 ∀ G1 H, Same G G1 → Same G1 H → ∀ Q : List V → Hp → Prop, (∀ vs G' H', Grow G1 H G' H' → Dats K G' vs ds → Q vs H') → t σ H Q
section
variable {K : PySem.W.Frag} {σ : St} {G : Hp} {ta tb tc : TE} {a b d : PyData}
theorem ev_var {i : Nat} {v : V} (h : σ[i]? = some (some v)) (hd : Dat K G v d) : Ev K (tVar i) σ G d := fun G1 H s1 s2 Q k => ⟨v, h, k v G1 H (Grow.refl s2) (hd.same s1)⟩
theorem ev_c {v : V} (hd : Dat K G v d) : Ev K (tC v) σ G d := fun G1 H s1 s2 Q k => k v G1 H (Grow.refl s2) (hd.same s1)
theorem ev_int {i : Int} : Ev K (tC (.int i)) σ G (.int i) := ev_c (dat_int i)
theorem ev_str {x : Str} : Ev K (tC (.str x)) σ G (.str x) := ev_c (dat_str x)
theorem ev_bl {x : Bool} : Ev K (tC (.bl x)) σ G (.bool x) := ev_c (dat_bl x)
theorem ev_non : Ev K (tC .non) σ G .none := ev_c dat_non
theorem ev_op {r : R2} (ha : Ev K ta σ G a) (hb : Ev K tb σ G b) (hr : ∀ G1 H x y (Q : VK), Same G G1 → Same G1 H → Dat K G1 x a → Dat K G1 y b → (∀ v G' H', Grow G1 H G' H' → Dat K G' v d → Q v H') → r x y H Q) : Ev K (tOp r ta tb) σ G d :=
 fun G1 H s1 s2 Q k => ha G1 H s1 s2 _ fun x G2 H2 g2 hx => hb G2 H2 (s1.trans g2.gg) g2.gh _ fun y G3 H3 g3 hy =>
  hr G3 H3 x y Q ((s1.trans g2.gg).trans g3.gg) g3.gh (hx.same g3.gg) hy fun v G' H' g hv => k v G' H' ((g2.trans g3).trans g) hv
theorem ev_i0 {g : Int → Int → V} {i j : Int} (ha : Ev K ta σ G (.int i)) (hb : Ev K tb σ G (.int j)) (hg : Dat K G (g i j) d) : Ev K (tOp (rI0 g) ta tb) σ G d :=
 ev_op ha hb fun G1 H x y Q s1 s2 hx hy k => by
  rw [hx.int, hy.int]
  exact ⟨i, j, rfl, rfl, k _ G1 H (Grow.refl s2) (hg.same s1)⟩
theorem ev_iC {C : Int → Int → Prop} {g : Int → Int → V} {i j : Int} (ha : Ev K ta σ G (.int i)) (hb : Ev K tb σ G (.int j)) (hc : C i j) (hg : Dat K G (g i j) d) : Ev K (tOp (rI C g) ta tb) σ G d :=
 ev_op ha hb fun G1 H x y Q s1 s2 hx hy k => by
  rw [hx.int, hy.int]
  exact ⟨i, j, rfl, rfl, hc, k _ G1 H (Grow.refl s2) (hg.same s1)⟩
theorem ev_ixT {ds : List PyData} {i : Int} {n : Nat} (ha : Ev K ta σ G (.tuple ds)) (hb : Ev K tb σ G (.int i)) (hn : ixN ds.length i = some n) (hd : ds[n]? = some d) : Ev K (tOp (rIxT K) ta tb) σ G d :=
 ev_op ha hb fun G1 H x y Q s1 s2 hx hy k => by
  obtain ⟨p, xs, rfl, hp, hxs⟩ := hx.tup
  obtain ⟨z, hz, hzd⟩ := hxs.get hd
  rw [hy.int]
  exact ⟨p, xs, i, z, rfl, rfl, s2.tup hp, by unfold atI; rw [hxs.length, hn]; exact hz, k z G1 H (Grow.refl s2) hzd⟩
theorem ev_ixL {ds : List PyData} {i : Int} {n : Nat} (ha : Ev K ta σ G (.list ds)) (hb : Ev K tb σ G (.int i)) (hn : ixN ds.length i = some n) (hd : ds[n]? = some d) : Ev K (tOp (rIxL K) ta tb) σ G d :=
 ev_op ha hb fun G1 H x y Q s1 s2 hx hy k => by
  obtain ⟨p, xs, rfl, hp, hxs⟩ := hx.lst
  obtain ⟨z, hz, hzd⟩ := hxs.get hd
  rw [hy.int]
  exact ⟨p, xs, i, z, rfl, rfl, SqL.of (s2 _ _ hp), by unfold atI; rw [hxs.length, hn]; exact hz, k z G1 H (Grow.refl s2) hzd⟩
theorem ev_eqD {g : Bool → Bool} {n : Nat} (ha : Ev K ta σ G a) (hb : Ev K tb σ G b) (pa : Pl n a) (pb : Pl n b) (hn : n ≤ 64) : Ev K (tOp (rEqD K g) ta tb) σ G (.bool (g (PySem.Spec.same a b))) :=
 ev_op ha hb fun G1 H x y Q s1 s2 hx hy k => ⟨G1, a, b, s2, hx, hy, ⟨pa.shaped hn, pb.shaped hn, pa.mix pb⟩, k _ G1 H (Grow.refl s2) (dat_bl _)⟩
theorem eva_nil : EvA K tNil σ G [] := fun G1 H s1 s2 Q k => k [] G1 H (Grow.refl s2) dats_nil
theorem eva_cons {t : TA} {ds : List PyData} (ha : Ev K ta σ G a) (hb : EvA K t σ G ds) : EvA K (tCons ta t) σ G (a :: ds) :=
 fun G1 H s1 s2 Q k => ha G1 H s1 s2 _ fun x G2 H2 g2 hx => hb G2 H2 (s1.trans g2.gg) g2.gh _ fun ys G3 H3 g3 hy => k (x :: ys) G3 H3 (g2.trans g3) (dats_cons (hx.same g3.gg) hy)
theorem ev_tup {t : TA} {ds : List PyData} (h : EvA K t σ G ds) (hl : ds.length ≤ sizeLine) : Ev K (tTup t) σ G (.tuple ds) :=
 fun G1 H s1 s2 Q k => h G1 H s1 s2 _ fun vs G2 H2 g2 hv => ⟨by rw [hv.length]; exact hl, fun p hp => by
  have g := grow_new (o := .tup vs) g2.gh hp
  exact k _ _ _ (g2.trans g) (dat_tup (SqT.of upd_same) (hv.same g.gg))⟩
theorem ev_lst {t : TA} {ds : List PyData} (h : EvA K t σ G ds) (hl : ds.length ≤ sizeLine) : Ev K (tLst t) σ G (.list ds) :=
 fun G1 H s1 s2 Q k => h G1 H s1 s2 _ fun vs G2 H2 g2 hv => ⟨by rw [hv.length]; exact hl, fun p hp => by
  have g := grow_new (o := .lst vs) g2.gh hp
  exact k _ _ _ (g2.trans g) (dat_lst upd_same (hv.same g.gg))⟩
theorem ev_cb {r : List V → Hp → VK → Prop} {t : TA} {ds : List PyData} (h : EvA K t σ G ds) (hr : ∀ G1 H xs (Q : VK), Same G G1 → Same G1 H → Dats K G1 xs ds → (∀ v G' H', Grow G1 H G' H' → Dat K G' v d → Q v H') → r xs H Q) : Ev K (tCB r t) σ G d :=
 fun G1 H s1 s2 Q k => h G1 H s1 s2 _ fun vs G2 H2 g2 hv => hr G2 H2 vs Q (s1.trans g2.gg) g2.gh hv fun v G' H' g hd => k v G' H' (g2.trans g) hd
theorem ev_lenL {t : TA} {ds : List PyData} (h : EvA K t σ G [.list ds]) : Ev K (tCB (fun xs H Q => ∃ p ys, xs = [.ref p] ∧ (SqL K H p ys ∨ SqT K H p ys) ∧ Q (.int ys.length) H) t) σ G (.int ds.length) :=
 ev_cb h fun G1 H xs Q s1 s2 hx k => by
  obtain ⟨y, ys, rfl, hy, r⟩ := hx.cons
  rw [r.nil]
  obtain ⟨p, zs, rfl, hp, hz⟩ := hy.lst
  refine ⟨p, zs, rfl, .inl (SqL.of (s2 _ _ hp)), ?_⟩
  rw [hz.length]
  exact k _ G1 H (Grow.refl s2) (dat_int _)
theorem evt_test {t : TE} {c : Bool} (h : Ev K t σ G (.bool c)) : EvT (tTest t) σ G c := fun G1 H s1 s2 Q k => h G1 H s1 s2 _ fun v G' H' g hv => ⟨c, hv.bl, k G' H' g⟩
theorem evt_b {t : TE} {c : Bool} (h : Ev K t σ G (.bool c)) : EvT (tB t) σ G c := fun G1 H s1 s2 Q k => h G1 H s1 s2 _ fun v G' H' g hv => ⟨c, hv.bl, k G' H' g⟩
theorem evt_not {t : TT} {c : Bool} (h : EvT t σ G c) : EvT (tNot t) σ G (!c) := fun G1 H s1 s2 Q k => h G1 H s1 s2 _ fun G' H' g => k G' H' g
theorem evt_or {t u : TT} {c e : Bool} (h : EvT t σ G c) (h' : c = false → EvT u σ G e) : EvT (tOr t u) σ G (c || e) := fun G1 H s1 s2 Q k => h G1 H s1 s2 _ fun G' H' g => by
 cases c with
 | true => rw [if_pos rfl]; exact k G' H' g
 | false =>
  rw [if_neg Bool.false_ne_true]
  exact h' rfl G' H' (s1.trans g.gg) g.gh _ fun G2 H2 g2 => k G2 H2 (g.trans g2)
theorem evt_and {t u : TT} {c e : Bool} (h : EvT t σ G c) (h' : c = true → EvT u σ G e) : EvT (tAnd t u) σ G (c && e) := fun G1 H s1 s2 Q k => h G1 H s1 s2 _ fun G' H' g => by
 cases c with
 | false => rw [if_neg Bool.false_ne_true]; exact k G' H' g
 | true =>
  rw [if_pos rfl]
  exact h' rfl G' H' (s1.trans g.gg) g.gh _ fun G2 H2 g2 => k G2 H2 (g.trans g2)
theorem ev_and {c e : Bool} (h : Ev K ta σ G (.bool c)) (h' : c = true → Ev K tb σ G (.bool e)) : Ev K (tAndV ta tb) σ G (.bool (c && e)) := fun G1 H s1 s2 Q k => h G1 H s1 s2 _ fun v G' H' g hv => ⟨c, hv.bl, by
 cases c with
 | false => rw [if_neg Bool.false_ne_true]; exact k _ G' H' g (dat_bl _)
 | true => rw [if_pos rfl]; exact h' rfl G' H' (s1.trans g.gg) g.gh _ fun w G2 H2 g2 hw => k w G2 H2 (g.trans g2) hw⟩
def spP (K : PySem.W.Frag) (R : List PyData → PyData → Prop) : Sp := fun vs H Q _ => ∃ (G : Hp) (ds : List PyData) (d : PyData), Same G H ∧ Dats K G vs ds ∧ R ds d ∧ ∀ v G' H', Grow G H G' H' → Dat K G' v d → Q v H'
theorem ev_call {R : List PyData → PyData → Prop} {E : XK} {t : TA} {ds : List PyData} (h : EvA K t σ G ds) (hR : R ds d) : Ev K (tCall (spP K R) [] E t) σ G d :=
 fun G1 H s1 s2 Q k => h G1 H s1 s2 _ fun vs G2 H2 g2 hv => by
  refine ⟨G2, ds, d, g2.gh, ?_, hR, fun v G' H' g hd => k v G' H' (g2.trans g) hd⟩
  rw [List.append_nil]; exact hv
theorem evt_noif : EvT tNoIf σ G true := fun G1 H s1 s2 Q k => k G1 H (Grow.refl s2)
end
end L2
namespace L2
open PySem PySem.Spec PyProof.Rows
section
variable {K : PySem.W.Frag} {σ : St} {G H : Hp} {te : TE} {d : PyData} {D : Ends}
theorem ixN_nat {n i : Nat} (h : i < n) : ixN n (i : Int) = some i := by unfold ixN; rw [if_pos (by omega), if_pos (by omega)]; simp
end
end L2
namespace L2
open PySem PySem.Spec PyProof.Rows
section
variable {K : PySem.W.Frag} {σ : St} {G H : Hp} {ta tb : TE}
theorem ev_eqI {i j : Int} (ha : Ev K ta σ G (.int i)) (hb : Ev K tb σ G (.int j)) : Ev K (tOp rEq ta tb) σ G (.bool (decide (i = j))) :=
 ev_op ha hb fun G1 H x y Q s1 s2 hx hy k => by
  rw [hx.int, hy.int]
  refine ⟨rfl, ?_⟩
  have e : decide (V.int i = V.int j) = decide (i = j) := by
   by_cases h : i = j
   ·rw [decide_eq_true h, decide_eq_true (by rw [h])]
   ·rw [decide_eq_false h, decide_eq_false fun z => h (by injection z)]
  rw [e]
  exact k _ G1 H (Grow.refl s2) (dat_bl _)
end
end L2
namespace L2
open PySem PySem.Spec PyProof.Rows
section
variable {X : Cx}
def rSlS : V → Option Int → Option Int → Hp → VK → Prop := fun x lo hi H Q => ∃ a, x = .str a ∧ a.length ≤ sizeLine ∧ Q (.str (Txt.slice a lo hi)) H
theorem part_of {v : Value} {o : Option Int} (p : IsPart v o) : ∃ q : Option (Int × Tok), v = partValue q ∧ q.map (·.1) = o := by
 cases p with
 | none => exact ⟨none, rfl, rfl⟩
 | int i t => exact ⟨some (i, t), rfl, rfl⟩
theorem sl_str : SlR X rSlS := by
 intro pins s σ H x v vl vu lo hi sl Q I rx hs pl pu h
 obtain ⟨a, rfl, hz, q⟩ := h
 obtain ⟨t, rfl⟩ := rx
 obtain ⟨l, rfl, rfl⟩ := part_of pl
 obtain ⟨u, rfl, rfl⟩ := part_of pu
 obtain ⟨ob, ho, hc, hd⟩ := hs
 exact ⟨"str", _, F.slot_str_getitem.lookup, typeIs_str _ _ _, wpAny_getItem_str_slice (l := l) (u := u) (st := none) ⟨ob, ho, hc, hd⟩ rfl
  (post_val_or_str ⟨Nat.le_trans (Txt.slice_le a _ _) hz, fun t' k => ⟨.str (Txt.slice a (l.map (·.1)) (u.map (·.1))), H, I.tok _, ⟨_, rfl⟩, q⟩⟩)⟩
theorem vals_strs : ∀ (l : List (Str × Tok)), Vals (l.map fun p => V.str p.1) (strValues l)
 | [] => .nil
 | _ :: r => .cons ⟨_, rfl⟩ (vals_strs r)
def rSplit : V → List V → Hp → VK → Prop := fun x vs H Q => ∃ a c, x = .str a ∧ vs = [.str ⟨#[c]⟩] ∧ a.length + 2 ≤ sizeLine ∧ ∀ l, H l = none → Q (.ref l) (upd H l (.lst ((Txt.split a ⟨#[c]⟩).map V.str)))
theorem parts_few (a y : Str) : (Builtin.Str.partsBetween a (Builtin.Str.occurrences a y 0 a.length (a.length + 1)) y.length).length ≤ a.length + 2 := by
 have h := PySem.StrLaws.occ_length_le a y 0 a.length (a.length + 1)
 unfold Builtin.Str.partsBetween
 simp only [List.length_map, List.length_zip, List.length_cons, List.length_append, List.length_nil]
 omega
theorem mt_split : MtR X "str.split" rSplit := by
 intro pins s σ H x vs v us Q I rx rv h
 obtain ⟨a, c, rfl, rfl, hz, q⟩ := h
 obtain ⟨t, rfl⟩ := rx
 obtain ⟨w1, rfl, u, rfl⟩ := rv.one
 have hx : a.length ≤ sizeLine := by omega
 have hn : (Builtin.Str.partsBetween a (Builtin.Str.occurrences a ⟨#[c]⟩ 0 a.length (a.length + 1)) (⟨#[c]⟩ : Str).length).length ≤ sizeLine := Nat.le_trans (parts_few a _) hz
 have fin : ∀ (l : List (Str × Tok)) (k : Nat), l.map (·.1) = Txt.split a ⟨#[c]⟩ → l.length ≤ sizeLine → EP X pins σ Q (.ref s.heap.objs.size) { s with toks := k, heap := s.heap.push { cls := .type "list", data := .seq (strValues l).toArray } } := fun l k e hl => by
  have ev : (Txt.split a ⟨#[c]⟩).map V.str = l.map fun p => V.str p.1 := by rw [← e, List.map_map]; rfl
  refine ⟨.ref s.heap.objs.size, _, I.laid (t' := k) (o := .lst ((Txt.split a ⟨#[c]⟩).map V.str)) (fun b ob z => Heap.get?_push_of_some _ z) (Nat.le_refl _) ?_, rfl, q _ (I.hok.fresh (Nat.le_refl _))⟩
  refine ⟨by rw [ev, List.length_map]; exact hl, strValues l, 0, by rw [ev]; exact vals_strs l, Heap.get?_push_size _ rfl⟩
 have hy : ((⟨#[c]⟩ : Str).length == 0) = false := rfl
 cases hk : (decide (a.length < (⟨#[c]⟩ : Str).length) || decide (Builtin.Str.strKind a < Builtin.Str.strKind ⟨#[c]⟩))
 ·cases hf : (Builtin.Str.occurrences a ⟨#[c]⟩ 0 a.length (a.length + 1)).isEmpty
  ·refine call_meets F.slot_str_split (typeIs_str _ _ _) F.entry_str_split (F.args_str_split_2 _ _) (meets_str_split_sep a ⟨#[c]⟩ t u hk hy hf hx hn) ?_
   show wants (EP X pins σ Q) X.xe _ { s with toks := _, heap := s.heap.push { cls := .type "list", data := .seq (strsFrom s.toks _).toArray } }
   rw [strsFrom_eq]
   refine fin (numbered s.toks _) _ ((numbered_texts _ _).trans ((if_neg (ne_true_of_eq_false hk)).trans (if_neg (ne_true_of_eq_false hf))).symm) ?_
   have := congrArg List.length (numbered_texts s.toks (Builtin.Str.partsBetween a (Builtin.Str.occurrences a ⟨#[c]⟩ 0 a.length (a.length + 1)) (⟨#[c]⟩ : Str).length))
   rw [List.length_map] at this
   rw [this]
   exact hn
  ·exact call_meets F.slot_str_split (typeIs_str _ _ _) F.entry_str_split (F.args_str_split_2 _ _) (meets_str_split_not_found a ⟨#[c]⟩ t u hk hy hf)
    (fin [(a, t)] s.toks ((if_neg (ne_true_of_eq_false hk)).trans (if_pos hf)).symm (by show 1 ≤ sizeLine; decide))
 ·exact call_meets F.slot_str_split (typeIs_str _ _ _) F.entry_str_split (F.args_str_split_2 _ _) (meets_str_split_cannot_occur a ⟨#[c]⟩ t u hk)
   (fin [(a, t)] s.toks (if_pos hk).symm (by show 1 ≤ sizeLine; decide))
theorem mt_startswith : MtR X "str.startswith" (fun x vs H Q => ∃ a b, x = .str a ∧ vs = [.str b] ∧ Q (.bl (Txt.startswith a b)) H) := by
 intro pins s σ H x vs v us Q I rx rv h
 obtain ⟨a, b, rfl, rfl, q⟩ := h
 obtain ⟨t, rfl⟩ := rx
 obtain ⟨w1, rfl, u, rfl⟩ := rv.one
 exact SC.startswith ⟨.bl (Txt.startswith a b), H, I, rfl, q⟩
theorem strsAre_of {ys : List Str} : ∀ {us : List Value}, Vals (ys.map V.str) us → StrsAre us ys := by
 induction ys with
 | nil => intro us r; rw [List.map_nil] at r; cases r; exact .nil
 | cons n ns ih =>
  intro us r
  rw [List.map_cons] at r
  cases r with
  | cons r1 r2 =>
   obtain ⟨t, e⟩ := r1
   subst e
   exact .cons n t (ih r2)
theorem mt_join {K : PySem.W.Frag} (hK : X.K = K) : MtR X "str.join" (fun x vs H Q => ∃ (a : Str) (p : Addr) (ys : List Str), x = .str a ∧ vs = [.ref p] ∧ SqL K H p (ys.map V.str) ∧ (ys.map (·.length)).sum + ys.length * a.length ≤ 16777216 ∧ Q (.str (Txt.join a ys)) H) := by
 subst hK
 intro pins s σ H x vs v us Q I rx rv h
 obtain ⟨a, p, ys, rfl, rfl, hq, hz, q⟩ := h
 obtain ⟨t, rfl⟩ := rx
 obtain ⟨w1, rfl, r1⟩ := rv.one
 cases r1
 obtain ⟨its, r2, pl, _⟩ := I.list hq
 exact join_list (plainIs pl) (strsAre_of r2) hz fun t' k => ⟨.str (Txt.join a ys), H, I.tok _, ⟨_, rfl⟩, q⟩
theorem call_int_text : CallR X (.type "int") (fun xs H Q => ∃ x n, xs = [.str x] ∧ intText? x = some n ∧ x.length ≤ 640 ∧ Q (.int n) H) := by
 intro pins s σ H xs us Q I r h
 obtain ⟨x, n, rfl, e, hz, q⟩ := h
 obtain ⟨u, rfl, t, rfl⟩ := vals1 r
 exact PySem.W.KIN.call_text e hz ⟨.int n, H, I.tok _, ⟨_, rfl⟩, q⟩
end
end L2
namespace L2
open PySem PySem.Spec PyProof.Rows
def Its (a : Str) : It := ⟨fun i _ => i < a.cps.size, fun i H x H' => H' = H ∧ ∃ c, a.cps.toList[i]? = some c ∧ x = .str ⟨#[c]⟩, fun i _ => a.cps.size ≤ i⟩
theorem walks_str {P : Program} {w : World} {A : Around} (hh : A.handled = none) (it : Addr) (a : Str) (t : Tok) {ty : String} (hty : ty = "str_ascii_iterator" ∨ ty = "str_iterator") :
  Walks P w A it [it] [it] a.cps.size (SignAt a) (fun i h => h.IsStrIter it ty a t i) := by
 rcases hty with rfl | rfl
 ·exact Walks.strAscii hh it a t
 ·exact Walks.strWide hh it a t
theorem turn_str {P : Program} {w : World} {K : PySem.W.Frag} {tg : Expr} (a : Str) (t : Tok) (it : Addr) {ty : String} (hty : ty = "str_ascii_iterator" ∨ ty = "str_iterator") : Turn P w K tg (Its a) [it] it (fun i h => h.IsStrIter it ty a t i) where
 mem := by simp
 obj := fun i h st b hb => by
  have e : b = it := by simpa using hb
  subst e
  obtain ⟨o, e, c, d⟩ := st
  exact ⟨o, e, fun v z => by rw [d] at z; cases z⟩
 keep := fun i h h' st k => by
  obtain ⟨o, e, r⟩ := st
  exact ⟨o, k it (by simp) o e, r⟩
 item := by
  intro X hP hw hK hc i pins s σ H E I hf st hg
  subst hP hw hK
  obtain ⟨f0, f1, f2, f3, f4, f5⟩ := hf it (by simp)
  refine (walks_str (I.ok.hd hc) it a t hty).item i s _ _ hg st fun v h' tk hv st' kk => ?_
  obtain ⟨c, u, hcc, rfl⟩ := hv
  have I1 : Inv X pins σ H { s with heap := h', toks := tk } := I.turned (fun b o hb e => kk b o (by simpa using hb) e) f0 f1 f3 f4 f5
  obtain ⟨o, ho, hcl, hd⟩ := id st'
  refine ⟨_, rfl, go_of (s := { s with heap := h', toks := tk }) (n := ty) ho hcl hd (by rcases hty with rfl | rfl <;> decide) ⟨.str ⟨#[c]⟩, H, I1, ⟨u, rfl⟩, ⟨rfl, c, by simpa using hcc, rfl⟩, st', fun b hb => (hf b hb).1⟩⟩
 done := by
  intro X hP hw hK hc i pins s σ H E I hf st hg
  subst hP hw hK
  obtain ⟨f0, f1, f2, f3, f4, f5⟩ := hf it (by simp)
  have hn : a.cps[i]? = none := by
   have hg' : a.cps.size ≤ i := hg
   simp [hg']
  rcases hty with rfl | rfl
  ·exact wpAny_pyNext_ascii_end (I.ok.hd hc) st hn fun h' eb => ⟨rfl, I.turned (t' := s.toks) (fun b o hb e => eb b o hb e) f0 f1 f3 f4 f5⟩
  ·exact wpAny_pyNext_wide_end (I.ok.hd hc) st hn fun h' eb => ⟨rfl, I.turned (t' := s.toks) (fun b o hb e => eb b o hb e) f0 f1 f3 f4 f5⟩
 self := fun A i s Q E st h => by
  rcases hty with rfl | rfl
  ·exact wpAny_pyIter_striter_ascii st h
  ·exact wpAny_pyIter_striter_wide st h
def iStr (te : TE) : TI := fun σ H R => te σ H fun x H1 => ∃ a, x = .str a ∧ R (Its a) H1
section
variable {X : Cx} {tg : Expr}
theorem pi_str {e : Expr} {te : TE} (he : PE X e te) : PI X tg e (iStr te) := by
 intro pins s σ H R I h
 refine thn (he pins s σ H _ I h) fun v s1 ⟨x, H1, I1, r1, q1⟩ => ?_
 obtain ⟨a, rfl, q⟩ := q1
 obtain ⟨t, rfl⟩ := r1
 have fin : ∀ (ty : String), (ty = "str_ascii_iterator" ∨ ty = "str_iterator") → PIE X pins σ tg R (.ref s1.heap.objs.size) { s1 with heap := s1.heap.push { cls := .type ty, data := .fields #[.str a t, .int 0 0] } } := fun ty hty => by
  refine ⟨s1.heap.objs.size, [s1.heap.objs.size], _, Its a, H1, rfl, I1.kept (t' := s1.toks) fun b o e => Heap.get?_push_of_some _ e, turn_str a t _ hty, ⟨_, Heap.get?_push_size _ rfl, rfl, rfl⟩, fun b hb => ?_, q⟩
  have e : b = s1.heap.objs.size := by simpa using hb
  subst e
  exact I1.fpOk (Nat.le_refl _) (I1.hok.fresh (Nat.le_refl _))
 cases ha : a.cps.all (· < 128)
 ·exact wpAny_pyIter_wide ha (fin _ (.inr rfl))
 ·exact wpAny_pyIter_ascii ha (fin _ (.inl rfl))
end
def Itr3 (lo c : Int) (n : Nat) : It := ⟨fun i _ => i < n, fun i H x H' => H' = H ∧ x = .int (lo + i * c), fun i _ => n ≤ i⟩
theorem turn_range3 {P : Program} {w : World} {K : PySem.W.Frag} {tg : Expr} (it : Addr) (lo c : Int) (n : Nat) : Turn P w K tg (Itr3 lo c n) [it] it (fun i h => IsRangeIter h it (lo + (i : Nat) * c) ((n : Int) - (i : Nat)) c) where
 mem := by simp
 obj := fun i h st b hb => by
  have e : b = it := by simpa using hb
  subst e
  refine ⟨_, st, fun v z => ?_⟩
  have z' : Data.fields _ = Data.cell v := z
  cases z'
 keep := fun i h h' st k => k it (by simp) _ st
 item := by
  intro X hP hw hK hc i pins s σ H E I hf st hg
  subst hP hw hK
  obtain ⟨f0, f1, f2, f3, f4, f5⟩ := hf it (by simp)
  refine (Walks.range (prog := X.prog) (w := X.w) (I.ok.hd hc) it lo c n).item i s _ _ hg st fun v h' tk hv st' kk => ?_
  obtain ⟨t, rfl⟩ := hv
  have I1 : Inv X pins σ H { s with heap := h', toks := tk } := I.turned (fun b o hb e => kk b o (by simpa using hb) e) f0 f1 f3 f4 f5
  exact ⟨_, rfl, go_of (s := { s with heap := h', toks := tk }) (n := "range_iterator") st' rfl rfl (by decide) ⟨.int (lo + i * c), H, I1, ⟨t, rfl⟩, ⟨rfl, rfl⟩, st', fun b hb => (hf b hb).1⟩⟩
 done := by
  intro X hP hw hK hc i pins s σ H E I hf st hg
  subst hP hw hK
  obtain ⟨f0, f1, f2, f3, f4, f5⟩ := hf it (by simp)
  have hg' : n ≤ i := hg
  exact wpAny_pyNext_range_end (I.ok.hd hc) st (by omega) fun h' eb => ⟨rfl, I.turned (t' := s.toks) (fun b o hb e => eb b o hb e) f0 f1 f3 f4 f5⟩
 self := fun _ _ _ _ _ st h => wpAny_pyIter_rangeiter st h
def iRng3 (ta : TA) : TI := fun σ H R => ta σ H fun vs H1 => ∃ i j c : Int, vs = [.int i, .int j, .int c] ∧ (0 < c ∧ c < 1073741824) ∧ (0 ≤ i ∧ i < 2 ^ 40 ∧ 0 ≤ j ∧ j < 2 ^ 40) ∧ R (Itr3 i c (Builtin.Range.rangeSize i j c).toNat) H1
section
variable {X : Cx} {tg : Expr}
theorem pi_range3 {a b c : Expr} {ta : TA} {p pos : Pos} (hg : Gl X "range") (hm : X.mg "range" = none) (ha : PA X [a, b, c] ta) (hs : starEach [a, b, c] X.env = [(false, eval a X.env), (false, eval b X.env), (false, eval c X.env)] := by rfl) (hs2 : starEach [b, c] X.env = [(false, eval b X.env), (false, eval c X.env)] := by rfl) :
  PI X tg (.Call (.Name "range" p) [a, b, c] [] pos) (iRng3 ta) := by
 intro pins s σ H R I h
 refine Call_ (ld_blt I hg hm boot_range (PyProof.Rows.callWith_type1 (thn (ha pos pins s σ H _ I h) fun us s1 ⟨vs, H1, I1, r1, q1⟩ => ?_) (by rw [hs, hs2]) (by rw [hs2]; rfl)))
 obtain ⟨i, j, k, e, ⟨k0, k1⟩, ⟨q1, q2, q3, q4⟩, q⟩ := q1
 subst e
 cases r1 with
 | cons r rr =>
  cases rr with
  | cons r' rr =>
   cases rr with
   | cons r'' rr =>
    cases rr
    obtain ⟨t, rfl⟩ := r
    obtain ⟨t', rfl⟩ := r'
    obtain ⟨t'', rfl⟩ := r''
    have hsz : 0 ≤ Builtin.Range.rangeSize i j k := by
     unfold Builtin.Range.rangeSize
     rw [if_pos k0]
     split
     ·have := Int.ediv_nonneg (show 0 ≤ j - i - 1 by omega) (show 0 ≤ k by omega)
      omega
     ·omega
    have hsm : Builtin.Range.small i j k = true := by
     have hle : Builtin.Range.rangeSize i j k ≤ 2 ^ 40 := by
      unfold Builtin.Range.rangeSize
      rw [if_pos k0]
      split
      ·have := Int.ediv_le_self k (show 0 ≤ j - i - 1 by omega)
       omega
      ·omega
     unfold Builtin.Range.small
     simp only [Builtin.Range.rangeFitsLong, Bool.and_eq_true, Bool.or_eq_true, decide_eq_true_eq, beq_iff_eq, k0, gt_iff_lt, if_true]
     omega
    refine call_range_3 (by omega) ?_ (.inl (PyProof.noPylong_small (by omega)))
    have I2 : Inv X pins σ H1 { s1 with heap := s1.heap.push { cls := .type "range", data := .fields #[.int i t, .int j t', .int k t''] }, toks := s1.toks } := I1.kept fun b o e => Heap.get?_push_of_some _ e
    refine wpAny_pyIter_range (IsRange.new ..) hsm ?_
    refine ⟨_, [_], _, _, H1, rfl, I2.kept (t' := s1.toks) fun b o e => Heap.get?_push_of_some _ e, turn_range3 _ i k (Builtin.Range.rangeSize i j k).toNat, ?_, fun b hb => ?_, q⟩
    ·have e1 : i + ((0 : Nat) : Int) * k = i := by simp
     have e2 : (((Builtin.Range.rangeSize i j k).toNat : Nat) : Int) - ((0 : Nat) : Int) = Builtin.Range.rangeSize i j k := by omega
     show IsRangeIter _ _ (i + ((0 : Nat) : Int) * k) ((((Builtin.Range.rangeSize i j k).toNat : Nat) : Int) - ((0 : Nat) : Int)) k
     rw [e1, e2]
     exact Heap.get?_push_size _ rfl
    ·have e := List.mem_singleton.mp hb
     subst e
     exact I2.fpOk (Nat.le_refl _) (I2.hok.fresh (Nat.le_refl _))
end
end L2
namespace L2
open PySem PySem.Spec PyProof.Rows
section
variable {X : Cx} {K : PySem.W.Frag}
theorem ix_tupK (e : X.K = K) : IxR X (rIxT K) := by subst e; exact ix_tup
theorem ix_listK (e : X.K = K) : IxR X (rIxL K) := by subst e; exact ix_list
theorem sl_listK (e : X.K = K) : SlR X (rSlL K) := by subst e; exact sl_list
theorem op_eqDK (e : X.K = K) (hu : X.A.units + 64 < cLine) : OpR X (compareOp .Eq) (rEqD K fun b => b) := by subst e; exact op_eqD hu
theorem op_neDK (e : X.K = K) (hu : X.A.units + 64 < cLine) : OpR X (compareOp .NotEq) (rEqD K fun b => !b) := by subst e; exact op_neD hu
theorem call_lenK (e : X.K = K) : CallR X (.builtin "len") (fun xs H Q => ∃ p ys, xs = [.ref p] ∧ (SqL K H p ys ∨ SqT K H p ys) ∧ Q (.int ys.length) H) := by subst e; exact call_len_seq
end
theorem st_BinOp {a : Expr} {op : Operator} {b : Expr} {p : Pos} {es : List Expr} {env : Env} : starEach (.BinOp a op b p :: es) env = (false, eval (.BinOp a op b p) env) :: starEach es env := rfl
theorem st_UnaryOp {op : UnaryOp} {a : Expr} {p : Pos} {es : List Expr} {env : Env} : starEach (.UnaryOp op a p :: es) env = (false, eval (.UnaryOp op a p) env) :: starEach es env := rfl
theorem st_ListComp {a : Expr} {g : List Comprehension} {sc : Scope} {p : Pos} {es : List Expr} {env : Env} : starEach (.ListComp a g sc p :: es) env = (false, eval (.ListComp a g sc p) env) :: starEach es env := rfl
theorem st_Compare {a : Expr} {ops : List CmpOp} {cs : List Expr} {p : Pos} {es : List Expr} {env : Env} : starEach (.Compare a ops cs p :: es) env = (false, eval (.Compare a ops cs p) env) :: starEach es env := rfl
theorem st_Call {f : Expr} {as : List Expr} {kw : List Keyword} {p : Pos} {es : List Expr} {env : Env} : starEach (.Call f as kw p :: es) env = (false, eval (.Call f as kw p) env) :: starEach es env := rfl
theorem st_Constant {c : Const} {k : Nat} {p : Pos} {es : List Expr} {env : Env} : starEach (.Constant c k p :: es) env = (false, eval (.Constant c k p) env) :: starEach es env := rfl
theorem st_Subscript {a b : Expr} {p : Pos} {es : List Expr} {env : Env} : starEach (.Subscript a b p :: es) env = (false, eval (.Subscript a b p) env) :: starEach es env := rfl
theorem st_Name {n : Str} {p : Pos} {es : List Expr} {env : Env} : starEach (.Name n p :: es) env = (false, eval (.Name n p) env) :: starEach es env := rfl
theorem st_JoinedStr {as : List Expr} {p : Pos} {es : List Expr} {env : Env} : starEach (.JoinedStr as p :: es) env = (false, eval (.JoinedStr as p) env) :: starEach es env := rfl
def tyN : PyData → String
 | .none => "NoneType"
 | .bool _ => "bool"
 | .int _ => "int"
 | .str _ => "str"
 | .list _ => "list"
 | .tuple _ => "tuple"
 | .dict _ => "dict"
def rIsD (K : PySem.W.Frag) : List V → Hp → VK → Prop := fun xs H Q => ∃ G x d n b, xs = [x, .ty n] ∧ Same G H ∧ Dat K G x d ∧ PySem.W.kitOne K (.type (tyN d)) (.type n) = some b ∧ Q (.bl b) H
theorem call_isD {X : Cx} {K : PySem.W.Frag} (eK : X.K = K) : CallR X (.builtin "isinstance") (rIsD K) := by
 subst eK
 intro pins s σ H xs us Q I r h
 obtain ⟨G, x, d, n, b, rfl, sg, hd, e, q⟩ := h
 obtain ⟨u, w', rfl, rx, ry⟩ := vals2 r
 cases (show w' = Value.type n from ry)
 have fin : ∀ tk, EP X pins σ Q (.bool b) { s with toks := tk } := fun tk => ⟨.bl b, H, I.tok _, rfl, q⟩
 cases d with
 | none => rw [hd.non] at rx; exact isinst_ok I rx .non e fin
 | bool y => rw [hd.bl] at rx; exact isinst_ok I rx (.bl y) e fin
 | int i => rw [hd.int] at rx; exact isinst_ok I rx (.int i) e fin
 | str y => rw [hd.str] at rx; exact isinst_ok I rx (.str y) e fin
 | list ds =>
  obtain ⟨p, ys, rfl, hp, _⟩ := hd.lst
  cases (show u = Value.ref p from rx)
  obtain ⟨its, _, ⟨o, n', e1, c, _⟩, _⟩ := I.list (SqL.of (sg _ _ hp))
  exact PySem.W.kia_one PySem.W.kitx_list I.kIn ⟨o, e1, c⟩ e (fun z => nomatch z) fin
 | tuple ds =>
  obtain ⟨p, ys, rfl, hp, _⟩ := hd.tup
  cases (show u = Value.ref p from rx)
  obtain ⟨its, _, ⟨o, e1, c, _⟩, _⟩ := I.tuple (sg.tup hp)
  exact PySem.W.kia_one PySem.W.kitx_tuple I.kIn ⟨o, e1, c⟩ e (fun z => nomatch z) fin
 | dict _ => unfold Dat at hd; exact hd.elim
theorem ev_isD {K : PySem.W.Frag} {σ : St} {G : Hp} {ta : TE} {d : PyData} {n : String} {b : Bool} (ha : Ev K ta σ G d) (e : PySem.W.kitOne K (.type (tyN d)) (.type n) = some b) : Ev K (tCB (rIsD K) (tCons ta (tCons (tC (.ty n)) tNil))) σ G (.bool b) :=
 fun G1 H s1 s2 Q k => ha G1 H s1 s2 _ fun x G2 H2 g2 hx => ⟨G2, x, d, n, b, rfl, g2.gh, hx, e, k _ G2 H2 g2 (dat_bl b)⟩
end L2
namespace L2
open PySem PySem.Spec PyProof.Rows
section
variable {X : Cx} {K : PySem.W.Frag}
theorem ev_slL {σ : St} {G : Hp} {te : TE} {tl th : TO} {ds : List PyData} {lo hi : Option Int} (h : Ev K te σ G (.list ds)) (hl : ∀ H (Q : Option Int → Hp → Prop), Q lo H → tl σ H Q) (hh : ∀ H (Q : Option Int → Hp → Prop), Q hi H → th σ H Q) :
  Ev K (tSl (rSlL K) te tl th) σ G (.list ((ds.drop (HT.sIx ds.length 0 lo)).take (HT.sIx ds.length ds.length hi - HT.sIx ds.length 0 lo))) :=
 fun G1 H s1 s2 Q k => h G1 H s1 s2 _ fun v G2 H2 g2 hv => by
  obtain ⟨p, xs, rfl, hp, hxs⟩ := hv.lst
  have hlen := hxs.length
  refine hl _ _ (hh _ _ ⟨p, xs, rfl, SqL.of (g2.gh _ _ hp), fun q hq => ?_⟩)
  have g := grow_new (o := .lst (cutV xs lo hi)) g2.gh hq
  refine k _ _ _ (g2.trans g) (dat_lst upd_same ?_)
  have q := dats_take (HT.sIx ds.length ds.length hi - HT.sIx ds.length 0 lo) (dats_drop (HT.sIx ds.length 0 lo) (hxs.same g.gg))
  rw [← hlen] at q ⊢
  exact q
end
end L2
namespace Frac
theorem gcd_step (a b : Int) (hb : 0 < b) : Int.gcd b (a % b) = Int.gcd a b := by
 rw [Int.gcd_comm a b]
 have h : a % b = a - b * (a / b) := by
  have := Int.emod_add_mul_ediv a b
  omega
 rw [h, show a - b * (a / b) = a + b * (-(a / b)) by rw [Int.mul_neg]; omega]
 exact Int.gcd_add_mul_left_right b a (-(a / b))
theorem gcd_zero (a : Int) (ha : 0 ≤ a) : (Int.gcd a 0 : Int) = a := by
 rw [Int.gcd_zero_right]; omega
def norm (a b : Int) : Int × Int := if b < 0 then ((-a) / (Int.gcd a b : Int), (-b) / (Int.gcd a b : Int)) else (a / (Int.gcd a b : Int), b / (Int.gcd a b : Int))
theorem gpos {a b : Int} (hb : b ≠ 0) : (0 : Int) < (Int.gcd a b : Int) := by
 have := Int.gcd_pos_of_ne_zero_right a hb
 omega
theorem dvd_l (a b : Int) : (Int.gcd a b : Int) ∣ a := Int.gcd_dvd_left a b
theorem dvd_r (a b : Int) : (Int.gcd a b : Int) ∣ b := Int.gcd_dvd_right a b
theorem norm_prog (a b : Int) (hb : b ≠ 0) : norm a b = if b < 0 then (a.fdiv (-(Int.gcd a b : Int)), b.fdiv (-(Int.gcd a b : Int))) else (a.fdiv (Int.gcd a b : Int), b.fdiv (Int.gcd a b : Int)) := by
 have hg := gpos (a := a) hb
 unfold norm
 have key : ∀ x : Int, (Int.gcd a b : Int) ∣ x → x.fdiv (-(Int.gcd a b : Int)) = (-x) / (Int.gcd a b : Int) := fun x hx => by
  obtain ⟨k, rfl⟩ := hx
  generalize (Int.gcd a b : Int) = g at hg
  rw [show g * k = (-g) * (-k) by rw [Int.neg_mul_neg], Int.mul_fdiv_cancel_left _ (by omega : -g ≠ 0), show -(-g * -k) = g * (-k) by rw [Int.neg_mul, Int.neg_neg]]
  rw [Int.mul_ediv_cancel_left _ (by omega : g ≠ 0)]
 split
 ·rw [key a (dvd_l a b), key b (dvd_r a b)]
 ·rw [Int.fdiv_eq_ediv_of_nonneg _ (by omega), Int.fdiv_eq_ediv_of_nonneg _ (by omega)]
theorem norm_flip (a b : Int) (hb : b < 0) : norm a b = norm (-a) (-b) := by
 unfold norm
 rw [if_pos hb, if_neg (by omega), Int.gcd_neg, Int.neg_gcd]
theorem norm_pos (a b : Int) (hb : 0 < b) : norm a b = (a / (Int.gcd a b : Int), b / (Int.gcd a b : Int)) := by
 unfold norm; rw [if_neg (by omega)]
theorem norm_ok (a b : Int) (hb : b ≠ 0) : 1 ≤ (norm a b).2 ∧ (norm a b).1 * b = a * (norm a b).2 ∧ Int.gcd (norm a b).1 (norm a b).2 = 1 := by
 have main : ∀ a b : Int, 0 < b → 1 ≤ (norm a b).2 ∧ (norm a b).1 * b = a * (norm a b).2 ∧ Int.gcd (norm a b).1 (norm a b).2 = 1 := fun a b hb => by
  have hg := gpos (a := a) (show b ≠ 0 by omega)
  rw [norm_pos a b hb]
  obtain ⟨x, hx⟩ := dvd_l a b
  obtain ⟨y, hy⟩ := dvd_r a b
  have e1 : a / (Int.gcd a b : Int) = x := by
   conv => lhs; lhs; rw [hx]
   exact Int.mul_ediv_cancel_left _ (by omega)
  have e2 : b / (Int.gcd a b : Int) = y := by
   conv => lhs; lhs; rw [hy]
   exact Int.mul_ediv_cancel_left _ (by omega)
  have hy0 : 0 < y := by
   rw [hy] at hb
   exact Int.pos_of_mul_pos_right hb (by omega) |> fun h => h
  refine ⟨?_, ?_, ?_⟩
  ·show 1 ≤ b / _
   rw [e2]; omega
  ·show a / _ * b = a * (b / _)
   rw [e1, e2]
   conv => lhs; rw [hy]
   conv => rhs; rw [hx]
   rw [← Int.mul_assoc, Int.mul_comm x, Int.mul_assoc]
  ·show Int.gcd (a / _) (b / _) = 1
   exact Int.gcd_ediv_gcd_ediv_gcd (by omega)
 by_cases h : 0 < b
 ·exact main a b h
 ·have h' : b < 0 := by omega
  obtain ⟨h1, h2, h3⟩ := main (-a) (-b) (by omega)
  rw [norm_flip a b h']
  refine ⟨h1, ?_, h3⟩
  rw [Int.mul_neg, Int.neg_mul] at h2
  omega
theorem norm_size (a b : Int) (hb : b ≠ 0) : (norm a b).1.natAbs ≤ a.natAbs ∧ (norm a b).2.natAbs ≤ b.natAbs := by
 have hg := gpos (a := a) hb
 have key : ∀ x : Int, (x / (Int.gcd a b : Int)).natAbs ≤ x.natAbs := fun x => by
  have h := Int.natAbs_ediv_le_natAbs x (Int.gcd a b : Int)
  exact h
 unfold norm
 split
 ·exact ⟨by have := key (-a); rw [Int.natAbs_neg] at this; exact this, by have := key (-b); rw [Int.natAbs_neg] at this; exact this⟩
 ·exact ⟨key a, key b⟩
end Frac
namespace Frac
structure Lst (a : Int × Int) : Prop where
 pos : 1 ≤ a.2
 one : Int.gcd a.1 a.2 = 1
theorem norm_id {a : Int × Int} (h : Lst a) : norm a.1 a.2 = a := by
 have := h.pos
 rw [norm_pos _ _ (by omega), h.one]
 simp
end Frac
namespace Dig
open PySem PySem.NumText
def dig (m : Nat) : List Nat := (Nat.toDigits 10 m).map Char.toNat
theorem digitChar_code : ∀ d : Nat, d < 10 → (Nat.digitChar d).toNat = 48 + d := by decide
theorem dig_lt {m : Nat} (h : m < 10) : dig m = [48 + m] := by
 unfold dig
 rw [Nat.toDigits_of_lt_base h]
 show [(Nat.digitChar m).toNat] = _
 rw [digitChar_code m h]
theorem dig_step {m : Nat} (h : 10 ≤ m) : dig m = dig (m / 10) ++ [48 + m % 10] := by
 have hm : m % 10 < 10 := Nat.mod_lt m (by decide)
 have t : Nat.toDigits 10 (m / 10) ++ Nat.toDigits 10 (m % 10) = Nat.toDigits 10 (10 * (m / 10) + m % 10) := Nat.toDigits_append_toDigits (by decide) (by omega) hm
 rw [Nat.div_add_mod] at t
 have e := dig_lt hm
 unfold dig at e ⊢
 rw [← t, List.map_append, e]
theorem dig_digits (m : Nat) : AllDigits (dig m) := by
 induction m using Nat.strongRecOn with
 | _ m ih =>
  by_cases h : m < 10
  ·rw [dig_lt h]
   intro c hc
   have : c = 48 + m := by simpa using hc
   omega
  ·rw [dig_step (by omega)]
   intro c hc
   rcases List.mem_append.mp hc with hc | hc
   ·exact ih (m / 10) (by omega) c hc
   ·have : c = 48 + m % 10 := by simpa using hc
    omega
theorem dig_ne (m : Nat) : dig m ≠ [] := by
 by_cases h : m < 10
 ·rw [dig_lt h]; simp
 ·rw [dig_step (by omega)]; simp
theorem dig_val (m : Nat) : digitsVal (dig m) = m := PySem.W.KIN.val_back m
theorem dig_head {m : Nat} {r : List Nat} (h : dig m = 48 :: r) : m = 0 := by
 induction m using Nat.strongRecOn generalizing r with
 | _ m ih =>
  by_cases hm : m < 10
  ·rw [dig_lt hm] at h
   injection h with h1 _
   omega
  ·rw [dig_step (by omega)] at h
   cases hd : dig (m / 10) with
   | nil => exact absurd hd (dig_ne _)
   | cons c q =>
    rw [hd] at h
    injection h with h1 _
    subst h1
    have := ih (m / 10) (by omega) hd
    omega
theorem dig_len {m : Nat} : ∀ {k : Nat}, 1 ≤ k → m < 10 ^ k → (dig m).length ≤ k := by
 induction m using Nat.strongRecOn with
 | _ m ih =>
  intro k hk h
  by_cases hm : m < 10
  ·rw [dig_lt hm]; exact hk
  ·rw [dig_step (by omega), List.length_append]
   have h1 : 2 ≤ k := by
    rcases Nat.lt_or_ge k 2 with z | z
    ·have : k = 1 := by omega
     subst this
     simp at h
     omega
    ·exact z
   obtain ⟨j, rfl⟩ : ∃ j, k = j + 1 := ⟨k - 1, by omega⟩
   have := ih (m / 10) (by omega) (k := j) (by omega) (by rw [Nat.pow_succ] at h; omega)
   show (dig (m / 10)).length + 1 ≤ j + 1
   omega
theorem val_from (cs : List Nat) : ∀ a : Nat, cs.foldl (fun acc c => acc * 10 + (c - 48)) a = a * 10 ^ cs.length + digitsVal cs := by
 unfold digitsVal
 induction cs with
 | nil => intro a; simp
 | cons c r ih =>
  intro a
  rw [List.foldl_cons, ih, List.foldl_cons, ih (0 * 10 + (c - 48)), List.length_cons, Nat.pow_succ]
  rw [Nat.add_mul, Nat.zero_mul, Nat.zero_add, Nat.mul_assoc, Nat.mul_comm 10, Nat.add_assoc]
theorem val_append (a b : List Nat) : digitsVal (a ++ b) = digitsVal a * 10 ^ b.length + digitsVal b := by
 have := val_from b (digitsVal a)
 rw [← this]
 unfold digitsVal
 rw [List.foldl_append]
structure Fig (cs : List Nat) : Prop where
 dg : AllDigits cs
 ne : cs ≠ []
 hd : ∀ r, cs = 48 :: r → r = []
theorem fig_dig (m : Nat) : Fig (dig m) := ⟨dig_digits m, dig_ne m, fun r h => by
 have := dig_head h
 subst this
 rw [dig_lt (by decide)] at h
 injection h with _ h2
 exact h2.symm⟩
theorem no47 {cs : List Nat} (h : AllDigits cs) : 47 ∉ cs := fun m => by have := h 47 m; omega
end Dig
namespace Dig
open PySem PySem.NumText PySem.Builtin.Str
theorem str_ext {x y : Str} (h : x.cps.toList = y.cps.toList) : x = y := PySem.Str.ext' (by
 have := congrArg List.toArray h
 simpa using this)
theorem codes_num (m : Nat) : (Str.ofString (toString ((m : Nat) : Int))).cps.toList = dig m := PySem.W.KIN.signs_num m
theorem codes_neg (m : Nat) (h : 0 < m) : (Str.ofString (toString (-((m : Nat) : Int)))).cps.toList = 45 :: dig m := by
 obtain ⟨k, rfl⟩ : ∃ k, m = k + 1 := ⟨m - 1, by omega⟩
 rw [PyProof.Rows.signs_ofString]
 have e : toString (-(((k + 1 : Nat)) : Int)) = "-" ++ Nat.repr (k + 1) := rfl
 rw [e, String.toList_append, List.map_append, Nat.toList_repr]
 rfl
theorem len_codes (x : Str) : x.length = x.cps.toList.length := by simp [Str.length]
theorem slice_codes (x : Str) {a b : Nat} (hab : a ≤ b) (hb : b ≤ x.length) : (Txt.slice x (some (a : Int)) (some (b : Int))).cps.toList = (x.cps.toList.drop a).take (b - a) := by
 unfold Txt.slice
 split
 ·rename_i h
  rw [PySem.StrLaws.strSliceIndices_plain hab hb] at h
  have h' : b - a = x.length := by simpa using h
  have ha : a = 0 := by omega
  subst ha
  rw [len_codes] at h'
  rw [List.drop_zero, List.take_of_length_le (by omega)]
 ·show (List.toArray _).toList = _
  rw [PySem.StrLaws.sliced_plain x hab hb]
theorem slice_lo (x : Str) (b : Int) : Txt.slice x none (some b) = Txt.slice x (some ((0 : Nat) : Int)) (some b) := by
 have e : strSliceIndices none (some b) 1 x.length = strSliceIndices (some ((0 : Nat) : Int)) (some b) 1 x.length := by
  unfold strSliceIndices
  have h1 : max (0 : Int) (min ((0 : Nat) : Int) (x.length : Int)) = 0 := by omega
  have h2 : ¬ (((0 : Nat) : Int) < 0) := by omega
  simp only [h1, h2, show ((1 : Int) > 0) = True from by simp, if_true, if_false]
 unfold Txt.slice
 rw [e]
theorem slice_hi (x : Str) (a : Int) : Txt.slice x (some a) none = Txt.slice x (some a) (some ((x.length : Nat) : Int)) := by
 have e : strSliceIndices (some a) none 1 x.length = strSliceIndices (some a) (some ((x.length : Nat) : Int)) 1 x.length := by
  unfold strSliceIndices
  have h1 : ¬ ((x.length : Nat) : Int) < 0 := by omega
  have h2 : max (0 : Int) (min ((x.length : Nat) : Int) ((x.length : Nat) : Int)) = ((x.length : Nat) : Int) := by omega
  simp only [h1, h2, show ((1 : Int) > 0) = True from by simp, if_true, if_false]
 unfold Txt.slice
 rw [e]
theorem join_codes : ∀ ys : List Str, (Txt.join ⟨#[]⟩ ys).cps.toList = (ys.map fun y => y.cps.toList).flatten := by
 intro ys
 unfold Txt.join
 rw [PySem.StrLaws.glued_eq_join]
 induction ys with
 | nil => rfl
 | cons y r ih =>
  cases r with
  | nil => simp [Str.join]
  | cons z q =>
   have e : Str.join ⟨#[]⟩ (y :: z :: q) = y ++ ⟨#[]⟩ ++ Str.join ⟨#[]⟩ (z :: q) := rfl
   rw [e, PySem.Str.cps_append, PySem.Str.cps_append]
   simp only [Array.toList_append, ih, List.map_cons, List.flatten_cons]
   simp
theorem startswith_code (x : Str) (c : Nat) : Txt.startswith x ⟨#[c]⟩ = true ↔ ∃ r, x.cps.toList = c :: r := by
 unfold Txt.startswith
 rw [Bool.and_eq_true, decide_eq_true_eq, Nat.zero_add]
 have h1 := PySem.StrLaws.subAt_one x c 0
 rw [Nat.zero_add] at h1
 rw [h1]
 cases x.cps.toList with
 | nil => simp
 | cons d q => simp [eq_comm]
end Dig
namespace Dig
open PySem PySem.NumText PySem.Builtin.Str
theorem cut {c : Nat} : ∀ {a b u v : List Nat}, c ∉ a → c ∉ b → a ++ c :: u = b ++ c :: v → a = b ∧ u = v
 | [], [], _, _, _, _, h => by injection h with _ h; exact ⟨rfl, h⟩
 | [], d :: b, _, _, _, hb, h => by injection h with h1 _; exact absurd (h1 ▸ List.mem_cons_self) hb
 | d :: a, [], _, _, ha, _, h => by injection h with h1 _; exact absurd (h1.symm ▸ List.mem_cons_self) ha
 | d :: a, e :: b, _, _, ha, hb, h => by
  injection h with h1 h2
  subst h1
  obtain ⟨r1, r2⟩ := cut (fun m => ha (List.mem_cons_of_mem _ m)) (fun m => hb (List.mem_cons_of_mem _ m)) h2
  exact ⟨by rw [r1], r2⟩
def J : List (List Nat) → List Nat
 | [] => []
 | [a] => a
 | a :: b :: r => a ++ 47 :: J (b :: r)
theorem join47 : ∀ ps : List Str, (Str.join ⟨#[47]⟩ ps).cps.toList = J (ps.map fun p => p.cps.toList)
 | [] => rfl
 | [p] => rfl
 | p :: q :: r => by
  have e : Str.join ⟨#[47]⟩ (p :: q :: r) = p ++ ⟨#[47]⟩ ++ Str.join ⟨#[47]⟩ (q :: r) := rfl
  rw [e, PySem.Str.cps_append, PySem.Str.cps_append]
  simp only [Array.toList_append, join47 (q :: r), List.map_cons, J]
  simp
theorem split_ne (x y : Str) : Txt.split x y ≠ [] := by
 unfold Txt.split
 split
 ·simp
 ·split
  ·simp
  ·rw [PySem.StrLaws.partsBetween_eq]
   obtain ⟨p, r, e⟩ := PySem.StrLaws.partsFrom_ne x y.length 0 (occurrences x y 0 x.length (x.length + 1))
   rw [e]
   simp
theorem split_J (x : Str) : J ((Txt.split x ⟨#[47]⟩).map fun p => p.cps.toList) = x.cps.toList := by
 rw [← join47, PySem.StrLaws.join_split]
def tp (x : Int) : List Nat := if x < 0 then 45 :: dig x.natAbs else dig x.natAbs
def nt (a : Int × Int) : List Nat := tp a.1 ++ (if a.2 = 1 then [] else 47 :: dig a.2.natAbs)
theorem tp47 (x : Int) : 47 ∉ tp x := by
 unfold tp
 split
 ·intro m
  rcases List.mem_cons.mp m with e | m
  ·cases e
  ·exact no47 (dig_digits _) m
 ·exact no47 (dig_digits _)
theorem valBound : ∀ (cs : List Nat), AllDigits cs → digitsVal cs < 10 ^ cs.length := by
 intro cs
 induction cs with
 | nil => intro _; decide
 | cons c r ih =>
  intro h
  have h1 := ih (fun d hd => h d (List.mem_cons_of_mem _ hd))
  have h2 := h c List.mem_cons_self
  have e := val_append [c] r
  have e2 : digitsVal [c] = c - 48 := by unfold digitsVal; simp
  rw [List.singleton_append, e2] at e
  rw [e, List.length_cons, Nat.pow_succ]
  have : (c - 48) * 10 ^ r.length ≤ 9 * 10 ^ r.length := Nat.mul_le_mul_right _ (by omega)
  omega
end Dig
namespace Lw
open PySem L2 Frac
theorem bAbs : bootBuiltins "abs" = some (.builtin "abs") := by decide +kernel
theorem bIsi : bootBuiltins "isinstance" = some (.builtin "isinstance") := by decide +kernel
theorem bTup : bootBuiltins "tuple" = some (.type "tuple") := by decide +kernel
theorem bBool : bootBuiltins "bool" = some (.type "bool") := by decide +kernel
theorem bInt : bootBuiltins "int" = some (.type "int") := by decide +kernel
theorem bMax : bootBuiltins "max" = some (.builtin "max") := by decide +kernel
theorem bSum : bootBuiltins "sum" = some (.builtin "sum") := by decide +kernel
theorem bAll : bootBuiltins "all" = some (.builtin "all") := by decide +kernel
theorem w0 {i : Int} (h : i.natAbs < 10 ^ 100) : i.natAbs < 2 ^ 4000 := Nat.lt_of_lt_of_le h (by decide +kernel)
theorem mw {i j : Int} (h : i.natAbs < 10 ^ 100) (h' : j.natAbs < 10 ^ 100) : CMulW i j := ⟨w0 h, w0 h'⟩
theorem mulb {i j : Int} {a b : Nat} (h : i.natAbs ≤ a) (h' : j.natAbs ≤ b) : (i * j).natAbs ≤ a * b := by
 rw [Int.natAbs_mul]; exact Nat.mul_le_mul h h'
structure DeckAt (H : Hp) (d c : Addr) : Prop where
 ex : ∃ (k : Int) (ns : List Int), H d = some (.lst [.ref c, .int k]) ∧ H c = some (.lst (ns.map V.int)) ∧ 1 ≤ ns.length ∧ ns.length ≤ 64 ∧ 0 ≤ k
def KeptBut (d c : Addr) (H H' : Hp) : Prop := ∀ b o, H b = some o → b ≠ d → b ≠ c → H' b = some o
theorem KeptBut.trans {d c : Addr} {H H1 H2 : Hp} (a : KeptBut d c H H1) (b : KeptBut d c H1 H2) : KeptBut d c H H2 := fun x o e h1 h2 => b x o (a x o e h1 h2) h1 h2
theorem Same.but {d c : Addr} {H H' : Hp} (h : Same H H') : KeptBut d c H H' := fun b o e _ _ => h b o e
theorem DeckAt.same {H H' : Hp} {d c : Addr} (D : DeckAt H d c) (h : Same H H') : DeckAt H' d c := by
 obtain ⟨k, ns, h1, h2, r⟩ := D.ex
 exact ⟨k, ns, h _ _ h1, h _ _ h2, r⟩
theorem DeckAt.new {H : Hp} {d c p : Addr} {o : HO} (D : DeckAt H d c) (hp : H p = none) : DeckAt (upd H p o) d c := by
 refine D.same fun b u e => ?_
 rw [upd_ne (ne_of_none e hp)]; exact e
theorem same_new {H : Hp} {p : Addr} {o : HO} (hp : H p = none) : Same H (upd H p o) := fun b u e => by
 rw [upd_ne (ne_of_none e hp)]; exact e
theorem DeckAt.ne {H : Hp} {d c : Addr} (D : DeckAt H d c) : d ≠ c := by
 obtain ⟨k, ns, h1, h2, r⟩ := D.ex
 refine ne_of h1 h2 fun z => ?_
 have z' : [V.ref c, V.int k] = ns.map V.int := by injection z
 cases ns with
 | nil => cases z'
 | cons n r => injection z' with z1 _; cases z1
theorem DeckAt.free {H : Hp} {d c p : Addr} (D : DeckAt H d c) (hp : H p = none) : p ≠ d ∧ p ≠ c := by
 obtain ⟨k, ns, h1, h2, r⟩ := D.ex
 exact ⟨Ne.symm (ne_of_none h1 hp), Ne.symm (ne_of_none h2 hp)⟩
theorem atI_ints {ns : List Int} {i : Int} (h0 : 0 ≤ i) (h1 : i < ns.length) : ∃ z j, atI (ns.map V.int) i = some (V.int z) ∧ ixN (ns.map V.int).length i = some j ∧ j < ns.length := by
 have hj : i.toNat < ns.length := by omega
 have e : i = (i.toNat : Int) := by omega
 refine ⟨ns[i.toNat], i.toNat, ?_, ?_, hj⟩
 ·have q := atI_nat (xs := ns.map V.int) (j := i.toNat) (v := V.int ns[i.toNat]) (by rw [List.getElem?_map, List.getElem?_eq_getElem hj]; rfl)
  rw [← e] at q
  exact q
 ·unfold ixN
  rw [if_pos h0, if_pos (by rw [List.length_map]; exact h1)]
theorem set_ints (ns : List Int) (j : Nat) (z : Int) : (ns.map V.int).set j (V.int z) = (ns.set j z).map V.int := by rw [List.map_set]
theorem cut63 {ns : List Int} (h : ns.length ≤ 63) : cutV (ns.map V.int) none (some 63) = ns.map V.int := by
 unfold cutV
 have e1 : HT.sIx (ns.map V.int).length 0 none = 0 := rfl
 have e2 : HT.sIx (ns.map V.int).length (ns.map V.int).length (some (63 : Int)) = ns.length := by
  have := HT.sIx_nat (ns.map V.int).length (ns.map V.int).length 63
  rw [List.length_map] at this ⊢
  rw [show ((63 : Nat) : Int) = 63 from rfl] at this
  rw [this]; omega
 rw [e1, e2, List.drop_zero, Nat.sub_zero]
 exact List.take_of_length_le (by rw [List.length_map]; exact Nat.le_refl _)
def spTake : Sp := fun vs H Q _ => ∃ (d c : Addr) (many : Int), vs = [.ref d, .int many] ∧ DeckAt H d c ∧ (1 ≤ many ∧ many.natAbs < 10 ^ 100) ∧
 ∀ (r : Int) (H' : Hp), 0 ≤ r → r < many → DeckAt H' d c → KeptBut d c H H' → Q (.int r) H'
def spDeck (K : PySem.W.Frag) : Sp := fun vs H Q _ => ∃ (a : Addr) (ns : List Int), vs = [.ref a] ∧ SqL K H a (ns.map V.int) ∧ ns.length ≤ 63 ∧
 ∀ (d c : Addr) (H' : Hp), DeckAt H' d c → H d = none → H c = none → Same H H' → Q (.ref d) H'
def spCommon : Sp := fun vs H Q _ => ∃ a b : Int, vs = [.int a, .int b] ∧ 0 ≤ a ∧ 0 ≤ b ∧ Q (.int (Int.gcd a b)) H
def spCD : Sp := fun vs H Q _ => ∃ a b : Int, vs = [.int a, .int b] ∧ Q (.int (Int.gcd a b)) H
def spLeast : Sp := fun vs H Q _ => ∃ a b : Int, vs = [.int a, .int b] ∧ b ≠ 0 ∧ (a.natAbs < 10 ^ 100 ∧ b.natAbs < 10 ^ 100) ∧
 ∀ p, H p = none → Q (.ref p) (upd H p (.tup [.int (norm a b).1, .int (norm a b).2]))
def spWhole : Sp := fun vs H Q _ => ∃ (d c : Addr), vs = [.ref d] ∧ DeckAt H d c ∧
 ∀ (r : Int) (H' : Hp), 0 ≤ r → r < 10 ^ 20 → DeckAt H' d c → KeptBut d c H H' → Q (.int r) H'
def spNumber : Sp := fun vs H Q _ => ∃ (d c : Addr), vs = [.ref d] ∧ DeckAt H d c ∧
 ∀ (x y : Int) (p : Addr) (H' : Hp), 1 ≤ y → Int.gcd x y = 1 → x.natAbs < 10 ^ 20 → y.natAbs ≤ 10 ^ 20 → H p = none → H' p = some (.tup [.int x, .int y]) → DeckAt H' d c → KeptBut d c H H' → Q (.ref p) H'
def spLaw (K : PySem.W.Frag) : Sp := fun vs H Q _ => ∃ (a : Addr) (ns : List Int), vs = [.ref a] ∧ SqL K H a (ns.map V.int) ∧ ns.length ≤ 63 ∧ ∀ H', Q (.bl true) H'
end Lw
namespace L2
open PySem PySem.Spec PyProof.Rows
section
variable {X : Cx}
theorem mt_find : MtR X "str.find" (fun x vs H Q => ∃ a b, x = .str a ∧ vs = [.str b] ∧ Q (.int (Txt.find a b)) H) := by
 intro pins s σ H x vs v us Q I rx rv h
 obtain ⟨a, b, rfl, rfl, q⟩ := h
 obtain ⟨t, rfl⟩ := rx
 obtain ⟨w1, rfl, u, rfl⟩ := rv.one
 exact SC.find ⟨.int (Txt.find a b), H, I.tok _, ⟨_, rfl⟩, q⟩
end
end L2
namespace L2
open PySem PySem.Spec PyProof.Rows
section
variable {K : PySem.W.Frag} {σ : St} {G : Hp} {ta tb : TE}
theorem ev_addS {x y : Str} (ha : Ev K ta σ G (.str x)) (hb : Ev K tb σ G (.str y)) (hz : x.length + y.length ≤ sizeLine) :
  Ev K (tOp (fun x y H Q => ∃ i j, x = .str i ∧ y = .str j ∧ i.length + j.length ≤ sizeLine ∧ Q (.str (i ++ j)) H) ta tb) σ G (.str (x ++ y)) :=
 ev_op ha hb fun G1 H u v Q s1 s2 hu hv k => ⟨x, y, hu.str, hv.str, hz, k _ G1 H (Grow.refl s2) (dat_str _)⟩
theorem ev_strI {t : TA} {i : Int} (h : EvA K t σ G [.int i]) (hz : i.natAbs.log2 < 1920) : Ev K (tCB (fun xs H Q => ∃ i, xs = [.int i] ∧ i.natAbs.log2 < 1920 ∧ Q (.str (toString i)) H) t) σ G (.str (Str.ofString (toString i))) :=
 ev_cb h fun G1 H xs Q s1 s2 hx k => by
  obtain ⟨y, r, rfl, hy, hr⟩ := hx.cons
  cases hr.nil
  cases hy.int
  exact ⟨i, rfl, hz, k _ G1 H (Grow.refl s2) (dat_str _)⟩
theorem ev_intB {t : TA} {b : Bool} (h : EvA K t σ G [.bool b]) : Ev K (tCB (fun xs H Q => (∃ i, xs = [.int i] ∧ Q (.int i) H) ∨ ∃ k, xs = [.bl k] ∧ Q (.int (if k then 1 else 0)) H) t) σ G (.int (if b then 1 else 0)) :=
 ev_cb h fun G1 H xs Q s1 s2 hx k => by
  obtain ⟨y, r, rfl, hy, hr⟩ := hx.cons
  cases hr.nil
  cases hy.bl
  exact .inr ⟨b, rfl, k _ G1 H (Grow.refl s2) (dat_int _)⟩
end
end L2
namespace L2
open PySem PySem.Spec PyProof.Rows Lw
structure Tg where
 ok : Addr → List Addr → Hp → Hp → Prop
 st : ∀ {p : Addr} {fp : List Addr} {G H G' H' : Hp}, ok p fp G H → Same G G' → (∀ a ∈ p :: fp, H' a = H a) → ok p fp G' H'
 live : ∀ {p : Addr} {fp : List Addr} {G H : Hp}, ok p fp G H → ∀ a ∈ p :: fp, ∃ o, H a = some o
inductive PV where
 | un
 | dat (d : PyData)
 | own (ds : List PyData)
 | lnt (p : Addr) (ds : List PyData)
 | scr (ns : List Int)
 | thg (T : Tg)
def PV.rd : PV → Option (List PyData)
 | .own ds => some ds
 | .lnt _ ds => some ds
 | _ => none
def PV.mut : PV → Bool
 | .un => false
 | .dat _ => false
 | .scr _ => false
 | _ => true
theorem PV.rd_mut {v : PV} {ds : List PyData} (h : v.rd = some ds) : v.mut = true := by cases v <;> first | rfl | cases h
def Sl (K : PySem.W.Frag) (G H : Hp) (o : Option (Option V)) : PV → List Addr → Prop
 | .un, F => F = []
 | .dat d, F => F = [] ∧ ∃ x, o = some (some x) ∧ Dat K G x d
 | .own ds, F => ∃ p xs, F = [p] ∧ o = some (some (.ref p)) ∧ H p = some (.lst xs) ∧ Dats K G xs ds
 | .lnt p ds, F => ∃ xs, F = [p] ∧ o = some (some (.ref p)) ∧ H p = some (.lst xs) ∧ Dats K G xs ds
 | .scr ns, F => F = [] ∧ ∃ a, o = some (some (.ref a)) ∧ SqL K G a (ns.map V.int)
 | .thg T, F => ∃ p fp, F = p :: fp ∧ o = some (some (.ref p)) ∧ T.ok p fp G H
theorem Sl.rd {K : PySem.W.Frag} {G H : Hp} {o : Option (Option V)} {v : PV} {F : List Addr} {ds : List PyData} (s : Sl K G H o v F) (h : v.rd = some ds) : ∃ p xs, F = [p] ∧ o = some (some (.ref p)) ∧ H p = some (.lst xs) ∧ Dats K G xs ds := by
 cases v with
 | own es => cases h; exact s
 | lnt p es => cases h; exact ⟨p, s⟩
 | _ => cases h
structure Gw (E : Addr → Prop) (G0 H0 G H : Hp) : Prop where
 gg : Same G0 G
 gh : Same G H
 kp : ∀ b o, ¬ E b → H0 b = some o → H b = some o
 al : ∀ b, H b = none → H0 b = none
 fr : ∀ b o, G b = some o → G0 b = some o ∨ H0 b = none
structure Rl (K : PySem.W.Frag) (B : Hp) (E : Addr → Prop) (G0 H0 G H : Hp) (σ : St) (ρ : List PV) (F : Nat → List Addr) : Prop where
 g : Gw E G0 H0 G H
 bb : Same B G
 ls : σ.length = ρ.length
 sl : ∀ i v, ρ[i]? = some v → Sl K G H σ[i]? v (F i)
 fr : ∀ i a, a ∈ F i → G a = none ∧ (∃ o, H a = some o) ∧ (E a ∨ H0 a = none)
 dj : ∀ i j a, a ∈ F i → a ∈ F j → i = j
 ow : ∀ i ds a, ρ[i]? = some (.own ds) → a ∈ F i → H0 a = none
structure Nw (G H H0 : Hp) (F : Nat → List Addr) (Fv : List Addr) : Prop where
 fr : ∀ a ∈ Fv, G a = none ∧ (∃ o, H a = some o) ∧ H0 a = none
 dj : ∀ a ∈ Fv, ∀ j, a ∉ F j
section
variable {K : PySem.W.Frag} {B : Hp} {E : Addr → Prop} {G0 H0 G H G' H' : Hp} {σ : St} {ρ : List PV} {F : Nat → List Addr}
theorem Gw.refl (s : Same G H) : Gw E G H G H := ⟨Same.refl _, s, fun _ _ _ h => h, fun _ h => h, fun _ _ h => .inl h⟩
theorem Gw.grow (g : Gw E G0 H0 G H) (k : Grow G H G' H') : Gw E G0 H0 G' H' :=
 ⟨g.gg.trans k.gg, k.gh, fun b o n h => k.hh b o (g.kp b o n h), fun b h => g.al b (k.hh.free h), fun b o h => (k.fr b o h).elim (g.fr b o) fun z => .inr (g.al b z)⟩
theorem Gw.toGrow (g : Gw (fun _ => False) G0 H0 G H) : Grow G0 H0 G H := ⟨g.gg, g.gh, fun b o h => g.kp b o (fun z => z) h, g.fr⟩
theorem Sl.grow {o : Option (Option V)} {v : PV} {L : List Addr} (s : Sl K G H o v L) (gg : Same G G') (hh : ∀ a ∈ L, H' a = H a) : Sl K G' H' o v L := by
 cases v with
 | un => exact s
 | dat d => obtain ⟨e, x, hx, hd⟩ := s; exact ⟨e, x, hx, hd.same gg⟩
 | own ds =>
  obtain ⟨p, xs, e, hx, hp, hd⟩ := s
  exact ⟨p, xs, e, hx, by rw [hh p (by rw [e]; simp)]; exact hp, hd.same gg⟩
 | lnt p ds =>
  obtain ⟨xs, e, hx, hp, hd⟩ := s
  exact ⟨xs, e, hx, by rw [hh p (by rw [e]; simp)]; exact hp, hd.same gg⟩
 | scr ns => obtain ⟨e, a, hx, hq⟩ := s; exact ⟨e, a, hx, gg.seq hq⟩
 | thg T =>
  obtain ⟨p, fp, e, hx, ht⟩ := s
  exact ⟨p, fp, e, hx, T.st ht gg (by rw [← e]; exact hh)⟩
theorem Rl.grow (r : Rl K B E G0 H0 G H σ ρ F) (k : Grow G H G' H') : Rl K B E G0 H0 G' H' σ ρ F := by
 have hh : ∀ i, ∀ a ∈ F i, H' a = H a := fun i a ha => by
  obtain ⟨_, ⟨o, ho⟩, _⟩ := r.fr i a ha
  rw [ho]; exact k.hh a o ho
 refine ⟨r.g.grow k, r.bb.trans k.gg, r.ls, fun i v h => (r.sl i v h).grow k.gg (hh i), fun i a ha => ?_, r.dj, r.ow⟩
 obtain ⟨h1, ⟨o, h2⟩, h3⟩ := r.fr i a ha
 exact ⟨k.out h2 h1, ⟨o, k.hh a o h2⟩, h3⟩
theorem Rl.set {i : Nat} {v : V} {r : PV} {L : List Addr} (R : Rl K B E G0 H0 G H σ ρ F) (s : Sl K G H (some (some v)) r L) (n : Nw G H H0 F L) : Rl K B E G0 H0 G H (σ.set i (some v)) (ρ.set i r) (fun k => if k = i then L else F k) := by
 refine ⟨R.g, R.bb, by rw [List.length_set, List.length_set, R.ls], fun k u h => ?_, fun k a ha => ?_, fun k j a ha hb => ?_, fun k ds a h ha => ?_⟩
 ·by_cases e : k = i
  ·subst e
   rw [if_pos rfl]
   have hk : k < ρ.length := by
    have := (List.getElem?_eq_some_iff.mp h).1
    rw [List.length_set] at this; exact this
   rw [List.getElem?_set_self hk] at h
   cases h
   rw [List.getElem?_set_self (by rw [R.ls]; exact hk)]
   exact s
  ·rw [if_neg e]
   rw [List.getElem?_set_ne (Ne.symm e)] at h ⊢
   exact R.sl k u h
 ·by_cases e : k = i
  ·rw [if_pos e] at ha
   obtain ⟨h1, h2, h3⟩ := n.fr a ha
   exact ⟨h1, h2, .inr h3⟩
  ·rw [if_neg e] at ha; exact R.fr k a ha
 ·by_cases e : k = i
  ·by_cases e' : j = i
   ·rw [e, e']
   ·rw [if_pos e] at ha; rw [if_neg e'] at hb
    exact absurd hb (n.dj a ha j)
  ·by_cases e' : j = i
   ·rw [if_neg e] at ha; rw [if_pos e'] at hb
    exact absurd ha (n.dj a hb k)
   ·rw [if_neg e] at ha; rw [if_neg e'] at hb; exact R.dj k j a ha hb
 ·by_cases e : k = i
  ·rw [if_pos e] at ha; exact (n.fr a ha).2.2
  ·rw [if_neg e] at ha
   rw [List.getElem?_set_ne (Ne.symm e)] at h
   exact R.ow k ds a h ha
theorem nw_nil : Nw G H H0 F [] := ⟨fun _ h => (by cases h), fun _ h => (by cases h)⟩
theorem Rl.setD {i : Nat} {v : V} {d : PyData} (R : Rl K B E G0 H0 G H σ ρ F) (s : Dat K G v d) : Rl K B E G0 H0 G H (σ.set i (some v)) (ρ.set i (.dat d)) (fun k => if k = i then [] else F k) :=
 R.set ⟨rfl, v, rfl, s⟩ nw_nil
def Rx (K : PySem.W.Frag) (B : Hp) (G : Hp) (σ : St) (ρ : List PV) : Prop := Same B G ∧ (∀ (i : Nat) (d : PyData), ρ[i]? = some (PV.dat d) → ∃ x, σ[i]? = some (some x) ∧ Dat K G x d) ∧ (∀ (i : Nat) (v : PV) (ds : List PyData), ρ[i]? = some v → v.rd = some ds → ∃ x, σ[i]? = some (some x) ∧ Dat K G x (.list ds)) ∧ (∀ (i : Nat) (T : Tg), ρ[i]? = some (PV.thg T) → ∃ p fp, σ[i]? = some (some (.ref p)) ∧ T.ok p fp G G) ∧ ∀ (i : Nat) (ns : List Int), ρ[i]? = some (PV.scr ns) → ∃ a, σ[i]? = some (some (.ref a)) ∧ SqL K G a (ns.map V.int)
def Er (K : PySem.W.Frag) (B : Hp) (t : TE) (ρ : List PV) (d : PyData) : Prop := ∀ G σ, Rx K B G σ ρ → Ev K t σ G d
def Et (K : PySem.W.Frag) (B : Hp) (t : TT) (ρ : List PV) (b : Bool) : Prop := ∀ G σ, Rx K B G σ ρ → EvT t σ G b
def Ea (K : PySem.W.Frag) (B : Hp) (t : TA) (ρ : List PV) (ds : List PyData) : Prop := ∀ G σ, Rx K B G σ ρ → EvA K t σ G ds
def PV.msk : PV → PV
 | .dat d => .dat d
 | .scr ns => .scr ns
 | _ => .un
abbrev msk (ρ : List PV) : List PV := ρ.map PV.msk
theorem Rl.rx (R : Rl K B E G0 H0 G H σ ρ F) : Rx K B G σ (msk ρ) := by
 refine ⟨R.bb, ?_, ?_, ?_, ?_⟩
 ·intro i d h
  rw [List.getElem?_map] at h
  cases e : ρ[i]? with
  | none => rw [e] at h; cases h
  | some v =>
   rw [e] at h
   cases v with
   | dat d' =>
    cases h
    exact (R.sl i _ e).2
   | _ => cases h
 ·intro i u ds h hu
  rw [List.getElem?_map] at h
  cases e : ρ[i]? with
  | none => rw [e] at h; cases h
  | some v =>
   rw [e] at h
   cases v <;> cases h <;> cases hu
 ·intro i T h
  rw [List.getElem?_map] at h
  cases e : ρ[i]? with
  | none => rw [e] at h; cases h
  | some v => rw [e] at h; cases v <;> cases h
 ·intro i ns h
  rw [List.getElem?_map] at h
  cases e : ρ[i]? with
  | none => rw [e] at h; cases h
  | some v =>
   rw [e] at h
   cases v with
   | scr ms => cases h; exact (R.sl i _ e).2
   | _ => cases h
open Classical in
noncomputable def gPl (ρ : List PV) (F : Nat → List Addr) (G H : Hp) : Hp := fun b => if ∃ i v, ρ[i]? = some v ∧ v.mut = true ∧ b ∈ F i then H b else G b
theorem Rl.gpl (R : Rl K B E G0 H0 G H σ ρ F) : Same G (gPl ρ F G H) ∧ Same (gPl ρ F G H) H ∧ Rx K B (gPl ρ F G H) σ ρ := by
 have s1 : Same G (gPl ρ F G H) := fun b o h => by
  unfold gPl
  split
  ·exact R.g.gh b o h
  ·exact h
 refine ⟨s1, fun b o h => ?_, R.bb.trans s1, fun i d h => ?_, fun i v ds h hv => ?_, fun i T h => ?_, fun i ns h => ?_⟩
 ·unfold gPl at h
  split at h
  ·exact h
  ·exact R.g.gh b o h
 ·obtain ⟨_, x, hx, hd⟩ := R.sl i _ h
  exact ⟨x, hx, hd.same s1⟩
 ·obtain ⟨p, xs, e, hx, hp, hd⟩ := (R.sl i _ h).rd hv
  refine ⟨_, hx, dat_lst (xs := xs) ?_ (hd.same s1)⟩
  unfold gPl
  rw [if_pos ⟨i, v, h, PV.rd_mut hv, by rw [e]; simp⟩]
  exact hp
 ·obtain ⟨p, fp, e, hx, ht⟩ := R.sl i _ h
  refine ⟨p, fp, hx, T.st ht s1 fun a ha => ?_⟩
  unfold gPl
  rw [if_pos ⟨i, _, h, rfl, by rw [e]; exact ha⟩]
 ·obtain ⟨_, a, hx, hq⟩ := R.sl i _ h
  exact ⟨a, hx, s1.seq hq⟩
def flat : PyData → Bool
 | .none | .bool _ | .int _ | .str _ => true
 | _ => false
theorem Dat.flat {v : V} {d : PyData} (h : Dat K G v d) (f : flat d = true) (G' : Hp) : Dat K G' v d := by
 cases d with
 | none => rw [h.non]; exact dat_non
 | bool b => rw [h.bl]; exact dat_bl b
 | int i => rw [h.int]; exact dat_int i
 | str x => rw [h.str]; exact dat_str x
 | list _ => cases f
 | tuple _ => cases f
 | dict _ => cases f
def Ex (K : PySem.W.Frag) (B : Hp) (t : TE) (ρ : List PV) (d : PyData) : Prop := ∀ E G0 H0 G H σ F, Rl K B E G0 H0 G H σ ρ F → ∀ Q : VK, (∀ v G' H', Grow G H G' H' → Dat K G' v d → Q v H') → t σ H Q
theorem ex_er {t : TE} {d : PyData} (h : Er K B t (msk ρ) d) : Ex K B t ρ d := fun _ _ _ G H σ F R Q k => h G σ R.rx G H (Same.refl _) R.g.gh Q k
theorem ex_flat {t : TE} {d : PyData} (h : Er K B t ρ d) (f : flat d = true) : Ex K B t ρ d := fun _ _ _ G H σ F R Q k => by
 obtain ⟨s1, s2, x⟩ := R.gpl
 exact h _ σ x _ H (Same.refl _) s2 Q fun v G' H' g hv => k v G H' (grow_h R.g.gh g.hh) (hv.flat f G)
def Eg (K : PySem.W.Frag) (B : Hp) (t : TE) (ρ : List PV) (R : PV → List PV → Prop) : Prop := ∀ E G0 H0 G H σ F, Rl K B E G0 H0 G H σ ρ F → ∀ Q : VK,
 (∀ v r ρ' G' H' F' L, R r ρ' → Same G G' → Rl K B E G0 H0 G' H' σ ρ' F' → Sl K G' H' (some (some v)) r L → Nw G' H' H0 F' L → Q v H') → t σ H Q
theorem eg_ex {t : TE} {d : PyData} {R : PV → List PV → Prop} (h : Ex K B t ρ d) (k : R (.dat d) ρ) : Eg K B t ρ R := fun E G0 H0 G H σ F r Q q => h E G0 H0 G H σ F r Q fun v G' H' g hv => q v _ ρ G' H' F [] k g.gg (r.grow g) ⟨rfl, v, rfl, hv⟩ nw_nil
theorem eg_er {t : TE} {d : PyData} {R : PV → List PV → Prop} (h : Er K B t (msk ρ) d) (k : R (.dat d) ρ) : Eg K B t ρ R := eg_ex (ex_er h) k
theorem eg_flat {t : TE} {d : PyData} {R : PV → List PV → Prop} (h : Er K B t ρ d) (f : flat d = true) (k : R (.dat d) ρ) : Eg K B t ρ R := eg_ex (ex_flat h f) k
theorem Rl.newL {p : Addr} {xs : List V} {ds : List PyData} (R : Rl K B E G0 H0 G H σ ρ F) (hp : H p = none) (hd : Dats K G xs ds) : Rl K B E G0 H0 G (upd H p (.lst xs)) σ ρ F ∧ Sl K G (upd H p (.lst xs)) (some (some (.ref p))) (.own ds) [p] ∧ Nw G (upd H p (.lst xs)) H0 F [p] := by
 have gp : G p = none := R.g.gh.free hp
 refine ⟨R.grow (grow_h R.g.gh (same_new hp)), ⟨p, xs, rfl, rfl, upd_same, hd⟩, fun a ha => ?_, fun a ha j hj => ?_⟩
 ·rw [List.mem_singleton.mp ha]
  exact ⟨gp, ⟨_, upd_same⟩, R.g.al p hp⟩
 ·rw [List.mem_singleton.mp ha] at hj
  obtain ⟨_, ⟨o, h⟩, _⟩ := R.fr j p hj
  rw [hp] at h; cases h
structure Pn where
 nx : List PV → Prop
 rt : PV → List PV → Prop
 bk : List PV → Prop := fun _ => False
 ct : List PV → Prop := fun _ => False
structure Dn (K : PySem.W.Frag) (B : Hp) (E : Addr → Prop) (G0 H0 Gs : Hp) (R : Pn) (D : Ends) : Prop where
 nx : ∀ {G H σ ρ F}, R.nx ρ → Same Gs G → Rl K B E G0 H0 G H σ ρ F → D.nx σ H
 rt : ∀ {v r G H σ ρ F L}, R.rt r ρ → Same Gs G → Rl K B E G0 H0 G H σ ρ F → Sl K G H (some (some v)) r L → Nw G H H0 F L → D.rt v H
 bk : ∀ {G H σ ρ F}, R.bk ρ → Same Gs G → Rl K B E G0 H0 G H σ ρ F → D.bk σ H
 ct : ∀ {G H σ ρ F}, R.ct ρ → Same Gs G → Rl K B E G0 H0 G H σ ρ F → D.ct σ H
theorem Dn.mono {Gs Gt : Hp} {R : Pn} {D : Ends} (d : Dn K B E G0 H0 Gs R D) (s : Same Gs Gt) : Dn K B E G0 H0 Gt R D := ⟨fun x y => d.nx x (s.trans y), fun x y => d.rt x (s.trans y), fun x y => d.bk x (s.trans y), fun x y => d.ct x (s.trans y)⟩
def Sv (K : PySem.W.Frag) (B : Hp) (t : TS) (ρ : List PV) (R : Pn) : Prop := ∀ E G0 H0 G H σ F D, Rl K B E G0 H0 G H σ ρ F → Dn K B E G0 H0 G R D → t D σ H
theorem sv_seq {t u : TS} {R : Pn} (h : Sv K B t ρ { R with nx := fun ρ' => Sv K B u ρ' R }) : Sv K B (tSeq t u) ρ R := fun E G0 H0 G H σ F D r d =>
 h E G0 H0 G H σ F { D with nx := u D } r ⟨fun hs s r' => hs E G0 H0 _ _ _ _ D r' (d.mono s), d.rt, d.bk, d.ct⟩
theorem sv_next {R : Pn} (h : R.nx ρ) : Sv K B tNext ρ R := fun E G0 H0 G H σ F D r d => d.nx h (Same.refl _) r
theorem sv_asg {te : TE} {i : Nat} {R : Pn} (h : Eg K B te ρ fun r ρ' => R.nx (ρ'.set i r)) : Sv K B (tAsg te (gName i)) ρ R := fun E G0 H0 G H σ F D r d =>
 h E G0 H0 G H σ F r _ fun v w ρ' G' H' F' L hR s r' sl n => d.nx hR s (r'.set sl n)
theorem sv_if {c : TT} {t u : TS} {b : Bool} {R : Pn} (h : Et K B c ρ b) (k1 : b = true → Sv K B t ρ R) (k2 : b = false → Sv K B u ρ R) : Sv K B (tIfS c t u) ρ R := fun E G0 H0 G H σ F D r d => by
 obtain ⟨s1, s2, x⟩ := r.gpl
 refine h _ σ x _ H (Same.refl _) s2 _ fun G' H' g => ?_
 have r' := r.grow (grow_h r.g.gh g.hh)
 cases b with
 | true => rw [if_pos rfl]; exact k1 rfl E G0 H0 _ _ σ F D r' d
 | false => rw [if_neg Bool.false_ne_true]; exact k2 rfl E G0 H0 _ _ σ F D r' d
theorem sv_ifT {c : TT} {t u : TS} {R : Pn} (h : Et K B c ρ true) (k1 : Sv K B t ρ R) : Sv K B (tIfS c t u) ρ R := sv_if h (fun _ => k1) fun z => (by cases z)
theorem sv_ifF {c : TT} {t u : TS} {R : Pn} (h : Et K B c ρ false) (k1 : Sv K B u ρ R) : Sv K B (tIfS c t u) ρ R := sv_if h (fun z => by cases z) fun _ => k1
theorem sv_ret {te : TE} {R : Pn} (h : Eg K B te ρ R.rt) : Sv K B (tRet te) ρ R := fun E G0 H0 G H σ F D r d =>
 h E G0 H0 G H σ F r _ fun v w ρ' G' H' F' L hR s r' sl n => d.rt hR s r' sl n
def PV.frz : PV → PV
 | .own ds => .dat (.list ds)
 | v => v
def PV.mlt : PV → PV
 | .dat d => .dat d
 | .scr ns => .scr ns
 | .own ds => .own ds
 | _ => .un
open Classical in
noncomputable def gFz (ρ : List PV) (F : Nat → List Addr) (G H : Hp) : Hp := fun b => if ∃ i ds, ρ[i]? = some (.own ds) ∧ b ∈ F i then H b else G b
theorem Rl.frz (R : Rl K B E G0 H0 G H σ ρ F) : ∃ F', Same G (gFz ρ F G H) ∧ Rx K B (gFz ρ F G H) σ (ρ.map PV.mlt) ∧ Rl K B E G0 H0 (gFz ρ F G H) H σ (ρ.map PV.frz) F' := by
 classical
 have s1 : Same G (gFz ρ F G H) := fun b o h => by
  unfold gFz
  split
  ·exact R.g.gh b o h
  ·exact h
 have s2 : Same (gFz ρ F G H) H := fun b o h => by
  unfold gFz at h
  split at h
  ·exact h
  ·exact R.g.gh b o h
 have ow : ∀ i ds, ρ[i]? = some (PV.own ds) → ∃ x, σ[i]? = some (some x) ∧ Dat K (gFz ρ F G H) x (.list ds) := fun i ds h => by
  obtain ⟨p, xs, e, hx, hp, hd⟩ := R.sl i _ h
  refine ⟨_, hx, dat_lst (xs := xs) ?_ (hd.same s1)⟩
  unfold gFz
  rw [if_pos ⟨i, ds, h, by rw [e]; simp⟩]
  exact hp
 refine ⟨fun k => if ∃ ds, ρ[k]? = some (.own ds) then [] else F k, s1, ⟨R.bb.trans s1, fun i d h => ?_, fun i u d h hu => ?_, fun i T h => ?_, fun i ns h => ?_⟩, ⟨R.g.gg.trans s1, s2, R.g.kp, R.g.al, fun b o h => ?_⟩, R.bb.trans s1, by rw [List.length_map, R.ls], fun i v h => ?_, fun i a ha => ?_, fun i j a ha hb => ?_, fun i ds a h ha => ?_⟩
 ·rw [List.getElem?_map] at h
  cases e : ρ[i]? with
  | none => rw [e] at h; cases h
  | some v =>
   rw [e] at h
   cases v with
   | dat d' =>
    cases h
    obtain ⟨_, x, hx, hd⟩ := R.sl i _ e
    exact ⟨x, hx, hd.same s1⟩
   | _ => cases h
 ·rw [List.getElem?_map] at h
  cases e : ρ[i]? with
  | none => rw [e] at h; cases h
  | some v =>
   rw [e] at h
   cases v with
   | own d' =>
    cases h; cases hu
    exact ow i _ e
   | _ => cases h <;> cases hu
 ·rw [List.getElem?_map] at h
  cases e : ρ[i]? with
  | none => rw [e] at h; cases h
  | some v => rw [e] at h; cases v <;> cases h
 ·rw [List.getElem?_map] at h
  cases e : ρ[i]? with
  | none => rw [e] at h; cases h
  | some v =>
   rw [e] at h
   cases v with
   | scr ms =>
    cases h
    obtain ⟨_, a, hx, hq⟩ := R.sl i _ e
    exact ⟨a, hx, s1.seq hq⟩
   | _ => cases h
 ·unfold gFz at h
  split at h
  ·rename_i z
   obtain ⟨i, ds, hi, hb⟩ := z
   exact .inr (R.ow i ds b hi hb)
  ·exact R.g.fr b o h
 ·rw [List.getElem?_map] at h
  cases e : ρ[i]? with
  | none => rw [e] at h; cases h
  | some u =>
   rw [e] at h
   have keep : Sl K G H σ[i]? u (F i) := R.sl i _ e
   cases u with
   | own ds =>
    cases h
    rw [if_pos ⟨ds, rfl⟩]
    exact ⟨rfl, ow i ds e⟩
   | _ =>
    cases h
    rw [if_neg (by rintro ⟨ds, z⟩; cases z)]
    exact keep.grow s1 (fun _ _ => rfl)
 ·split at ha
  ·cases ha
  ·rename_i hz
   obtain ⟨h1, h2, h3⟩ := R.fr i a ha
   refine ⟨?_, h2, h3⟩
   unfold gFz
   rw [if_neg ?_]
   ·exact h1
   ·rintro ⟨j, ds, hj, haj⟩
    have := R.dj i j a ha haj
    subst this
    exact hz ⟨ds, hj⟩
 ·split at ha
  ·cases ha
  ·split at hb
   ·cases hb
   ·exact R.dj i j a ha hb
 ·rw [List.getElem?_map] at h
  cases e : ρ[i]? with
  | none => rw [e] at h; cases h
  | some u => rw [e] at h; cases u <;> cases h
theorem sv_retF {te : TE} {d : PyData} {R : Pn} (h : Er K B te (ρ.map PV.mlt) d) (k : R.rt (.dat d) (ρ.map PV.frz)) : Sv K B (tRet te) ρ R := fun E G0 H0 G H σ F D r dn => by
 obtain ⟨F', s1, x, r'⟩ := r.frz
 exact h _ σ x _ H (Same.refl _) r'.g.gh _ fun v G' H' g hv => dn.rt k (s1.trans g.gg) (r'.grow g) ⟨rfl, v, rfl, hv⟩ nw_nil
end
end L2
namespace L2
open PySem PySem.Spec PyProof.Rows Lw
section
variable {K : PySem.W.Frag} {B : Hp} {E : Addr → Prop} {G0 H0 G H G' H' : Hp} {σ : St} {ρ : List PV} {F : Nat → List Addr} {ta tb te : TE} {a b d : PyData} {ds es : List PyData}
theorem Rx.mono (r : Rx K B G σ ρ) (s : Same G G') : Rx K B G' σ ρ :=
 ⟨r.1.trans s, fun i d h => let ⟨x, hx, hd⟩ := r.2.1 i d h; ⟨x, hx, hd.same s⟩, fun i v d h hv => let ⟨x, hx, hd⟩ := r.2.2.1 i v d h hv; ⟨x, hx, hd.same s⟩, fun i T h => let ⟨p, fp, hx, ht⟩ := r.2.2.2.1 i T h; ⟨p, fp, hx, T.st ht s fun a ha => by
  obtain ⟨o, ho⟩ := T.live ht a ha
  rw [ho, s a o ho]⟩, fun i ns h => let ⟨a, hx, hq⟩ := r.2.2.2.2 i ns h; ⟨a, hx, s.seq hq⟩⟩
theorem er_var {i : Nat} (h : ρ[i]? = some (.dat d)) : Er K B (tVar i) ρ d := fun G σ r => let ⟨x, hx, hd⟩ := r.2.1 i d h; ev_var hx hd
theorem er_own {i : Nat} {u : PV} (h : ρ[i]? = some u) (hu : u.rd = some ds) : Er K B (tVar i) ρ (.list ds) := fun G σ r => let ⟨x, hx, hd⟩ := r.2.2.1 i u ds h hu; ev_var hx hd
theorem er_int {i : Int} : Er K B (tC (.int i)) ρ (.int i) := fun _ _ _ => ev_int
theorem er_str {x : Str} : Er K B (tC (.str x)) ρ (.str x) := fun _ _ _ => ev_str
theorem er_bl {x : Bool} : Er K B (tC (.bl x)) ρ (.bool x) := fun _ _ _ => ev_bl
theorem er_non : Er K B (tC .non) ρ .none := fun _ _ _ => ev_non
theorem er_i0 {g : Int → Int → V} {i j : Int} (ha : Er K B ta ρ (.int i)) (hb : Er K B tb ρ (.int j)) (hg : ∀ G, Dat K G (g i j) d) : Er K B (tOp (rI0 g) ta tb) ρ d := fun G σ r => ev_i0 (ha G σ r) (hb G σ r) (hg G)
theorem er_iC {C : Int → Int → Prop} {g : Int → Int → V} {i j : Int} (ha : Er K B ta ρ (.int i)) (hb : Er K B tb ρ (.int j)) (hc : C i j) (hg : ∀ G, Dat K G (g i j) d) : Er K B (tOp (rI C g) ta tb) ρ d := fun G σ r => ev_iC (ha G σ r) (hb G σ r) hc (hg G)
theorem er_ixT {i : Int} {n : Nat} (ha : Er K B ta ρ (.tuple ds)) (hb : Er K B tb ρ (.int i)) (hn : ixN ds.length i = some n) (hd : ds[n]? = some d) : Er K B (tOp (rIxT K) ta tb) ρ d := fun G σ r => ev_ixT (ha G σ r) (hb G σ r) hn hd
theorem er_ixL {i : Int} {n : Nat} (ha : Er K B ta ρ (.list ds)) (hb : Er K B tb ρ (.int i)) (hn : ixN ds.length i = some n) (hd : ds[n]? = some d) : Er K B (tOp (rIxL K) ta tb) ρ d := fun G σ r => ev_ixL (ha G σ r) (hb G σ r) hn hd
theorem er_eqD {g : Bool → Bool} {n : Nat} (ha : Er K B ta ρ a) (hb : Er K B tb ρ b) (pa : Pl n a) (pb : Pl n b) (hn : n ≤ 64) : Er K B (tOp (rEqD K g) ta tb) ρ (.bool (g (PySem.Spec.same a b))) := fun G σ r => ev_eqD (ha G σ r) (hb G σ r) pa pb hn
theorem er_eqI {i j : Int} (ha : Er K B ta ρ (.int i)) (hb : Er K B tb ρ (.int j)) : Er K B (tOp rEq ta tb) ρ (.bool (decide (i = j))) := fun G σ r => ev_eqI (ha G σ r) (hb G σ r)
theorem ea_nil : Ea K B tNil ρ [] := fun _ _ _ => eva_nil
theorem ea_cons {t : TA} (ha : Er K B ta ρ a) (hb : Ea K B t ρ ds) : Ea K B (tCons ta t) ρ (a :: ds) := fun G σ r => eva_cons (ha G σ r) (hb G σ r)
theorem er_tup {t : TA} (h : Ea K B t ρ ds) (hl : ds.length ≤ sizeLine) : Er K B (tTup t) ρ (.tuple ds) := fun G σ r => ev_tup (h G σ r) hl
theorem er_lst {t : TA} (h : Ea K B t ρ ds) (hl : ds.length ≤ sizeLine) : Er K B (tLst t) ρ (.list ds) := fun G σ r => ev_lst (h G σ r) hl
theorem er_lenL {t : TA} (h : Ea K B t ρ [.list ds]) : Er K B (tCB (fun xs H Q => ∃ p ys, xs = [.ref p] ∧ (SqL K H p ys ∨ SqT K H p ys) ∧ Q (.int ys.length) H) t) ρ (.int ds.length) := fun G σ r => ev_lenL (h G σ r)
theorem et_test {t : TE} {c : Bool} (h : Er K B t ρ (.bool c)) : Et K B (tTest t) ρ c := fun G σ r => evt_test (h G σ r)
theorem et_b {t : TE} {c : Bool} (h : Er K B t ρ (.bool c)) : Et K B (tB t) ρ c := fun G σ r => evt_b (h G σ r)
theorem et_not {t : TT} {c : Bool} (h : Et K B t ρ c) : Et K B (tNot t) ρ (!c) := fun G σ r => evt_not (h G σ r)
theorem et_or {t u : TT} {c e : Bool} (h : Et K B t ρ c) (h' : c = false → Et K B u ρ e) : Et K B (tOr t u) ρ (c || e) := fun G σ r => evt_or (h G σ r) fun z => h' z G σ r
theorem et_and {t u : TT} {c e : Bool} (h : Et K B t ρ c) (h' : c = true → Et K B u ρ e) : Et K B (tAnd t u) ρ (c && e) := fun G σ r => evt_and (h G σ r) fun z => h' z G σ r
theorem et_c {t : TT} {c e : Bool} (h : Et K B t ρ c) (q : c = e) : Et K B t ρ e := q ▸ h
theorem et_noif : Et K B tNoIf ρ true := fun _ _ _ => evt_noif
theorem er_d {t : TE} {e : PyData} (h : Er K B t ρ d) (q : d = e) : Er K B t ρ e := q ▸ h
theorem er_and {c e : Bool} (h : Er K B ta ρ (.bool c)) (h' : c = true → Er K B tb ρ (.bool e)) : Er K B (tAndV ta tb) ρ (.bool (c && e)) := fun G σ r => ev_and (h G σ r) fun z => h' z G σ r
theorem er_call {R : List PyData → PyData → Prop} {X : XK} {t : TA} (h : Ea K B t ρ ds) (hR : R ds d) : Er K B (tCall (spP K R) [] X t) ρ d := fun G σ r => ev_call (h G σ r) hR
theorem er_isD {n : String} {c : Bool} (ha : Er K B ta ρ d) (e : PySem.W.kitOne K (.type (tyN d)) (.type n) = some c) : Er K B (tCB (rIsD K) (tCons ta (tCons (tC (.ty n)) tNil))) ρ (.bool c) := fun G σ r => ev_isD (ha G σ r) e
theorem er_isN (ha : Er K B ta ρ d) : Er K B (tOp (fun x y H Q => y = .non ∧ Q (.bl (decide (x = .non))) H) ta (tC .non)) ρ (.bool (match d with | .none => true | _ => false)) := fun G σ r => ev_op (ha G σ r) ev_non fun G1 H x y Q s1 s2 hx hy k => by
 refine ⟨hy.non, ?_⟩
 cases d with
 | none => rw [hx.non]; exact k _ G1 H (Grow.refl s2) (dat_bl _)
 | bool b => rw [hx.bl]; exact k _ G1 H (Grow.refl s2) (dat_bl _)
 | int i => rw [hx.int]; exact k _ G1 H (Grow.refl s2) (dat_bl _)
 | str s => rw [hx.str]; exact k _ G1 H (Grow.refl s2) (dat_bl _)
 | list l => obtain ⟨p, xs, rfl, _⟩ := hx.lst; exact k _ G1 H (Grow.refl s2) (dat_bl _)
 | tuple l => obtain ⟨p, xs, rfl, _⟩ := hx.tup; exact k _ G1 H (Grow.refl s2) (dat_bl _)
 | dict l => exact hx.elim
structure Wd (K : PySem.W.Frag) (J : It) (G : Hp) (ds : List PyData) : Prop where
 go : ∀ i H', Same G H' → i < ds.length → J.go i H'
 stop : ∀ i H', Same G H' → ds.length ≤ i → J.stop i H'
 yld : ∀ i H1 x H2 G1 d, Same G G1 → Same G1 H1 → ds[i]? = some d → J.yld i H1 x H2 → ∃ G2, Grow G1 H1 G2 H2 ∧ Dat K G2 x d
def Ei (K : PySem.W.Frag) (B : Hp) (wi : TI) (ρ : List PV) (ds : List PyData) : Prop := ∀ G H σ, Rx K B G σ ρ → Same G H → ∀ R : It → Hp → Prop, (∀ J G' H', Grow G H G' H' → Wd K J G' ds → R J H') → wi σ H R
theorem wd_range {lo : Int} {n : Nat} : Wd K (Itr lo n) G ((List.range n).map fun (i : Nat) => PyData.int (lo + i)) := by
 refine ⟨fun i H' _ h => by rw [List.length_map, List.length_range] at h; exact h, fun i H' _ h => by rw [List.length_map, List.length_range] at h; exact h, fun i H1 x H2 G1 d s1 s2 hd y => ?_⟩
 obtain ⟨rfl, rfl⟩ := y
 refine ⟨G1, Grow.refl s2, ?_⟩
 rw [List.getElem?_map] at hd
 by_cases h : i < n
 ·rw [List.getElem?_range h] at hd
  cases hd; exact dat_int _
 ·rw [List.getElem?_eq_none (by rw [List.length_range]; omega)] at hd; cases hd
theorem wd_lst {p : Addr} {xs : List V} (h : G p = some (.lst xs)) (hd : Dats K G xs ds) : Wd K (Itl K p) G ds := by
 refine ⟨fun i H' s hi => ⟨xs, _, SqL.of (s _ _ h), List.getElem?_eq_getElem (by rw [hd.length]; exact hi)⟩, fun i H' s hi => ⟨xs, SqL.of (s _ _ h), by rw [hd.length]; exact hi⟩, fun i H1 x H2 G1 d s1 s2 he y => ?_⟩
 obtain ⟨rfl, y⟩ := y
 obtain ⟨x', hx', hdx⟩ := hd.get he
 have := y xs (SqL.of (s2 _ _ (s1 _ _ h)))
 rw [hx'] at this; cases this
 exact ⟨G1, Grow.refl s2, hdx.same s1⟩
theorem wd_tup {p : Addr} {xs : List V} (h : SqT K G p xs) (hd : Dats K G xs ds) : Wd K (Itt K p) G ds := by
 refine ⟨fun i H' s hi => ⟨xs, _, s.tup h, List.getElem?_eq_getElem (by rw [hd.length]; exact hi)⟩, fun i H' s hi => ⟨xs, s.tup h, by rw [hd.length]; exact hi⟩, fun i H1 x H2 G1 d s1 s2 he y => ?_⟩
 obtain ⟨rfl, y⟩ := y
 obtain ⟨x', hx', hdx⟩ := hd.get he
 have := y xs (s2.tup (s1.tup h))
 rw [hx'] at this; cases this
 exact ⟨G1, Grow.refl s2, hdx.same s1⟩
theorem ei_lst (h : Er K B te ρ (.list ds)) : Ei K B (iList K te) ρ ds := fun G H σ r s R k => h G σ r G H (Same.refl _) s _ fun v G' H' g hv => by
 obtain ⟨p, xs, rfl, hp, hx⟩ := hv.lst
 exact ⟨p, rfl, ⟨xs, SqL.of (g.gh _ _ hp)⟩, k _ G' H' g (wd_lst hp hx)⟩
theorem ei_tup (h : Er K B te ρ (.tuple ds)) : Ei K B (iTup K te) ρ ds := fun G H σ r s R k => h G σ r G H (Same.refl _) s _ fun v G' H' g hv => by
 obtain ⟨p, xs, rfl, hp, hx⟩ := hv.tup
 exact ⟨p, rfl, ⟨xs, g.gh.tup hp⟩, k _ G' H' g (wd_tup hp hx)⟩
theorem ei_rng {t : TA} {j : Int} (h : Ea K B t ρ [.int j]) (hj : -(2 ^ 62) ≤ j ∧ j < 2 ^ 62) : Ei K B (iRng1 t) ρ ((List.range j.toNat).map fun (i : Nat) => PyData.int (0 + i)) := fun G H σ r s R k => h G σ r G H (Same.refl _) s _ fun vs G' H' g hv => by
 obtain ⟨y, ys, rfl, hy, r⟩ := hv.cons
 rw [r.nil, hy.int]
 exact ⟨j, rfl, hj.1, hj.2, k _ G' H' g wd_range⟩
def capP (ρ : List PV) (js : List Nat) : List PV := js.map fun j => (ρ[j]?).getD .un
theorem rx_cap {x : V} {js : List Nat} (r : Rx K B G σ ρ) (hd : Dat K G x d) : Rx K B G (some x :: capV σ js) (.dat d :: capP ρ js) := by
 refine ⟨r.1, fun i e h => ?_, fun i u e h hu => ?_, fun i T h => ?_, fun i ns h => ?_⟩
 ·cases i with
  | zero => cases h; exact ⟨x, rfl, hd⟩
  | succ i =>
   rw [List.getElem?_cons_succ] at h ⊢
   unfold capP at h
   unfold capV
   rw [List.getElem?_map] at h ⊢
   cases q : js[i]? with
   | none => rw [q] at h; cases h
   | some j =>
    rw [q] at h
    have h : (ρ[j]?).getD .un = .dat e := Option.some.inj h
    cases z : ρ[j]? with
    | none => rw [z] at h; cases h
    | some u =>
     rw [z] at h
     have h : u = .dat e := h
     subst h
     obtain ⟨y, hy, hyd⟩ := r.2.1 j e z
     exact ⟨y, by show some (σ[j]?).join = _; rw [hy]; rfl, hyd⟩
 ·cases i with
  | zero => cases h; cases hu
  | succ i =>
   rw [List.getElem?_cons_succ] at h ⊢
   unfold capP at h
   unfold capV
   rw [List.getElem?_map] at h ⊢
   cases q : js[i]? with
   | none => rw [q] at h; cases h
   | some j =>
    rw [q] at h
    have h : (ρ[j]?).getD .un = u := Option.some.inj h
    cases z : ρ[j]? with
    | none => rw [z] at h; subst h; cases hu
    | some u' =>
     rw [z] at h
     have h : u' = u := h
     subst h
     obtain ⟨y, hy, hyd⟩ := r.2.2.1 j u' e z hu
     exact ⟨y, by show some (σ[j]?).join = _; rw [hy]; rfl, hyd⟩
 ·cases i with
  | zero => cases h
  | succ i =>
   rw [List.getElem?_cons_succ] at h ⊢
   unfold capP at h
   unfold capV
   rw [List.getElem?_map] at h ⊢
   cases q : js[i]? with
   | none => rw [q] at h; cases h
   | some j =>
    rw [q] at h
    have h : (ρ[j]?).getD .un = .thg T := Option.some.inj h
    cases z : ρ[j]? with
    | none => rw [z] at h; cases h
    | some u' =>
     rw [z] at h
     have h : u' = .thg T := h
     subst h
     obtain ⟨p, fp, hy, hyd⟩ := r.2.2.2.1 j T z
     exact ⟨p, fp, by show some (σ[j]?).join = _; rw [hy]; rfl, hyd⟩
 ·cases i with
  | zero => cases h
  | succ i =>
   rw [List.getElem?_cons_succ] at h ⊢
   unfold capP at h
   unfold capV
   rw [List.getElem?_map] at h ⊢
   cases q : js[i]? with
   | none => rw [q] at h; cases h
   | some j =>
    rw [q] at h
    have h : (ρ[j]?).getD .un = .scr ns := Option.some.inj h
    cases z : ρ[j]? with
    | none => rw [z] at h; cases h
    | some u' =>
     rw [z] at h
     have h : u' = .scr ns := h
     subst h
     obtain ⟨p, hy, hyd⟩ := r.2.2.2.2 j ns z
     exact ⟨p, by show some (σ[j]?).join = _; rw [hy]; rfl, hyd⟩
def Lcx (K : PySem.W.Frag) (B : Hp) (tt : TT) (te : TE) (ρ : List PV) (o : Option PyData) : Prop := (∃ d, o = some d ∧ Et K B tt ρ true ∧ Er K B te ρ d) ∨ (o = none ∧ Et K B tt ρ false)
theorem lx1 {tt : TT} (ht : Et K B tt ρ true) (he : Er K B te ρ d) : Lcx K B tt te ρ (some d) := .inl ⟨d, rfl, ht, he⟩
theorem lx0 {tt : TT} (ht : Et K B tt ρ false) : Lcx K B tt te ρ none := .inr ⟨rfl, ht⟩
theorem lc_own {α : Type} {wi : TI} {js : List Nat} {tt : TT} (as : List α) (enc : α → PyData) (f : α → Option PyData) (h : Ei K B wi ρ (as.map enc)) (hn : as.length < sizeLine) (hc : ∀ a ∈ as, Lcx K B tt te (.dat (enc a) :: capP ρ js) (f a))
  (r : Rx K B G σ ρ) (s : Same G H) {Q : VK} (k : ∀ p xs G' H', Grow G H G' H' → H' p = none → Dats K G' xs (as.filterMap f) → Q (.ref p) (upd H' p (.lst xs))) : tLC wi js tt te σ H Q := by
 refine h G H σ r s _ fun J G2 H2 g2 W => ?_
 have fl : ∀ i (hi : i < as.length), ((as.take (i + 1)).filterMap f) = (as.take i).filterMap f ++ (f as[i]).toList := fun i hi => by
  rw [List.take_succ, List.filterMap_append, List.getElem?_eq_getElem hi]
  show _ ++ List.filterMap f [as[i]] = _
  rw [List.filterMap_cons]
  cases f as[i] <;> rfl
 refine ⟨fun i m ys H' => m = as.length - i ∧ i ≤ as.length ∧ ys.length ≤ i ∧ ∃ G', Grow G2 H2 G' H' ∧ Dats K G' ys ((as.take i).filterMap f), ⟨as.length, by omega, by omega, by simp, G2, Grow.refl g2.gh, by simpa using dats_nil⟩, ?_⟩
 rintro i m ys H' ⟨rfl, hi, hl, G', g', hys⟩
 refine ⟨by omega, ?_⟩
 have sgh : Same G2 H' := g'.gg.trans g'.gh
 by_cases hin : i = as.length
 ·subst hin
  refine .inl ⟨W.stop _ H' sgh (by rw [List.length_map]; exact Nat.le_refl _), fun p hp => ?_⟩
  rw [List.take_length] at hys
  exact k p ys G' H' (g2.trans g') hp hys
 ·have hi' : i < as.length := by omega
  refine .inr ⟨W.go i H' sgh (by rw [List.length_map]; exact hi'), fun x H'' hy => ?_⟩
  obtain ⟨G3, g3, hx⟩ := W.yld i H' x H'' G' (enc as[i]) g'.gg g'.gh (by rw [List.getElem?_map, List.getElem?_eq_getElem hi']; rfl) hy
  have rx := rx_cap (js := js) ((r.mono (g2.gg.trans g'.gg)).mono g3.gg) hx
  rcases hc as[i] (List.getElem_mem hi') with ⟨d, hf, ht, he⟩ | ⟨hf, ht⟩
  ·refine ht _ _ rx G3 H'' (Same.refl _) g3.gh _ fun G4 H4 g4 => ?_
   rw [if_pos rfl]
   refine he _ _ (rx.mono g4.gg) G4 H4 (Same.refl _) g4.gh _ fun v G5 H5 g5 hv => ⟨as.length - (i + 1), by omega, rfl, by omega, by rw [List.length_append]; show ys.length + 1 ≤ i + 1; omega, G5, ((g'.trans g3).trans g4).trans g5, ?_⟩
   rw [fl i hi', hf]
   exact dats_snoc (hys.same ((g3.gg.trans g4.gg).trans g5.gg)) hv
  ·refine ht _ _ rx G3 H'' (Same.refl _) g3.gh _ fun G4 H4 g4 => ?_
   rw [if_neg Bool.false_ne_true]
   refine ⟨as.length - (i + 1), by omega, rfl, by omega, by omega, G4, (g'.trans g3).trans g4, ?_⟩
   rw [fl i hi', hf]
   show Dats K G4 ys (_ ++ [])
   rw [List.append_nil]
   exact hys.same (g3.gg.trans g4.gg)
theorem er_lc {α : Type} {wi : TI} {js : List Nat} {tt : TT} (as : List α) (enc : α → PyData) (f : α → Option PyData) (h : Ei K B wi ρ (as.map enc)) (hn : as.length < sizeLine) (hc : ∀ a ∈ as, Lcx K B tt te (.dat (enc a) :: capP ρ js) (f a)) : Er K B (tLC wi js tt te) ρ (.list (as.filterMap f)) :=
 fun G σ r G1 H s1 s2 Q k => lc_own as enc f h hn hc (r.mono s1) s2 fun p xs G' H' g hp hd => by
  have g3 := grow_new (o := .lst xs) g.gh hp
  exact k _ _ _ (g.trans g3) (dat_lst upd_same (hd.same g3.gg))
theorem eg_lc {α : Type} {wi : TI} {js : List Nat} {tt : TT} {R : PV → List PV → Prop} (as : List α) (enc : α → PyData) (f : α → Option PyData) (h : Ei K B wi (msk ρ) (as.map enc)) (hn : as.length < sizeLine) (hc : ∀ a ∈ as, Lcx K B tt te (.dat (enc a) :: capP (msk ρ) js) (f a)) (k : R (.own (as.filterMap f)) ρ) : Eg K B (tLC wi js tt te) ρ R :=
 fun E G0 H0 G H σ F r Q q => lc_own as enc f h hn hc r.rx r.g.gh fun p xs G' H' g hp hd => by
  obtain ⟨a, b, c⟩ := (r.grow g).newL hp hd
  exact q _ _ ρ G' _ F [p] k g.gg a b c
def Gt (K : PySem.W.Frag) (B : Hp) (g : TG) (d : PyData) (ρ : List PV) (P : List PV → Prop) : Prop := ∀ E G0 H0 G H σ F x (Q : St → Hp → Prop), Rl K B E G0 H0 G H σ ρ F → Dat K G x d → (∀ σ' ρ' G' H' F', P ρ' → Same G G' → Rl K B E G0 H0 G' H' σ' ρ' F' → Q σ' H') → g x σ H Q
theorem gt_name {i : Nat} {P : List PV → Prop} (h : P (ρ.set i (.dat d))) : Gt K B (gName i) d ρ P := fun E G0 H0 G H σ F x Q r hd k => k _ _ G H _ h (Same.refl _) (r.setD hd)
theorem sv_for {α : Type} {wi : TI} {g : TG} {tb : TS} {R : Pn} (as : List α) (enc : α → PyData) (h : Ei K B wi (msk ρ) (as.map enc)) (Iv : Nat → List PV → Prop) (h0 : Iv 0 ρ)
  (hs : ∀ (i : Nat) (hi : i < as.length) ρ', Iv i ρ' → Gt K B g (enc as[i]) ρ' fun ρ2 => Sv K B tb ρ2 { nx := Iv (i + 1), ct := Iv (i + 1), bk := R.nx, rt := R.rt }) (hd : ∀ ρ', Iv as.length ρ' → R.nx ρ') : Sv K B (tFor wi g tb) ρ R := fun E G0 H0 G H σ F D r dn => by
 refine h G H σ r.rx r.g.gh _ fun J G1 H1 g1 W => ?_
 refine ⟨fun i m σ' H' => m = as.length - i ∧ i ≤ as.length ∧ ∃ ρ' G' F', Iv i ρ' ∧ Rl K B E G0 H0 G' H' σ' ρ' F' ∧ Same G1 G', ⟨as.length, by omega, by omega, ρ, G1, F, h0, r.grow g1, Same.refl _⟩, ?_⟩
 rintro i m σ' H' ⟨rfl, hi, ρ', G', F', hI, r', s'⟩
 by_cases hin : i = as.length
 ·subst hin
  exact .inl ⟨W.stop _ H' (s'.trans r'.g.gh) (by rw [List.length_map]; exact Nat.le_refl _), dn.nx (hd ρ' hI) (g1.gg.trans s') r'⟩
 ·have hi' : i < as.length := by omega
  refine .inr ⟨W.go i H' (s'.trans r'.g.gh) (by rw [List.length_map]; exact hi'), fun σ2 H2 => ∃ ρ2 G2 F2, Iv (i + 1) ρ2 ∧ Rl K B E G0 H0 G2 H2 σ2 ρ2 F2 ∧ Same G1 G2, fun σ2 H2 ⟨ρ2, G2, F2, q⟩ => ⟨as.length - (i + 1), by omega, rfl, by omega, ρ2, G2, F2, q⟩, fun x H'' hy => ?_⟩
  obtain ⟨G3, g3, hx⟩ := W.yld i H' x H'' G' (enc as[i]) s' r'.g.gh (by rw [List.getElem?_map, List.getElem?_eq_getElem hi']; rfl) hy
  have r3 := r'.grow g3
  have s3 : Same G1 G3 := s'.trans g3.gg
  refine hs i hi' ρ' hI E G0 H0 G3 H'' σ' F' x _ r3 hx fun σ4 ρ4 G4 H4 F4 hP s4 r4 => ?_
  have s14 := s3.trans s4
  refine hP E G0 H0 G4 H4 σ4 F4 _ r4 ⟨fun hI2 s5 r5 => ⟨_, _, _, hI2, r5, s14.trans s5⟩, fun hR s5 r5 sl n => dn.rt hR (g1.gg.trans (s14.trans s5)) r5 sl n, fun hR s5 r5 => dn.nx hR (g1.gg.trans (s14.trans s5)) r5, fun hI2 s5 r5 => ⟨_, _, _, hI2, r5, s14.trans s5⟩⟩
end
end L2
namespace L2
open PySem PySem.Spec PyProof.Rows Lw
section
variable {K : PySem.W.Frag} {B : Hp} {E : Addr → Prop} {G0 H0 G H G' H' : Hp} {σ : St} {ρ : List PV} {F : Nat → List Addr} {ta tb te : TE} {a b d : PyData} {ds es : List PyData}
def startP (N : List Str) (vs : List PV) : List PV := vs ++ List.replicate (N.length - vs.length) .un
theorem dats_rl {vs : List V} {N : List Str} (sb : Same B G) (s : Same G H) (hv : Dats K G vs ds) : Rl K B (fun _ => False) G H G H (start N vs) (startP N (ds.map .dat)) (fun _ => []) := by
 refine ⟨Gw.refl s, sb, ?_, fun i v h => ?_, fun _ _ h => (by cases h), fun _ _ _ h _ => (by cases h), fun _ _ _ _ h => (by cases h)⟩
 ·unfold start startP
  rw [List.length_append, List.length_append, List.length_map, List.length_map, List.length_replicate, List.length_replicate, hv.length]
 ·unfold startP at h
  unfold start
  by_cases hi : i < ds.length
  ·rw [List.getElem?_append_left (by rw [List.length_map]; exact hi), List.getElem?_map, List.getElem?_eq_getElem hi] at h
   cases h
   obtain ⟨x, hx, hxd⟩ := hv.get (List.getElem?_eq_getElem hi)
   exact ⟨rfl, x, by rw [List.getElem?_append_left (by rw [List.length_map, hv.length]; exact hi), List.getElem?_map, hx]; rfl, hxd⟩
  ·rw [List.getElem?_append_right (by rw [List.length_map]; omega)] at h
   have := List.mem_of_getElem? h
   rw [(List.mem_replicate.mp this).2]
   rfl
variable {P : Program} {w : World} {mg : Str → Option Value} {base : Heap}
def spPB (K : PySem.W.Frag) (B : Hp) (R : List PyData → PyData → Prop) : Sp := fun vs H Q _ => ∃ (G : Hp) (ds : List PyData) (d : PyData), Same B G ∧ Same G H ∧ Dats K G vs ds ∧ R ds d ∧ ∀ v G' H', Grow G H G' H' → Dat K G' v d → Q v H'
theorem Fun.okPB {x qual : Str} {st : Stmt} {f : Addr} {fd : FuncData} {N ps : List Str} {k : Nat} {R : List PyData → PyData → Prop} (Fn : Fun K x qual st f fd) (S : FnScope N ps (defScope st)) (len : ∀ ds d, R ds d → ds.length = ps.length)
  (hb : ∀ (cdv : Value) (A : Around) (outer : List Env) (s : Shared) (H : Hp) (E : XK), Room k (A.deeper (envOfC qual (defScope st) s.heap.objs.size f cdv)) → ∀ ds d, R ds d →
   ∃ t, PSs (cxOf CX0 P w K mg base N qual (defScope st) f cdv A outer s H E).nox (defBody st) t ∧ Sv K B t (startP N (ds.map .dat)) { nx := fun _ => d = .none, rt := fun r _ => r = .dat d }) : FnOk P w K mg base CX0 (k + 1) f fd ps (spPB K B R) := by
 refine Fn.ok S (fun vs H Q E h => ?_) fun cdv A outer s H vs Q E hr h => ?_
 ·obtain ⟨G, ds, d, _, _, hv, hR, _⟩ := h
  rw [hv.length]; exact len ds d hR
 ·obtain ⟨G, ds, d, sb, sg, hv, hR, kk⟩ := h
  obtain ⟨t, ht, hs⟩ := hb cdv A outer s H E hr ds d hR
  refine ⟨t, ht, hs _ _ _ _ _ _ _ _ (dats_rl sb sg hv) ⟨fun e _ r => ?_, fun e _ r sl n => ?_, fun e => e.elim, fun e => e.elim⟩⟩
  ·have e : d = .none := e
   subst e
   exact kk _ _ _ r.g.toGrow dat_non
  ·subst e
   obtain ⟨_, y, hy, hd⟩ := sl
   cases hy
   exact kk _ _ _ r.g.toGrow hd
abbrev B0 : Hp := fun _ => none
theorem b0 : Same B0 G := fun _ _ h => by cases h
theorem Fun.okP {x qual : Str} {st : Stmt} {f : Addr} {fd : FuncData} {N ps : List Str} {k : Nat} {R : List PyData → PyData → Prop} (Fn : Fun K x qual st f fd) (S : FnScope N ps (defScope st)) (len : ∀ ds d, R ds d → ds.length = ps.length)
  (hb : ∀ (cdv : Value) (A : Around) (outer : List Env) (s : Shared) (H : Hp) (E : XK), Room k (A.deeper (envOfC qual (defScope st) s.heap.objs.size f cdv)) → ∀ ds d, R ds d →
   ∃ t, PSs (cxOf CX0 P w K mg base N qual (defScope st) f cdv A outer s H E).nox (defBody st) t ∧ Sv K B0 t (startP N (ds.map .dat)) { nx := fun _ => d = .none, rt := fun r _ => r = .dat d }) : FnOk P w K mg base CX0 (k + 1) f fd ps (spP K R) :=
 (Fn.okPB S len hb).imp fun vs H Q E ⟨G, ds, d, sg, hv, hR, kk⟩ => ⟨G, ds, d, b0, sg, hv, hR, kk⟩
def EgA (K : PySem.W.Frag) (B : Hp) (t : TA) (ρ : List PV) (R : List PyData → List PV → Prop) : Prop := ∀ E G0 H0 G H σ F, Rl K B E G0 H0 G H σ ρ F → ∀ Q : List V → Hp → Prop,
 (∀ vs ds ρ' G' H' F', R ds ρ' → Same G G' → Rl K B E G0 H0 G' H' σ ρ' F' → Dats K G' vs ds → Q vs H') → t σ H Q
theorem ega_ea {t : TA} {R : List PyData → List PV → Prop} (h : Ea K B t (msk ρ) ds) (k : R ds ρ) : EgA K B t ρ R := fun E G0 H0 G H σ F r Q q => h G σ r.rx G H (Same.refl _) r.g.gh Q fun vs G' H' g hv => q vs ds ρ G' H' F k g.gg (r.grow g) hv
theorem ega_cons {t : TA} {R : List PyData → List PV → Prop} (h : Eg K B te ρ fun r ρ1 => ∃ d, r = .dat d ∧ EgA K B t ρ1 fun ds ρ2 => R (d :: ds) ρ2) : EgA K B (tCons te t) ρ R := fun E G0 H0 G H σ F r Q q =>
 h E G0 H0 G H σ F r _ fun v w ρ1 G1 H1 F1 L hw s1 r1 sl n => by
  obtain ⟨d, rfl, h2⟩ := hw
  obtain ⟨_, y, hy, hd⟩ := sl
  cases hy
  exact h2 E G0 H0 G1 H1 σ F1 r1 _ fun vs ds ρ2 G2 H2 F2 hR s2 r2 hv => q _ _ ρ2 G2 H2 F2 hR (s1.trans s2) r2 (dats_cons (hd.same s2) hv)
theorem eg_op {r : R2} {R : PV → List PV → Prop} (h : Eg K B ta ρ fun x ρ1 => ∃ a, x = .dat a ∧ Eg K B tb ρ1 fun y ρ2 => ∃ b c, y = .dat b ∧ (∀ G σ va vb, Dat K G va a → Dat K G vb b → Ev K (tOp r (tC va) (tC vb)) σ G c) ∧ R (.dat c) ρ2) : Eg K B (tOp r ta tb) ρ R := fun E G0 H0 G H σ F r Q q =>
 h E G0 H0 G H σ F r _ fun v w ρ1 G1 H1 F1 L hw s1 r1 sl n => by
  obtain ⟨a, rfl, h2⟩ := hw
  obtain ⟨_, y, hy, hd⟩ := sl
  cases hy
  refine h2 E G0 H0 G1 H1 σ F1 r1 _ fun v2 w2 ρ2 G2 H2 F2 L2 hw2 s2 r2 sl2 n2 => ?_
  obtain ⟨b, c, rfl, hop, hR⟩ := hw2
  obtain ⟨_, y2, hy2, hd2⟩ := sl2
  cases hy2
  exact hop G2 σ v v2 (hd.same s2) hd2 G2 H2 (Same.refl _) r2.g.gh Q fun v3 G3 H3 g3 hv3 => q v3 _ ρ2 G3 H3 F2 [] hR ((s1.trans s2).trans g3.gg) (r2.grow g3) ⟨rfl, v3, rfl, hv3⟩ nw_nil
end
end L2
namespace L2
open PySem PySem.Spec PyProof.Rows Lw
section
variable {K : PySem.W.Frag} {B : Hp} {E : Addr → Prop} {G0 H0 G H G' H' : Hp} {σ : St} {ρ : List PV} {F : Nat → List Addr} {ta tb te : TE} {a b d : PyData} {ds es : List PyData}
theorem er_cb {r : List V → Hp → VK → Prop} {t : TA} (h : Ea K B t ρ ds) (hr : ∀ G1 H xs (Q : VK), Same G1 H → Dats K G1 xs ds → (∀ v G' H', Grow G1 H G' H' → Dat K G' v d → Q v H') → r xs H Q) : Er K B (tCB r t) ρ d := fun G σ r' => ev_cb (h G σ r') fun G1 H xs Q _ s2 hx k => hr G1 H xs Q s2 hx k
theorem er_neg {i : Int} (h : Er K B te ρ (.int i)) : Er K B (tUn (rU fun i => .int (-i)) te) ρ (.int (-i)) := fun G σ r G1 H s1 s2 Q k => h G σ r G1 H s1 s2 _ fun v G2 H2 g hv => ⟨i, hv.int, k _ G2 H2 g (dat_int _)⟩
def Eo (K : PySem.W.Frag) (B : Hp) (t : TO) (ρ : List PV) (o : Option Int) : Prop := ∀ G σ, Rx K B G σ ρ → ∀ H (Q : Option Int → Hp → Prop), Q o H → t σ H Q
theorem eo_none : Eo K B tNoPart ρ none := fun _ _ _ _ _ q => q
theorem eo_int {i : Int} : Eo K B (tPart (tC (.int i))) ρ (some i) := fun _ _ _ _ _ q => ⟨i, rfl, q⟩
theorem eo_var {i : Nat} {j : Int} (h : ρ[i]? = some (.dat (.int j))) : Eo K B (tPart (tVar i)) ρ (some j) := fun G σ r H Q q => by
 obtain ⟨x, hx, hd⟩ := r.2.1 i _ h
 exact ⟨x, hx, j, hd.int, q⟩
theorem eo_op {g : Int → Int → Int} {i : Nat} {j c : Int} (h : ρ[i]? = some (.dat (.int j))) : Eo K B (tPart (tOp (rI0 fun a b => .int (g a b)) (tVar i) (tC (.int c)))) ρ (some (g j c)) := fun G σ r H Q q => by
 obtain ⟨x, hx, hd⟩ := r.2.1 i _ h
 exact ⟨x, hx, j, c, hd.int, rfl, g j c, rfl, q⟩
abbrev slD (ds : List PyData) (lo hi : Option Int) : List PyData := (ds.drop (HT.sIx ds.length 0 lo)).take (HT.sIx ds.length ds.length hi - HT.sIx ds.length 0 lo)
theorem er_slL {tl th : TO} {lo hi : Option Int} (h : Er K B te ρ (.list ds)) (hl : Eo K B tl ρ lo) (hh : Eo K B th ρ hi) : Er K B (tSl (rSlL K) te tl th) ρ (.list (slD ds lo hi)) := fun G σ r => ev_slL (h G σ r) (hl G σ r) (hh G σ r)
theorem ev_catL {ta tb : TE} (ha : Ev K ta σ G (.list ds)) (hb : Ev K tb σ G (.list es)) (hz : ds.length + es.length ≤ sizeLine) : Ev K (tOp rCat ta tb) σ G (.list (ds ++ es)) := ev_op ha hb fun G1 H x y Q s1 s2 hx hy k => by
 obtain ⟨p, xs, rfl, hp, hxs⟩ := hx.lst
 obtain ⟨q, ys, rfl, hq, hys⟩ := hy.lst
 refine ⟨p, q, xs, ys, rfl, rfl, s2 _ _ hp, s2 _ _ hq, by rw [hxs.length, hys.length]; exact hz, fun l hl => ?_⟩
 have g := grow_new (o := .lst (xs ++ ys)) s2 hl
 exact k _ _ _ g (dat_lst upd_same ((dats_append hxs hys).same g.gg))
theorem er_catL (ha : Er K B ta ρ (.list ds)) (hb : Er K B tb ρ (.list es)) (hz : ds.length + es.length ≤ sizeLine) : Er K B (tOp rCat ta tb) ρ (.list (ds ++ es)) := fun G σ r => ev_catL (ha G σ r) (hb G σ r) hz
theorem er_all {t : TA} {bs : List Bool} (h : Ea K B t ρ [.list (bs.map .bool)]) : Er K B (tCB (fun xs H Q => ∃ (p : Addr) (bs : List Bool), xs = [.ref p] ∧ SqL K H p (bs.map V.bl) ∧ Q (.bl (bs.all id)) H) t) ρ (.bool (bs.all id)) := er_cb h fun G1 H xs Q s2 hx k => by
 obtain ⟨y, ys, rfl, hy, hn⟩ := hx.cons
 cases hn.nil
 obtain ⟨p, zs, rfl, hp, hz⟩ := hy.lst
 have e : zs = bs.map V.bl := by
  clear h hy hp k hx hn
  induction bs generalizing zs with
  | nil => exact hz.nil
  | cons q l ih =>
   obtain ⟨u, us, rfl, hu, hus⟩ := hz.cons
   rw [hu.bl, ih us hus]; rfl
 subst e
 exact ⟨p, bs, rfl, SqL.of (s2 _ _ hp), k _ G1 H (Grow.refl s2) (dat_bl _)⟩
variable {P : Program} {w : World}
end
end L2
namespace L2
open PySem PySem.Spec PyProof.Rows Lw
section
variable {K : PySem.W.Frag} {B : Hp} {E : Addr → Prop} {G0 H0 G H G' H' : Hp} {σ : St} {ρ : List PV} {F : Nat → List Addr} {ta tb te : TE} {a b d : PyData} {ds es : List PyData}
variable {P : Program} {w : World} {mg : Str → Option Value} {base : Heap}
theorem scr_rl {p : Addr} {N : List Str} {ns : List Int} (sb : Same B H) (hq : SqL K H p (ns.map V.int)) : Rl K B (fun _ => False) H H H H (start N [.ref p]) (startP N [.scr ns]) (fun _ => []) := by
 refine ⟨Gw.refl (Same.refl _), sb, ?_, fun i v h => ?_, fun _ _ h => (by cases h), fun _ _ _ h _ => (by cases h), fun _ _ _ _ h => (by cases h)⟩
 ·unfold start startP
  rw [List.length_append, List.length_append, List.length_map, List.length_replicate, List.length_replicate]; rfl
 ·unfold startP at h
  unfold start
  cases i with
  | zero =>
   have h : some (PV.scr ns) = some v := h
   cases h
   exact ⟨rfl, p, rfl, hq⟩
  | succ i =>
   rw [List.getElem?_append_right (by show 1 ≤ i + 1; omega)] at h
   have := List.mem_of_getElem? h
   rw [(List.mem_replicate.mp this).2]
   rfl
theorem Fun.okLaw {x qual : Str} {st : Stmt} {f : Addr} {fd : FuncData} {N : List Str} {k : Nat} (Fn : Fun K x qual st f fd) (S : FnScope N ["script"] (defScope st))
  (hb : ∀ (cdv : Value) (A : Around) (outer : List Env) (s : Shared) (H : Hp) (E : XK), Room k (A.deeper (envOfC qual (defScope st) s.heap.objs.size f cdv)) → ∀ ns : List Int, ns.length ≤ 63 →
   ∃ t, PSs (cxOf CX0 P w K mg base N qual (defScope st) f cdv A outer s H E).nox (defBody st) t ∧ Sv K B0 t (startP N [.scr ns]) { nx := fun _ => False, rt := fun r _ => r = .dat (.bool true) }) : FnOk P w K mg base CX0 (k + 1) f fd ["script"] (spLaw K) := by
 refine Fn.ok S (fun vs H Q E h => ?_) fun cdv A outer s H vs Q E hr h => ?_
 ·obtain ⟨a, ns, rfl, _⟩ := h
  rfl
 ·obtain ⟨a, ns, rfl, hq, hl, kk⟩ := h
  obtain ⟨t, ht, hs⟩ := hb cdv A outer s H E hr ns hl
  refine ⟨t, ht, hs _ _ _ _ _ _ _ _ (scr_rl b0 hq) ⟨fun e _ r => e.elim, fun e _ r sl n => ?_, fun e => e.elim, fun e => e.elim⟩⟩
  subst e
  obtain ⟨_, y, hy, hd⟩ := sl
  cases hy
  rw [hd.bl]
  exact kk _
end
end L2
namespace L2
open PySem PySem.Spec PyProof.Rows
section
variable {X : Cx}
variable {K : PySem.W.Frag} {B : Hp} {ρ : List PV} {ta te : TE} {ds : List PyData}
theorem ei_rngN {t : TA} {n : Nat} (h : Ea K B t ρ [.int (n : Nat)]) (hj : n < 2 ^ 60) : Ei K B (iRng1 t) ρ ((List.range n).map fun (i : Nat) => PyData.int (i : Nat)) := by
 have := ei_rng h ⟨by omega, by omega⟩
 rw [Int.toNat_natCast] at this
 have e : (List.range n).map (fun (i : Nat) => PyData.int (0 + i)) = (List.range n).map fun (i : Nat) => PyData.int (i : Nat) := List.map_congr_left fun i _ => by congr 1; omega
 rwa [e] at this
end
end L2
namespace L2
open PySem PySem.Spec PyProof.Rows Lw
section
variable {X : Cx}
def rMaxL (K : PySem.W.Frag) : List V → Hp → VK → Prop := fun xs H Q => ∃ (p : Addr) (ns : List Int), xs = [.ref p] ∧ SqL K H p (ns.map V.int) ∧ ns ≠ [] ∧ ∀ M, M ∈ ns → (∀ a ∈ ns, a ≤ M) → Q (.int M) H
theorem best_of {xs : Array (Int × Tok)} {ns : List Int} (e1 : ns = xs.toList.map (·.1)) (hsz : 0 < xs.size) : numAt xs (argBest (fun i j => decide (numAt xs i > numAt xs j)) (xs.size - 1)) ∈ ns ∧ ∀ a ∈ ns, a ≤ numAt xs (argBest (fun i j => decide (numAt xs i > numAt xs j)) (xs.size - 1)) := by
 obtain ⟨h1, h2⟩ := argBest_gt (numAt xs) (xs.size - 1)
 constructor
 ·rw [e1, numAt_eq]; exact getD_mem (by rw [List.length_map, Array.length_toList]; omega)
 ·intro a ha
  rw [e1] at ha
  obtain ⟨j, hj, rfl⟩ := mem_getD ha
  rw [List.length_map, Array.length_toList] at hj
  rw [← numAt_eq]; exact h2 j (by omega)
theorem ints_at {K : PySem.W.Frag} {pins : List (Addr × Obj)} {σ : St} {H : Hp} {s : Shared} {p : Addr} {ns : List Int} (e : X.K = K) (I : Inv X pins σ H s) (hq : SqL K H p (ns.map V.int)) : ∃ xs : Array (Int × Tok), s.heap.IsList p (intItems xs) ∧ ns = xs.toList.map (·.1) := by
 subst e
 obtain ⟨its, rv, pl, hz⟩ := I.list hq
 have hi : IntsAre its ns := intsAre_of rv
 obtain ⟨xs, hx⟩ := hi.allInts.items
 exact ⟨xs, hx ▸ pl.isList, by rw [← nums_intItems, ← hx]; exact (show numsOf its.toArray.toList = ns from hi.numsOf).symm⟩
theorem call_maxL {K : PySem.W.Frag} (e : X.K = K) (hc : X.calm = true) : CallR X (.builtin "max") (rMaxL K) := by
 intro pins s σ H xs us Q I r h
 obtain ⟨p, ns, rfl, hq, hne, q⟩ := h
 obtain ⟨u, rfl, rx⟩ := vals1 r
 cases rx
 obtain ⟨xs, hl, e1⟩ := ints_at e I hq
 have hsz : 0 < xs.size := Nat.pos_of_ne_zero fun z => hne (by rw [e1, List.map_eq_nil_iff]; exact List.eq_nil_of_length_eq_zero (by rw [Array.length_toList]; exact z))
 refine max_intList (I.ok.hd hc) hl hsz fun v h' tk hv hk => ?_
 obtain ⟨t, rfl⟩ := intItems_at hv
 obtain ⟨b1, b2⟩ := best_of e1 hsz
 exact ⟨.int _, H, I.kept hk, ⟨t, rfl⟩, q _ b1 b2⟩
end
section
variable {K : PySem.W.Frag} {B : Hp} {ρ : List PV}
theorem er_maxL {t : TA} {ns : List Int} {M : Int} (h : Ea K B t ρ [.list (ns.map .int)]) (hM : M ∈ ns) (hle : ∀ a ∈ ns, a ≤ M) : Er K B (tCB (rMaxL K) t) ρ (.int M) := er_cb h fun G1 H xs Q s1 hx k => by
 obtain ⟨y, ys, rfl, hy, hn⟩ := hx.cons
 cases hn.nil
 obtain ⟨p, zs, rfl, hp, hz⟩ := hy.lst
 have e := hz.ints
 subst e
 refine ⟨p, ns, rfl, SqL.of (s1 _ _ hp), List.ne_nil_of_mem hM, fun M' h1 h2 => ?_⟩
 rw [Int.le_antisymm (hle _ h1) (h2 _ hM)]
 exact k _ G1 H (Grow.refl s1) (dat_int _)
end
end L2
namespace L2
open PySem PySem.Spec PyProof.Rows Lw
structure TF (K : PySem.W.Frag) (S : Type) where
 pv : S → Addr → List Addr → PV
 I : S → Addr → List Addr → Hp → Hp → Prop
 sl : ∀ {s : S} {p : Addr} {fp : List Addr} {G H : Hp} {o : Option (Option V)} {F : List Addr}, Sl K G H o (pv s p fp) F ↔ (F = p :: fp ∧ o = some (some (.ref p)) ∧ I s p fp G H)
 no : ∀ s p fp ds, pv s p fp ≠ .own ds
def thgT {K : PySem.W.Frag} {S : Type} (I : S → Addr → List Addr → Hp → Hp → Prop) (st : ∀ {s : S} {p : Addr} {fp : List Addr} {G H G' H' : Hp}, I s p fp G H → Same G G' → (∀ a ∈ p :: fp, H' a = H a) → I s p fp G' H') (lv : ∀ {s : S} {p : Addr} {fp : List Addr} {G H : Hp}, I s p fp G H → ∀ a ∈ p :: fp, ∃ o, H a = some o) : TF K S where
 pv := fun s p fp => .thg { ok := fun p' fp' G H => p' = p ∧ fp' = fp ∧ I s p fp G H, st := fun {p' fp' G H G' H'} ⟨h1, h2, h3⟩ sg k => ⟨h1, h2, st h3 sg fun a ha => k a (by rw [h1, h2]; exact ha)⟩, live := fun {p' fp' G H} ⟨h1, h2, h3⟩ a ha => lv h3 a (by rw [h1, h2] at ha; exact ha) }
 I := I
 sl := fun {s p fp G H o F} => by
  constructor
  ·rintro ⟨p', fp', h1, h2, rfl, rfl, h3⟩; exact ⟨h1, h2, h3⟩
  ·rintro ⟨h1, h2, h3⟩; exact ⟨p, fp, h1, h2, rfl, rfl, h3⟩
 no := fun _ _ _ _ => nofun
section
variable {K : PySem.W.Frag} {B : Hp} {E : Addr → Prop} {G0 H0 G H G1 H1 G2 H2 : Hp} {σ : St} {ρ : List PV} {F : Nat → List Addr} {ta tb te : TE} {a b d : PyData} {ds es : List PyData} {S : Type} {D : TF K S} {s s' : S} {p : Addr} {fp : List Addr}
theorem rl_of {i0 : Nat} (sb : Same B G) (gh : Same G H) (hl : σ.length = ρ.length) (h0 : ρ[i0]? = some (D.pv s p fp)) (hσ : σ[i0]? = some (some (.ref p))) (hI : D.I s p fp G H) (gn : ∀ a ∈ p :: fp, G a = none) (lv : ∀ a ∈ p :: fp, ∃ o, H a = some o)
  (hx : ∀ i v, i ≠ i0 → ρ[i]? = some v → Sl K G H σ[i]? v [] ∧ ∀ ds, v ≠ .own ds) : Rl K B (· ∈ p :: fp) G H G H σ ρ (fun k => if k = i0 then p :: fp else []) := by
 refine ⟨Gw.refl gh, sb, hl, fun i v h => ?_, fun i a ha => ?_, fun i j a ha hb => ?_, fun i ds' a h ha => ?_⟩
 ·by_cases z : i = i0
  ·subst z
   rw [h0] at h
   cases h
   rw [if_pos rfl]
   exact D.sl.mpr ⟨rfl, hσ, hI⟩
  ·rw [if_neg z]; exact (hx i v z h).1
 ·split at ha
  ·exact ⟨gn a ha, lv a ha, .inl ha⟩
  ·cases ha
 ·split at ha
  ·split at hb
   ·omega
   ·cases hb
  ·cases ha
 ·split at ha
  ·rename_i z
   subst z
   rw [h0] at h
   exact absurd (Option.some.inj h) (D.no _ _ _ _)
  ·cases ha
theorem Rl.lentT {i : Nat} (r1 : Rl K B E G0 H0 G1 H1 σ ρ F) (hi : ρ[i]? = some (D.pv s p fp)) (gw : Gw (· ∈ p :: fp) G1 H1 G2 H2) (gn : ∀ a ∈ p :: fp, G2 a = none) (lv : ∀ a ∈ p :: fp, ∃ o, H2 a = some o) (hI : D.I s' p fp G2 H2) : Rl K B E G0 H0 G2 H2 σ (ρ.set i (D.pv s' p fp)) F := by
 obtain ⟨e1, hx, _⟩ := D.sl.mp (r1.sl i _ hi)
 have hlt : i < ρ.length := (List.getElem?_eq_some_iff.mp hi).1
 refine ⟨⟨r1.g.gg.trans gw.gg, gw.gh, fun b o n h => ?_, fun b h => r1.g.al b (gw.al b h), fun b o h => ?_⟩, r1.bb.trans gw.gg, by rw [List.length_set]; exact r1.ls, fun j v h => ?_, fun j a ha => ?_, r1.dj, fun j ds' a h ha => ?_⟩
 ·refine gw.kp b o (fun z => ?_) (r1.g.kp b o n h)
  rcases (r1.fr i b (by rw [e1]; exact z)).2.2 with hE | hE
  ·exact n hE
  ·rw [hE] at h; cases h
 ·rcases gw.fr b o h with h | h
  ·exact r1.g.fr b o h
  ·exact .inr (r1.g.al b h)
 ·by_cases z : j = i
  ·subst z
   rw [List.getElem?_set_self hlt] at h
   cases h
   exact D.sl.mpr ⟨e1, hx, hI⟩
  ·rw [List.getElem?_set_ne (Ne.symm z)] at h
   refine (r1.sl j v h).grow gw.gg fun a ha => ?_
   obtain ⟨_, ⟨o, ho⟩, _⟩ := r1.fr j a ha
   rw [ho]
   exact gw.kp a o (fun q => z (r1.dj j i a ha (by rw [e1]; exact q))) ho
 ·obtain ⟨h1, ⟨o, h2⟩, h3⟩ := r1.fr j a ha
  by_cases z : a ∈ p :: fp
  ·exact ⟨gn a z, lv a z, h3⟩
  ·refine ⟨?_, ⟨o, gw.kp a o z h2⟩, h3⟩
   cases hg : G2 a with
   | none => rfl
   | some o' =>
    rcases gw.fr a o' hg with h | h
    ·rw [h1] at h; cases h
    ·rw [h2] at h; cases h
 ·by_cases z : j = i
  ·subst z
   rw [List.getElem?_set_self hlt] at h
   exact absurd (Option.some.inj h) (D.no _ _ _ _)
  ·rw [List.getElem?_set_ne (Ne.symm z)] at h
   exact r1.ow j ds' a h ha
def spT (D : TF K S) (Pre : S → List PyData → Prop) (R : S → List PyData → PyData → S → Prop) : Sp := fun vs H Q _ => ∃ (p : Addr) (fp : List Addr) (us : List V) (G : Hp) (s : S) (ds : List PyData), vs = .ref p :: us ∧ Same G H ∧ (∀ a ∈ p :: fp, G a = none) ∧ (∀ a ∈ p :: fp, ∃ o, H a = some o) ∧ D.I s p fp G H ∧ Dats K G us ds ∧ Pre s ds ∧
 ∀ v x s' G' H', R s ds x s' → Gw (· ∈ p :: fp) G H G' H' → (∀ a ∈ p :: fp, G' a = none) → (∀ a ∈ p :: fp, ∃ o, H' a = some o) → D.I s' p fp G' H' → Dat K G' v x → Q v H'
theorem rl_start {us : List V} {N : List Str} (sb : Same B G) (gh : Same G H) (hI : D.I s p fp G H) (gn : ∀ a ∈ p :: fp, G a = none) (lv : ∀ a ∈ p :: fp, ∃ o, H a = some o) (hv : Dats K G us ds) : Rl K B (· ∈ p :: fp) G H G H (start N (.ref p :: us)) (startP N (D.pv s p fp :: ds.map .dat)) (fun k => if k = 0 then p :: fp else []) := by
 refine rl_of sb gh ?_ rfl rfl hI gn lv fun i v hi0 h => ?_
 ·unfold start startP
  rw [List.length_append, List.length_append, List.length_map, List.length_cons, List.length_cons, List.length_map, List.length_replicate, List.length_replicate, hv.length]
 ·cases i with
  | zero => exact absurd rfl hi0
  | succ i =>
   have h : (ds.map PV.dat ++ List.replicate (N.length - (ds.map PV.dat).length.succ) PV.un)[i]? = some v := h
   show Sl K G H ((us.map some ++ List.replicate (N.length - us.length.succ) none)[i]?) v [] ∧ _
   by_cases hi : i < ds.length
   ·rw [List.getElem?_append_left (by rw [List.length_map]; exact hi), List.getElem?_map, List.getElem?_eq_getElem hi] at h
    cases h
    obtain ⟨x, hx, hxd⟩ := hv.get (List.getElem?_eq_getElem hi)
    exact ⟨⟨rfl, x, by rw [List.getElem?_append_left (by rw [List.length_map, hv.length]; exact hi), List.getElem?_map, hx]; rfl, hxd⟩, fun _ => nofun⟩
   ·rw [List.getElem?_append_right (by rw [List.length_map]; omega)] at h
    have := List.mem_of_getElem? h
    rw [(List.mem_replicate.mp this).2]
    exact ⟨rfl, fun _ => nofun⟩
variable {P : Program} {w : World} {mg : Str → Option Value} {base : Heap}
theorem Fun.okT {x qual : Str} {st : Stmt} {f : Addr} {fd : FuncData} {N ps : List Str} {k : Nat} {Pre : S → List PyData → Prop} {R : S → List PyData → PyData → S → Prop} (Fn : Fun K x qual st f fd) (S' : FnScope N ps (defScope st)) (len : ∀ s ds, Pre s ds → ds.length + 1 = ps.length)
  (hb : ∀ (cdv : Value) (A : Around) (outer : List Env) (s : Shared) (H : Hp) (E : XK), Room k (A.deeper (envOfC qual (defScope st) s.heap.objs.size f cdv)) → ∀ p fp t0 ds, Pre t0 ds →
   ∃ t, PSs (cxOf CX0 P w K mg base N qual (defScope st) f cdv A outer s H E).nox (defBody st) t ∧ Sv K B0 t (startP N (D.pv t0 p fp :: ds.map .dat)) { nx := fun ρ' => ∃ t1, R t0 ds .none t1 ∧ ρ'[0]? = some (D.pv t1 p fp), rt := fun r ρ' => ∃ d t1, r = .dat d ∧ R t0 ds d t1 ∧ ρ'[0]? = some (D.pv t1 p fp) }) : FnOk P w K mg base CX0 (k + 1) f fd ps (spT D Pre R) := by
 refine Fn.ok S' (fun vs H Q E h => ?_) fun cdv A outer s H vs Q E hr h => ?_
 ·obtain ⟨p, fp, us, G, t0, ds, rfl, _, _, _, _, hv, hP, _⟩ := h
  rw [List.length_cons, hv.length]; exact len t0 ds hP
 ·obtain ⟨p, fp, us, G, t0, ds, rfl, sg, gn, lv, hI, hv, hP, kk⟩ := h
  obtain ⟨t, ht, hs⟩ := hb cdv A outer s H E hr p fp t0 ds hP
  refine ⟨t, ht, hs _ _ _ _ _ _ _ _ (rl_start b0 sg hI gn lv hv) ⟨fun e _ r => ?_, fun e _ r sl n => ?_, fun e => e.elim, fun e => e.elim⟩⟩
  ·obtain ⟨t1, hR, h0⟩ := e
   obtain ⟨e1, _, hI'⟩ := D.sl.mp (r.sl 0 _ h0)
   exact kk _ _ t1 _ _ hR r.g (fun a ha => (r.fr 0 a (by rw [e1]; exact ha)).1) (fun a ha => (r.fr 0 a (by rw [e1]; exact ha)).2.1) hI' dat_non
  ·obtain ⟨d, t1, rfl, hR, h0⟩ := e
   obtain ⟨e1, _, hI'⟩ := D.sl.mp (r.sl 0 _ h0)
   obtain ⟨_, y, hy, hd⟩ := sl
   cases hy
   exact kk _ _ t1 _ _ hR r.g (fun a ha => (r.fr 0 a (by rw [e1]; exact ha)).1) (fun a ha => (r.fr 0 a (by rw [e1]; exact ha)).2.1) hI' hd
theorem eg_lendT {Pre : S → List PyData → Prop} {Rf : S → List PyData → PyData → S → Prop} {X : XK} {i : Nat} {t : TA} {R : PV → List PV → Prop} (hi : ρ[i]? = some (D.pv s p fp))
  (h : EgA K B t ρ fun ds ρ1 => ∃ s1, ρ1[i]? = some (D.pv s1 p fp) ∧ Pre s1 ds ∧ ∀ x s2, Rf s1 ds x s2 → R (.dat x) (ρ1.set i (D.pv s2 p fp))) : Eg K B (tCall (spT D Pre Rf) [] X (tCons (tVar i) t)) ρ R := fun E G0 H0 G H σ F r Q q => by
 obtain ⟨_, hx, _⟩ := D.sl.mp (r.sl i _ hi)
 refine ⟨_, hx, h E G0 H0 G H σ F r _ fun vs ds ρ1 G1 H1 F1 hh s1 r1 hv => ?_⟩
 obtain ⟨t1, hi1, hP, hk⟩ := hh
 obtain ⟨e1, _, hI⟩ := D.sl.mp (r1.sl i _ hi1)
 rw [List.append_nil]
 refine ⟨p, fp, vs, G1, t1, ds, rfl, r1.g.gh, fun a ha => (r1.fr i a (by rw [e1]; exact ha)).1, fun a ha => (r1.fr i a (by rw [e1]; exact ha)).2.1, hI, hv, hP, fun v x t2 G2 H2 hR gw gn lv hI2 hd => ?_⟩
 exact q v _ _ G2 H2 F1 [] (hk x t2 hR) (s1.trans gw.gg) (r1.lentT hi1 gw gn lv hI2) ⟨rfl, v, rfl, hd⟩ nw_nil
theorem eg_lstD {t : TA} {R : PV → List PV → Prop} (h : EgA K B t ρ fun ds ρ' => ds.length ≤ sizeLine ∧ R (.dat (.list ds)) ρ') : Eg K B (tLst t) ρ R := fun E G0 H0 G H σ F r Q q =>
 h E G0 H0 G H σ F r _ fun vs ds ρ1 G1 H1 F1 hR s1 r1 hv => ⟨by rw [hv.length]; exact hR.1, fun p hp => by
  have g := grow_new (o := .lst vs) r1.g.gh hp
  exact q _ _ ρ1 _ _ F1 [] hR.2 (s1.trans g.gg) (r1.grow g) ⟨rfl, _, rfl, dat_lst upd_same (hv.same g.gg)⟩ nw_nil⟩
theorem eg_cb1 {r : List V → Hp → VK → Prop} {R : PV → List PV → Prop} (h : Eg K B te ρ fun x ρ1 => ∃ a c, x = .dat a ∧ (∀ G σ va, Dat K G va a → Ev K (tCB r (tCons (tC va) tNil)) σ G c) ∧ R (.dat c) ρ1) : Eg K B (tCB r (tCons te tNil)) ρ R := fun E G0 H0 G H σ F r Q q =>
 h E G0 H0 G H σ F r _ fun v w ρ1 G1 H1 F1 L hw s1 r1 sl n => by
  obtain ⟨a, c, rfl, hop, hR⟩ := hw
  obtain ⟨_, y, hy, hd⟩ := sl
  cases hy
  exact hop G1 σ v hd G1 H1 (Same.refl _) r1.g.gh Q fun v3 G3 H3 g3 hv3 => q v3 _ ρ1 G3 H3 F1 [] hR (s1.trans g3.gg) (r1.grow g3) ⟨rfl, v3, rfl, hv3⟩ nw_nil
def EgI (K : PySem.W.Frag) (B : Hp) (wi : TI) (ρ : List PV) (R : List PyData → List PV → Prop) : Prop := ∀ E G0 H0 G H σ F, Rl K B E G0 H0 G H σ ρ F → ∀ Q : It → Hp → Prop,
 (∀ J ds ρ' G' H' F', R ds ρ' → Same G G' → Rl K B E G0 H0 G' H' σ ρ' F' → Wd K J G' ds → Q J H') → wi σ H Q
theorem egi_rng {t : TA} {R : List PyData → List PV → Prop} (h : EgA K B t ρ fun ds ρ' => ∃ n : Nat, ds = [.int (n : Nat)] ∧ n < 2 ^ 60 ∧ R ((List.range n).map fun (i : Nat) => PyData.int (i : Nat)) ρ') : EgI K B (iRng1 t) ρ R := fun E G0 H0 G H σ F r Q q =>
 h E G0 H0 G H σ F r _ fun vs ds ρ1 G1 H1 F1 hR s1 r1 hv => by
  obtain ⟨n, rfl, hn, hR⟩ := hR
  obtain ⟨y, ys, rfl, hy, hr⟩ := hv.cons
  rw [hr.nil, hy.int]
  have e : (List.range n).map (fun (i : Nat) => PyData.int (0 + i)) = (List.range n).map fun (i : Nat) => PyData.int (i : Nat) := List.map_congr_left fun i _ => by congr 1; omega
  refine ⟨n, rfl, by omega, by omega, q _ _ ρ1 G1 H1 F1 hR s1 r1 ?_⟩
  rw [Int.toNat_natCast, ← e]
  exact wd_range
theorem sv_forG {wi : TI} {g : TG} {tb : TS} {R : Pn} (h : EgI K B wi ρ fun ds ρ1 => ∃ Iv : Nat → List PV → Prop, Iv 0 ρ1 ∧
   (∀ (i : Nat) (hi : i < ds.length) ρ', Iv i ρ' → Gt K B g ds[i] ρ' fun ρ2 => Sv K B tb ρ2 { nx := Iv (i + 1), ct := Iv (i + 1), bk := R.nx, rt := R.rt }) ∧ ∀ ρ', Iv ds.length ρ' → R.nx ρ') : Sv K B (tFor wi g tb) ρ R := fun E G0 H0 G H σ F D r dn => by
 refine h E G0 H0 G H σ F r _ fun J ds ρ1 G1 H1 F1 hI s1 r1 W => ?_
 obtain ⟨Iv, h0, hs, hd⟩ := hI
 refine ⟨fun i m σ' H' => m = ds.length - i ∧ i ≤ ds.length ∧ ∃ ρ' G' F', Iv i ρ' ∧ Rl K B E G0 H0 G' H' σ' ρ' F' ∧ Same G1 G', ⟨ds.length, by omega, by omega, ρ1, G1, F1, h0, r1, Same.refl _⟩, ?_⟩
 rintro i m σ' H' ⟨rfl, hi, ρ', G', F', hI, r', s'⟩
 by_cases hin : i = ds.length
 ·subst hin
  exact .inl ⟨W.stop _ H' (s'.trans r'.g.gh) (Nat.le_refl _), dn.nx (hd ρ' hI) (s1.trans s') r'⟩
 ·have hi' : i < ds.length := by omega
  refine .inr ⟨W.go i H' (s'.trans r'.g.gh) hi', fun σ2 H2 => ∃ ρ2 G2 F2, Iv (i + 1) ρ2 ∧ Rl K B E G0 H0 G2 H2 σ2 ρ2 F2 ∧ Same G1 G2, fun σ2 H2 ⟨ρ2, G2, F2, q⟩ => ⟨ds.length - (i + 1), by omega, rfl, by omega, ρ2, G2, F2, q⟩, fun x H'' hy => ?_⟩
  obtain ⟨G3, g3, hx⟩ := W.yld i H' x H'' G' ds[i] s' r'.g.gh (List.getElem?_eq_getElem hi') hy
  have r3 := r'.grow g3
  have s3 : Same G1 G3 := s'.trans g3.gg
  refine hs i hi' ρ' hI E G0 H0 G3 H'' σ' F' x _ r3 hx fun σ4 ρ4 G4 H4 F4 hP s4 r4 => ?_
  have s14 := s3.trans s4
  refine hP E G0 H0 G4 H4 σ4 F4 _ r4 ⟨fun hI2 s5 r5 => ⟨_, _, _, hI2, r5, s14.trans s5⟩, fun hR s5 r5 sl n => dn.rt hR (s1.trans (s14.trans s5)) r5 sl n, fun hR s5 r5 => dn.nx hR (s1.trans (s14.trans s5)) r5, fun hI2 s5 r5 => ⟨_, _, _, hI2, r5, s14.trans s5⟩⟩
theorem eg_lcT {wi : TI} {js : List Nat} {R : PV → List PV → Prop} {i kp : Nat} (hj : js[kp]? = some i)
  (h : EgI K B wi ρ fun as ρ1 => ∃ (s0 : S) (Iv : Nat → List PyData → S → Prop), ρ1[i]? = some (D.pv s0 p fp) ∧ as.length < sizeLine ∧ Iv 0 [] s0 ∧
   (∀ (n : Nat) (hn : n < as.length) out s, Iv n out s → out.length = n → Eg K B te (.dat as[n] :: (capP (msk ρ1) js).set kp (D.pv s p fp)) fun r ρ' => ∃ d s', r = .dat d ∧ ρ'[kp + 1]? = some (D.pv s' p fp) ∧ Iv (n + 1) (out ++ [d]) s') ∧
   ∀ out s, Iv as.length out s → out.length = as.length → R (.own out) (ρ1.set i (D.pv s p fp))) : Eg K B (tLC wi js tNoIf te) ρ R := fun E G0 H0 G H σ F r Q q => by
 refine h E G0 H0 G H σ F r _ fun J as ρ1 G1 H1 F1 hI s1 r1 W => ?_
 obtain ⟨s0, Iv, hi0, hn, h0, hs, hd⟩ := hI
 have hlt : i < ρ1.length := (List.getElem?_eq_some_iff.mp hi0).1
 have hs0 : ρ1.set i (D.pv s0 p fp) = ρ1 := by
  refine List.ext_getElem? fun j => ?_
  by_cases z : i = j
  ·subst z; rw [List.getElem?_set_self hlt, hi0]
  ·rw [List.getElem?_set_ne z]
 refine ⟨fun k m ys H' => m = as.length - k ∧ k ≤ as.length ∧ ys.length = k ∧ ∃ G' out s, Iv k out s ∧ Rl K B E G0 H0 G' H' σ (ρ1.set i (D.pv s p fp)) F1 ∧ Same G1 G' ∧ Dats K G' ys out, ⟨as.length, by omega, by omega, rfl, G1, [], s0, h0, by rw [hs0]; exact r1, Same.refl _, dats_nil⟩, ?_⟩
 rintro k m ys H' ⟨rfl, hk, hl, G', out, s, hIv, r', s', hys⟩
 have hol : out.length = k := by rw [← hys.length]; exact hl
 refine ⟨by omega, ?_⟩
 by_cases hin : k = as.length
 ·subst hin
  refine .inl ⟨W.stop _ H' (s'.trans r'.g.gh) (Nat.le_refl _), fun l hpl => ?_⟩
  obtain ⟨a, b, c⟩ := r'.newL hpl hys
  exact q _ _ _ G' _ F1 [l] (hd out s hIv hol) (s1.trans s') a b c
 ·have hk' : k < as.length := by omega
  refine .inr ⟨W.go k H' (s'.trans r'.g.gh) hk', fun x H'' hy => ?_⟩
  obtain ⟨G3, g3, hx⟩ := W.yld k H' x H'' G' as[k] s' r'.g.gh (List.getElem?_eq_getElem hk') hy
  have r3 := r'.grow g3
  have hi3 : (ρ1.set i (D.pv s p fp))[i]? = some (D.pv s p fp) := List.getElem?_set_self hlt
  obtain ⟨e1, hσ, hI3⟩ := D.sl.mp (r3.sl i _ hi3)
  have hkl : kp < js.length := (List.getElem?_eq_some_iff.mp hj).1
  have inn : Rl K B (· ∈ p :: fp) G3 H'' G3 H'' (some x :: capV σ js) (.dat as[k] :: (capP (msk ρ1) js).set kp (D.pv s p fp)) (fun j => if j = kp + 1 then p :: fp else []) := by
   refine rl_of r3.bb r3.g.gh ?_ ?_ ?_ hI3 (fun a ha => (r3.fr i a (by rw [e1]; exact ha)).1) (fun a ha => (r3.fr i a (by rw [e1]; exact ha)).2.1) fun j v hjn hv => ?_
   ·unfold capV capP
    rw [List.length_cons, List.length_cons, List.length_set, List.length_map, List.length_map]
   ·rw [List.getElem?_cons_succ]
    exact List.getElem?_set_self (by unfold capP; rw [List.length_map]; exact hkl)
   ·rw [List.getElem?_cons_succ]
    unfold capV
    rw [List.getElem?_map, hj]
    show some (σ[i]?).join = _
    rw [hσ]; rfl
   ·cases j with
    | zero =>
     cases hv
     exact ⟨⟨rfl, x, rfl, hx⟩, fun _ => nofun⟩
    | succ j =>
     rw [List.getElem?_cons_succ] at hv ⊢
     rw [List.getElem?_set_ne (by omega)] at hv
     unfold capP at hv
     unfold capV
     rw [List.getElem?_map] at hv ⊢
     obtain ⟨l, hl', rfl⟩ := Option.map_eq_some_iff.mp hv
     rw [hl']
     show Sl K G3 H'' (some (σ[l]?).join) _ [] ∧ _
     rw [List.getElem?_map]
     cases hρ : ρ1[l]? with
     | none => exact ⟨rfl, fun _ => nofun⟩
     | some v =>
      show Sl K G3 H'' (some (σ[l]?).join) v.msk [] ∧ _
      cases v with
      | dat d =>
       have nl : i ≠ l := fun z => by
        subst z
        rw [hi0] at hρ
        obtain ⟨e9, _, _⟩ := D.sl.mp (r1.sl i _ hi0)
        have h9 := r1.sl i (.dat d) (by rw [hi0, Option.some.inj hρ])
        rw [e9] at h9
        exact absurd h9.1 (by simp)
       obtain ⟨_, y, hy', hd'⟩ := r3.sl l (.dat d) (by rw [List.getElem?_set_ne nl]; exact hρ)
       refine ⟨⟨rfl, y, ?_, hd'⟩, fun _ => nofun⟩
       rw [hy']; rfl
      | scr ns =>
       have nl : i ≠ l := fun z => by
        subst z
        rw [hi0] at hρ
        obtain ⟨e9, _, _⟩ := D.sl.mp (r1.sl i _ hi0)
        have h9 := r1.sl i (.scr ns) (by rw [hi0, Option.some.inj hρ])
        rw [e9] at h9
        exact absurd h9.1 (by simp)
       obtain ⟨_, y, hy', hd'⟩ := r3.sl l (.scr ns) (by rw [List.getElem?_set_ne nl]; exact hρ)
       refine ⟨⟨rfl, y, ?_, hd'⟩, fun _ => nofun⟩
       rw [hy']; rfl
      | _ => exact ⟨rfl, fun _ => nofun⟩
  show te (some x :: capV σ js) H'' _
  refine hs k hk' out s hIv hol _ _ _ _ _ _ _ inn _ fun v rr ρ' G4 H4 F4 L hr s4 r4 sl n => ?_
  obtain ⟨d, s'', rfl, hρ', hIv'⟩ := hr
  obtain ⟨e4, _, hI4⟩ := D.sl.mp (r4.sl _ _ hρ')
  obtain ⟨_, y, hy', hd'⟩ := sl
  cases hy'
  have back := r3.lentT hi3 r4.g (fun a ha => (r4.fr _ a (by rw [e4]; exact ha)).1) (fun a ha => (r4.fr _ a (by rw [e4]; exact ha)).2.1) hI4
  rw [List.set_set] at back
  exact ⟨as.length - (k + 1), by omega, rfl, by omega, by rw [List.length_append]; show _ + 1 = _; omega, G4, out ++ [d], s'', hIv', back, (s'.trans g3.gg).trans s4, dats_snoc (hys.same (g3.gg.trans s4)) hd'⟩
end
end L2
namespace L2
open PySem PySem.Spec PyProof.Rows Lw
theorem gw_set {G H H' : Hp} {L : List Addr} (sg : Same G H) (gn : ∀ a ∈ L, G a = none) (k : ∀ b o, H b = some o → b ∉ L → H' b = some o) (lv : ∀ a ∈ L, ∃ o, H' a = some o) : Gw (· ∈ L) G H G H' := by
 refine ⟨Same.refl _, fun b o e => k b o (sg b o e) fun z => ?_, fun b o n h => k b o h n, fun b h => ?_, fun b o h => .inl h⟩
 ·rw [gn b z] at e; cases e
 ·cases e : H b with
  | none => rfl
  | some o =>
   by_cases z : b ∈ L
   ·obtain ⟨o', h'⟩ := lv b z
    rw [h'] at h; cases h
   ·rw [k b o e z] at h; cases h
theorem er_pow {K : PySem.W.Frag} {B : Hp} {ρ : List PV} {i j r : Int} (h : CPow i j) (e : i ^ j.toNat = r) : Er K B (tOp (rI CPow fun i j => .int (i ^ j.toNat)) (tC (.int i)) (tC (.int j))) ρ (.int r) := er_iC er_int er_int h fun _ => e ▸ dat_int _
theorem er_intB {K : PySem.W.Frag} {B : Hp} {ρ : List PV} {t : TA} {b : Bool} (h : Ea K B t ρ [.bool b]) : Er K B (tCB (fun xs H Q => (∃ i, xs = [.int i] ∧ Q (.int i) H) ∨ ∃ k, xs = [.bl k] ∧ Q (.int (if k then 1 else 0)) H) t) ρ (.int (if b then 1 else 0)) := fun G σ r => ev_intB (h G σ r)
theorem eg_frz {K : PySem.W.Frag} {B : Hp} {ρ : List PV} {te : TE} {R : PV → List PV → Prop} (h : Eg K B te ρ fun r ρ' => ∃ ds, r = .own ds ∧ R (.dat (.list ds)) ρ') : Eg K B te ρ R := fun E G0 H0 G H σ F r Q q =>
 h E G0 H0 G H σ F r Q fun v x ρ1 G1 H1 F1 L hx s1 r1 sl n => by
  obtain ⟨ds, rfl, hR⟩ := hx
  obtain ⟨p, xs, rfl, hv, hp, hd⟩ := sl
  have hv : v = .ref p := by injection hv with hv; injection hv
  subst hv
  obtain ⟨gp, _, h0⟩ := n.fr p (by simp)
  have nj : ∀ j, p ∉ F1 j := n.dj p (by simp)
  have sm : Same G1 (upd G1 p (.lst xs)) := same_new gp
  have gh : Same (upd G1 p (.lst xs)) H1 := fun b o e => by
   by_cases z : b = p
   ·subst z; rw [upd_same] at e; rw [hp, e]
   ·rw [upd_ne z] at e; exact r1.g.gh b o e
  refine q _ _ ρ1 (upd G1 p (.lst xs)) H1 F1 [] hR (s1.trans sm) ⟨⟨r1.g.gg.trans sm, gh, r1.g.kp, r1.g.al, fun b o e => ?_⟩, r1.bb.trans sm, r1.ls, fun i v e => (r1.sl i v e).grow sm fun a ha => rfl, fun i a ha => ?_, r1.dj, r1.ow⟩ ⟨rfl, _, rfl, dat_lst upd_same (hd.same sm)⟩ nw_nil
  ·by_cases z : b = p
   ·subst z; exact .inr h0
   ·rw [upd_ne z] at e; exact r1.g.fr b o e
  ·obtain ⟨e1, e2⟩ := r1.fr i a ha
   refine ⟨?_, e2⟩
   rw [upd_ne fun z => nj i (by rw [← z]; exact ha)]; exact e1
end L2
namespace L2
open PySem PySem.Spec PyProof.Rows Lw
structure FlyX (P : Program) (w : World) (outer : List Env) (H H' : Hp) (s : Shared) (a : Addr) (C : Value) (s' : Shared) : Prop where
 os : s'.os = s.os
 bare : AllBare s'.gens
 ex : ∃ (B : Heap) (t : Addr), Heap.FlyingW B outer a C (.ref t) s'.heap ∧ HOk P w H' B ∧
  (∀ b o, s.heap.get? b = some o → H b = none → b ∉ frs outer → B.get? b = some o) ∧ (∀ b o, s.heap.get? b = some o → b ∉ frs outer → ∃ o', B.get? b = some o')
 free : ∀ b o, s.heap.get? b = some o → H b = none → H' b = none
 slot : ∀ b o, s.heap.get? b = some o → b ∈ frs outer → ∃ sl, s'.heap.get? b = some { o with slots := sl }
 tups : ∀ b xs, H b = some (.tup xs) → H' b = some (.tup xs)
 frzs : ∀ b o u, H b = some (.frz o u) → H' b = some (.frz o u)
 tbls : ∀ b cr, H b = some (.tbl cr) → H' b = some (.tbl cr)
def CX1 (P : Program) (w : World) : CXT := fun outer H s E e s' => ∃ (a : Addr) (C : Value) (H' : Hp), e = .ref a ∧ FlyX P w outer H H' s a C s' ∧ E C none H'
theorem hok_hide {P : Program} {w : World} {H : Hp} {h : Heap} {as : List Addr} (x : HOk P w H h) (nf : ∀ b ∈ as, H b = none) : HOk P w H (PySem.W.hideAll h as) := fun a o e =>
 (x a o e).stay (fun b u hb q => PySem.W.hideAll_get _ q fun m => by
  rcases hb with rfl | hb
  ·rw [nf _ m] at e; cases e
  ·rw [nf _ m] at hb; cases hb) (fun _ q => q) (fun _ _ q => q) fun _ _ _ q => q
section
variable {P : Program} {w : World} {K : PySem.W.Frag} {mg : Str → Option Value} {base : Heap} {N : List Str} {qual : Str} {scope : Scope} {f : Addr} {cd : Value} {A : Around} {outer : List Env} {s : Shared} {H : Hp} {E : XK} {CX : CXT}
theorem fun_nf {h base : Heap} {l : List Env} (x : h.FunFrames base l) {b : Addr} (hb : b ∈ frs l) {o : Obj} (e : h.get? b = some o) : ∀ vs, o.data ≠ .fields vs := by
 obtain ⟨_, o', ho, hn⟩ := x.mem hb
 rw [e] at ho; cases ho; exact hn
theorem not_stack {pins : List (Addr × Obj)} {σ : St} {H1 : Hp} {s1 : Shared} (I : Inv (cxOf CX P w K mg base N qual scope f cd A outer s H E) pins σ H1 s1) {b : Addr} {o : Obj} (q : s.heap.get? b = some o) (hb : b ∉ frs outer) :
  b ∉ frs (cxOf CX P w K mg base N qual scope f cd A outer s H E).stack := fun m => by
 rcases List.mem_cons.mp (I.stkSub b m) with z | z
 ·have h1 := Heap.lt_size q
  have h2 : s.heap.objs.size ≤ b := by rw [z]; exact I.ok.above
  exact absurd (Nat.lt_of_lt_of_le h1 h2) (Nat.lt_irrefl _)
 ·exact hb z
theorem raise_leaves {pins : List (Addr × Obj)} {σ : St} {H1 : Hp} {s1 : Shared} {h2 : Heap} {e : Addr} {C : Value} {vs : List Value} (I : Inv (cxOf (CX1 P w) P w K mg base N qual scope f cd A outer s H E) pins σ H1 s1)
  (hx : Heap.MadeExcOf s1.heap h2 e C vs) (he : E C none H1) : (cxOf (CX1 P w) P w K mg base N qual scope f cd A outer s H E).xe (.ref e) { s1 with heap := h2 } := by
 have hin : ∀ env ∈ (cxOf (CX1 P w) P w K mg base N qual scope f cd A outer s H E).stack, ∀ b, env.frame = some b → b ∈ frs (cxOf (CX1 P w) P w K mg base N qual scope f cd A outer s H E).stack := fun env he b hb => List.mem_filterMap.mpr ⟨env, he, hb⟩
 have noex : ∀ b : Addr, b ∉ (cxOf (CX1 P w) P w K mg base N qual scope f cd A outer s H E).ex := fun b z => absurd (show b ∈ ([] : List Addr) from z) (by simp)
 refine wpAny_leaves_madeW (s := { s1 with heap := h2 }) (base := PySem.W.hideAll s1.heap (frs (cxOf (CX1 P w) P w K mg base N qual scope f cd A outer s H E).stack)) I.ok.frames rfl (fun b o q => PySem.W.of_hideAll _ q) (PySem.W.funFrames_hide I.stack hin) hx fun h' t x1 x2 x3 x4 => ?_
 refine ⟨e, C, H1, rfl, ⟨I.os, I.bare, ⟨_, t, x1, hok_hide I.hok I.stkFree, fun b o q n hb => ?_, fun b o q hb => ?_⟩, fun b o q n => I.base.free b o q n (noex b), fun b o q hb => ?_, I.base.tups, I.base.frzs, I.base.tbls⟩, he⟩
 ·exact PySem.W.hideAll_get _ (I.base.keep b o q n hb (noex b)) (not_stack I q hb)
 ·obtain ⟨o', q'⟩ := I.base.there b o q (noex b)
  exact ⟨o', PySem.W.hideAll_get _ q' (not_stack I q hb)⟩
 ·obtain ⟨sl, q1⟩ := I.base.slot b o q (I.ok.frf b hb) hb (noex b)
  obtain ⟨sl', q2⟩ := x4 b _ (hx.keeps _ _ q1) fun vs z => fun_nf I.ok.funs hb q vs z
  exact ⟨sl', q2⟩
theorem passes1 : Passes (CX1 P w) (cxOf (CX1 P w) P w K mg base N qual scope f cd A outer s H E) E := by
 rintro pins σ H1 s1 _ s' I ⟨a, C, H2, rfl, fl, he⟩
 have noex : ∀ b : Addr, b ∉ (cxOf (CX1 P w) P w K mg base N qual scope f cd A outer s H E).ex := fun b z => absurd (show b ∈ ([] : List Addr) from z) (by simp)
 obtain ⟨B, t, hf, hokB, keep, there⟩ := fl.ex
 refine wpAny_leaves_onW I.ok.frames rfl hf fun h' f1 f2 => ?_
 refine ⟨a, C, H2, rfl, ⟨fl.os.trans I.os, fl.bare, ⟨B, t, f1, hokB, fun b o q n hb => ?_, fun b o q hb => ?_⟩, fun b o q n => ?_, fun b o q hb => ?_, fun b xs q => fl.tups b xs (I.base.tups b xs q), fun b o u q => fl.frzs b o u (I.base.frzs b o u q), fun b cr q => fl.tbls b cr (I.base.tbls b cr q)⟩, he⟩
 ·exact keep b o (I.base.keep b o q n hb (noex b)) (I.base.free b o q n (noex b)) (not_stack I q hb)
 ·obtain ⟨o', q'⟩ := I.base.there b o q (noex b)
  exact there b o' q' (not_stack I q hb)
 ·obtain ⟨o', q'⟩ := I.base.there b o q (noex b)
  exact fl.free b o' q' (I.base.free b o q n (noex b))
 ·obtain ⟨sl, q1⟩ := I.base.slot b o q (I.ok.frf b hb) hb (noex b)
  have hb' : b ∈ frs (cxOf (CX1 P w) P w K mg base N qual scope f cd A outer s H E).stack := by
   obtain ⟨en, h1, h2⟩ := List.mem_filterMap.mp hb
   exact List.mem_filterMap.mpr ⟨en, List.mem_cons_of_mem _ h1, h2⟩
  obtain ⟨sl2, q2⟩ := fl.slot b _ q1 hb'
  obtain ⟨sl3, q3⟩ := f2 b _ q2 fun vs z => fun_nf I.ok.funs hb q vs z
  exact ⟨sl3, q3⟩
end
end L2
namespace L2
open PySem PySem.Spec PyProof.Rows Lw
section
variable {prog : Program} {w : World} {A : Around} {E : Value → Shared → Prop} {h : Heap} {g : Array GenState} {d : Drawn} {tn : Nat} {os : OsState} {a C : Addr} {o : Obj} {K : PySem.W.Frag}
structure XC (K : PySem.W.Frag) (C : Addr) : Prop where
 ga : PySem.W.findIn K (.ref C) "__getattribute__" = some (some (.builtin "BaseException.__getattribute__"))
 gn : PySem.W.findIn K (.ref C) "__getattr__" = some none
 cl : PySem.W.findIn K (.ref C) "__class__" = some (some (.builtin "object.__class__"))
 sb : PySem.W.subIn K (.ref C) (.type "BaseException") = some true
 so : PySem.W.subIn K (.ref C) (.type "object") = some true
 isC : ∃ c d' cd sl, K.lookup C = some ⟨c, d', .cls cd, sl⟩
theorem xc_get {R : Result → Shared → Prop} (X : K.In h) (c : XC K C) (hx : h.get? a = some o) (hc : o.cls = .ref C) (hq : R (.ok (.ret (.ref C))) ⟨h, g, d, tn, os⟩) :
  codeAny (model prog w) A (.call (.builtin "getset_descriptor.__get__") ⟨[.builtin "object.__class__", .ref a, .ref C], []⟩) R ⟨h, g, d, tn, os⟩ := by
 have ty5 : (⟨h, g, d, tn, os⟩ : Shared).TypeIs (.builtin "object.__class__") "getset_descriptor" := F.typeOf_object_class
 have L0 : PySem.W.Looks (model prog w) h (isSubtype (.ref C) (.type (".".intercalate ("object.__class__".cutAt '.').dropLast))) true := by rw [F.owner_object_class]; exact PySem.W.looks_subIn X c.so
 refine codeAny_call_builtin F.slot_gs_get.plain F.entry_gs_get (F.slot_gs_get.check _ _ _ _ _ _ _ _ ty5 (F.args_gs_get _ _ _) ?_)
 repeat (any_goals (first | assumption | (with_reducible refine wpAny_loadPart_at hx ?_; rw [hc]) | with_reducible refine L0.at ?_ | wp_step))
 refine And.intro (Code.quiet_builtin _ (by decide +kernel)) (codeAny_builtin F.entry_object_class ?_)
 repeat (any_goals (first | assumption | (with_reducible refine wpAny_loadPart_at hx ?_; rw [hc]) | wp_step))
theorem xc_check {M : Model} {nameV : Value} {Q : Unit → Shared → Prop} (X : K.In h) (c : XC K C) (hx : h.get? a = some o) (hc : o.cls = .ref C) (hq : Q () ⟨h, g, d, tn, os⟩) : wpAny M A (checkBuiltinCall "BaseException.__getattribute__" ⟨[.ref a, nameV], []⟩) Q E ⟨h, g, d, tn, os⟩ := by
 have k1 : builtinKind "BaseException.__getattribute__" = some .slot := by decide +kernel
 have k2 : splitId "BaseException.__getattribute__" = some ("BaseException", "__getattribute__") := by decide +kernel
 have L0 : PySem.W.Looks M h (isSubtype (.ref C) (.type "BaseException")) true := PySem.W.looks_subIn X c.sb
 have k3 := F.args_bexc_ga (Value.ref a) nameV
 simp only [checkBuiltinCall, k1, k2]
 refine wpAny_bind ?_
 ·unfold isInstance
  repeat (first | (with_reducible refine wpAny_loadPart_at hx ?_; rw [hc]) | with_reducible refine L0.at ?_ | wp_step)
  exact hq
theorem xc_entry {tk : Tok} {Q : PySem.Fin → Shared → Prop} (X : K.In h) (c : XC K C) (hx : h.get? a = some o) (hc : o.cls = .ref C) (hq : Q (.done (.ret (.ref C))) ⟨h, g, d, tn, os⟩) :
  wpAny (model prog w) A (Builtin.«object.__getattribute__» ⟨[.ref a, .str "__class__" tk], []⟩) Q E ⟨h, g, d, tn, os⟩ := by
 have ty5 : (⟨h, g, d, tn, os⟩ : Shared).TypeIs (.builtin "object.__class__") "getset_descriptor" := F.typeOf_object_class; have y5 := F.typeOf_object_class; have y6 := F.slot_gs_get.lookup; have y7 := F.slot_gs_set.lookup
 have L1 := PySem.W.looks_findIn (M := model prog w) X c.cl
 repeat (any_goals (first | assumption | (with_reducible refine wpAny_loadPart_at hx ?_; rw [hc]) | with_reducible refine L1.at ?_ | wp_step))
 refine xc_get X c hx hc ?_
 repeat any_goals first | assumption | wp_step
theorem xc_call {tk : Tok} {R : Result → Shared → Prop} (X : K.In h) (c : XC K C) (hx : h.get? a = some o) (hc : o.cls = .ref C) (hq : R (.ok (.ret (.ref C))) ⟨h, g, d, tn, os⟩) :
  codeAny (model prog w) A (.call (.builtin "BaseException.__getattribute__") ⟨[.ref a, .str "__class__" tk], []⟩) R ⟨h, g, d, tn, os⟩ :=
 codeAny_call_builtin PySem.F.attrBase_ValueError.ga.plain F.entry_bexc_ga (xc_check X c hx hc (xc_entry X c hx hc hq))
theorem xc_by {tk : Tok} {fill expr : Bool} {Q : Value → Shared → Prop} (X : K.In h) (c : XC K C) (hx : h.get? a = some o) (hc : o.cls = .ref C) (hq : Q (.ref C) ⟨h, g, d, tn, os⟩) :
  wpAny (model prog w) A (getAttrBy (.ref a) (.str "__class__" tk) fill expr) Q E ⟨h, g, d, tn, os⟩ := by
 have f3 := PySem.F.attrBase_ValueError.ga.bind (.ref a)
 have n0 : (expr && onTheHeap (Value.builtin "BaseException.__getattribute__")) = false := by cases expr <;> rfl
 have n2 : (Value.builtin "BaseException.__getattribute__" == Value.builtin "object.__getattribute__") = false := by decide +kernel
 have n1 : (onTheHeap (Value.ref C) && Value.builtin "BaseException.__getattribute__" == Value.builtin "object.__getattribute__") = false := by rw [n2]; rfl
 have L1 := PySem.W.looks_findIn (M := model prog w) X c.ga
 have L2 := PySem.W.looks_findIn (M := model prog w) X c.gn
 repeat (any_goals (first | assumption | (with_reducible refine wpAny_loadPart_at hx ?_; rw [hc]) | with_reducible refine L1.at ?_ | with_reducible refine L2.at ?_ | wp_step))
 refine xc_call X c hx hc ?_
 repeat any_goals first | assumption | wp_step
theorem xc_attr {Q : Option Value → Shared → Prop} (X : K.In h) (c : XC K C) (hx : h.get? a = some o) (hc : o.cls = .ref C) (hq : Q (some (.ref C)) ⟨h, g, d, tn + 1, os⟩) :
  wpAny (model prog w) A (getAttr? (.ref a) "__class__") Q E ⟨h, g, d, tn, os⟩ := by
 unfold getAttr? getAttrBy?
 repeat (any_goals (first | assumption | with_reducible apply xc_by X c hx hc | wp_step))
end
def ExAt (a C : Addr) (h : Heap) : Prop := ∃ o, h.get? a = some o ∧ o.cls = .ref C
theorem kitx_exc {K : PySem.W.Frag} {a C : Addr} (c : XC K C) : PySem.W.KitX K (.ref a) (.ref C) (ExAt a C) where
 ty := fun M h _ p => by
  obtain ⟨o, h1, h2⟩ := p
  exact h2 ▸ (PySem.W.Looks.ld h1).andThen .now
 it := fun _ _ X _ => by
  obtain ⟨c', d', cd', sl', ho⟩ := c.isC
  intro A' Q' E' s' k q
  unfold isType loadHead
  refine wpAny_bind (wpAny_loadPart (k _ _ (X _ _ ho)) ?_); exact wpAny_pure q
 ne := fun h tp _ _ _ _ X htp => by
  obtain ⟨c', d', cd', sl', ho⟩ := c.isC
  apply Bool.eq_false_iff.mpr; intro q
  have e : C = tp := Value.ref.inj (beq_iff_eq.mp q)
  subst e
  cases (X _ _ ho).symm.trans htp
 ca := fun {_ _ _ _ _ s} X p k => by
  obtain ⟨hh, g, d, t, os⟩ := s
  obtain ⟨o, h1, h2⟩ := p
  exact xc_attr X c h1 h2 k
end L2
namespace L2
open PySem PySem.Spec PyProof.Rows Lw
abbrev bmVE : List Value := [.type "ValueError", .type "Exception", .type "BaseException", .type "object"]
structure XCls (K : PySem.W.Frag) (mg : Str → Option Value) (x : Str) (C : Addr) : Prop where
 m : mg x = some (.ref C)
 c : XC K C
 q : PySem.W.excIn K C bmVE "ValueError.__new__" = true
theorem xcls_obj {K : PySem.W.Frag} {h : Heap} {C : Addr} {bmB : List Value} {newId : String} (Y : K.In h) (q : PySem.W.excIn K C bmB newId = true) :
  ∃ bm N nm qn bs hdct sn sub ab col dd k0 k1 k2 k3 k5 mN, h.get? C = some (excClassObj nm qn C N bs bm hdct sn sub ab col dd k0 k1 k2 k3 k5 newId) ∧ h.Ns N mN ∧ mN "__init__" = none ∧ OwnTail h bmB bm := by
 unfold PySem.W.excIn at q
 split at q
 ·rename_i d1 cl1 sl1 at1
  split at q
  ·rename_i C1 tl1 z0 z1 z2 z3 n1 z5 mr1 sl2
   simp only [beq_iff_eq, Bool.and_eq_true, Bool.not_eq_true'] at q
   obtain ⟨⟨⟨⟨⟨e1, e2⟩, e3⟩, e4⟩, e5⟩, e6⟩ := q
   subst e1 e2
   obtain ⟨c1, c2, c3, c4, c5, c6, c7, c8, c9, c10, c11⟩ := cl1
   dsimp only at mr1 e3 e5 e6
   subst mr1 e3
   obtain ⟨l⟩ := sl1
   dsimp only at sl2
   subst sl2
   exact ⟨tl1, c4, c1, c5, c2, c6, c7, c8, c9, c10, d1, z0, z1, z2, z3, z5, _, Y _ _ at1, .of_isNs (PySem.W.isNs_of_in Y e5), PySem.W.nsMap_none_of_in Y e5 e6, PySem.W.tail_of_in Y e4⟩
  ·cases q
 ·cases q
section
variable {X : Cx} {x : Str} {C : Addr} {e₀ e : Expr} {es rest : List Expr} {t : TA} {np cpos pos p : Pos} {E : XK}
def Raises (X : Cx) (E : XK) : Prop := ∀ (pins : List (Addr × Obj)) (σ : St) (H : Hp) (s : Shared) (h' : Heap) (a : Addr) (C : Value) (vs : List Value), Inv X pins σ H s → Heap.MadeExcOf s.heap h' a C vs → E C none H → X.xe (.ref a) { s with heap := h' }
def tRaise (E : XK) (C : Addr) (t : TA) : TS := fun _ σ H => t σ H fun vs H1 => vs.length ≤ sizeLine ∧ E (.ref C) none H1
theorem ps_raise (rz : Raises X E) (hd : X.A.handled = none) (c : XCls X.K X.mg x C) (hg : Gl X x) (ha : PA X (e₀ :: rest) t) (he : starEach (e₀ :: rest) X.env = (false, eval e₀ X.env) :: starEach rest X.env := by rfl)
  (hpl : (backTo cpos (starEach rest X.env)).any (·.1) = false := by rfl) (hdb : (x == ("__debug__" : Str)) = false := by decide) : PS X (.Raise (some (.Call (.Name x np) (e₀ :: rest) [] cpos)) none pos) (tRaise E C t) := by
 intro pins s σ H D I h
 obtain ⟨bm, N, nm, qn, bs, hdct, sn, sub, ab, col, dd, k0, k1, k2, k3, k5, mN, hC, hN, hni, T⟩ := xcls_obj I.ok.mod.kin c.q
 refine wpAny_Raise_call_subT (C := C) (nm := nm) (q := qn) (N := N) (bs := bs) (bm := bm) (hdct := hdct) (sn := sn) (sub := sub) (ab := ab) (col := col) (dd := dd) (k0 := k0) (k1 := k1) (k2 := k2) (k3 := k3) (k5 := k5) PySem.F.excBase_ValueError (mN := mN) (T.hasType PySem.F.excBase_ValueError.hasBase) hd
  (by rw [he]; show (false || (backTo cpos (starEach rest X.env)).any (·.1)) = false; rw [hpl]; rfl) hni (ld_glob I hg c.m ⟨rfl, ?_⟩ hdb)
 have h2 := ha cpos pins s σ H _ I h
 rw [he] at h2 ⊢
 exact Calls.evalArgs_plain (wpAny_mono h2 (fun us s2 ⟨vs, H2, I2, r, z, q⟩ => ⟨rfl, by show us.length ≤ _; rw [← r.length]; exact z, I2.bk _ _ hC, hN.keeps I2.bk, T.keeps I2.bk, fun h' a hm => rz pins σ H2 s2 h' a _ us I2 hm q⟩) fun _ _ y => y)
def XP (X : Cx) (pins : List (Addr × Obj)) (σ : St) (E : XK) (e : Value) (s' : Shared) : Prop := ∃ H1 s1, Inv X pins σ H1 s1 ∧ CX1 X.prog X.w X.stack H1 s1 E e s'
def PEX (X : Cx) (e : Expr) (t : XK → TE) : Prop := ∀ (pins : List (Addr × Obj)) (s : Shared) (σ : St) (H : Hp) (Q : VK) (E : XK), Inv X pins σ H s → t E σ H Q → wpAny (model X.prog X.w) X.A (eval e X.env) (EP X pins σ Q) (XP X pins σ E) s
def PAX (X : Cx) (es : List Expr) (t : XK → TA) : Prop := ∀ (pos : Pos) (pins : List (Addr × Obj)) (s : Shared) (σ : St) (H : Hp) (Q : List V → Hp → Prop) (E : XK), Inv X pins σ H s → t E σ H Q →
 wpAny (model X.prog X.w) X.A (spliced (backTo pos (starEach es X.env))) (AP X pins σ Q) (XP X pins σ E) s
theorem pex_of {te : TE} (h : PE X.nox e te) : PEX X e fun _ => te := fun pins s σ H Q E I q =>
 wpAny_mono (h pins s σ H Q (I.wish _) q) (fun _ _ ⟨v, H', I', r, z⟩ => ⟨v, H', I'.unwish, r, z⟩) fun _ _ z => False.elim z
theorem pax_nil : PAX X [] fun _ => tNil := fun _ _ _ _ H Q _ I h => Calls.spliced_nil ⟨[], H, I, .nil, h⟩
theorem pax_cons {te : XK → TE} {ta : XK → TA} (ha : PEX X e te) (hr : PAX X es ta) (hs : starEach (e :: es) X.env = (false, eval e X.env) :: starEach es X.env := by rfl) : PAX X (e :: es) fun E => tCons (te E) (ta E) := by
 intro pos pins s σ H Q E I h
 rw [hs]
 show wpAny _ _ (spliced ((false, eval e X.env) :: backTo pos (starEach es X.env))) _ _ s
 refine Calls.spliced_cons (thn (ha pins s σ H _ E I h) fun u s1 ⟨x, H1, I1, r1, q1⟩ => ?_)
 exact thn (hr pos pins s1 σ H1 _ E I1 q1) fun us s2 ⟨xs, H2, I2, r2, q2⟩ => ⟨x :: xs, H2, I2, .cons r1 r2, q2⟩
theorem pax_of (h : PA X.nox es t) : PAX X es fun _ => t := fun pos pins s σ H Q E I q =>
 wpAny_mono (h pos pins s σ H Q (I.wish _) q) (fun _ _ ⟨v, H', I', r, z⟩ => ⟨v, H', I'.unwish, r, z⟩) fun _ _ z => False.elim z
theorem pex_call {k : Nat} {f : Addr} {fd : FuncData} {ps : List Str} {sp : Sp} {ta : XK → TA} (F : FnOk X.prog X.w X.K X.mg X.base (CX1 X.prog X.w) k f fd ps sp) (hr : Room k X.A) (hg : Gl X x) (hm : X.mg x = some (.ref f)) (hk : PySem.W.keepIn X.K (.ref f) = true) (hb : Binds X.K fd ps [])
  (ha : PAX X (e :: es) ta) (hdb : (x == ("__debug__" : Str)) = false := by decide) (he : starEach (e :: es) X.env = (false, eval e X.env) :: starEach es X.env := by rfl) (hpl : (backTo pos (starEach es X.env)).any (·.1) = false := by rfl) :
  PEX X (.Call (.Name x p) (e :: es) [] pos) fun E => tCall sp [] E (ta E) := by
 intro pins s σ H Q E I h
 refine wpAny_Call_Name_kw (ld_glob I hg hm ?_ hdb)
 refine PySem.W.callWith_K (h₀ := X.base) I.ok.mod.kin hk (thn (ha pos pins s σ H _ E I h) fun us s1 ⟨vs, H1, I1, r, q⟩ => ⟨I1.kIn, ?_⟩) he hpl
 have q : sp vs H1 Q E := by have q : sp (vs ++ []) H1 Q E := q; rw [List.append_nil] at q; exact q
 have hl : us.length = ps.length := by rw [← r.length]; exact F.len _ _ _ _ q
 have bb : BindsTo s1 fd ⟨us, []⟩ (ps.zip us) := by
  have := hb s1 us I1.kIn (by rw [List.append_nil]; exact hl)
  rw [List.append_nil] at this; exact this
 refine wpAny_call (codeAny_mono (F.run X.A X.stack s1 H1 ⟨us, []⟩ us vs Q E hr I1.env0 bb r q) fun rr s' hq => ?_)
 cases rr with
 | error x => exact ⟨H1, s1, I1, hq⟩
 | ok fl =>
  cases fl with
  | ret u => exact I1.after hq
  | next => exact False.elim hq
  | brk => exact False.elim hq
  | cont => exact False.elim hq
theorem PEX.pe {te : XK → TE} (hp : Passes (CX1 X.prog X.w) X E) (h : PEX X e te) : PE X e (te E) := fun pins s σ H Q I q =>
 wpAny_mono (h pins s σ H Q E I q) (fun _ _ z => z) fun x s' ⟨H1, s1, I1, c⟩ => hp pins σ H1 s1 x s' I1 c
theorem FnOk.x1 {P : Program} {w : World} {K : PySem.W.Frag} {mg : Str → Option Value} {base : Heap} {k : Nat} {f : Addr} {fd : FuncData} {ps : List Str} {sp : Sp} {CX : CXT} (F : FnOk P w K mg base CX0 k f fd ps sp) : FnOk P w K mg base CX k f fd ps sp :=
 ⟨F.len, fun A outer s H args us vs Q E hr e0 hb r h => codeAny_mono (F.run A outer s H args us vs Q E hr e0 hb r h) fun rr s' q => by
  cases rr with
  | error x => exact False.elim q
  | ok fl => cases fl <;> exact q⟩
end
abbrev xcO (a C : Addr) : HO := .ext (ExAt a C)
theorem xcO_ok {P : Program} {w : World} {H : Hp} {h : Heap} {a C : Addr} (p : ExAt a C h) : ObjOk P w H h a (xcO a C) :=
 ⟨p, ⟨p.choose, p.choose_spec.1⟩, fun h1 h2 ⟨o, e, c⟩ k => ⟨o, k o e, c⟩⟩
abbrev Cx.marked (X : Cx) (a : Addr) : Cx := { X with A := X.A.mark (some (.ref a)), calm := false }
section
variable {X : Cx} {pins : List (Addr × Obj)} {σ : St} {H H1 H2 : Hp} {s s1 s' : Shared} {a C : Addr}
theorem Inv.marked (I : Inv X pins σ H s) (a : Addr) : Inv (X.marked a) pins σ H s :=
 ⟨⟨I.ok.mod, I.ok.kind, I.ok.glob, I.ok.blt, I.ok.above, I.ok.inj, I.ok.has, I.ok.cab, fun z => (by cases z), I.ok.frames, I.ok.stk, I.ok.exf, I.ok.bs, I.ok.bsz, I.ok.noex, I.ok.exfs, I.ok.funs, I.ok.frf⟩, I.os, I.bare, I.base, I.loc, I.cell, I.free, I.freeC, I.pin, I.hok, I.len⟩
theorem Inv.unmarked (I0 : Inv X pins σ H s) {pins' : List (Addr × Obj)} {σ' : St} (I : Inv (X.marked a).nox pins' σ' H1 s1) : Inv X pins' σ' H1 s1 := ⟨I0.ok, I.os, I.bare, I.base, I.loc, I.cell, I.free, I.freeC, I.pin, I.hok, I.len⟩
theorem land_inv {h : Heap} {B : Heap} {t : Addr} {tk : Nat} (I : Inv X pins σ H1 s1) (fl : FlyX X.prog X.w X.stack H1 H2 s1 a (.ref C) s') (hokB : HOk X.prog X.w H2 B)
  (keep : ∀ b o, s1.heap.get? b = some o → H1 b = none → b ∉ frs X.stack → B.get? b = some o) (there : ∀ b o, s1.heap.get? b = some o → b ∉ frs X.stack → ∃ o', B.get? b = some o')
  (f : Heap.FlyingW B X.stack a (.ref C) (.ref t) h) (up : s'.heap.UpToSlots h) : Inv X pins σ H2 { s' with heap := h, toks := tk } ∧ Inv X pins σ (upd H2 a (xcO a C)) { s' with heap := h, toks := tk } ∧ H2 a = none ∧ ExAt a C h := by
 obtain ⟨stays, Bn, ff, _⟩ := id f
 have exat : ExAt a C h := f.there
 have slot : ∀ b o, s1.heap.get? b = some o → b ∈ frs X.stack → ∃ sl, h.get? b = some { o with slots := sl } := fun b o q hb => by
  obtain ⟨sl, q1⟩ := fl.slot b o q hb
  obtain ⟨sl', q2⟩ := up b _ q1 fun vs z => fun_nf I.stack hb q vs z
  exact ⟨sl', q2⟩
 have hH : H2 a = none := by
  cases q : H2 a with
  | none => rfl
  | some u =>
   have hl : ∃ o, B.get? a = some o := by
    have ho := hokB a u q
    cases u with
    | lst xs => obtain ⟨_, _, _, _, e⟩ := ho; exact ⟨_, e⟩
    | tup xs => obtain ⟨_, _, _, ⟨o, e, _⟩, _⟩ := ho; exact ⟨_, e⟩
    | dK kvs => obtain ⟨_, _, _, _, o, _, _, e, _⟩ := ho; exact ⟨_, e⟩
    | dT kvs => obtain ⟨_, _, _, _, o, _, _, e, _⟩ := ho; exact ⟨_, e⟩
    | set S n => obtain ⟨o, _, _, _, e, _⟩ := ho; exact ⟨_, e⟩
    | ins C dx fs => obtain ⟨_, _, _, e, _⟩ := ho; exact ⟨_, e⟩
    | own y => exact ho
    | xd fs => obtain ⟨_, ⟨_, _, _, e, _⟩, _⟩ := ho; exact ⟨_, e⟩
    | rng lo hi => obtain ⟨_, _, _, e⟩ := ho; exact ⟨_, e⟩
    | frz ob u => exact ⟨_, ho.1⟩
    | tbl cr => obtain ⟨_, e, _⟩ := ho; exact ⟨_, e⟩
    | met f y => exact ⟨_, ho⟩
    | ext φ => exact ho.2.1
   obtain ⟨o, e⟩ := hl
   rw [Bn] at e; cases e
 have nfr : a ∉ frs X.stack := fun hb => by
  obtain ⟨oe, vs, e1, _, e3, _⟩ := f.first
  exact fun_nf ff hb e1 vs e3
 have new : s1.heap.get? a = none := by
  cases q : s1.heap.get? a with
  | none => rfl
  | some o =>
   obtain ⟨o', e⟩ := there a o q nfr
   rw [Bn] at e; cases e
 have th : ∀ b o, s1.heap.get? b = some o → ∃ o', h.get? b = some o' := fun b o q => by
  by_cases hb : b ∈ frs X.stack
  ·obtain ⟨sl, e⟩ := slot b o q hb; exact ⟨_, e⟩
  ·obtain ⟨o', e⟩ := there b o q hb; exact ⟨o', stays _ _ e⟩
 have h1 : HOk X.prog X.w H2 h := hokB.kept stays
 have na : ∀ {b : Addr} {u : HO}, H2 b = some u → b ≠ a := fun e z => by rw [z, hH] at e; cases e
 refine ⟨I.call' (ch := []) fl.os ⟨fun b o q n hb _ => stays _ _ (keep b o q n hb), fun b o q _ hb _ => slot b o q hb, fun b o q n _ => fl.free b o q n, fun b o q _ => th b o q, fl.tups, fl.frzs, fl.tbls⟩ h1 fl.bare (fun _ z => nomatch z),
  I.call' (ch := []) fl.os ⟨fun b o q n hb _ => stays _ _ (keep b o q n hb), fun b o q _ hb _ => slot b o q hb, fun b o q n _ => ?_, fun b o q _ => th b o q, fun b xs q => ?_, fun b o u q => ?_, fun b cr q => ?_⟩ (fun b u e => ?_) fl.bare (fun _ z => nomatch z), hH, exat⟩
 ·rw [upd_ne (fun z => by rw [z, new] at q; cases q)]; exact fl.free b o q n
 ·have := fl.tups b xs q; rw [upd_ne (na this)]; exact this
 ·have := fl.frzs b o u q; rw [upd_ne (na this)]; exact this
 ·have := fl.tbls b cr q; rw [upd_ne (na this)]; exact this
 ·by_cases z : b = a
  ·subst z; rw [upd_same] at e; cases e; exact xcO_ok exat
  ·rw [upd_ne z] at e
   exact (h1 b u e).stay (fun _ _ _ q => q) (fun c q => by rw [upd_ne (na q)]; exact q) (fun c xs q => by rw [upd_ne (na q)]; exact q) fun c o u q => by rw [upd_ne (na q)]; exact q
theorem name_gone {M : Model} {A : Around} {E : Value → Shared → Prop} {n : Str} {j : Nat} {pos : Pos} {Q : Unit → Shared → Prop} (I : Inv X pins σ H s) (hN : X.N.Nodup) (hj : X.N[j]? = some n) (hl : X.env.kindOf n = some .local)
  (h : ∀ s', Inv X pins (σ.set j none) H s' → Q () s') : wpAny M A (do bindName X.env n .none; unbindBehindTheSuite X.env n pos) Q E s := by
 obtain ⟨m, hn, hm⟩ := id I.loc
 refine wpAny_nameGoes_keeps hl hn (by rw [I.ok.kind]; rfl) fun h' v hn' hs => h _ ?_
 have cne := I.cne
 have below : ∀ b o, X.s₀.heap.get? b = some o → b ≠ X.env.locals := fun b o e => Nat.ne_of_lt (Nat.lt_of_lt_of_le (Heap.lt_size e) I.ok.above)
 refine ⟨I.ok, I.os, I.bare, ⟨fun b o e k hb hx => (hs.2 b (below b o e)).trans (I.base.keep b o e k hb hx), fun b o e k hb hx => ?_, I.base.free, fun b o e hx => ?_, I.base.tups, I.base.frzs, I.base.tbls⟩, ⟨_, hn', fun i y v' e1 e2 e3 => ?_⟩, fun y c e => ?_, I.free, I.freeC, fun p hp => ?_, fun b ob e => ?_, by simpa using I.len⟩
 ·obtain ⟨sl, e1⟩ := I.base.slot b o e k hb hx
  exact ⟨sl, (hs.2 b (below b o e)).trans e1⟩
 ·obtain ⟨o', e1⟩ := I.base.there b o e hx
  exact ⟨o', (hs.2 b (below b o e)).trans e1⟩
 ·by_cases ij : i = j
  ·subst ij
   have : i < σ.length := by rw [I.len]; exact (List.getElem?_eq_some_iff.mp hj).1
   rw [List.getElem?_set_self this] at e2; cases e2
  ·rw [List.getElem?_set_ne (Ne.symm ij)] at e2
   obtain ⟨u', r', q⟩ := hm i y v' e1 e2 e3
   refine ⟨u', r', ?_⟩
   rcases q with ⟨k, e⟩ | ⟨k, c, e, z⟩
   ·have ne : y ≠ n := fun z => ij (nodup_ix hN e1 (z ▸ hj))
    exact .inl ⟨k, by simp [ne, e]⟩
   ·exact .inr ⟨k, c, e, z.sameBut hs (cne y c e)⟩
 ·obtain ⟨w', z⟩ := I.cell y c e
  exact ⟨w', z.sameBut hs (cne y c e)⟩
 ·obtain ⟨e, k, ne, nf, d⟩ := I.pin p hp
  exact ⟨(hs.2 p.1 ne).trans e, k, ne, nf, d⟩
 ·refine (I.hok b ob e).stay (fun c u hc q => (hs.2 c ?_).trans q) (fun _ q => q) (fun _ _ q => q) fun _ _ _ q => q
  rintro rfl
  rcases hc with z | z
  ·rw [← z, I.free] at e; cases e
  ·rw [I.free] at z; cases z
end
end L2
namespace L2
open PySem PySem.Spec PyProof.Rows Lw
def Ends.gone (D : Ends) (j : Nat) : Ends := { nx := fun σ H => D.nx (σ.set j none) H, rt := D.rt, bk := fun σ H => D.bk (σ.set j none) H, ct := fun σ H => D.ct (σ.set j none) H }
def exK (K : PySem.W.Frag) (CO : Addr) (j : Nat) (ts : TS) (D : Ends) (σ : St) : XK := fun C _ H2 => ∃ Ca, C = .ref Ca ∧ PySem.W.exmOne K (.ref Ca) (.ref CO) = some true ∧ ∀ a, H2 a = none → ts (D.gone j) (σ.set j (some (.ref a))) (upd H2 a (xcO a Ca))
section
variable {X : Cx} {pins : List (Addr × Obj)} {σ : St} {H H1 H2 : Hp} {s s1 s' : Shared} {D : Ends} {CO : Addr} {cn n x : Str} {i j : Nat} {b₀ : Stmt} {suite : List Stmt} {np pos hpos px apos : Pos} {ts : TS} {e : Expr} {te : XK → TE}
theorem caught {ev : Value} (hst : X.stack = X.env :: X.outer) (hfr : X.env.frame = some X.env.locals) (I : Inv X pins σ H1 s1) (c : CX1 X.prog X.w X.stack H1 s1 (exK X.K CO j ts D σ) ev s') (hgc : Gl X cn) (mc : X.mg cn = some (.ref CO)) (hN : X.N.Nodup) (hj : X.N[j]? = some n)
  (hl : X.env.kindOf n = some .local) (hsu : ∀ a, PSs (X.marked a).nox (b₀ :: suite) ts) (hdb : (cn == ("__debug__" : Str)) = false := by decide) :
  wpAny (model X.prog X.w) X.A (noteFrame ev X.env) (fun _ s₂ => wpAny (model X.prog X.w) X.A (setFlight ev none) (fun _ s₃ =>
   wpAny (model X.prog X.w) X.A (handleBy ev X.env [.ExceptHandler (some (.Name cn np)) (some n) (b₀ :: suite) hpos]) (SP X pins D) X.xe s₃) X.xe s₂) X.xe s' := by
 obtain ⟨a, C, H2, rfl, fl, Ca, rfl, hm, hk⟩ := c
 obtain ⟨B, t, hf, hokB, keep, there⟩ := fl.ex
 have hf1 := hf
 rw [hst] at hf1
 refine wpAny_looks_onW (L := X.env.locals) (hst ▸ I.ok.frames) hfr hf1 fun h4 held4 up4 => ?_
 refine wpAny_landsW held4 fun h5 fly5 up5 => ?_
 have land := fun {h : Heap} {tk : Nat} (f : Heap.FlyingW B (X.env :: X.outer) a (.ref Ca) (.ref t) h) (up : s'.heap.UpToSlots h) => land_inv (tk := tk) I fl hokB keep there (by rw [hst]; exact f) up
 obtain ⟨I5, _, h2a, ex5⟩ := land (tk := s'.toks) fly5 (up4.trans up5)
 refine wpAny_handleBy_cons (codeAny_handlers_test (ld_glob (X := X.marked a) (I5.marked a) hgc mc ?_ hdb)) (by intro q; cases q)
 obtain ⟨oe, oe1, oe2⟩ := ex5
 refine (PySem.W.exm_one (K := X.K) (cls := .ref Ca) I5.kIn (oe2 ▸ (PySem.W.Looks.ld oe1).andThen .now) hm).here ?_
 rw [if_pos rfl]
 refine codeAny_handlers_suite_as (lands_againW fly5 fun h6 fly6 up6 => ?_)
 obtain ⟨_, I6, _, _⟩ := land (tk := s'.toks) fly6 ((up4.trans up5).trans up6)
 refine store_ok (X := X.marked a) (v := .ref a) (I6.marked a) hN hj (.inl hl) rfl (fun s7 I7 => ?_) (.inr hl)
 refine wpAny_mono (hsu a pins s7 _ _ (D.gone j) (I7.wish _) (hk a h2a)) (fun fw s8 hq => ?_) fun _ _ z => z.elim
 cases fw with
 | next => obtain ⟨σ', H', I', q⟩ := hq; exact name_gone (I.unmarked I') hN hj hl fun s9 I9 => ⟨_, H', I9, q⟩
 | brk => obtain ⟨σ', H', I', q⟩ := hq; exact name_gone (I.unmarked I') hN hj hl fun s9 I9 => ⟨_, H', I9, q⟩
 | cont => obtain ⟨σ', H', I', q⟩ := hq; exact name_gone (I.unmarked I') hN hj hl fun s9 I9 => ⟨_, H', I9, q⟩
 | ret u => obtain ⟨v, σ', H', I', r, q⟩ := hq; exact name_gone (I.unmarked I') hN hj hl fun s9 I9 => ⟨v, _, H', I9, r, q⟩
def tTryA (K : PySem.W.Frag) (CO : Addr) (i j : Nat) (te : XK → TE) (ts : TS) : TS := fun D σ H => te (exK K CO j ts D σ) σ H fun v H1 => D.nx (σ.set i (some v)) H1
theorem ps_tryA (he : PEX X e te) (hst : X.stack = X.env :: X.outer) (hfr : X.env.frame = some X.env.locals) (hN : X.N.Nodup) (hi : X.N[i]? = some x) (hx : Loc X.env.scope x) (hgc : Gl X cn) (mc : X.mg cn = some (.ref CO)) (hj : X.N[j]? = some n) (hl : X.env.kindOf n = some .local)
  (hsu : ∀ a, PSs (X.marked a).nox (b₀ :: suite) ts) (hdb : (cn == ("__debug__" : Str)) = false := by decide) (hs : swapsWith e (some (.Name x px)) apos.line X.env = pure false := by rfl) (hf : X.fn x = true ∨ X.env.scope.names.lookup x = some .local := by first | exact .inl rfl | exact .inr rfl | assumption) :
  PS X (.Try [.Assign [.Name x px] e apos] [.ExceptHandler (some (.Name cn np)) (some n) (b₀ :: suite) hpos] [] [] pos) (tTryA X.K CO i j te ts) := by
 intro pins s σ H D I h
 refine wpAny_Try_except (wpAny_execs_cons (wpAny_Assign_Name (wpAny_mono (he pins s σ H _ _ I h) (fun v s1 ⟨y, H1, I1, r1, q1⟩ => ?_) fun ev s1 ⟨H1, s2, I1, c⟩ => caught hst hfr I1 c hgc mc hN hj hl hsu hdb) hs))
 exact store_ok I1 hN hi hx r1 (fun s2 I2 => wpAny_execs_nil (wpAny_execs_nil ⟨_, H1, I2, q1⟩)) hf
end
def clsV : V → Option Value
 | .ref a => some (.ref a)
 | .ty n => some (.type n)
 | _ => none
theorem clsV_of {v : V} {u u' : Value} (r : RelV v u) (e : clsV v = some u') : u = u' := by
 cases v <;> first | cases e | skip
 ·exact r
 ·exact r
theorem clsVs_of : ∀ {vs : List V} {us us' : List Value}, Vals vs us → vs.map clsV = us'.map some → us = us'
 | _, _, [], .nil, _ => rfl
 | _, _, _ :: _, .nil, e => by cases e
 | _, _, [], .cons _ _, e => by cases e
 | _, _, u' :: us', .cons r t, e => by
  rw [List.map_cons, List.map_cons] at e
  injection e with e1 e2
  rw [clsV_of r e1, clsVs_of t e2]
inductive TyXc (K : PySem.W.Frag) (H : Hp) : V → Value → Prop where
 | non : TyXc K H .non (.type "NoneType")
 | exc {a C : Addr} (e : H a = some (xcO a C)) (c : XC K C) : TyXc K H (.ref a) (.ref C)
theorem TyXc.kit {X : Cx} {pins : List (Addr × Obj)} {σ : St} {H : Hp} {s : Shared} {x : V} {t u : Value} (I : Inv X pins σ H s) (r : RelV x u) (k : TyXc X.K H x t) : ∃ Z, PySem.W.KitX X.K u t Z ∧ Z s.heap ∧ u ≠ .builtin "__main__.__loader__#opaque" := by
 cases k with
 | non => cases (show u = Value.none from r); exact ⟨_, PySem.W.kitx_none, True.intro, fun z => nomatch z⟩
 | @exc a C e c =>
  cases (show u = Value.ref a from r)
  exact ⟨_, kitx_exc c, (show ObjOk X.prog X.w H s.heap a (xcO a C) from I.hok a _ e).1, fun z => nomatch z⟩
def rIsX (K : PySem.W.Frag) : List V → Hp → VK → Prop := fun xs H Q => ∃ x c t b, xs = [x, c] ∧ TyXc K H x t ∧
 ((∃ u, clsV c = some u ∧ PySem.W.kitOne K t u = some b) ∨ ∃ tp cs us, c = .ref tp ∧ H tp = some (.tup cs) ∧ cs.map clsV = us.map some ∧ PySem.W.kitAny K t us = some b) ∧ Q (.bl b) H
theorem call_isX {X : Cx} {K : PySem.W.Frag} (eK : X.K = K) : CallR X (.builtin "isinstance") (rIsX K) := by
 subst eK
 rintro pins s σ H xs us Q I r ⟨x, c, t, b, rfl, kx, hc, q⟩
 cases r with
 | cons r1 r' =>
  cases r' with
  | cons r2 r'' =>
   cases r''
   obtain ⟨Z, kz, z, hne⟩ := kx.kit I r1
   rcases hc with ⟨u, e1, e2⟩ | ⟨tp, cs, us, rfl, ht, e1, e2⟩
   ·rw [clsV_of r2 e1]
    exact PySem.W.kia_one kz I.kIn z e2 hne fun tk => ⟨.bl b, H, I.tok _, rfl, q⟩
   ·cases (show _ = Value.ref tp from r2)
    obtain ⟨_, its, rv, ⟨o, o1, o2, n, o3⟩, _⟩ := (show ObjOk X.prog X.w H s.heap tp (.tup cs) from I.hok tp _ ht)
    obtain ⟨cls, dct, dt, sl⟩ := o
    dsimp only at o2 o3
    subst o2 o3
    rw [clsVs_of rv e1] at o1
    exact PySem.W.kia_tup kz I.kIn z o1 e2 hne fun tk => ⟨.bl b, H, I.tok _, rfl, q⟩
end L2
namespace L2
open PySem PySem.Spec PyProof.Rows Lw
def rTxt (x : Str) : Prop := x.length ≤ 1000 ∧ ∀ c ∈ x.cps.toList, c < 16 ^ 8
def tFR (z : Str) (te : TE) : TE := fun σ H Q => te σ H fun v H1 => ∃ x, v = .str x ∧ rTxt x ∧ Q (.str (Str.empty ++ z ++ reprText x)) H1
theorem rTxt.fit {x z : Str} (h : rTxt x) (hz : z.length ≤ 1000) : (reprText x).length ≤ sizeLine ∧ (Str.empty ++ z ++ reprText x).length ≤ sizeLine := by
 have h1 := StrLaws.reprText_len x h.2
 have h2 := h.1
 have h3 : (20000 : Nat) < sizeLine := by decide
 refine ⟨by omega, ?_⟩
 rw [strLen_append, strLen_append]
 have : Str.empty.length = 0 := rfl
 omega
theorem pe_fR {X : Cx} {z : Str} {e : Expr} {te : TE} {k p1 p2 pos} (he : PE X e te) (hz : z.length ≤ 1000 := by decide) : PE X (.JoinedStr [.Constant (.str z) k p1, .FormattedValue e 114 none p2] pos) (tFR z te) := by
 intro pins s σ H Q I h
 refine wpAny_JoinedStr ?_
 refine wpAny_Constant_str ⟨z, _, rfl, ?_, ?_⟩
 ·rw [strLen_append]
  have : Str.empty.length = 0 := rfl
  have h3 : (20000 : Nat) < sizeLine := by decide
  omega
 refine wpAny_FormattedValue_repr (thn (he pins _ σ H _ (I.tok _) h) fun u s1 ⟨v, H1, I1, r, x, hv, hx, q⟩ => ?_)
 subst hv
 obtain ⟨t, rfl⟩ := r
 obtain ⟨f1, f2⟩ := hx.fit hz
 refine PySem.pyReprObj_str ?_ f1
 have fin : ∀ tk, ∃ y t', Value.str (reprText x) tk = .str y t' ∧ (Str.empty ++ z ++ y).length ≤ sizeLine ∧ Joins (model X.prog X.w) X.A X.xe [] (Str.empty ++ z ++ y) (fun out s₁ => out.length ≤ sizeLine ∧ EP X pins σ Q (.str out s₁.toks) { s₁ with toks := s₁.toks + 1 }) { s1 with toks := s1.toks + 1 } := fun tk => ⟨_, _, rfl, f2, f2, .str (Str.empty ++ z ++ reprText x), H1, (I1.tok _).tok _, ⟨_, rfl⟩, q⟩
 have fin2 : ∀ tk, ∃ y t', Value.str (reprText x) tk = .str y t' ∧ (Str.empty ++ z ++ y).length ≤ sizeLine ∧ Joins (model X.prog X.w) X.A X.xe [] (Str.empty ++ z ++ y) (fun out s₁ => out.length ≤ sizeLine ∧ EP X pins σ Q (.str out s₁.toks) { s₁ with toks := s₁.toks + 1 }) { s1 with toks := s1.toks + 1 + 1 } := fun tk => ⟨_, _, rfl, f2, f2, .str (Str.empty ++ z ++ reprText x), H1, ((I1.tok _).tok _).tok _, ⟨_, rfl⟩, q⟩
 exact wpAny_formatField_str (fin _) (fin2 _)
end L2
namespace L2
open PySem PySem.Spec PyProof.Rows Lw
def XEnd (K : PySem.W.Frag) (G H : Hp) (Q : VK) (E : XK) : Except Addr PyData → Prop
 | .ok d => ∀ v G' H', Grow G H G' H' → Dat K G' v d → Q v H'
 | .error C => ∀ H', Same H H' → E (.ref C) none H'
def spX (K : PySem.W.Frag) (R : List PyData → Except Addr PyData → Prop) : Sp := fun vs H Q E => ∃ (G : Hp) (ds : List PyData) (r : Except Addr PyData), Same G H ∧ Dats K G vs ds ∧ R ds r ∧ XEnd K G H Q E r
section
variable {K : PySem.W.Frag} {B : Hp} {ρ : List PV} {te ta tb tx : TE} {G0 H0 G H : Hp} {σ : St} {F : Nat → List Addr} {Z : Hp → Prop} {R : List PyData → Except Addr PyData → Prop} {Ek : XK} {t : TA} {ds : List PyData} {d : PyData} {C : Addr}
theorem er_callX (h : Ea K B t ρ ds) (hR : R ds (.ok d)) : Er K B (tCall (spX K R) [] Ek t) ρ d := fun G σ r G1 H s1 s2 Q k => by
 refine h G σ r G1 H s1 s2 _ fun vs G2 H2 g hv => ?_
 rw [List.append_nil]
 exact ⟨G2, ds, .ok d, g.gh, hv, hR, fun v G' H' g' hv => k v G' H' (g.trans g') hv⟩
def ErX (K : PySem.W.Frag) (B : Hp) (te : XK → TE) (ρ : List PV) (C : Addr) : Prop := ∀ (E : XK) (G : Hp) (σ : St), Rx K B G σ ρ → ∀ G1 H, Same G G1 → Same G1 H → (∀ H', Same H H' → E (.ref C) none H') → ∀ Q, te E σ H Q
def EaX (K : PySem.W.Frag) (B : Hp) (ta : XK → TA) (ρ : List PV) (C : Addr) : Prop := ∀ (E : XK) (G : Hp) (σ : St), Rx K B G σ ρ → ∀ G1 H, Same G G1 → Same G1 H → (∀ H', Same H H' → E (.ref C) none H') → ∀ Q, ta E σ H Q
theorem erX_call (h : Ea K B t ρ ds) (hR : R ds (.error C)) : ErX K B (fun E => tCall (spX K R) [] E t) ρ C := fun E G σ r G1 H s1 s2 z Q => by
 refine h G σ r G1 H s1 s2 _ fun vs G2 H2 g hv => ?_
 rw [List.append_nil]
 exact ⟨G2, ds, .error C, g.gh, hv, hR, fun H' s' => z H' (g.hh.trans s')⟩
theorem erX_args {sp : Sp} {ta : XK → TA} (h : EaX K B ta ρ C) : ErX K B (fun E => tCall sp [] E (ta E)) ρ C := fun E G σ r G1 H s1 s2 z Q => h E G σ r G1 H s1 s2 z _
theorem eaX_here {te : XK → TE} {ta : XK → TA} (h : ErX K B te ρ C) : EaX K B (fun E => tCons (te E) (ta E)) ρ C := fun E G σ r G1 H s1 s2 z Q => h E G σ r G1 H s1 s2 z _
theorem eaX_next {te : XK → TE} {ta : XK → TA} (he : ∀ E, Er K B (te E) ρ d) (h : EaX K B ta ρ C) : EaX K B (fun E => tCons (te E) (ta E)) ρ C := fun E G σ r G1 H s1 s2 z Q =>
 he E G σ r G1 H s1 s2 _ fun v G2 H2 g hv => h E G σ r G2 H2 (s1.trans g.gg) g.gh (fun H' s' => z H' (g.hh.trans s')) _
def SvX (Z : Hp → Prop) (K : PySem.W.Frag) (B : Hp) (t : TS) (ρ : List PV) (R : Pn) : Prop := ∀ G0 H0 G H σ F D, (∀ H', Same H0 H' → Z H') → Rl K B (fun _ => False) G0 H0 G H σ ρ F → Dn K B (fun _ => False) G0 H0 G R D → t D σ H
theorem svX {t : TS} {R : Pn} (h : Sv K B t ρ R) : SvX Z K B t ρ R := fun G0 H0 G H σ F D _ => h _ G0 H0 G H σ F D
theorem svX_seq {t u : TS} {R : Pn} (h : Sv K B t ρ { R with nx := fun ρ' => SvX Z K B u ρ' R }) : SvX Z K B (tSeq t u) ρ R := fun G0 H0 G H σ F D z r d =>
 h _ G0 H0 G H σ F { D with nx := u D } r ⟨fun hs s r' => hs G0 H0 _ _ _ _ D z r' (d.mono s), d.rt, d.bk, d.ct⟩
theorem svX_seqX {t u : TS} {R : Pn} (h : SvX Z K B t ρ { R with nx := fun ρ' => SvX Z K B u ρ' R }) : SvX Z K B (tSeq t u) ρ R := fun G0 H0 G H σ F D z r d =>
 h G0 H0 G H σ F { D with nx := u D } z r ⟨fun hs s r' => hs G0 H0 _ _ _ _ D z r' (d.mono s), d.rt, d.bk, d.ct⟩
theorem svX_if {c : TT} {t u : TS} {b : Bool} {R : Pn} (h : Et K B c ρ b) (k1 : b = true → SvX Z K B t ρ R) (k2 : b = false → SvX Z K B u ρ R) : SvX Z K B (tIfS c t u) ρ R := fun G0 H0 G H σ F D z r d => by
 obtain ⟨s1, s2, x⟩ := r.gpl
 refine h _ σ x _ H (Same.refl _) s2 _ fun G' H' g => ?_
 have r' := r.grow (grow_h r.g.gh g.hh)
 cases b with
 | true => rw [if_pos rfl]; exact k1 rfl G0 H0 _ _ σ F D z r' d
 | false => rw [if_neg Bool.false_ne_true]; exact k2 rfl G0 H0 _ _ σ F D z r' d
theorem svX_ifT {c : TT} {t u : TS} {R : Pn} (h : Et K B c ρ true) (k1 : SvX Z K B t ρ R) : SvX Z K B (tIfS c t u) ρ R := svX_if h (fun _ => k1) fun z => (by cases z)
theorem svX_ifF {c : TT} {t u : TS} {R : Pn} (h : Et K B c ρ false) (k1 : SvX Z K B u ρ R) : SvX Z K B (tIfS c t u) ρ R := svX_if h (fun z => by cases z) fun _ => k1
theorem svX_raise {R : Pn} (h : Ea K B t (msk ρ) ds) (hl : ds.length ≤ sizeLine) : SvX (Ek (.ref C) none) K B (tRaise Ek C t) ρ R := fun G0 H0 G H σ F D z r d =>
 h G σ r.rx G H (Same.refl _) r.g.gh _ fun vs G' H' g hv => ⟨by rw [hv.length]; exact hl, z H' (r.g.toGrow.hh.trans g.hh)⟩
theorem svX_asg {te : XK → TE} {g : TG} {R : Pn} (h : ErX K B te (msk ρ) C) : SvX (Ek (.ref C) none) K B (tAsg (te Ek) g) ρ R := fun G0 H0 G H σ F D z r d =>
 h Ek G σ r.rx G H (Same.refl _) r.g.gh (fun H' s' => z H' (r.g.toGrow.hh.trans s')) _
theorem svX_ret {te : XK → TE} {R : Pn} (h : ErX K B te (msk ρ) C) : SvX (Ek (.ref C) none) K B (tRet (te Ek)) ρ R := fun G0 H0 G H σ F D z r d =>
 h Ek G σ r.rx G H (Same.refl _) r.g.gh (fun H' s' => z H' (r.g.toGrow.hh.trans s')) _
theorem er_fR {z x : Str} (h : Er K B te ρ (.str x)) (hx : rTxt x) : Er K B (tFR z te) ρ (.str (Str.empty ++ z ++ reprText x)) := fun G σ r G1 H s1 s2 Q k =>
 h G σ r G1 H s1 s2 _ fun v G2 H2 g hv => ⟨x, hv.str, hx, k _ G2 H2 g (dat_str _)⟩
def xcT (C : Addr) : Tg where
 ok := fun p fp _ H => fp = [] ∧ H p = some (xcO p C)
 st := fun {p fp G H G' H'} h _ k => ⟨h.1, by rw [k p (by simp)]; exact h.2⟩
 live := fun {p fp G H} h a ha => by
  obtain ⟨e, q⟩ := h
  subst e
  rw [List.mem_singleton.mp ha]
  exact ⟨_, q⟩
theorem er_isX {i : Nat} {v : V} {u : Value} {b : Bool} (hi : ρ[i]? = some (.thg (xcT C))) (c : XC K C) (hv : clsV v = some u) (hk : PySem.W.kitOne K (.ref C) u = some b) : Er K B (tCB (rIsX K) (tCons (tVar i) (tCons (tC v) tNil))) ρ (.bool b) := fun G σ r G1 H s1 s2 Q k => by
 obtain ⟨p, fp, hp, _, e⟩ := r.2.2.2.1 i _ hi
 exact ⟨_, hp, _, _, _, b, rfl, .exc (s2 _ _ (s1 _ _ e)) c, .inl ⟨u, hv, hk⟩, k _ G1 H (Grow.refl s2) (dat_bl b)⟩
theorem er_isXs {i : Nat} {tc : TA} {cs : List V} {us : List Value} {b : Bool} (hi : ρ[i]? = some (.thg (xcT C))) (c : XC K C) (ht : ∀ σ H (Q : List V → Hp → Prop), Q cs H → tc σ H Q) (hl : cs.length ≤ sizeLine) (hv : cs.map clsV = us.map some) (hk : PySem.W.kitAny K (.ref C) us = some b) :
  Er K B (tCB (rIsX K) (tCons (tVar i) (tCons (tTup tc) tNil))) ρ (.bool b) := fun G σ r G1 H s1 s2 Q k => by
 obtain ⟨p, fp, hp, _, e⟩ := r.2.2.2.1 i _ hi
 have e2 := s2 _ _ (s1 _ _ e)
 refine ⟨_, hp, ht _ _ _ ⟨hl, fun q hq => ?_⟩⟩
 exact ⟨_, _, _, b, rfl, .exc (by rw [upd_ne (ne_of_none e2 hq)]; exact e2) c, .inr ⟨q, cs, us, rfl, upd_same, hv, hk⟩, k _ G1 _ (grow_h s2 (same_new hq)) (dat_bl b)⟩
theorem Rl.unset {E : Addr → Prop} {j : Nat} {o : Option V} (R : Rl K B E G0 H0 G H σ ρ F) : Rl K B E G0 H0 G H (σ.set j o) (ρ.set j .un) (fun k => if k = j then [] else F k) := by
 refine ⟨R.g, R.bb, by rw [List.length_set, List.length_set, R.ls], fun k u h => ?_, fun k a ha => ?_, fun k l a ha hb => ?_, fun k ds a h ha => ?_⟩
 ·by_cases e : k = j
  ·subst e
   rw [if_pos rfl]
   have hk : k < ρ.length := by
    have := (List.getElem?_eq_some_iff.mp h).1
    rw [List.length_set] at this; exact this
   rw [List.getElem?_set_self hk] at h
   cases h
   rfl
  ·rw [if_neg e]
   rw [List.getElem?_set_ne (Ne.symm e)] at h ⊢
   exact R.sl k u h
 ·by_cases e : k = j
  ·rw [if_pos e] at ha; cases ha
  ·rw [if_neg e] at ha; exact R.fr k a ha
 ·by_cases e : k = j
  ·rw [if_pos e] at ha; cases ha
  ·by_cases e' : l = j
   ·rw [if_pos e'] at hb; cases hb
   ·rw [if_neg e] at ha; rw [if_neg e'] at hb; exact R.dj k l a ha hb
 ·by_cases e : k = j
  ·rw [if_pos e] at ha; cases ha
  ·rw [if_neg e] at ha
   rw [List.getElem?_set_ne (Ne.symm e)] at h
   exact R.ow k ds a h ha
theorem Rl.caught {E : Addr → Prop} {H' : Hp} {a : Addr} {i : Nat} (R : Rl K B E G0 H0 G H σ ρ F) (s : Same H H') (ha : H' a = none) : ∃ F', Rl K B E G0 H0 G (upd H' a (xcO a C)) (σ.set i (some (.ref a))) (ρ.set i (.thg (xcT C))) F' := by
 have gp : G a = none := (R.g.gh.trans s).free ha
 have h0 : H0 a = none := R.g.al a (s.free ha)
 have r1 := R.grow (grow_h R.g.gh (s.trans (same_new (o := xcO a C) ha)))
 refine ⟨_, r1.set (L := [a]) ⟨a, [], rfl, rfl, rfl, upd_same⟩ ⟨fun b hb => ?_, fun b hb j hj => ?_⟩⟩
 ·rw [List.mem_singleton.mp hb]
  exact ⟨gp, ⟨_, upd_same⟩, h0⟩
 ·rw [List.mem_singleton.mp hb] at hj
  obtain ⟨_, ⟨o, h⟩, _⟩ := R.fr j a hj
  rw [s a o h] at ha; cases ha
theorem sv_tryOk {CO : Addr} {i j : Nat} {te : XK → TE} {ts : TS} {R : Pn} (h : ∀ E, Er K B (te E) (msk ρ) d) (k : R.nx (ρ.set i (.dat d))) : Sv K B (tTryA K CO i j te ts) ρ R := fun E G0 H0 G H σ F D r dn =>
 (eg_er (R := fun r ρ' => R.nx (ρ'.set i r)) (h _) k) E G0 H0 G H σ F r _ fun v w ρ' G' H' F' L hR s r' sl n => dn.nx hR s (r'.set sl n)
theorem sv_tryAs {CO : Addr} {i j l : Nat} {te : XK → TE} {R : Pn} (h : ErX K B te (msk ρ) C) (hm : PySem.W.exmOne K (.ref C) (.ref CO) = some true) (hj : j < ρ.length) (k : R.nx (((ρ.set j .un).set l (.thg (xcT C))).set j .un)) : Sv K B (tTryA K CO i j te (tAsg (tVar j) (gName l))) ρ R := fun E G0 H0 G H σ F D r dn => by
 refine h _ G σ r.rx G H (Same.refl _) r.g.gh (fun H' s' => ⟨C, rfl, hm, fun a ha => ?_⟩) _
 obtain ⟨F1, r1⟩ := (r.unset (j := j) (o := some (.ref a))).caught (C := C) (i := l) s' ha
 exact ⟨.ref a, List.getElem?_set_self (by rw [r.ls]; exact hj), dn.nx k (Same.refl _) r1.unset⟩
variable {P : Program} {w : World} {mg : Str → Option Value} {base : Heap}
theorem Fun.okX {x qual : Str} {st : Stmt} {f : Addr} {fd : FuncData} {N ps : List Str} {k : Nat} {R : List PyData → Except Addr PyData → Prop} (Fn : Fun K x qual st f fd) (S : FnScope N ps (defScope st)) (len : ∀ ds r, R ds r → ds.length = ps.length)
  (hb : ∀ (cdv : Value) (A : Around) (outer : List Env) (s : Shared) (H : Hp) (E : XK), Room k (A.deeper (envOfC qual (defScope st) s.heap.objs.size f cdv)) → ∀ ds r, R ds r →
   ∃ t, PSs (cxOf (CX1 P w) P w K mg base N qual (defScope st) f cdv A outer s H E) (defBody st) t ∧ (∀ d, r = .ok d → Sv K B0 t (startP N (ds.map .dat)) { nx := fun _ => d = .none, rt := fun r _ => r = .dat d }) ∧
    ∀ C, r = .error C → SvX (E (.ref C) none) K B0 t (startP N (ds.map .dat)) { nx := fun _ => False, rt := fun _ _ => False }) : FnOk P w K mg base (CX1 P w) (k + 1) f fd ps (spX K R) := by
 obtain ⟨oc, od, kV, doc, pm, an, cdv, ct, osl, rfl, lk, hcd⟩ := Fn.ex
 refine fn_of lk hcd S (fun vs H Q E h => ?_) fun A outer s H vs Q E hr h => ?_
 ·obtain ⟨G, ds, d, _, hv, hR, _⟩ := h
  rw [hv.length]; exact len ds d hR
 ·obtain ⟨G, ds, d, sg, hv, hR, kk⟩ := h
  obtain ⟨t, ht, h1, h2⟩ := hb cdv A outer s H E hr ds d hR
  refine ⟨t, ht, ?_⟩
  cases d with
  | ok d =>
   refine h1 d rfl _ _ _ _ _ _ _ _ (dats_rl b0 sg hv) ⟨fun e _ r => ?_, fun e _ r sl n => ?_, fun e => e.elim, fun e => e.elim⟩
   ·have e : d = .none := e
    subst e
    exact kk _ _ _ r.g.toGrow dat_non
   ·subst e
    obtain ⟨_, y, hy, hd⟩ := sl
    cases hy
    exact kk _ _ _ r.g.toGrow hd
  | error C => exact h2 C rfl _ _ _ _ _ _ _ kk (dats_rl b0 sg hv) ⟨fun e => e.elim, fun e => e.elim, fun e => e.elim, fun e => e.elim⟩
end
end L2
namespace L2
open PySem PySem.Spec PyProof.Rows Lw
theorem thnT {α : Type} {t : Sem α} {Q Q' : α → Shared → Prop} {M : Model} {A : Around} {E : Value → Shared → Prop} {s : Shared} {n : Nat} (hn : n ≤ s.toks) (h : wpAny M A t Q E s) (hQ : ∀ a s', n ≤ s'.toks → Q a s' → Q' a s') : wpAny M A t Q' E s :=
 wpAny_mono (wpAny_toks_of hn h) (fun a s' z => hQ a s' z.1 z.2) fun _ _ z => z.2
section
variable {X : Cx} {s : Shared} {e o : Expr} {es : List Expr} {te to tl : TE} {t : TA} {tg : Expr} {pos cpos apos p px : Pos} {x name : Str} {T id : String} {r : V → List V → Hp → VK → Prop}
def PEs (X : Cx) (s : Shared) (e : Expr) (t : TE) : Prop := ∀ (pins : List (Addr × Obj)) (σ : St) (H : Hp) (Q : VK), Inv X pins σ H s → t σ H Q → wpAny (model X.prog X.w) X.A (eval e X.env) (EP X pins σ Q) X.xe s
def PAs (X : Cx) (s : Shared) (es : List Expr) (t : TA) : Prop := ∀ (pos : Pos) (pins : List (Addr × Obj)) (σ : St) (H : Hp) (Q : List V → Hp → Prop), Inv X pins σ H s → t σ H Q → wpAny (model X.prog X.w) X.A (spliced (backTo pos (starEach es X.env))) (AP X pins σ Q) X.xe s
def PIs (X : Cx) (s : Shared) (tg iter : Expr) (wi : TI) : Prop := ∀ (pins : List (Addr × Obj)) (σ : St) (H : Hp) (R : It → Hp → Prop), Inv X pins σ H s → wi σ H R → wpAny (model X.prog X.w) X.A (eval iter X.env) (fun v s1 => wpAny (model X.prog X.w) X.A (pyIter v) (PIE X pins σ tg R) X.xe s1) X.xe s
def tRepl (y z : Str) (te : TE) : TE := fun σ H Q => te σ H fun v H1 => ∃ x, v = .str x ∧ x.length + (x.length + 1) * z.length ≤ 16777216 ∧ Q (.str (Txt.replace x y z)) H1
theorem pes_replace {y z : Str} {k1 k2 p1 p2} (ho : PE X o to) (ht : 1 ≤ s.toks) (hyz : (y == z) = false) (hbase : attributeBase o "replace" X.env (eval o X.env) = eval o X.env := by rfl)
  (hfew : ((backTo cpos (starEach [.Constant (.str y) k1 p1, .Constant (.str z) k2 p2] X.env)).all (fun x => !x.1) && (backToKw cpos (keywordEach [] X.env)).all (fun x => x.1.isSome)
   && decide (([.Constant (.str y) k1 p1, .Constant (.str z) k2 p2] : List Expr).length + ([] : List Keyword).length + (if ([] : List Keyword).isEmpty then 0 else 1) < 30)) = true := by rfl)
  (hline : (apos.endLine == cpos.line) = true := by rfl) : PEs X s (.Call (.Attribute o "replace" apos) [.Constant (.str y) k1 p1, .Constant (.str z) k2 p2] [] cpos) (tRepl y z to) := by
 intro pins σ H Q I h
 refine wpAny_Call_method_late hbase hfew hline rfl (thnT ht (ho pins s σ H _ I h) fun v s1 ht1 ⟨x, H1, I1, r1, x', e, hb, q1⟩ => ?_)
 subst e
 obtain ⟨h1, h2⟩ := tyV_is (T := "str") I1 r1 rfl
 refine ⟨"str", "str.replace", PySem.F.plainAttrs_str, PySem.F.slot_str_replace, PySem.F.type_str_replace, h1, h2, ?_⟩
 obtain ⟨tk, rfl⟩ := r1
 refine Calls.callWith_builtin rfl (Calls.evalArgs_plain ?_)
 refine Calls.spliced_cons (wpAny_Constant_str (k := k1) (pos := p1) (Calls.spliced_cons (wpAny_Constant_str (k := k2) (pos := p2) (Calls.spliced_nil ?_))))
 refine SC.replace ?_ ?_ ?_ hyz hb fun t' k => ⟨.str (Txt.replace x' y z), H1, ((I1.tok _).tok _).tok _, ⟨_, rfl⟩, q1⟩
 ·exact Nat.ne_of_gt ht1
 ·exact Nat.succ_ne_zero _
 ·exact Nat.ne_of_lt (Nat.lt_succ_self _)
theorem pes_bm (pa : PlainAttrs T) (slot : Slot T name id) (hty : typeOf (.builtin id) = pure (.type "method_descriptor")) (hm : MtR X id r) (ho : PEs X s o to) (ha : PA X (e :: es) t)
  (hbase : attributeBase o name X.env (eval o X.env) = eval o X.env := by rfl)
  (hfew : ((backTo cpos (starEach (e :: es) X.env)).all (fun x => !x.1) && (backToKw cpos (keywordEach [] X.env)).all (fun x => x.1.isSome)
   && decide ((e :: es).length + ([] : List Keyword).length + (if ([] : List Keyword).isEmpty then 0 else 1) < 30)) = true := by rfl)
  (hline : (apos.endLine == cpos.line) = true := by rfl) (hs : starEach (e :: es) X.env = (false, eval e X.env) :: starEach es X.env := by rfl) (hplain : (backTo cpos (starEach es X.env)).any (·.1) = false := by rfl) :
  PEs X s (.Call (.Attribute o name apos) (e :: es) [] cpos) (tBM X.K T r to t) := by
 intro pins σ H Q I h
 refine wpAny_Call_method_late hbase hfew hline rfl (thn (ho pins σ H _ I h) fun v s1 ⟨x, H1, I1, r1, ty, q1⟩ => ?_)
 obtain ⟨h1, h2⟩ := tyV_is I1 r1 ty
 refine ⟨T, id, pa, slot, hty, h1, h2, ?_⟩
 have hA := ha cpos pins s1 σ H1 _ I1 q1
 rw [hs] at hA ⊢
 refine Calls.callWith_builtin (by show (false || (backTo cpos (starEach es X.env)).any (·.1)) = false; rw [hplain] <;> rfl) (Calls.evalArgs_plain ?_)
 exact thn hA fun us s2 ⟨vs, H2, I2, r2, q2⟩ => hm pins s2 σ H2 x vs v us Q I2 r1 r2 q2
theorem pis_list {l : Expr} (hl : PEs X s l tl) : PIs X s tg l (iList X.K tl) := by
 intro pins σ H R I h
 refine thn (hl pins σ H _ I h) fun v s1 ⟨x, H1, I1, r1, q1⟩ => ?_
 obtain ⟨a, e, ⟨xs, hq⟩, q⟩ := q1
 subst e
 cases r1
 obtain ⟨its, rv, p, hz⟩ := I1.list hq
 refine wpAny_pyIter_list p.isList ?_
 refine ⟨s1.heap.objs.size, [s1.heap.objs.size], _, _, H1, rfl, I1.kept (t' := s1.toks) fun b o e => Heap.get?_push_of_some _ e, turn_list a _, ⟨_, Heap.get?_push_size _ rfl, rfl, rfl⟩, fun b hb => ?_, q⟩
 have e : b = s1.heap.objs.size := by simpa using hb
 subst e
 exact I1.fpOk (Nat.le_refl _) (I1.hok.fresh (Nat.le_refl _))
theorem pes_lc {sc : Scope} {cap : List Str} (S : CompScope X.env.scope sc x cap) {js : List Nat} (hjs : js.map (fun j => X.N[j]?) = cap.map some) (hc : X.calm = true) (hxe : ∀ e s, ¬ X.xe e s) {elt iter : Expr} {ifs : List Expr} {wi : TI} {tt : TT} {te : TE}
  (hi : PIs X s (.Name x px) iter wi) (hb : ∀ C s0 H0 ex, PIf (compCx X sc (x :: cap) C s0 H0 ex) ifs tt ∧ PE (compCx X sc (x :: cap) C s0 H0 ex) elt te)
  (hs : ∀ x, foldedSetIterable iter X.env x = pure x := by intro _; rfl) : PEs X s (.ListComp elt [⟨.Name x px, iter, ifs, 0⟩] sc pos) (tLC wi js tt te) := by
 intro pins σ H Q I h
 rw [eval_ListComp]
 refine wpAny_comprehension_free (use := none) rfl hs (closureFor_eq (S.n.cells I.ok)) S.kind S.names (thn (hi pins σ H _ I h) fun xv s₁ h₁ => thn h₁ fun itv s₂ h₂ => ?_)
 obtain ⟨it, fp, tn, J, H2, e, I2, T, st2, f2, W, w0, turn⟩ := h₂
 subst e
 refine comp_runN (xs := [x]) (Q := Q) (RR := fun acc C => compPost (model X.prog X.w) X.A X.xe none (EP X pins σ Q) acc C) S.n hjs hc S.pg hb I2 T st2 f2 w0 (lcw_n turn) ?_
 intro D C s' σ' H' ys its k hD hC J' rv hz q
 obtain ⟨m, hn, _⟩ := J'.loc
 have pinD := J'.pin (D, { cls := .type "list", data := .seq its.toArray k }) (List.mem_append_right _ (List.mem_singleton.mpr rfl))
 exact ⟨m, hn, fun h' hs' => ⟨.ref D, _, comp_endN (xs := [x]) S.n I2 f2 hD hC J' pinD.2.1 pinD.1 rv hz hs', rfl, q D pinD.2.1⟩⟩
theorem pas_one (ha : PEs X s e te) (hs : starEach [e] X.env = [(false, eval e X.env)] := by rfl) : PAs X s [e] (tCons te tNil) := by
 intro pos pins σ H Q I h
 rw [hs]
 exact Calls.spliced_cons (thn (ha pins σ H _ I h) fun u s1 ⟨x, H1, I1, r1, q1⟩ => Calls.spliced_nil ⟨[x], H1, I1, .cons r1 .nil, q1⟩)
theorem pes_callB {r : List V → Hp → VK → Prop} (hc : CallR X (.builtin id) r) (hg : Gl X x) (hm : X.mg x = none) (hv : bootBuiltins x = some (.builtin id)) (ha : PAs X s (e :: es) t) (hn : x ≠ "__name__" := by decide) (hdb : (x == ("__debug__" : Str)) = false := by decide)
  (he : starEach (e :: es) X.env = (false, eval e X.env) :: starEach es X.env := by rfl) (hpl : (backTo pos (starEach es X.env)).any (·.1) = false := by rfl) : PEs X s (.Call (.Name x p) (e :: es) [] pos) (tCB r t) := by
 intro pins σ H Q I h
 refine wpAny_Call_Name_kw (ld_blt I hg hm hv ?_ hn hdb)
 exact PyProof.Rows.callWith_builtin1 (thn (ha pos pins σ H _ I h) fun us s1 ⟨vs, H1, I1, r1, q1⟩ => hc pins s1 σ H1 vs us Q I1 r1 q1) he hpl
def PS1 (X : Cx) (st : Stmt) (t : TS) : Prop := ∀ (pins : List (Addr × Obj)) (s : Shared) (σ : St) (H : Hp) (D : Ends), 1 ≤ s.toks → Inv X pins σ H s → t D σ H → wpAny (model X.prog X.w) X.A (exec st X.env) (SP X pins D) X.xe s
def PSs1 (X : Cx) (st : List Stmt) (t : TS) : Prop := ∀ (pins : List (Addr × Obj)) (s : Shared) (σ : St) (H : Hp) (D : Ends), 1 ≤ s.toks → Inv X pins σ H s → t D σ H → wpAny (model X.prog X.w) X.A (execs st X.env) (SP X pins D) X.xe s
theorem PS.one {st : Stmt} {t : TS} (h : PS X st t) : PS1 X st t := fun pins s σ H D _ => h pins s σ H D
theorem pss1_cons {st : Stmt} {rest : List Stmt} {t u : TS} (h1 : PS1 X st t) (h2 : PSs1 X rest u) : PSs1 X (st :: rest) (tSeq t u) := by
 intro pins s σ H D ht I h
 refine wpAny_execs_cons (thnT ht (h1 pins s σ H { D with nx := u D } ht I h) fun f s1 ht1 q => ?_)
 cases f with
 | next =>
  obtain ⟨σ', H', I', q⟩ := q
  exact h2 pins s1 σ' H' D ht1 I' q
 | ret v => exact q
 | brk => exact q
 | cont => exact q
theorem pss1_one {st : Stmt} {t : TS} (h1 : PS1 X st t) : PSs1 X [st] t := by
 intro pins s σ H D ht I h
 refine wpAny_execs_cons (thn (h1 pins s σ H D ht I h) fun f s1 q => ?_)
 cases f with
 | next => exact wpAny_execs_nil q
 | ret v => exact q
 | brk => exact q
 | cont => exact q
theorem ps1_set {i : Nat} {pos' : Pos} (hN : X.N.Nodup) (hi : X.N[i]? = some x) (hx : Loc X.env.scope x) (he : ∀ s, 1 ≤ s.toks → PEs X s e te) (hs : swapsWith e (some (.Name x pos')) pos.line X.env = pure false := by rfl) (hf : X.fn x = true ∨ X.env.scope.names.lookup x = some .local := by first | exact .inl rfl | exact .inr rfl | assumption) :
  PS1 X (.Assign [.Name x pos'] e pos) (tAsg te (gName i)) := by
 intro pins s σ H D ht I h
 refine wpAny_Assign_Name (thn (he s ht pins σ H _ I h) fun v s1 ⟨y, H1, I1, r1, q1⟩ => ?_) hs
 exact store_ok I1 hN hi hx r1 (fun s2 I2 => ⟨_, H1, I2, q1⟩) hf
def PIT (X : Cx) (P : Shared → Prop) (tg iter : Expr) (wi : TI) : Prop := ∀ (pins : List (Addr × Obj)) (s : Shared) (σ : St) (H : Hp) (R : It → Hp → Prop), P s → Inv X pins σ H s → wi σ H R → wpAny (model X.prog X.w) X.A (eval iter X.env) (fun v s1 => 1 ≤ s1.toks ∧ wpAny (model X.prog X.w) X.A (pyIter v) (PIE X pins σ tg R) X.xe s1) X.xe s
theorem PI.t1 {iter : Expr} {wi : TI} (h : PI X tg iter wi) : PIT X (fun s => 1 ≤ s.toks) tg iter wi := fun pins s σ H R ht I q => thnT ht (h pins s σ H R I q) fun _ _ h1 z => ⟨h1, z⟩
theorem pit_range {n : Int} {k p1} (hg : Gl X "range") (hm : X.mg "range" = none) (hs : starEach [.Constant (.int n) k p1] X.env = [(false, eval (.Constant (.int n) k p1) X.env)] := by rfl) : PIT X (fun _ => True) tg (.Call (.Name "range" p) [.Constant (.int n) k p1] [] pos) (iRng1 (tCons (tC (.int n)) tNil)) := by
 intro pins s σ H R _ I h
 refine Call_ (ld_blt I hg hm boot_range (PyProof.Rows.callWith_type1 (Q := _) ?_ hs rfl))
 refine Calls.spliced_cons (wpAny_Constant_int (k := k) (pos := p1) ?_)
 refine Calls.spliced_nil ?_
 obtain ⟨j, e, q1, q2, q⟩ := h
 cases e
 refine call_range_1 ⟨?_, range_it (I.tok (s.toks + 1)) (by omega) (by omega) q1 q2 (by simpa using q)⟩
 first | exact Nat.succ_le_succ (Nat.zero_le _) | (dsimp only; trace_state; omega)
theorem ps1_for {P : Shared → Prop} {iter : Expr} {body : List Stmt} {wi : TI} {g : TG} {tb : TS} (hp : PassesOwn (model X.prog X.w) X.A X.env X.xe) (hc : X.calm = true) (hi : PIT X P tg iter wi) (hg : PG X tg g) (hb : PSs1 X body tb)
  (hs : ∀ x, foldedSetIterable iter X.env x = pure x := by intro _; rfl) {pins : List (Addr × Obj)} {s : Shared} {σ : St} {H : Hp} {D : Ends} (hP : P s) (I : Inv X pins σ H s) (h : tFor wi g tb D σ H) : wpAny (model X.prog X.w) X.A (exec (.For tg iter body [] pos) X.env) (SP X pins D) X.xe s := by
 refine wpAny_For (thn (hi pins s σ H _ hP I h) fun v s1 h1 => thnT h1.1 h1.2 fun itv s2 ht2 h2 => ?_) hs
 obtain ⟨it, fp, tn, J, H2, e, I2, T, st2, f2, W, ⟨m0, w0⟩, turn⟩ := h2
 subst e
 have stat : ∀ {H' : Hp}, (∀ b ∈ fp, H' b = none) → ∀ b ∈ fp, FpOk X pins H' b := fun hn b hb => ⟨hn b hb, (f2 b hb).2⟩
 refine codeAny_forLoop_any (fun n s' => 1 ≤ s'.toks ∧ ∃ i σ' H', Inv X pins σ' H' s' ∧ tn i s'.heap ∧ (∀ b ∈ fp, H' b = none) ∧ W i n σ' H') ?_ m0 ⟨ht2, 0, σ, H2, I2, st2, fun b hb => (f2 b hb).1, w0⟩
 rintro n s3 ⟨ht3, i, σ3, H3, I3, st3, fr3, w3⟩
 rcases turn i n σ3 H3 w3 with ⟨stop, qn⟩ | ⟨go, N, hN, step⟩
 ·refine wpAny_passesOwn hp (thn (T.done X rfl rfl rfl hc i pins s3 σ3 H3 X.xe I3 (stat fr3) st3 stop) fun r s4 ⟨hr, I4⟩ => ?_)
  subst hr
  exact wpAny_execs_nil ⟨σ3, H3, I4, qn⟩
 ·refine wpAny_passesOwn hp (thnT ht3 (T.item X rfl rfl rfl hc i pins s3 σ3 H3 X.xe I3 (stat fr3) st3 go) fun r s4 ht4 ⟨u, hr, h4⟩ => ?_)
  subst hr
  refine wpAny_passesOwn hp (thnT ht4 h4 fun _ s5 ht5 ⟨x, H5, I5, r5, y5, st5, fr5⟩ => ?_)
  have I5' := I5.pinned (stat fr5) (T.obj _ _ st5)
  refine wpAny_passesOwn hp (thnT ht5 (hg _ s5 σ3 H5 x u _ I5' r5 (step x H5 y5)) fun _ s6 ht6 ⟨σ6, H6, I6, q6⟩ => ?_)
  refine wpAny_passesOwn hp (thnT ht6 (hb _ s6 σ6 H6 _ ht6 I6 q6) fun f s7 ht7 q7 => ?_)
  have again : ∀ {σ7 : St} {H7 : Hp}, Inv X (pins ++ pinsAt fp s5.heap) σ7 H7 s7 → N σ7 H7 → ∃ m, m < n ∧ 1 ≤ s7.toks ∧ ∃ i σ' H', Inv X pins σ' H' s7 ∧ tn i s7.heap ∧ (∀ b ∈ fp, H' b = none) ∧ W i m σ' H' := fun {σ7 H7} I7 n7 => by
   obtain ⟨m', hm, w7⟩ := hN σ7 H7 n7
   refine ⟨m', hm, ht7, i + 1, σ7, H7, I7.unpinned, T.keep _ _ _ st5 fun b hb o e => (I7.pin (b, o) (List.mem_append_right _ (List.mem_append_right _ (mem_pinsAt hb e)))).1, fun b hb => ?_, w7⟩
   obtain ⟨o, e, d⟩ := T.obj _ _ st5 b hb
   exact (I7.pin (b, o) (List.mem_append_right _ (List.mem_append_right _ (mem_pinsAt hb e)))).2.1
  cases f with
  | next => obtain ⟨σ7, H7, I7, n7⟩ := q7; exact again I7 n7
  | cont => obtain ⟨σ7, H7, I7, n7⟩ := q7; exact again I7 n7
  | brk => obtain ⟨σ7, H7, I7, q7⟩ := q7; exact ⟨σ7, H7, I7.unpinned, q7⟩
  | ret v => obtain ⟨x7, σ7, H7, I7, r7, q7⟩ := q7; exact ⟨x7, σ7, H7, I7.unpinned, r7, q7⟩
theorem ps_forT {iter : Expr} {body : List Stmt} {wi : TI} {g : TG} {tb : TS} (hp : PassesOwn (model X.prog X.w) X.A X.env X.xe) (hc : X.calm = true) (hi : PIT X (fun _ => True) tg iter wi) (hg : PG X tg g) (hb : PSs1 X body tb)
  (hs : ∀ x, foldedSetIterable iter X.env x = pure x := by intro _; rfl) : PS X (.For tg iter body [] pos) (tFor wi g tb) := fun pins s σ H D I h => ps1_for hp hc hi hg hb hs True.intro I h
theorem ps1_forT {iter : Expr} {body : List Stmt} {wi : TI} {g : TG} {tb : TS} (hp : PassesOwn (model X.prog X.w) X.A X.env X.xe) (hc : X.calm = true) (hi : PI X tg iter wi) (hg : PG X tg g) (hb : PSs1 X body tb)
  (hs : ∀ x, foldedSetIterable iter X.env x = pure x := by intro _; rfl) : PS1 X (.For tg iter body [] pos) (tFor wi g tb) := fun pins s σ H D ht I h => ps1_for hp hc hi.t1 hg hb hs ht I h
end
theorem raises1 {P : Program} {w : World} {K : PySem.W.Frag} {mg : Str → Option Value} {base : Heap} {N : List Str} {qual : Str} {scope : Scope} {f : Addr} {cd : Value} {A : Around} {outer : List Env} {s : Shared} {H : Hp} {E : XK} : Raises (cxOf (CX1 P w) P w K mg base N qual scope f cd A outer s H E) E := fun _ _ _ _ _ _ _ _ I hx he => raise_leaves I hx he
end L2
namespace L2
open PySem PySem.Spec PyProof.Rows Lw
section
variable {K : PySem.W.Frag} {B : Hp} {ρ : List PV} {ta tb te to : TE} {t : TA} {x y : Str} {ds : List PyData} {d : PyData}
theorem er_eqStr (ha : Er K B ta ρ (.str x)) (hb : Er K B tb ρ (.str y)) : Er K B (tOp rEq ta tb) ρ (.bool (decide (x = y))) := fun G σ r => ev_op (ha G σ r) (hb G σ r) fun G1 H u v Q s1 s2 hu hv k => by
 rw [hu.str, hv.str]
 refine ⟨rfl, ?_⟩
 have := k (.bl (decide (x = y))) G1 H (Grow.refl s2) (dat_bl _)
 rw [show decide (V.str x = V.str y) = decide (x = y) from decide_eq_decide.mpr ⟨fun e => by injection e, fun e => by rw [e]⟩]
 exact this
theorem er_neStr (ha : Er K B ta ρ (.str x)) (hb : Er K B tb ρ (.str y)) : Er K B (tOp rNe ta tb) ρ (.bool (!decide (x = y))) := fun G σ r => ev_op (ha G σ r) (hb G σ r) fun G1 H u v Q s1 s2 hu hv k => by
 rw [hu.str, hv.str]
 refine ⟨rfl, ?_⟩
 have := k (.bl (!decide (x = y))) G1 H (Grow.refl s2) (dat_bl _)
 rw [show decide (V.str x = V.str y) = decide (x = y) from decide_eq_decide.mpr ⟨fun e => by injection e, fun e => by rw [e]⟩]
 exact this
theorem er_lenS (h : Ea K B t ρ [.str x]) (hz : x.length ≤ sizeLine) : Er K B (tCB (fun xs H Q => ∃ z, xs = [.str z] ∧ z.length ≤ sizeLine ∧ Q (.int z.length) H) t) ρ (.int x.length) := er_cb h fun G1 H xs Q s2 hx k => by
 obtain ⟨y, r, rfl, hy, hr⟩ := hx.cons
 cases hr.nil
 cases hy.str
 exact ⟨x, rfl, hz, k _ G1 H (Grow.refl s2) (dat_int _)⟩
theorem er_strI {i : Int} (h : Ea K B t ρ [.int i]) (hz : i.natAbs.log2 < 1920) : Er K B (tCB (fun xs H Q => ∃ i, xs = [.int i] ∧ i.natAbs.log2 < 1920 ∧ Q (.str (toString i)) H) t) ρ (.str (Str.ofString (toString i))) := fun G σ r => ev_strI (h G σ r) hz
theorem er_addS (ha : Er K B ta ρ (.str x)) (hb : Er K B tb ρ (.str y)) (hz : x.length + y.length ≤ sizeLine) : Er K B (tOp (fun x y H Q => ∃ i j, x = .str i ∧ y = .str j ∧ i.length + j.length ≤ sizeLine ∧ Q (.str (i ++ j)) H) ta tb) ρ (.str (x ++ y)) := fun G σ r => ev_addS (ha G σ r) (hb G σ r) hz
theorem er_ixStr {n c : Nat} (ha : Er K B ta ρ (.str x)) (hb : Er K B tb ρ (.int (n : Nat))) (hz : x.length ≤ sizeLine) (hc : x.cps.toList[n]? = some c) : Er K B (tOp rIxS ta tb) ρ (.str ⟨#[c]⟩) := fun G σ r => ev_op (ha G σ r) (hb G σ r) fun G1 H u v Q s1 s2 hu hv k =>
 ⟨x, (n : Nat), c, hu.str, hv.int, hz, atI_nat hc, k _ G1 H (Grow.refl s2) (dat_str _)⟩
theorem er_slS {tl th : TO} {lo hi : Option Int} (h : Er K B te ρ (.str x)) (hl : Eo K B tl ρ lo) (hh : Eo K B th ρ hi) (hz : x.length ≤ sizeLine) : Er K B (tSl rSlS te tl th) ρ (.str (Txt.slice x lo hi)) := fun G σ r G1 H s1 s2 Q k =>
 h G σ r G1 H s1 s2 _ fun v G2 H2 g hv => hl G σ r _ _ (hh G σ r _ _ ⟨x, hv.str, hz, k _ G2 H2 g (dat_str _)⟩)
theorem eo_intB {i : Nat} {b : Bool} (h : ρ[i]? = some (.dat (.bool b))) : Eo K B (tPart (tCB (fun xs H Q => (∃ i, xs = [.int i] ∧ Q (.int i) H) ∨ ∃ k, xs = [.bl k] ∧ Q (.int (if k then 1 else 0)) H) (tCons (tVar i) tNil))) ρ (some (if b then 1 else 0)) := fun G σ r H Q q => by
 obtain ⟨x, hx, hd⟩ := r.2.1 i _ h
 exact ⟨x, hx, .inr ⟨b, by rw [hd.bl], _, rfl, q⟩⟩
theorem er_inStr {g : Bool → Bool} (ha : Er K B ta ρ (.str x)) (hb : Er K B tb ρ (.str y)) : Er K B (tOp (fun x y H Q => ∃ i j, x = .str i ∧ y = .str j ∧ Q (.bl (g (Builtin.Str.occurrences j i 0 j.length 1).isEmpty)) H) ta tb) ρ (.bool (g (Builtin.Str.occurrences y x 0 y.length 1).isEmpty)) := fun G σ r => ev_op (ha G σ r) (hb G σ r) fun G1 H u v Q s1 s2 hu hv k =>
 ⟨x, y, hu.str, hv.str, k _ G1 H (Grow.refl s2) (dat_bl _)⟩
theorem er_bmS {r : V → List V → Hp → VK → Prop} (ho : Er K B to ρ (.str x)) (ha : Ea K B t ρ ds) (hr : ∀ G1 H vs (Q : VK), Same G1 H → Dats K G1 vs ds → (∀ v G' H', Grow G1 H G' H' → Dat K G' v d → Q v H') → r (.str x) vs H Q) : Er K B (tBM K "str" r to t) ρ d := fun G σ rr G1 H s1 s2 Q k =>
 ho G σ rr G1 H s1 s2 _ fun v G2 H2 g2 hv => by
  rw [hv.str]
  exact ⟨rfl, ha G σ rr G2 H2 (s1.trans g2.gg) g2.gh _ fun vs G3 H3 g3 hvs => hr G3 H3 vs Q g3.gh hvs fun v G' H' g' hd => k v G' H' ((g2.trans g3).trans g') hd⟩
theorem dats_strs {G : Hp} : ∀ (ys : List Str), Dats K G (ys.map V.str) (ys.map PyData.str)
 | [] => dats_nil
 | y :: ys => dats_cons (dat_str y) (dats_strs ys)
theorem strs_of {G : Hp} : ∀ {vs : List V} {ys : List Str}, Dats K G vs (ys.map PyData.str) → vs = ys.map V.str
 | _, [], h => h.nil
 | _, y :: ys, h => by
  obtain ⟨v, r, rfl, hv, hr⟩ := Dats.cons (d := .str y) (ds := ys.map PyData.str) h
  rw [hv.str, strs_of hr]; rfl
theorem er_split {c : Nat} (ho : Er K B to ρ (.str x)) (ha : Ea K B t ρ [.str ⟨#[c]⟩]) (hz : x.length + 2 ≤ sizeLine) : Er K B (tBM K "str" rSplit to t) ρ (.list ((Txt.split x ⟨#[c]⟩).map .str)) := er_bmS ho ha fun G1 H vs Q s hv k => by
 obtain ⟨y, r, rfl, hy, hr⟩ := hv.cons
 cases hr.nil
 refine ⟨x, c, rfl, by rw [hy.str], hz, fun l hl => ?_⟩
 have g := grow_new (o := .lst ((Txt.split x ⟨#[c]⟩).map V.str)) s hl
 exact k _ _ _ g (dat_lst upd_same (dats_strs _))
theorem er_find (ho : Er K B to ρ (.str x)) (ha : Ea K B t ρ [.str y]) : Er K B (tBM K "str" (fun x vs H Q => ∃ a b, x = .str a ∧ vs = [.str b] ∧ Q (.int (Txt.find a b)) H) to t) ρ (.int (Txt.find x y)) := er_bmS ho ha fun G1 H vs Q s hv k => by
 obtain ⟨z, r, rfl, hy, hr⟩ := hv.cons
 cases hr.nil
 exact ⟨x, y, rfl, by rw [hy.str], k _ G1 H (Grow.refl s) (dat_int _)⟩
theorem er_starts (ho : Er K B to ρ (.str x)) (ha : Ea K B t ρ [.str y]) : Er K B (tBM K "str" (fun x vs H Q => ∃ a b, x = .str a ∧ vs = [.str b] ∧ Q (.bl (Txt.startswith a b)) H) to t) ρ (.bool (Txt.startswith x y)) := er_bmS ho ha fun G1 H vs Q s hv k => by
 obtain ⟨z, r, rfl, hy, hr⟩ := hv.cons
 cases hr.nil
 exact ⟨x, y, rfl, by rw [hy.str], k _ G1 H (Grow.refl s) (dat_bl _)⟩
theorem er_repl {y z : Str} (ho : Er K B to ρ (.str x)) (hz : x.length + (x.length + 1) * z.length ≤ 16777216) : Er K B (tRepl y z to) ρ (.str (Txt.replace x y z)) := fun G σ r G1 H s1 s2 Q k =>
 ho G σ r G1 H s1 s2 _ fun v G2 H2 g hv => ⟨x, hv.str, hz, k _ G2 H2 g (dat_str _)⟩
theorem eg_join {te : TE} {R : PV → List PV → Prop} (h : Eg K B te ρ fun r ρ' => ∃ zs : List Str, r = .dat (.list (zs.map .str)) ∧ (zs.map (·.length)).sum + zs.length * x.length ≤ 16777216 ∧ R (.dat (.str (Txt.join x zs))) ρ') :
  Eg K B (tBM K "str" (fun x vs H Q => ∃ (a : Str) (p : Addr) (ys : List Str), x = .str a ∧ vs = [.ref p] ∧ SqL K H p (ys.map V.str) ∧ (ys.map (·.length)).sum + ys.length * a.length ≤ 16777216 ∧ Q (.str (Txt.join a ys)) H) (tC (.str x)) (tCons te tNil)) ρ R := fun E G0 H0 G H σ F r Q q =>
 ⟨rfl, h E G0 H0 G H σ F r _ fun v rr ρ' G' H' F' L hR s r' sl n => by
  obtain ⟨zs, rfl, hz, k⟩ := hR
  obtain ⟨_, y, hy, hd⟩ := sl
  cases hy
  obtain ⟨p, xs, rfl, hp, hx⟩ := hd.lst
  rw [strs_of hx] at hp
  exact ⟨x, p, zs, rfl, rfl, SqL.of (r'.g.gh _ _ hp), hz, q _ _ ρ' G' H' F' [] k s r' ⟨rfl, _, rfl, dat_str _⟩ nw_nil⟩⟩
theorem ei_str {te : TE} (h : Er K B te ρ (.str x)) : Ei K B (iStr te) ρ (x.cps.toList.map fun c => PyData.str ⟨#[c]⟩) := fun G H σ r s R k => h G σ r G H (Same.refl _) s _ fun v G' H' g hv => ⟨x, hv.str, k _ G' H' g ⟨fun i H1 _ hi => by rw [List.length_map] at hi; exact hi, fun i H1 _ hi => by rw [List.length_map] at hi; exact hi, fun i H1 u H2 G1 d s1 s2 hd hy => by
 obtain ⟨rfl, c, hc, rfl⟩ := hy
 rw [List.getElem?_map, hc] at hd
 cases hd
 exact ⟨G1, Grow.refl s2, dat_str _⟩⟩⟩
theorem er_inL {xs : List V} {v : V} {a : PyData} {neg : Bool} (ha : Er K B ta ρ a) (hb : Er K B tb ρ (.list ds)) (hv : ∀ G u, Dat K G u a → u = v) (hx : ∀ G us, Dats K G us ds → us = xs) (f1 : flatV v = true) (f2 : xs.all flatV = true) : Er K B (tOp (rIn K neg) ta tb) ρ (.bool (if neg then !inV v xs else inV v xs)) := fun G σ r => ev_op (ha G σ r) (hb G σ r) fun G1 H u w Q s1 s2 hu hw k => by
 obtain ⟨p, ys, rfl, hp, hy⟩ := hw.lst
 have e1 := hv _ _ hu
 have e2 := hx _ _ hy
 subst e1 e2
 exact ⟨p, _, rfl, .inl (SqL.of (s2 _ _ hp)), f1, f2, k _ G1 H (Grow.refl s2) (dat_bl _)⟩
end
theorem FnOk.or {P : Program} {w : World} {K : PySem.W.Frag} {mg : Str → Option Value} {base : Heap} {CX : CXT} {k : Nat} {f : Addr} {fd : FuncData} {ps : List Str} {sp1 sp2 : Sp} (F1 : FnOk P w K mg base CX k f fd ps sp1) (F2 : FnOk P w K mg base CX k f fd ps sp2) : FnOk P w K mg base CX k f fd ps (fun vs H Q E => sp1 vs H Q E ∨ sp2 vs H Q E) :=
 ⟨fun vs H Q E h => h.elim (F1.len vs H Q E) (F2.len vs H Q E), fun A outer s H args us vs Q E hr e0 hb r h => h.elim (F1.run A outer s H args us vs Q E hr e0 hb r) (F2.run A outer s H args us vs Q E hr e0 hb r)⟩
end L2
namespace Rd3
open PySem Frac Dig PySem.NumText
def spl : List Nat → List (List Nat)
 | [] => [[]]
 | c :: l => if c = 47 then [] :: spl l else match spl l with
  | p :: r => (c :: p) :: r
  | [] => [[c]]
theorem spl_ne (l : List Nat) : spl l ≠ [] := by
 cases l with
 | nil => exact List.cons_ne_nil _ _
 | cons c l =>
  unfold spl
  split
  ·exact List.cons_ne_nil _ _
  ·split <;> exact List.cons_ne_nil _ _
theorem spl_cons {c : Nat} {l : List Nat} (h : c ≠ 47) : ∃ p r, spl l = p :: r ∧ spl (c :: l) = (c :: p) :: r := by
 cases e : spl l with
 | nil => exact absurd e (spl_ne l)
 | cons p r => exact ⟨p, r, rfl, by rw [spl, if_neg h, e]⟩
theorem J_spl : ∀ l, J (spl l) = l
 | [] => rfl
 | c :: l => by
  by_cases h : c = 47
  ·rw [spl, if_pos h, h]
   cases e : spl l with
   | nil => exact absurd e (spl_ne l)
   | cons p r =>
    show ([] : List Nat) ++ 47 :: J (p :: r) = _
    rw [← e, J_spl l]; rfl
  ·obtain ⟨p, r, e1, e2⟩ := spl_cons (l := l) h
   rw [e2]
   have := J_spl l
   rw [e1] at this
   cases r with
   | nil =>
    have this : p = l := this
    show c :: p = _
    rw [this]
   | cons q r =>
    have this : p ++ 47 :: J (q :: r) = l := this
    show c :: p ++ 47 :: J (q :: r) = _
    rw [← this]; rfl
theorem spl_free : ∀ l, ∀ p ∈ spl l, 47 ∉ p
 | [], p, h => by rw [List.mem_singleton.mp h]; exact List.not_mem_nil
 | c :: l, p, h => by
  by_cases hc : c = 47
  ·rw [spl, if_pos hc] at h
   rcases List.mem_cons.mp h with rfl | h
   ·exact List.not_mem_nil
   ·exact spl_free l p h
  ·obtain ⟨q, r, e1, e2⟩ := spl_cons (l := l) hc
   rw [e2] at h
   rcases List.mem_cons.mp h with rfl | h
   ·intro m
    rcases List.mem_cons.mp m with m | m
    ·exact hc m.symm
    ·exact spl_free l q (by rw [e1]; exact List.mem_cons_self) m
   ·exact spl_free l p (by rw [e1]; exact List.mem_cons_of_mem _ h)
theorem J_inj : ∀ {L M : List (List Nat)}, L ≠ [] → M ≠ [] → (∀ a ∈ L, 47 ∉ a) → (∀ a ∈ M, 47 ∉ a) → J L = J M → L = M
 | [], _, h, _, _, _, _ => absurd rfl h
 | _, [], _, h, _, _, _ => absurd rfl h
 | [a], [b], _, _, _, _, e => by
  have e : a = b := e
  rw [e]
 | [a], b :: c :: M, _, _, h1, _, e => by
  have e : a = b ++ 47 :: J (c :: M) := e
  exact absurd (by rw [e]; simp) (h1 a List.mem_cons_self)
 | a :: c :: L, [b], _, _, _, h2, e => by
  have e : a ++ 47 :: J (c :: L) = b := e
  exact absurd (by rw [← e]; simp) (h2 b List.mem_cons_self)
 | a :: c :: L, b :: d :: M, _, _, h1, h2, e => by
  have e : a ++ 47 :: J (c :: L) = b ++ 47 :: J (d :: M) := e
  obtain ⟨e1, e2⟩ := cut (h1 a List.mem_cons_self) (h2 b List.mem_cons_self) e
  rw [e1, J_inj (List.cons_ne_nil _ _) (List.cons_ne_nil _ _) (fun x m => h1 x (List.mem_cons_of_mem _ m)) (fun x m => h2 x (List.mem_cons_of_mem _ m)) e2]
theorem split_spl (x : Str) : (Txt.split x ⟨#[47]⟩).map (fun p => p.cps.toList) = spl x.cps.toList := by
 refine J_inj ?_ (spl_ne _) ?_ (spl_free _) ?_
 ·have := split_ne x ⟨#[47]⟩
  simpa using this
 ·intro a ha
  obtain ⟨p, hp, rfl⟩ := List.mem_map.mp ha
  exact PySem.StrLaws.split_free x 47 p hp
 ·rw [split_J, J_spl]
theorem spl_in : ∀ {l p : List Nat}, p ∈ spl l → ∃ A B, l = A ++ p ++ B
 | [], p, h => by rw [List.mem_singleton.mp h]; exact ⟨[], [], rfl⟩
 | c :: l, p, h => by
  by_cases hc : c = 47
  ·rw [spl, if_pos hc] at h
   rcases List.mem_cons.mp h with rfl | h
   ·exact ⟨[], c :: l, rfl⟩
   ·obtain ⟨A, B, e⟩ := spl_in h
    exact ⟨c :: A, B, by rw [e]; rfl⟩
  ·obtain ⟨q, r, e1, e2⟩ := spl_cons (l := l) hc
   rw [e2] at h
   rcases List.mem_cons.mp h with rfl | h
   ·have := J_spl l
    rw [e1] at this
    cases r with
    | nil =>
     have this : q = l := this
     exact ⟨[], [], by rw [this]; simp⟩
    | cons q' r =>
     have this : q ++ 47 :: J (q' :: r) = l := this
     exact ⟨[], 47 :: J (q' :: r), by rw [← this]; rfl⟩
   ·obtain ⟨A, B, e⟩ := spl_in (show p ∈ spl l by rw [e1]; exact List.mem_cons_of_mem _ h)
    exact ⟨c :: A, B, by rw [e]; rfl⟩
theorem spl_pre : ∀ {w : List Nat} {B : List Nat}, 47 ∉ w → ∃ p r, spl (w ++ B) = (w ++ p) :: r
 | [], B, _ => by
  cases e : spl B with
  | nil => exact absurd e (spl_ne B)
  | cons p r => exact ⟨p, r, e⟩
 | c :: w, B, h => by
  obtain ⟨p, r, e⟩ := spl_pre (B := B) (fun m => h (List.mem_cons_of_mem _ m))
  exact ⟨p, r, by
   show spl (c :: (w ++ B)) = _
   obtain ⟨q, r', e1, e2⟩ := spl_cons (l := w ++ B) (show c ≠ 47 from fun z => h (z ▸ List.mem_cons_self))
   rw [e] at e1
   cases e1
   exact e2⟩
theorem spl_long : ∀ {A w B : List Nat}, 47 ∉ w → ∃ p ∈ spl (A ++ w ++ B), w.length ≤ p.length
 | [], w, B, h => by
  obtain ⟨p, r, e⟩ := spl_pre (B := B) h
  exact ⟨w ++ p, by show _ ∈ spl (w ++ B); rw [e]; exact List.mem_cons_self, by rw [List.length_append]; omega⟩
 | c :: A, w, B, h => by
  obtain ⟨p, hp, hl⟩ := spl_long (A := A) (B := B) h
  by_cases hc : c = 47
  ·exact ⟨p, by show _ ∈ spl (c :: (A ++ w ++ B)); rw [spl, if_pos hc]; exact List.mem_cons_of_mem _ hp, hl⟩
  ·obtain ⟨q, r, e1, e2⟩ := spl_cons (l := A ++ w ++ B) hc
   rw [e1] at hp
   rcases List.mem_cons.mp hp with rfl | hp
   ·exact ⟨c :: p, by show _ ∈ spl (c :: (A ++ w ++ B)); rw [e2]; exact List.mem_cons_self, by rw [List.length_cons]; omega⟩
   ·exact ⟨p, by show _ ∈ spl (c :: (A ++ w ++ B)); rw [e2]; exact List.mem_cons_of_mem _ hp, hl⟩
def rep (l : List Nat) : List Nat := l.map fun c => if c = 45 then 47 else c
theorem rep_free {w : List Nat} (h : 45 ∉ w) : rep w = w := by
 unfold rep
 conv => rhs; rw [← List.map_id w]
 exact List.map_congr_left fun c hc => if_neg fun (z : c = 45) => h (z ▸ hc)
theorem rep_join : ∀ {ps : List Str}, (∀ p ∈ ps, 45 ∉ p.cps.toList) → (Str.join ⟨#[47]⟩ ps).cps.toList = rep (Str.join ⟨#[45]⟩ ps).cps.toList
 | [], _ => rfl
 | [p], h => (rep_free (h p List.mem_cons_self)).symm
 | p :: q :: r, h => by
  have e1 : Str.join ⟨#[47]⟩ (p :: q :: r) = p ++ ⟨#[47]⟩ ++ Str.join ⟨#[47]⟩ (q :: r) := rfl
  have e2 : Str.join ⟨#[45]⟩ (p :: q :: r) = p ++ ⟨#[45]⟩ ++ Str.join ⟨#[45]⟩ (q :: r) := rfl
  rw [e1, e2, PySem.Str.cps_append, PySem.Str.cps_append, PySem.Str.cps_append, PySem.Str.cps_append]
  simp only [Array.toList_append]
  rw [rep_join fun x m => h x (List.mem_cons_of_mem _ m)]
  unfold rep
  rw [List.map_append, List.map_append]
  congr 2
  exact (rep_free (h p List.mem_cons_self)).symm
theorem replace_rep (x : Str) : (Txt.replace x ⟨#[45]⟩ ⟨#[47]⟩).cps.toList = rep x.cps.toList := by
 rw [PySem.StrLaws.replace_one, rep_join fun p hp => PySem.StrLaws.split_free x 45 p hp, PySem.StrLaws.join_split]
def Short (l : List Nat) : Prop := ∀ A w B, l = A ++ w ++ B → AllDigits w → w.length ≤ 20
theorem short_of {l : List Nat} (h : ∀ p ∈ spl (rep l), p.length ≤ 20) : Short l := fun A w B e d => by
 have e2 : rep l = rep A ++ w ++ rep B := by
  rw [e]
  conv => rhs; rw [← rep_free (w := w) fun m => by have := d 45 m; omega]
  unfold rep
  rw [List.map_append, List.map_append]
 rw [e2] at h
 obtain ⟨p, hp, hl⟩ := spl_long (A := rep A) (B := rep B) (w := w) fun m => by have := d 47 m; omega
 exact Nat.le_trans hl (h p hp)
def fgB (l : List Nat) : Bool := !decide (l = []) && l.all (fun c => decide (48 ≤ c) && decide (c ≤ 57)) && (!decide (l.head? = some 48) || decide (l = [48]))
theorem fgB_iff {l : List Nat} : fgB l = true ↔ Fig l := by
 unfold fgB
 constructor
 ·intro h
  simp only [Bool.and_eq_true, Bool.or_eq_true, Bool.not_eq_true', decide_eq_false_iff_not, decide_eq_true_eq, List.all_eq_true] at h
  obtain ⟨⟨h1, h2⟩, h3⟩ := h
  refine ⟨fun c hc => h2 c hc, h1, fun r e => ?_⟩
  rcases h3 with h3 | h3
  ·rw [e] at h3; exact absurd rfl h3
  ·rw [h3] at e; injection e with _ e; exact e.symm
 ·intro h
  simp only [Bool.and_eq_true, Bool.or_eq_true, Bool.not_eq_true', decide_eq_false_iff_not, decide_eq_true_eq, List.all_eq_true]
  refine ⟨⟨h.ne, fun c hc => h.dg c hc⟩, ?_⟩
  cases l with
  | nil => exact absurd rfl h.ne
  | cons c r =>
   by_cases hc : c = 48
   ·right; rw [hc, h.hd r (by rw [hc])]
   ·left; intro z; exact hc (Option.some.inj z)
def fg (l : List Nat) : Option Nat := if fgB l = true then some (digitsVal l) else none
theorem fg_lt {l : List Nat} {n : Nat} (h : fg l = some n) : n < 10 ^ l.length := by
 unfold fg at h
 split at h
 ·rename_i hb
  cases h
  exact valBound l (fgB_iff.mp hb).dg
 ·cases h
def rS : List Nat → Option Int
 | 45 :: r => match fg r with
  | some n => if n = 0 then none else some (-(n : Int))
  | none => none
 | l => (fg l).map Int.ofNat
def rN (l : List Nat) : Option (Int × Int) := match spl l with
 | [a] => (rS a).map fun z => (z, 1)
 | [a, b] => match rS a, fg b with
  | some z, some n => if n = 0 then none else some (norm z n)
  | _, _ => none
 | _ => none
def fgL (l : List Nat) : Option Nat := if l.length ≤ 20 then fg l else none
def lN (m : Bool) (ns : List (Option Nat)) : Option (Int × Int) := match ns with
 | [some a] => if m = true ∧ a = 0 then none else some (norm ((a : Int) * (if m then -1 else 1)) 1)
 | [some a, some b] => if (m = true ∧ a = 0) ∨ b = 0 then none else some (norm ((a : Int) * (if m then -1 else 1)) b)
 | _ => none
theorem norm_one (z : Int) : norm z 1 = (z, 1) := by
 have h : Lst (z, (1 : Int)) := ⟨Int.le_refl _, by show Int.gcd z 1 = 1; exact Int.gcd_one_right z⟩
 exact norm_id h
theorem fgL_eq {l : List Nat} (h : AllDigits l → l.length ≤ 20) : fgL l = fg l := by
 unfold fgL
 split
 ·rfl
 ·rename_i hn
  unfold fg
  rw [if_neg fun z => hn (h (fgB_iff.mp z).dg)]
theorem Short.tail {c : Nat} {l : List Nat} (h : Short (c :: l)) : Short l := fun A w B e d => h (c :: A) w B (by rw [e]; rfl) d
theorem Short.parts {l : List Nat} (h : Short l) : (spl l).map fgL = (spl l).map fg := List.map_congr_left fun p hp => fgL_eq fun d => by
 obtain ⟨A, B, e⟩ := spl_in hp
 exact h A p B e d
theorem read_minus {r : List Nat} (h : Short (45 :: r)) : rN (45 :: r) = lN true ((spl r).map fgL) := by
 rw [h.tail.parts]
 obtain ⟨p, q, e1, e2⟩ := spl_cons (l := r) (show (45 : Nat) ≠ 47 by decide)
 unfold rN lN
 rw [e2, e1]
 cases q with
 | nil =>
  show ((match fg p with | some n => if n = 0 then none else some (-(n : Int)) | none => none).map fun z => (z, (1 : Int))) = _
  cases ep : fg p with
  | none => simp [ep]
  | some n =>
   simp only [List.map_cons, List.map_nil, ep]
   by_cases h0 : n = 0
   ·rw [if_pos h0, if_pos ⟨trivial, h0⟩]; rfl
   ·rw [if_neg h0, if_neg fun z => h0 z.2]
    show some (-(n : Int), (1 : Int)) = _
    rw [if_pos trivial, norm_one]
    congr 2
    omega
 | cons b q =>
  cases q with
  | nil =>
   show (match (match fg p with | some n => if n = 0 then none else some (-(n : Int)) | none => none), fg b with | some z, some n => if n = 0 then none else some (norm z n) | _, _ => none) = _
   cases ep : fg p with
   | none => simp only [List.map_cons, List.map_nil, ep]
   | some n =>
    cases eb : fg b with
    | none =>
     simp only [List.map_cons, List.map_nil, ep, eb]
     by_cases h0 : n = 0
     ·rw [if_pos h0]
     ·rw [if_neg h0]
    | some k =>
     simp only [List.map_cons, List.map_nil, ep, eb]
     by_cases h0 : n = 0
     ·rw [if_pos h0, if_pos (.inl ⟨trivial, h0⟩)]
     ·rw [if_neg h0]
      by_cases hk : k = 0
      ·rw [if_pos (.inr hk)]
       show (if k = 0 then none else some (norm (-(n : Int)) k)) = none
       rw [if_pos hk]
      ·rw [if_neg fun z => z.elim (fun z => h0 z.2) hk]
       show (if k = 0 then none else some (norm (-(n : Int)) k)) = _
       rw [if_neg hk]
       congr 2
       show -(n : Int) = (n : Int) * -1
       omega
  | cons b2 q =>
   show none = _
   rw [List.map_cons, List.map_cons, List.map_cons]
   cases fg p <;> cases fg b <;> rfl
theorem rS_pos {l : List Nat} (h : l.head? ≠ some 45) : rS l = (fg l).map Int.ofNat := by
 unfold rS
 split
 ·exact absurd rfl h
 ·rfl
theorem read_plain {l : List Nat} (h : Short l) (hm : l.head? ≠ some 45) : rN l = lN false ((spl l).map fgL) := by
 rw [h.parts]
 have hp : ∀ p q, spl l = p :: q → p.head? ≠ some 45 := fun p q e z => by
  have := J_spl l
  rw [e] at this
  cases p with
  | nil => cases z
  | cons c p =>
   have hc : c = 45 := Option.some.inj z
   subst hc
   apply hm
   rw [← this]
   cases q <;> rfl
 unfold rN lN
 cases e : spl l with
 | nil => exact absurd e (spl_ne l)
 | cons p q =>
  have hp := rS_pos (hp p q e)
  cases q with
  | nil =>
   show ((rS p).map fun z => (z, (1 : Int))) = _
   rw [hp]
   cases ep : fg p with
   | none => simp [ep]
   | some n =>
    simp only [List.map_cons, List.map_nil, ep]
    rw [if_neg fun z => Bool.false_ne_true z.1]
    show some ((n : Int), (1 : Int)) = _
    rw [if_neg Bool.false_ne_true, norm_one]
    congr 2
    omega
  | cons b q =>
   cases q with
   | nil =>
    show (match rS p, fg b with | some z, some n => if n = 0 then none else some (norm z n) | _, _ => none) = _
    rw [hp]
    cases ep : fg p with
    | none => simp only [List.map_cons, List.map_nil, ep]; rfl
    | some n =>
     cases eb : fg b with
     | none => simp only [List.map_cons, List.map_nil, ep, eb]; rfl
     | some k =>
      simp only [List.map_cons, List.map_nil, ep, eb]
      show (if k = 0 then none else some (norm (n : Int) k)) = _
      by_cases hk : k = 0
      ·rw [if_pos hk, if_pos (.inr hk)]
      ·rw [if_neg hk, if_neg fun z => z.elim (fun z => Bool.false_ne_true z.1) hk]
       congr 2
       show (n : Int) = (n : Int) * 1
       omega
   | cons b2 q =>
    show none = _
    rw [List.map_cons, List.map_cons, List.map_cons]
    cases fg p <;> cases fg b <;> rfl
end Rd3
namespace K03
open PySem L2 Frac Lw Dig PySem.NumText
def top (i : Nat) : Stmt := PySem.Challenge.pw_ordertext_k03_numbers_read.main.body.getD i (.Pass ⟨0, 0, 0, 0⟩)
abbrev s_fraction : Stmt := top 15
abbrev s_common_divisor : Stmt := top 16
abbrev s_read_number : Stmt := top 17
abbrev s_read_signed : Stmt := top 18
abbrev s_read_figures : Stmt := top 19
abbrev s__law_deck : Stmt := top 21
abbrev s__law_take : Stmt := top 22
abbrev s__law_common : Stmt := top 23
abbrev s__law_least : Stmt := top 24
abbrev s__law_whole_number : Stmt := top 25
abbrev s__law_number : Stmt := top 26
abbrev s__law_figures : Stmt := top 27
abbrev s__law_reading : Stmt := top 28
abbrev s__law_text : Stmt := top 29
abbrev s__law_spoilt : Stmt := top 30
abbrev s__law_free : Stmt := top 31
abbrev s__law_right : Stmt := top 32
abbrev s_law : Stmt := top 33
theorem sc_fraction : FnScope ["above", "below", "divisor"] ["above", "below"] (defScope s_fraction) := ⟨rfl, rfl, rfl, by decide +kernel, rfl, by decide +kernel, by decide +kernel⟩
theorem sc_read_number : FnScope ["text", "parts", "above"] ["text"] (defScope s_read_number) := ⟨rfl, rfl, rfl, by decide +kernel, rfl, by decide +kernel, by decide +kernel⟩
theorem sc_read_signed : FnScope ["text", "number"] ["text"] (defScope s_read_signed) := ⟨rfl, rfl, rfl, by decide +kernel, rfl, by decide +kernel, by decide +kernel⟩
theorem sc_read_figures : FnScope ["text", "number", "first", "start"] ["text"] (defScope s_read_figures) := ⟨rfl, rfl, rfl, by decide +kernel, rfl, by decide +kernel, by decide +kernel⟩
theorem sc__law_figures : FnScope ["text", "number", "sign"] ["text"] (defScope s__law_figures) := ⟨rfl, rfl, rfl, by decide +kernel, rfl, by decide +kernel, by decide +kernel⟩
theorem sc__law_reading : FnScope ["text", "minus", "parts", "numbers"] ["text"] (defScope s__law_reading) := ⟨rfl, rfl, rfl, by decide +kernel, rfl, by decide +kernel, by decide +kernel⟩
theorem sc__law_text : FnScope ["number"] ["number"] (defScope s__law_text) := ⟨rfl, rfl, rfl, by decide +kernel, rfl, by decide +kernel, by decide +kernel⟩
theorem sc__law_spoilt : FnScope ["deck", "number", "text", "signs", "sign", "at", "small", "twice", "some"] ["deck", "number"] (defScope s__law_spoilt) := ⟨rfl, rfl, rfl, by decide +kernel, rfl, by decide +kernel, by decide +kernel⟩
theorem sc__law_free : FnScope ["deck", "signs"] ["deck"] (defScope s__law_free) := ⟨rfl, rfl, rfl, by decide +kernel, rfl, by decide +kernel, by decide +kernel⟩
theorem sc__law_right : FnScope ["text", "due", "found", "caught", "e"] ["text"] (defScope s__law_right) := ⟨rfl, rfl, rfl, by decide +kernel, rfl, by decide +kernel, by decide +kernel⟩
theorem sc_law : FnScope ["script", "deck", "k", "number", "text", "longest"] ["script"] (defScope s_law) := ⟨rfl, rfl, rfl, by decide +kernel, rfl, by decide +kernel, by decide +kernel⟩
abbrev sTake : Stmt := s__law_take
abbrev sDeck : Stmt := s__law_deck
abbrev sCommon : Stmt := s__law_common
abbrev sLeast : Stmt := s__law_least
abbrev sWhole : Stmt := s__law_whole_number
abbrev sNumber : Stmt := s__law_number
abbrev sFrac : Stmt := s_fraction
abbrev sCD : Stmt := s_common_divisor
abbrev sRF : Stmt := s_read_figures
structure Glb (mg : Str → Option Value) : Prop where
 fig : ∃ t, mg "FIGURES" = some (.str "0123456789" t)
 blk : ∃ t, mg "BLOCK" = some (.int 18 t)
 wor : ∃ t, mg "BLOCK_WORTH" = some (.int 1000000000000000000 t)
structure Top (K : PySem.W.Frag) (mg : Str → Option Value) where
 f_fraction : Addr
 fd_fraction : FuncData
 F_fraction : Fun K "fraction" "fraction" s_fraction f_fraction fd_fraction
 b_fraction : Binds K fd_fraction ["above", "below"] []
 m_fraction : mg "fraction" = some (.ref f_fraction)
 f_common_divisor : Addr
 fd_common_divisor : FuncData
 F_common_divisor : Fun K "common_divisor" "common_divisor" s_common_divisor f_common_divisor fd_common_divisor
 b_common_divisor : Binds K fd_common_divisor ["one", "other"] []
 m_common_divisor : mg "common_divisor" = some (.ref f_common_divisor)
 f_read_number : Addr
 fd_read_number : FuncData
 F_read_number : Fun K "read_number" "read_number" s_read_number f_read_number fd_read_number
 b_read_number : Binds K fd_read_number ["text"] []
 m_read_number : mg "read_number" = some (.ref f_read_number)
 f_read_signed : Addr
 fd_read_signed : FuncData
 F_read_signed : Fun K "read_signed" "read_signed" s_read_signed f_read_signed fd_read_signed
 b_read_signed : Binds K fd_read_signed ["text"] []
 m_read_signed : mg "read_signed" = some (.ref f_read_signed)
 f_read_figures : Addr
 fd_read_figures : FuncData
 F_read_figures : Fun K "read_figures" "read_figures" s_read_figures f_read_figures fd_read_figures
 b_read_figures : Binds K fd_read_figures ["text"] []
 m_read_figures : mg "read_figures" = some (.ref f_read_figures)
 f__law_deck : Addr
 fd__law_deck : FuncData
 F__law_deck : Fun K "_law_deck" "_law_deck" s__law_deck f__law_deck fd__law_deck
 b__law_deck : Binds K fd__law_deck ["script"] []
 m__law_deck : mg "_law_deck" = some (.ref f__law_deck)
 f__law_take : Addr
 fd__law_take : FuncData
 F__law_take : Fun K "_law_take" "_law_take" s__law_take f__law_take fd__law_take
 b__law_take : Binds K fd__law_take ["deck", "many"] []
 m__law_take : mg "_law_take" = some (.ref f__law_take)
 f__law_common : Addr
 fd__law_common : FuncData
 F__law_common : Fun K "_law_common" "_law_common" s__law_common f__law_common fd__law_common
 b__law_common : Binds K fd__law_common ["one", "other"] []
 m__law_common : mg "_law_common" = some (.ref f__law_common)
 f__law_least : Addr
 fd__law_least : FuncData
 F__law_least : Fun K "_law_least" "_law_least" s__law_least f__law_least fd__law_least
 b__law_least : Binds K fd__law_least ["top", "below"] []
 m__law_least : mg "_law_least" = some (.ref f__law_least)
 f__law_whole_number : Addr
 fd__law_whole_number : FuncData
 F__law_whole_number : Fun K "_law_whole_number" "_law_whole_number" s__law_whole_number f__law_whole_number fd__law_whole_number
 b__law_whole_number : Binds K fd__law_whole_number ["deck"] []
 m__law_whole_number : mg "_law_whole_number" = some (.ref f__law_whole_number)
 f__law_number : Addr
 fd__law_number : FuncData
 F__law_number : Fun K "_law_number" "_law_number" s__law_number f__law_number fd__law_number
 b__law_number : Binds K fd__law_number ["deck"] []
 m__law_number : mg "_law_number" = some (.ref f__law_number)
 f__law_figures : Addr
 fd__law_figures : FuncData
 F__law_figures : Fun K "_law_figures" "_law_figures" s__law_figures f__law_figures fd__law_figures
 b__law_figures : Binds K fd__law_figures ["text"] []
 m__law_figures : mg "_law_figures" = some (.ref f__law_figures)
 f__law_reading : Addr
 fd__law_reading : FuncData
 F__law_reading : Fun K "_law_reading" "_law_reading" s__law_reading f__law_reading fd__law_reading
 b__law_reading : Binds K fd__law_reading ["text"] []
 m__law_reading : mg "_law_reading" = some (.ref f__law_reading)
 f__law_text : Addr
 fd__law_text : FuncData
 F__law_text : Fun K "_law_text" "_law_text" s__law_text f__law_text fd__law_text
 b__law_text : Binds K fd__law_text ["number"] []
 m__law_text : mg "_law_text" = some (.ref f__law_text)
 f__law_spoilt : Addr
 fd__law_spoilt : FuncData
 F__law_spoilt : Fun K "_law_spoilt" "_law_spoilt" s__law_spoilt f__law_spoilt fd__law_spoilt
 b__law_spoilt : Binds K fd__law_spoilt ["deck", "number"] []
 m__law_spoilt : mg "_law_spoilt" = some (.ref f__law_spoilt)
 f__law_free : Addr
 fd__law_free : FuncData
 F__law_free : Fun K "_law_free" "_law_free" s__law_free f__law_free fd__law_free
 b__law_free : Binds K fd__law_free ["deck"] []
 m__law_free : mg "_law_free" = some (.ref f__law_free)
 f__law_right : Addr
 fd__law_right : FuncData
 F__law_right : Fun K "_law_right" "_law_right" s__law_right f__law_right fd__law_right
 b__law_right : Binds K fd__law_right ["text"] []
 m__law_right : mg "_law_right" = some (.ref f__law_right)
 len_ : mg "len" = none
 range_ : mg "range" = none
 tuple_ : mg "tuple" = none
 isinstance_ : mg "isinstance" = none
 bool_ : mg "bool" = none
 sum_ : mg "sum" = none
 max_ : mg "max" = none
 str_ : mg "str" = none
 int_ : mg "int" = none
 abs_ : mg "abs" = none
 all_ : mg "all" = none
 ValueError_ : mg "ValueError" = none
 tt : PySem.W.kitOne K (.type "tuple") (.type "tuple") = some true
 ib : PySem.W.kitOne K (.type "int") (.type "bool") = some false
 nt : PySem.W.kitOne K (.type "NoneType") (.type "tuple") = some false
 c_OrderError : Addr
 cm_OrderError : mg "OrderError" = some (.ref c_OrderError)
 c_NoNumber : Addr
 cm_NoNumber : mg "NoNumber" = some (.ref c_NoNumber)
 c_NoOrder : Addr
 cm_NoOrder : mg "NoOrder" = some (.ref c_NoOrder)
 c_Clash : Addr
 cm_Clash : mg "Clash" = some (.ref c_Clash)
 c_NoField : Addr
 cm_NoField : mg "NoField" = some (.ref c_NoField)
 c_NoRow : Addr
 cm_NoRow : mg "NoRow" = some (.ref c_NoRow)
 c_NoNet : Addr
 cm_NoNet : mg "NoNet" = some (.ref c_NoNet)
 c_NoPlace : Addr
 cm_NoPlace : mg "NoPlace" = some (.ref c_NoPlace)
 c_NoThing : Addr
 cm_NoThing : mg "NoThing" = some (.ref c_NoThing)
 c_NoAsk : Addr
 cm_NoAsk : mg "NoAsk" = some (.ref c_NoAsk)
 x_NoNumber : XCls K mg "NoNumber" c_NoNumber
 exm : PySem.W.exmOne K (.ref c_NoNumber) (.ref c_OrderError) = some true
 oth : PySem.W.kitAny K (.ref c_NoNumber) [.ref c_Clash, .ref c_NoAsk, .ref c_NoField, .ref c_NoNet, .ref c_NoOrder, .ref c_NoPlace, .ref c_NoRow, .ref c_NoThing] = some false
 own : PySem.W.kitOne K (.ref c_NoNumber) (.ref c_NoNumber) = some true
 vae : PySem.W.kitOne K (.ref c_NoNumber) (.type "ValueError") = some true
 othN : PySem.W.kitAny K (.type "NoneType") [.ref c_Clash, .ref c_NoAsk, .ref c_NoField, .ref c_NoNet, .ref c_NoOrder, .ref c_NoPlace, .ref c_NoRow, .ref c_NoThing] = some false
 glb : Glb mg
section
variable {P : Program} {w : World} {K : PySem.W.Frag} {mg : Str → Option Value} {base : Heap}
theorem scTake : FnScope ["deck", "many", "at", "cell"] ["deck", "many"] (defScope sTake) := ⟨rfl, rfl, rfl, by decide +kernel, rfl, by decide +kernel, by decide +kernel⟩
theorem ok_take {f : Addr} {fd : FuncData} (F : Fun K "_law_take" "_law_take" sTake f fd) (hlen : mg "len" = none) : FnOk P w K mg base CX0 1 f fd ["deck", "many"] spTake := by
 refine F.ok scTake (fun vs H Q E h => ?_) (fun cdv A outer s H vs Q E hr h => ?_)
 ·obtain ⟨d, c, many, rfl, _⟩ := h
  rfl
 ·obtain ⟨d, c, many, rfl, D, ⟨hm, hz⟩, k⟩ := h
  obtain ⟨n, ns, hd, hc, hl1, hl2, hn⟩ := id D.ex
  have ndc := D.ne
  refine ⟨_, pss_cons (ps_set (i := 2) scTake.nd rfl (Or.inl rfl) (pe_op op_mod (pe_ix ix_list (pv 0) pe_int (fun _ _ => rfl)) (pe_callB call_len_seq (by rfl) hlen PySem.boot_len (pa_cons (pe_ix ix_list (pv 0) pe_int (fun _ _ => rfl)) pa_nil))))
   (pss_cons (ps_asg (pe_op op_add (pe_ix ix_list (pv 0) pe_int (fun _ _ => rfl)) pe_int) (pg_sub (pv 0) pe_int set_list))
   (pss_cons (ps_set (i := 3) scTake.nd rfl (Or.inl rfl) (pe_ix ix_list (pe_ix ix_list (pv 0) pe_int (fun _ _ => rfl)) (pv 2) (fun _ _ => rfl)))
   (pss_cons (ps_asg (pe_op op_fdivP (pv 3) (pv 1)) (pg_sub (pe_ix ix_list (pv 0) pe_int (fun _ _ => rfl)) (pv 2) set_list))
   (pss_one (ps_ret (pe_op op_mod (pv 3) (pv 1))))))), ?_⟩
  have hi0 : 0 ≤ n % ((ns.map V.int).length : Int) := Int.emod_nonneg _ (by rw [List.length_map]; omega)
  have hi1 : n % ((ns.map V.int).length : Int) < ns.length := by
   have := Int.emod_lt_of_pos n (show (0 : Int) < ((ns.map V.int).length : Int) by rw [List.length_map]; omega)
   rw [List.length_map] at this ⊢; exact this
  obtain ⟨z, j, hat, hix, hj⟩ := atI_ints hi0 hi1
  refine ⟨_, rfl, d, _, 1, _, rfl, rfl, SqL.of hd, rfl, _, rfl, d, _, 0, _, rfl, rfl, SqL.of hd, rfl, c, _, rfl, .inl (SqL.of hc), _, _, rfl, rfl, (by rw [List.length_map]; omega), ?_⟩
  refine ⟨_, rfl, d, _, 1, _, rfl, rfl, SqL.of hd, rfl, _, _, rfl, rfl, _, rfl, d, _, 1, 1, rfl, rfl, hd, rfl, ?_⟩
  have hc1 : ∀ o, (upd H d o) c = some (.lst (ns.map V.int)) := fun o => by rw [upd_ne (Ne.symm ndc)]; exact hc
  refine ⟨_, rfl, d, _, 0, _, rfl, rfl, SqL.of upd_same, rfl, _, rfl, c, _, _, _, rfl, rfl, SqL.of (hc1 _), hat, ?_⟩
  refine ⟨_, rfl, _, rfl, _, _, rfl, rfl, ⟨by omega, w0 hz⟩, _, rfl, d, _, 0, _, rfl, rfl, SqL.of upd_same, rfl, _, rfl, c, _, _, j, rfl, rfl, hc1 _, hix, ?_⟩
  refine ⟨_, rfl, _, rfl, _, _, rfl, rfl, (by omega), ?_⟩
  refine k _ _ (Int.emod_nonneg _ (by omega)) (Int.emod_lt_of_pos _ (by omega)) ⟨n + 1, ns.set j (z / many), ?_, ?_, by simpa using hl1, by simpa using hl2, by omega⟩ fun b o e h1 h2 => ?_
  ·rw [upd_ne ndc, upd_same]; rfl
  ·rw [upd_same, set_ints]
  ·rw [upd_ne h2, upd_ne h1]; exact e
theorem scDeck : FnScope ["script", "cells", "k", "mixed"] ["script"] (defScope sDeck) := ⟨rfl, rfl, rfl, by decide +kernel, rfl, by decide +kernel, by decide +kernel⟩
theorem ok_deck {f : Addr} {fd : FuncData} (F : Fun K "_law_deck" "_law_deck" sDeck f fd) (hlen : mg "len" = none) (hsum : mg "sum" = none) (hrange : mg "range" = none) : FnOk P w K mg base CX0 1 f fd ["script"] (spDeck K) := by
 refine F.ok scDeck (fun vs H Q E h => ?_) (fun cdv A outer s H vs Q E hr h => ?_)
 ·obtain ⟨a, ns, rfl, _⟩ := h
  rfl
 ·obtain ⟨a, ns, rfl, hS, hlen63, k⟩ := h
  refine ⟨_, pss_cons (ps_set (i := 1) scDeck.nd rfl (Or.inl rfl) (pe_op op_cat (pe_slice sl_list (pv 0) po_none (po_some pe_int)) (pe_lst (pa_cons (pe_callB call_len_seq (by rfl) hlen PySem.boot_len (pa_cons (pv 0) pa_nil)) pa_nil))))
   (pss_cons (ps_if (pt_cmpR op_eq (pe_op op_mod (pe_callB (call_sum rfl) (by rfl) hsum bSum (pa_cons (pe_slice sl_list (pv 0) po_none (po_some pe_int)) pa_nil)) pe_int) pe_int (nomark _))
    (pss_one (ps_for PassesOwn.never rfl (pi_range1 rfl hrange (pa_cons (pe_callB call_len_seq (by rfl) hlen PySem.boot_len (pa_cons (pv 1) pa_nil)) pa_nil)) (pg_name (i := 2) scDeck.nd rfl (Or.inl rfl))
     (pss_cons (ps_set (i := 3) scDeck.nd rfl (Or.inl rfl) (pe_op op_mod (pe_op op_mulW (pe_op op_add (pe_op op_add (pe_op op_mod (pe_ix ix_list (pv 1) (pv 2) (fun _ _ => rfl)) pe_int) (pe_op op_mulW pe_int (pv 2))) pe_int) pe_int) pe_int))
     (pss_cons (ps_set (i := 3) scDeck.nd rfl (Or.inl rfl) (pe_op op_mod (pe_op op_mulW (pe_op op_mod (pe_op op_add (pe_op op_mulW (pv 3) (pv 3)) (pe_op op_mulW pe_int (pv 2))) pe_int) pe_int) pe_int))
     (pss_one (ps_asg (pe_op op_add (pe_op op_mulW (pe_op op_mulW (pv 3) (pv 3)) pe_int) (pe_op op_mod (pe_op op_mulW (pv 3) pe_int) pe_int)) (pg_sub (pv 1) (pv 2) set_list)))))))
    pss_nil)
   (pss_one (ps_ret (pe_lst (pa_cons (pv 1) (pa_cons pe_int pa_nil)))))), ?_⟩
  refine ⟨_, rfl, 63, rfl, a, _, rfl, hS, fun p hp => ?_⟩
  have s1 := same_new (o := .lst (cutV (ns.map V.int) none (some 63))) hp
  refine ⟨_, rfl, a, _, rfl, .inl (s1.seq hS), (by show 1 ≤ sizeLine; decide), fun q hq => ?_⟩
  have npq : p ≠ q := ne_of_none (H := upd H p (.lst (cutV (ns.map V.int) none (some 63)))) upd_same hq
  refine ⟨p, q, _, _, rfl, rfl, (by rw [upd_ne npq, upd_same]), upd_same, ?_, fun c hc => ?_⟩
  ·rw [cut63 hlen63, List.length_map]
   show ns.length + 1 ≤ sizeLine
   rw [sizeLine_eq]; omega
  have s2 := s1.trans (same_new (o := .lst [V.int ((ns.map V.int).length : Nat)]) hq)
  have s3 := s2.trans (same_new (o := .lst (cutV (ns.map V.int) none (some 63) ++ [V.int ((ns.map V.int).length : Nat)])) hc)
  have ec : cutV (ns.map V.int) none (some 63) ++ [V.int ((ns.map V.int).length : Nat)] = (ns ++ [((ns.map V.int).length : Int)]).map V.int := by
   rw [cut63 hlen63, List.map_append]; rfl
  have nc0 : H c = none := s2.free hc
  generalize hH3 : upd (upd (upd H p (.lst (cutV (ns.map V.int) none (some 63)))) q (.lst [V.int ((ns.map V.int).length : Nat)])) c (.lst (cutV (ns.map V.int) none (some 63) ++ [V.int ((ns.map V.int).length : Nat)])) = H3 at s3
  have hc3 : H3 c = some (.lst ((ns ++ [((ns.map V.int).length : Int)]).map V.int)) := by rw [← hH3, upd_same, ec]
  have hlc : (ns ++ [((ns.map V.int).length : Int)]).length = ns.length + 1 := by simp
  have fin : ∀ (v2 v3 : Option V) (H4 : Hp) (ms : List Int), Same H H4 → H4 c = some (.lst (ms.map V.int)) → ms.length = ns.length + 1 →
    tRet (tLst (tCons (tVar 1) (tCons (tC (.int 0)) tNil))) { nx := fun _ H' => Q .non H', rt := Q } [some (.ref a), some (.ref c), v2, v3] H4 := fun v2 v3 H4 ms s4 h4 hl4 => by
   refine ⟨_, rfl, (by show 2 ≤ sizeLine; decide), fun d hd => ?_⟩
   have ncd : c ≠ d := ne_of_none h4 hd
   exact k d c _ ⟨0, ms, upd_same, (by rw [upd_ne ncd]; exact h4), by omega, by omega, by omega⟩ (s4.free hd) nc0 (s4.trans (same_new hd))
  refine ⟨_, rfl, 63, rfl, a, _, rfl, s3.seq hS, fun e he => ?_⟩
  have s4 := s3.trans (same_new (o := .lst (cutV (ns.map V.int) none (some 63))) he)
  have hce : c ≠ e := ne_of_none hc3 he
  have hc4 : (upd H3 e (.lst (cutV (ns.map V.int) none (some 63)))) c = some (.lst ((ns ++ [((ns.map V.int).length : Int)]).map V.int)) := by rw [upd_ne hce]; exact hc3
  refine ⟨e, ns, rfl, SqL.of (by rw [upd_same, cut63 hlen63]), _, _, rfl, rfl, (by show (0 : Int) < 2; decide), rfl, _, rfl, ?_⟩
  refine ite2 (fun _ => ?_) (fun _ => fin _ _ _ _ s4 hc4 hlc)
  refine ⟨_, rfl, c, _, rfl, .inl (SqL.of hc4), _, rfl, ?_, ?_, for_range (Pv := fun i σ H5 => ∃ (v2 v3 : Option V) (ms : List Int), σ = [some (.ref a), some (.ref c), v2, v3] ∧ Same H H5 ∧ H5 c = some (.lst (ms.map V.int)) ∧ ms.length = ns.length + 1) ⟨_, _, _, rfl, s4, hc4, hlc⟩ ?_ ?_⟩
  ·rw [List.length_map, hlc]; omega
  ·rw [List.length_map, hlc]; omega
  ·rintro i σ H5 hi ⟨v2, v3, ms, rfl, s5, h5, hl5⟩
   have hi' : i < ms.length := by
    rw [List.length_map, hlc] at hi
    omega
   obtain ⟨z, j, hat, hix, hj⟩ := atI_ints (ns := ms) (i := 0 + (i : Int)) (by omega) (by omega)
   have hb1 : (0 : Int) ≤ z % 2147483587 ∧ z % 2147483587 < 2147483587 := ⟨Int.emod_nonneg _ (by decide), Int.emod_lt_of_pos _ (by decide)⟩
   refine ⟨_, rfl, _, rfl, c, _, _, _, rfl, rfl, SqL.of h5, hat, _, _, rfl, rfl, (by show (0 : Int) < 2147483587; decide), _, rfl, _, _, rfl, rfl, mw (by decide) (by omega), _, _, rfl, rfl, _, _, rfl, rfl, _, _, rfl, rfl, mw (by omega) (by decide), _, _, rfl, rfl, (by show (0 : Int) < 2147483629; decide), ?_⟩
   (try dsimp only)
   generalize hM1 : (z % 2147483587 + 911 * (0 + (i : Int)) + 3) * 69621 % 2147483629 = m1
   have hm1 : 0 ≤ m1 ∧ m1 < 2147483629 := by rw [← hM1]; exact ⟨Int.emod_nonneg _ (by decide), Int.emod_lt_of_pos _ (by decide)⟩
   have hmm : (m1 * m1).natAbs ≤ 2147483629 * 2147483629 := mulb (by omega) (by omega)
   refine ⟨_, rfl, _, rfl, _, _, rfl, rfl, mw (by omega) (by omega), _, rfl, _, _, rfl, rfl, mw (by decide) (by omega), _, _, rfl, rfl, _, _, rfl, rfl, (by show (0 : Int) < 2147483563; decide), _, _, rfl, rfl, mw ?_ (by decide), _, _, rfl, rfl, (by show (0 : Int) < 2147483549; decide), ?_⟩
   ·have := Int.emod_nonneg (m1 * m1 + 29 * (0 + (i : Int))) (show (2147483563 : Int) ≠ 0 by decide)
    have := Int.emod_lt_of_pos (m1 * m1 + 29 * (0 + (i : Int))) (show (0 : Int) < 2147483563 by decide)
    omega
   (try dsimp only)
   generalize hM2 : (m1 * m1 + 29 * (0 + (i : Int))) % 2147483563 * 16807 % 2147483549 = m2
   have hm2 : 0 ≤ m2 ∧ m2 < 2147483549 := by rw [← hM2]; exact ⟨Int.emod_nonneg _ (by decide), Int.emod_lt_of_pos _ (by decide)⟩
   have hmm2 : (m2 * m2).natAbs ≤ 2147483629 * 2147483629 := mulb (by omega) (by omega)
   refine ⟨_, rfl, _, rfl, _, _, rfl, rfl, mw (by omega) (by omega), _, _, rfl, rfl, mw (by omega) (by decide), _, rfl, _, _, rfl, rfl, mw (by omega) (by decide), _, _, rfl, rfl, (by show (0 : Int) < 2147483579; decide), _, _, rfl, rfl, _, rfl, _, rfl, c, _, _, j, rfl, rfl, h5, hix, ?_⟩
   refine ⟨_, _, ms.set j (m2 * m2 * 2147483543 + m2 * 48271 % 2147483579), rfl, fun b o eb => ?_, (by rw [upd_same, set_ints]), by simpa using hl5⟩
   rw [upd_ne (ne_of_none eb nc0)]
   exact s5 b o eb
  ·rintro σ H5 ⟨v2, v3, ms, rfl, s5, h5, hl5⟩
   exact fin _ _ _ _ s5 h5 hl5
theorem scCommon : FnScope ["one", "other"] ["one", "other"] (defScope sCommon) := ⟨rfl, rfl, rfl, by decide +kernel, rfl, by decide +kernel, by decide +kernel⟩
theorem ok_common {f : Addr} {fd : FuncData} (F : Fun K "_law_common" "_law_common" sCommon f fd) : FnOk P w K mg base CX0 1 f fd ["one", "other"] spCommon := by
 refine F.ok scCommon (fun vs H Q E h => ?_) (fun cdv A outer s H vs Q E hr h => ?_)
 ·obtain ⟨a, b, rfl, _⟩ := h
  rfl
 ·obtain ⟨a, b, rfl, ha, hb, k⟩ := h
  refine ⟨_, pss_cons (ps_while PassesOwn.never (pt_cmpR op_gt (pv 1) pe_int (nomark _)) (pss_one (ps_par (i := 0) (j := 1) rfl scCommon.nd rfl rfl (by decide) rfl rfl (pa_cons (pv 1) (pa_cons (pe_op op_mod (pv 0) (pv 1)) pa_nil)) (by rfl))))
   (pss_one (ps_ret (pv 0))), ?_⟩
  refine while_by (fun σ H2 => ∃ x y : Int, σ = [some (.int x), some (.int y)] ∧ H2 = H ∧ 0 ≤ x ∧ 0 ≤ y ∧ Int.gcd x y = Int.gcd a b) (fun σ _ => match σ with | [_, some (.int y)] => y.toNat | _ => 0) ⟨a, b, rfl, rfl, ha, hb, rfl⟩ ?_ ?_
  ·rintro σ H2 ⟨x, y, rfl, rfl, hx, hy, hg⟩
   refine ⟨_, rfl, _, _, rfl, rfl, _, rfl, ?_⟩
   by_cases h0 : 0 < y
   ·rw [decide_eq_true h0]
    refine iteT ?_
    have hr0 := Int.emod_nonneg x (show y ≠ 0 by omega)
    have hr1 := Int.emod_lt_of_pos x h0
    refine ⟨_, rfl, _, rfl, _, rfl, _, _, rfl, rfl, h0, _, _, rfl, ⟨y, x % y, rfl, rfl, hy, hr0, ?_⟩, ?_⟩
    ·rw [gcd_step x y h0]; exact hg
    ·show (x % y).toNat < y.toNat
     omega
   ·rw [decide_eq_false h0]
    refine iteF ?_
    have y0 : y = 0 := by omega
    subst y0
    refine ⟨_, rfl, ?_⟩
    have e := gcd_zero x hx
    rw [hg] at e
    rw [← e]
    exact k
  ·rintro σ H2 Q1 Q2 hq ⟨v, e, i, j, e1, e2, b', e3, q⟩
   exact ⟨v, e, i, j, e1, e2, b', e3, hq _ _ q⟩
theorem scLeast : FnScope ["top", "below", "by"] ["top", "below"] (defScope sLeast) := ⟨rfl, rfl, rfl, by decide +kernel, rfl, by decide +kernel, by decide +kernel⟩
theorem ok_least {f fC : Addr} {fd fdC : FuncData} (F : Fun K "_law_least" "_law_least" sLeast f fd) (hmax : mg "max" = none) (FC : Fun K "_law_common" "_law_common" sCommon fC fdC) (bC : Binds K fdC ["one", "other"] []) (mC : mg "_law_common" = some (.ref fC)) : FnOk P w K mg base CX0 2 f fd ["top", "below"] spLeast := by
 have GC : FnOk P w K mg base CX0 1 fC fdC ["one", "other"] spCommon := ok_common FC
 refine F.ok scLeast (fun vs H Q E h => ?_) (fun cdv A outer s H vs Q E hr h => ?_)
 ·obtain ⟨a, b, rfl, _⟩ := h
  rfl
 ·obtain ⟨a, b, rfl, hb, ⟨za, zb⟩, k⟩ := h
  refine ⟨_, pss_cons (ps_if (pt_cmpR op_lt (pv 1) pe_int (nomark _)) (pss_cons (ps_set (i := 0) scLeast.nd rfl (Or.inl rfl) (pe_op op_sub pe_int (pv 0))) (pss_one (ps_set (i := 1) scLeast.nd rfl (Or.inl rfl) (pe_op op_sub pe_int (pv 1))))) pss_nil)
   (pss_cons (ps_set (i := 2) scLeast.nd rfl (Or.inl rfl) (pe_call GC hr (by rfl) mC FC.kp bC .nil pass0 (pa_cons (pe_callB (call_max2 rfl) (by rfl) hmax bMax (pa_cons (pv 0) (pa_cons (pe_op op_sub pe_int (pv 0)) pa_nil))) (pa_cons (pv 1) pa_nil))))
   (pss_one (ps_ret (pe_tup (pa_cons (pe_op op_fdivP (pv 0) (pv 2)) (pa_cons (pe_op op_fdivP (pv 1) (pv 2)) pa_nil)))))), ?_⟩
  have fin : ∀ (x y : Int) (v : Option V), 0 < y → norm a b = norm x y → y.natAbs < 10 ^ 100 → (tSeq (tAsg (tCall spCommon [] E0 (tCons (tCB (fun xs H Q => ∃ i j, xs = [.int i, .int j] ∧ Q (.int (if j > i then j else i)) H) (tCons (tVar 0) (tCons (tOp (rI0 fun i j => .int (i - j)) (tC (.int 0)) (tVar 0)) tNil))) (tCons (tVar 1) tNil))) (gName 2))
    (tRet (tTup (tCons (tOp (rI CDivP fun i j => .int (i / j)) (tVar 0) (tVar 2)) (tCons (tOp (rI CDivP fun i j => .int (i / j)) (tVar 1) (tVar 2)) tNil))))) { nx := fun _ H' => Q .non H', rt := Q } [some (.int x), some (.int y), v] H := fun x y v hy he hz => by
   have em : (if 0 - x > x then 0 - x else x) = (x.natAbs : Int) := by split <;> omega
   have eg : Int.gcd (if 0 - x > x then 0 - x else x) y = Int.gcd x y := by rw [em]; unfold Int.gcd; rw [Int.natAbs_natCast]
   refine ⟨_, rfl, _, rfl, _, _, rfl, rfl, _, _, rfl, _, rfl, _, _, rfl, (by split <;> omega), by omega, ?_⟩
   rw [eg]
   have hg := gpos (a := x) (show y ≠ 0 by omega)
   have hgz : (Int.gcd x y : Int).natAbs < 10 ^ 100 := by
    have := Int.le_of_dvd hy (dvd_r x y)
    omega
   refine ⟨_, rfl, _, rfl, _, _, rfl, rfl, ⟨hg, w0 hgz⟩, _, rfl, _, rfl, _, _, rfl, rfl, ⟨hg, w0 hgz⟩, (by show 2 ≤ sizeLine; decide), fun p hp => ?_⟩
   have := k p hp
   rw [he, norm_pos x y hy] at this
   exact this
  refine ⟨_, rfl, _, _, rfl, rfl, _, rfl, ?_⟩
  by_cases h0 : b < 0
  ·rw [decide_eq_true h0]
   refine iteT ?_
   refine ⟨_, rfl, _, _, rfl, rfl, _, rfl, _, _, rfl, rfl, ?_⟩
   refine fin (0 - a) (0 - b) _ (by omega) ?_ (by omega)
   rw [norm_flip a b h0, Int.zero_sub, Int.zero_sub]
  ·rw [decide_eq_false h0]
   refine iteF ?_
   exact fin a b _ (by omega) rfl zb
theorem scWhole : FnScope ["deck", "way"] ["deck"] (defScope sWhole) := ⟨rfl, rfl, rfl, by decide +kernel, rfl, by decide +kernel, by decide +kernel⟩
theorem ok_whole {f fT : Addr} {fd fdT : FuncData} (F : Fun K "_law_whole_number" "_law_whole_number" sWhole f fd) (FT : Fun K "_law_take" "_law_take" sTake fT fdT) (bT : Binds K fdT ["deck", "many"] []) (mT : mg "_law_take" = some (.ref fT)) (hlen : mg "len" = none) : FnOk P w K mg base CX0 2 f fd ["deck"] spWhole := by
 have GT : FnOk P w K mg base CX0 1 fT fdT ["deck", "many"] spTake := ok_take FT hlen
 refine F.ok scWhole (fun vs H Q E h => ?_) (fun cdv A outer s H vs Q E hr h => ?_)
 ·obtain ⟨d, c, rfl, _⟩ := h
  rfl
 ·obtain ⟨d, c, rfl, D, k⟩ := h
  refine ⟨_, pss_cons (ps_set (i := 1) scWhole.nd rfl (Or.inl rfl) (pe_call GT hr (by rfl) mT FT.kp bT .nil pass0 (pa_cons (pv 0) (pa_cons pe_int pa_nil))))
   (pss_cons (ps_if (pt_cmpR op_lt (pv 1) pe_int (nomark _)) (pss_one (ps_ret (pe_call GT hr (by rfl) mT FT.kp bT .nil pass0 (pa_cons (pv 0) (pa_cons pe_int pa_nil))))) pss_nil)
   (pss_cons (ps_if (pt_cmpR op_eq (pv 1) pe_int (nomark _)) (pss_one (ps_ret (pe_call GT hr (by rfl) mT FT.kp bT .nil pass0 (pa_cons (pv 0) (pa_cons pe_int pa_nil))))) pss_nil)
   (pss_one (ps_ret (pe_op op_add (pe_op op_add (pe_op op_mulW (pe_call GT hr (by rfl) mT FT.kp bT .nil pass0 (pa_cons (pv 0) (pa_cons (pe_op op_pow pe_int pe_int) pa_nil))) (pe_op op_pow pe_int pe_int))
    (pe_op op_mulW (pe_call GT hr (by rfl) mT FT.kp bT .nil pass0 (pa_cons (pv 0) (pa_cons (pe_op op_pow pe_int pe_int) pa_nil))) (pe_op op_pow pe_int pe_int)))
    (pe_call GT hr (by rfl) mT FT.kp bT .nil pass0 (pa_cons (pv 0) (pa_cons (pe_op op_pow pe_int pe_int) pa_nil)))))))), ?_⟩
  have cp : ∀ i j : Int, 0 ≤ j → j ≤ 100 → i = 10 → CPow i j := fun i j h1 h2 h3 => ⟨h1, by omega, by rw [h3]; decide⟩
  refine ⟨_, rfl, d, c, 8, rfl, D, ⟨by decide, by decide⟩, fun way H1 hw0 hw1 D1 K1 => ?_⟩
  refine ⟨_, rfl, _, _, rfl, rfl, _, rfl, ?_⟩
  refine ite2 (fun _ => ?_) (fun _ => ?_)
  ·exact ⟨_, rfl, d, c, 9, rfl, D1, ⟨by decide, by decide⟩, fun r H2 h0 h1 D2 K2 => k r H2 h0 (by omega) D2 (K1.trans K2)⟩
  refine ⟨_, rfl, rfl, _, rfl, ?_⟩
  refine ite2 (fun _ => ?_) (fun _ => ?_)
  ·exact ⟨_, rfl, d, c, 1000, rfl, D1, ⟨by decide, by decide⟩, fun r H2 h0 h1 D2 K2 => k r H2 h0 (by omega) D2 (K1.trans K2)⟩
  refine ⟨_, rfl, _, _, rfl, rfl, cp _ _ (by decide) (by decide) rfl, d, c, _, rfl, D1, ⟨by decide, by decide⟩, fun r1 H2 h10 h11 D2 K2 => ?_⟩
  have h11' : r1 < 100000 := h11
  refine ⟨_, _, rfl, rfl, cp _ _ (by decide) (by decide) rfl, _, _, rfl, rfl, mw (by omega) (by decide), ?_⟩
  refine ⟨_, rfl, _, _, rfl, rfl, cp _ _ (by decide) (by decide) rfl, d, c, _, rfl, D2, ⟨by decide, by decide⟩, fun r2 H3 h20 h21 D3 K3 => ?_⟩
  have h21' : r2 < 100000 := h21
  refine ⟨_, _, rfl, rfl, cp _ _ (by decide) (by decide) rfl, _, _, rfl, rfl, mw (by omega) (by decide), _, _, rfl, rfl, ?_⟩
  refine ⟨_, rfl, _, _, rfl, rfl, cp _ _ (by decide) (by decide) rfl, d, c, _, rfl, D3, ⟨by decide, by decide⟩, fun r3 H4 h30 h31 D4 K4 => ?_⟩
  have h31' : r3 < 10000000000 := h31
  refine ⟨_, _, rfl, rfl, k _ H4 ?_ ?_ D4 (K1.trans (K2.trans (K3.trans K4)))⟩
  ·show 0 ≤ r1 * 1000000000000000 + r2 * 10000000000 + r3
   omega
  ·show r1 * 1000000000000000 + r2 * 10000000000 + r3 < 10 ^ 20
   omega
end
section
variable {P : Program} {w : World} {K : PySem.W.Frag} {mg : Str → Option Value} {base : Heap}
theorem scCD : FnScope ["one", "other", "rest"] ["one", "other"] (defScope sCD) := ⟨rfl, rfl, rfl, by decide +kernel, rfl, by decide +kernel, by decide +kernel⟩
theorem ok_cd {f : Addr} {fd : FuncData} (F : Fun K "common_divisor" "common_divisor" sCD f fd) (habs : mg "abs" = none) : FnOk P w K mg base CX0 1 f fd ["one", "other"] spCD := by
 refine F.ok scCD (fun vs H Q E h => ?_) (fun cdv A outer s H vs Q E hr h => ?_)
 ·obtain ⟨a, b, rfl, _⟩ := h
  rfl
 ·obtain ⟨a, b, rfl, k⟩ := h
  refine ⟨_, pss_cons (ps_set (i := 0) scCD.nd rfl (Or.inl rfl) (pe_callB call_abs (by rfl) habs bAbs (pa_cons (pv 0) pa_nil)))
   (pss_cons (ps_set (i := 1) scCD.nd rfl (Or.inl rfl) (pe_callB call_abs (by rfl) habs bAbs (pa_cons (pv 1) pa_nil)))
   (pss_cons (ps_while PassesOwn.never (pt_cmpR op_ne (pv 1) pe_int (nomark _)) (pss_cons (ps_set (i := 2) scCD.nd rfl (Or.inl rfl) (pe_op op_mod (pv 0) (pv 1))) (pss_cons (ps_set (i := 0) scCD.nd rfl (Or.inl rfl) (pv 1)) (pss_one (ps_set (i := 1) scCD.nd rfl (Or.inl rfl) (pv 2))))))
   (pss_one (ps_ret (pv 0))))), ?_⟩
  refine ⟨_, rfl, _, rfl, _, rfl, _, rfl, ?_⟩
  refine while_by (fun σ H2 => ∃ (x y : Int) (v : Option V), σ = [some (.int x), some (.int y), v] ∧ H2 = H ∧ 0 ≤ x ∧ 0 ≤ y ∧ Int.gcd x y = Int.gcd a b) (fun σ _ => match σ with | [_, some (.int y), _] => y.toNat | _ => 0) ⟨_, _, _, rfl, rfl, by split <;> omega, by split <;> omega, ?_⟩ ?_ ?_
  ·have ab : ∀ x : Int, (if x < 0 then -x else x) = (x.natAbs : Int) := fun x => by split <;> omega
   rw [ab, ab, Int.gcd_eq_natAbs_gcd_natAbs, Int.gcd_eq_natAbs_gcd_natAbs, Int.natAbs_natCast, Int.natAbs_natCast]
  ·rintro σ H2 ⟨x, y, v, rfl, rfl, hx, hy, hg⟩
   refine ⟨_, rfl, rfl, _, rfl, ?_⟩
   by_cases h0 : y = 0
   ·subst h0
    refine iteNS rfl ?_
    refine ⟨_, rfl, ?_⟩
    have e := gcd_zero x hx
    rw [hg] at e
    rw [← e]
    exact k
   ·have e0 : (!decide (V.int y = V.int 0)) = true := by
     rw [decide_eq_false (fun z => h0 (by injection z))]; rfl
    rw [e0]
    refine iteT ?_
    have hr0 := Int.emod_nonneg x h0
    have hr1 := Int.emod_lt_of_pos x (show 0 < y by omega)
    refine ⟨_, rfl, _, rfl, _, _, rfl, rfl, (by show 0 < y; omega), _, rfl, _, rfl, ⟨y, x % y, _, rfl, rfl, hy, hr0, ?_⟩, ?_⟩
    ·rw [gcd_step x y (by omega)]; exact hg
    ·show (x % y).toNat < y.toNat
     omega
  ·rintro σ H2 Q1 Q2 hq ⟨v, e, e1, b', e3, q⟩
   exact ⟨v, e, e1, b', e3, hq _ _ q⟩
theorem scFrac : FnScope ["above", "below", "divisor"] ["above", "below"] (defScope sFrac) := ⟨rfl, rfl, rfl, by decide +kernel, rfl, by decide +kernel, by decide +kernel⟩
theorem ok_frac {f fC : Addr} {fd fdC : FuncData} (F : Fun K "fraction" "fraction" sFrac f fd) (habs : mg "abs" = none) (FC : Fun K "common_divisor" "common_divisor" sCD fC fdC) (bC : Binds K fdC ["one", "other"] []) (mC : mg "common_divisor" = some (.ref fC)) : FnOk P w K mg base CX0 2 f fd ["above", "below"] spLeast := by
 have GC : FnOk P w K mg base CX0 1 fC fdC ["one", "other"] spCD := ok_cd FC habs
 refine F.ok scFrac (fun vs H Q E h => ?_) (fun cdv A outer s H vs Q E hr h => ?_)
 ·obtain ⟨a, b, rfl, _⟩ := h
  rfl
 ·obtain ⟨a, b, rfl, hb, ⟨za, zb⟩, k⟩ := h
  refine ⟨_, pss_cons (ps_if (pt_cmpR op_eq (pv 1) pe_int (nomark _)) pss_never pss_nil)
   (pss_cons (ps_set (i := 2) scFrac.nd rfl (Or.inl rfl) (pe_call GC hr (by rfl) mC FC.kp bC .nil pass0 (pa_cons (pv 0) (pa_cons (pv 1) pa_nil))))
   (pss_cons (ps_if (pt_cmpR op_lt (pv 1) pe_int (nomark _)) (pss_one (ps_set (i := 2) scFrac.nd rfl (Or.inl rfl) (pe_un un_neg (pv 2)))) pss_nil)
   (pss_one (ps_ret (pe_tup (pa_cons (pe_op op_fdivW (pv 0) (pv 2)) (pa_cons (pe_op op_fdivW (pv 1) (pv 2)) pa_nil))))))), ?_⟩
  refine ⟨_, rfl, rfl, _, rfl, ?_⟩
  have e0 : decide (V.int b = V.int 0) = false := decide_eq_false (fun z => hb (by injection z))
  rw [e0]
  refine iteF ?_
  refine ⟨_, rfl, _, rfl, _, _, rfl, ?_⟩
  have hg := gpos (a := a) hb
  have hgz : (Int.gcd a b : Int).natAbs < 10 ^ 100 := by
   have h1 := Int.gcd_dvd_natAbs_right a b
   have := Nat.le_of_dvd (by omega) h1
   omega
  have e := norm_prog a b hb
  refine ⟨_, rfl, _, _, rfl, rfl, _, rfl, ?_⟩
  by_cases h0 : b < 0
  ·rw [decide_eq_true h0]
   refine iteT ?_
   rw [if_pos h0] at e
   refine ⟨_, rfl, _, rfl, ?_⟩
   refine ⟨_, rfl, _, rfl, _, _, rfl, rfl, ⟨by omega, w0 (by omega)⟩, _, rfl, _, rfl, _, _, rfl, rfl, ⟨by omega, w0 (by omega)⟩, (by show 2 ≤ sizeLine; decide), fun p hp => ?_⟩
   have := k p hp
   rw [e] at this
   exact this
  ·rw [decide_eq_false h0]
   refine iteF ?_
   rw [if_neg h0] at e
   refine ⟨_, rfl, _, rfl, _, _, rfl, rfl, ⟨by omega, w0 hgz⟩, _, rfl, _, rfl, _, _, rfl, rfl, ⟨by omega, w0 hgz⟩, (by show 2 ≤ sizeLine; decide), fun p hp => ?_⟩
   have := k p hp
   rw [e] at this
   exact this
end
section
variable {P : Program} {w : World} {K : PySem.W.Frag} {mg : Str → Option Value} {base : Heap}
theorem sgn2 {r : Int} (h0 : 0 ≤ r) (h1 : r < 2) : ∃ e : Int, (e = 1 ∨ e = -1) ∧ atI [V.int 1, V.int (-1)] r = some (V.int e) := by
 have : r = 0 ∨ r = 1 := by omega
 rcases this with rfl | rfl
 ·exact ⟨1, .inl rfl, rfl⟩
 ·exact ⟨-1, .inr rfl, rfl⟩
theorem mulS {x e : Int} {n : Nat} (he : e = 1 ∨ e = -1) (hx : x.natAbs < n) : (x * e).natAbs < n := by
 rcases he with rfl | rfl
 ·rw [Int.mul_one]; exact hx
 ·rw [Int.mul_neg, Int.mul_one, Int.natAbs_neg]; exact hx
theorem scNumber : FnScope ["deck", "top"] ["deck"] (defScope sNumber) := ⟨rfl, rfl, rfl, by decide +kernel, rfl, by decide +kernel, by decide +kernel⟩
theorem ok_number {f fT fW fL fC : Addr} {fd fdT fdW fdL fdC : FuncData} (F : Fun K "_law_number" "_law_number" sNumber f fd) (hlen : mg "len" = none) (hmax : mg "max" = none)
  (FT : Fun K "_law_take" "_law_take" sTake fT fdT) (bT : Binds K fdT ["deck", "many"] []) (mT : mg "_law_take" = some (.ref fT))
  (FC : Fun K "_law_common" "_law_common" sCommon fC fdC) (bC : Binds K fdC ["one", "other"] []) (mC : mg "_law_common" = some (.ref fC))
  (FL : Fun K "_law_least" "_law_least" sLeast fL fdL) (bL : Binds K fdL ["top", "below"] []) (mL : mg "_law_least" = some (.ref fL))
  (FW : Fun K "_law_whole_number" "_law_whole_number" sWhole fW fdW) (bW : Binds K fdW ["deck"] []) (mW : mg "_law_whole_number" = some (.ref fW)) : FnOk P w K mg base CX0 3 f fd ["deck"] spNumber := by
 have GT : FnOk P w K mg base CX0 2 fT fdT ["deck", "many"] spTake := (ok_take FT hlen).mono (by decide)
 have GL : FnOk P w K mg base CX0 2 fL fdL ["top", "below"] spLeast := ok_least FL hmax FC bC mC
 have GW : FnOk P w K mg base CX0 2 fW fdW ["deck"] spWhole := ok_whole FW FT bT mT hlen
 refine F.ok scNumber (fun vs H Q E h => ?_) (fun cdv A outer s H vs Q E hr h => ?_)
 ·obtain ⟨d, c, rfl, _⟩ := h
  rfl
 ·obtain ⟨d, c, rfl, D, k⟩ := h
  refine ⟨_, pss_cons (ps_set (i := 1) scNumber.nd rfl (Or.inl rfl) (pe_op op_mulW (pe_call GW hr (by rfl) mW FW.kp bW .nil pass0 (pa_cons (pv 0) pa_nil)) (pe_ix ix_list (pe_lst (pa_cons pe_int (pa_cons (pe_un un_neg pe_int) pa_nil))) (pe_call GT hr (by rfl) mT FT.kp bT .nil pass0 (pa_cons (pv 0) (pa_cons pe_int pa_nil))) (fun _ _ => rfl))))
   (pss_one (ps_ret (pe_call GL hr (by rfl) mL FL.kp bL .nil pass0 (pa_cons (pv 1) (pa_cons (pe_ix ix_list (pe_lst (pa_cons pe_int (pa_cons (pe_op op_add pe_int (pe_op op_mod (pe_call GW hr (by rfl) mW FW.kp bW .nil pass0 (pa_cons (pv 0) pa_nil)) (pe_op op_sub (pe_op op_pow pe_int pe_int) pe_int))) pa_nil))) (pe_call GT hr (by rfl) mT FT.kp bT .nil pass0 (pa_cons (pv 0) (pa_cons pe_int pa_nil))) (fun _ _ => rfl)) pa_nil))))), ?_⟩
  refine ⟨_, rfl, d, c, rfl, D, fun t H3 t0 t1 D3 K3 => ?_⟩
  refine ⟨_, rfl, (by show 2 ≤ sizeLine; decide), fun p hp => ?_⟩
  refine ⟨_, rfl, d, c, 2, rfl, D3.new hp, ⟨by decide, by decide⟩, fun r H4 r0 r1 D4 K4 => ?_⟩
  obtain ⟨e, he, hat⟩ := sgn2 r0 r1
  refine ⟨p, _, r, _, rfl, rfl, SqL.of (K4 p _ upd_same (D3.free hp).1 (D3.free hp).2), hat, _, _, rfl, rfl, mw (by omega) (by rcases he with rfl | rfl <;> decide), ?_⟩
  have K34 : KeptBut d c H H4 := K3.trans ((Same.but (same_new hp)).trans K4)
  have ht : (t * e).natAbs < 10 ^ 20 := mulS he (by omega)
  (try dsimp only)
  generalize t * e = a0 at ht
  have cp : CPow 10 20 := ⟨by decide, by decide, by decide⟩
  refine ⟨_, rfl, _, rfl, d, c, rfl, D4, fun u H5 u0 u1 D5 K5 => ?_⟩
  refine ⟨_, _, rfl, rfl, cp, _, _, rfl, rfl, _, _, rfl, rfl, (by show (0 : Int) < 10 ^ 20 - 1; decide), _, _, rfl, rfl, (by show 2 ≤ sizeLine; decide), fun q hq => ?_⟩
  have v0 := Int.emod_nonneg u (show (10 ^ (20 : Int).toNat - 1 : Int) ≠ 0 by decide)
  have v1 := Int.emod_lt_of_pos u (show (0 : Int) < 10 ^ (20 : Int).toNat - 1 by decide)
  have e20 : (10 ^ (20 : Int).toNat - 1 : Int) = 99999999999999999999 := by decide
  (try dsimp only)
  generalize u % (10 ^ (20 : Int).toNat - 1) = v at v0 v1
  rw [e20] at v1
  refine ⟨_, rfl, d, c, 2, rfl, D5.new hq, ⟨by decide, by decide⟩, fun r' H6 r0' r1' D6 K6 => ?_⟩
  have two : ∃ b : Int, (1 ≤ b ∧ b ≤ 99999999999999999999) ∧ atI [V.int 1, V.int (1 + v)] r' = some (V.int b) := by
   have : r' = 0 ∨ r' = 1 := by omega
   rcases this with rfl | rfl
   ·exact ⟨1, by decide, rfl⟩
   ·exact ⟨1 + v, by omega, rfl⟩
  obtain ⟨b0, hb, hat'⟩ := two
  refine ⟨q, _, r', _, rfl, rfl, SqL.of (K6 q _ upd_same (D5.free hq).1 (D5.free hq).2), hat', ?_⟩
  have K56 : KeptBut d c H H6 := K34.trans (K5.trans ((Same.but (same_new hq)).trans K6))
  refine ⟨_, _, rfl, by omega, ⟨by omega, by omega⟩, fun z hz => ?_⟩
  have sz := norm_size a0 b0 (by omega)
  have ok := norm_ok a0 b0 (by omega)
  refine k _ _ z _ ok.1 ok.2.2 (by omega) (by omega) ?_ upd_same (D6.new hz) (K56.trans (Same.but (same_new hz)))
  cases hh : H z with
  | none => rfl
  | some o =>
   exfalso
   obtain ⟨n1, n2⟩ := D6.free hz
   have := K56 z o hh n1 n2
   rw [hz] at this
   cases this
end
end K03
namespace K03
open PySem L2 Frac Lw Dig PySem.NumText
theorem bStr : bootBuiltins "str" = some (.type "str") := by decide +kernel
theorem sl47 : (Str.ofString "/" : Str) = ⟨#[47]⟩ := by decide +kernel
theorem mn45 : (Str.ofString "-" : Str) = ⟨#[45]⟩ := by decide +kernel
theorem z48 : (Str.ofString "0" : Str) = ⟨#[48]⟩ := by decide +kernel
theorem em : (Str.ofString "" : Str) = ⟨#[]⟩ := by decide +kernel
theorem lg {i : Int} (h : i.natAbs < 10 ^ 100) : i.natAbs.log2 < 1920 := by
 by_cases h0 : i.natAbs = 0
 ·rw [h0]; decide
 ·exact (Nat.log2_lt h0).mpr (Nat.lt_of_lt_of_le h (by decide +kernel))
theorem for_range3 {lo c : Int} {n : Nat} {g : TG} {tb : TS} {D : Ends} {σ : St} {H : Hp} (Pv : Nat → St → Hp → Prop) (h0 : Pv 0 σ H)
  (hs : ∀ i σ H, i < n → Pv i σ H → g (.int (lo + i * c)) σ H fun σ2 H2 => tb { D with nx := Pv (i + 1), ct := Pv (i + 1), bk := D.nx } σ2 H2) (hd : ∀ σ H, Pv n σ H → D.nx σ H) :
  ∃ W : Nat → Nat → St → Hp → Prop, (∃ m, W 0 m σ H) ∧ ∀ i m σ H, W i m σ H →
   ((Itr3 lo c n).stop i H ∧ D.nx σ H) ∨ ((Itr3 lo c n).go i H ∧ ∃ N : St → Hp → Prop, (∀ σ' H', N σ' H' → ∃ m', m' < m ∧ W (i + 1) m' σ' H') ∧ ∀ x H', (Itr3 lo c n).yld i H x H' → g x σ H' fun σ2 H2 => tb { D with nx := N, ct := N, bk := D.nx } σ2 H2) := by
 refine ⟨fun i m σ H => m = n - i ∧ i ≤ n ∧ Pv i σ H, ⟨n, by simp, Nat.zero_le _, h0⟩, ?_⟩
 rintro i m σ H ⟨rfl, hi, p⟩
 by_cases hlt : i < n
 ·refine .inr ⟨hlt, Pv (i + 1), fun σ' H' p' => ⟨n - (i + 1), by omega, rfl, hlt, p'⟩, fun x H' y => ?_⟩
  obtain ⟨e, y⟩ := y
  subst e y
  exact hs i σ _ hlt p
 ·have e : i = n := by omega
  subst e
  exact .inl ⟨Nat.le_refl _, hd σ H p⟩
def spRF : Sp := fun vs H Q _ => ∃ x : Str, vs = [.str x] ∧ Fig x.cps.toList ∧ x.cps.toList.length ≤ 200 ∧ ∀ H', Same H H' → Q (.int (digitsVal x.cps.toList : Nat)) H'
section
variable {P : Program} {w : World} {K : PySem.W.Frag} {mg : Str → Option Value} {base : Heap}
theorem ofFig {x : Str} (h : Fig x.cps.toList) (hl : x.cps.toList.length ≤ 200) {y : Str} {a b : Nat} (hab : a < b) (hb : b ≤ x.cps.toList.length) (e : y.cps.toList = (x.cps.toList.drop a).take (b - a)) : intText? y = some ((digitsVal ((x.cps.toList.drop a).take (b - a)) : Nat) : Int) ∧ y.length ≤ 640 := by
 have ly : y.cps.toList.length = b - a := by rw [e, List.length_take, List.length_drop]; omega
 have hy : y.length ≤ 640 := by rw [len_codes]; omega
 refine ⟨?_, hy⟩
 have hd : AllDigits y.cps.toList := fun c hc => h.dg c (by rw [e] at hc; exact List.mem_of_mem_drop (List.mem_of_mem_take hc))
 have := intText_digits hd (by intro z; rw [z] at ly; simp at ly; omega) (by omega)
 rw [e] at this
 exact this
theorem scRF : FnScope ["text", "number", "first", "start"] ["text"] (defScope sRF) := ⟨rfl, rfl, rfl, by decide +kernel, rfl, by decide +kernel, by decide +kernel⟩
theorem ok_rf {f : Addr} {fd : FuncData} (F : Fun K "read_figures" "read_figures" sRF f fd) (g : Glb mg) (hall : mg "all" = none) (hlen : mg "len" = none) (hint : mg "int" = none) (hrange : mg "range" = none) : FnOk P w K mg base CX0 1 f fd ["text"] spRF := by
 obtain ⟨tB, hB⟩ := g.blk
 obtain ⟨tW, hW⟩ := g.wor
 obtain ⟨tF, hF⟩ := g.fig
 refine F.ok scRF (fun vs H Q E h => ?_) (fun cdv A outer s H vs Q E hr h => ?_)
 ·obtain ⟨x, rfl, _⟩ := h
  rfl
 ·obtain ⟨x, rfl, fg, hl, k⟩ := h
  refine ⟨_, pss_cons (ps_if (pw_or (pt_cmpR op_eq (pv 0) pe_str (nomark _)) (pw_or1 (pt_not (pt_val (pe_callB (call_all rfl) (by rfl) hall bAll (pa_cons (pe_lc (x := "sign") (cap := []) (js := []) ⟨rfl, by decide +kernel, by decide +kernel, rfl, (by show ∀ p ∈ (_ : List (Str × NameKind)), p.2 = NameKind.free → List.lookup p.1 (defScope sRF).names = some NameKind.cell; decide +kernel), by decide, by decide, by decide⟩ rfl rfl (fun _ _ h => h) (pi_str (pv 0))
     (fun _ _ _ _ => ⟨pif_nil, pe_cmpR op_in_str (pv 0) (pe_glob (v := .str "0123456789") (by rfl) hF ⟨_, rfl⟩) (by rfl)⟩)) pa_nil)))))).pt pss_never pss_nil)
   (pss_cons (ps_if (pw_and (pt_val (pe_bm PySem.F.plainAttrs_str PySem.F.slot_str_startswith PySem.F.type_str_startswith mt_startswith (pv 0) (pa_cons pe_str pa_nil))) (pw_and1 (pt_cmpR op_ne (pv 0) pe_str (nomark _)))).pt pss_never pss_nil)
   (pss_cons (ps_set (i := 1) scRF.nd rfl (Or.inl rfl) pe_int)
   (pss_cons (ps_set (i := 2) scRF.nd rfl (Or.inl rfl) (pe_op op_mod (pe_callB call_len_str (by rfl) hlen PySem.boot_len (pa_cons (pv 0) pa_nil)) (pe_glob (v := .int 18) (by rfl) hB ⟨_, rfl⟩)))
   (pss_cons (ps_if (pt_cmpR op_gt (pv 2) pe_int (nomark _)) (pss_one (ps_set (i := 1) scRF.nd rfl (Or.inl rfl) (pe_callTy call_int_text (by rfl) hint bInt (pa_cons (pe_slice sl_str (pv 0) po_none (po_some (pv 2))) pa_nil)))) pss_nil)
   (pss_cons (ps_for PassesOwn.never rfl (pi_range3 (by rfl) hrange (pa_cons (pv 2) (pa_cons (pe_callB call_len_str (by rfl) hlen PySem.boot_len (pa_cons (pv 0) pa_nil)) (pa_cons (pe_glob (v := .int 18) (by rfl) hB ⟨_, rfl⟩) pa_nil)))) (pg_name (i := 3) scRF.nd rfl (Or.inl rfl))
    (pss_one (ps_set (i := 1) scRF.nd rfl (Or.inl rfl) (pe_op op_add (pe_op op_mulW (pv 1) (pe_glob (v := .int 1000000000000000000) (by rfl) hW ⟨_, rfl⟩)) (pe_callTy call_int_text (by rfl) hint bInt (pa_cons (pe_slice sl_str (pv 0) (po_some (pv 3)) (po_some (pe_op op_add (pv 3) (pe_glob (v := .int 18) (by rfl) hB ⟨_, rfl⟩)))) pa_nil))))))
   (pss_one (ps_ret (pv 1)))))))), ?_⟩
  have hx0 : x ≠ Str.ofString "" := fun e => fg.ne (by rw [e, em])
  have hxl : x.length = x.cps.toList.length := len_codes x
  have hzl : x.length ≤ sizeLine := by rw [sizeLine_eq]; omega
  refine ⟨_, rfl, rfl, _, rfl, ?_⟩
  rw [decide_eq_false (fun z => hx0 (by injection z))]
  refine iteF ?_
  refine ⟨_, rfl, x, rfl, fun i m ys H1 => m = x.cps.size - i ∧ i ≤ x.cps.size ∧ ys = (List.replicate i true).map V.bl ∧ Same H H1, ⟨_, rfl, Nat.zero_le _, rfl, Same.refl _⟩, ?_⟩
  rintro i m ys H1 ⟨rfl, hi, rfl, s1⟩
  have hsz : x.cps.size = x.cps.toList.length := by simp
  refine ⟨by rw [List.length_map, List.length_replicate, sizeLine_eq]; omega, ?_⟩
  by_cases hlt : i < x.cps.size
  ·refine .inr ⟨hlt, fun v H' yl => ?_⟩
   obtain ⟨rfl, c, hc, rfl⟩ := yl
   refine tNoIf_of ?_
   refine ⟨_, rfl, _, _, rfl, rfl, x.cps.size - (i + 1), by omega, rfl, hlt, ?_, s1⟩
   have hcd := fg.dg c (List.mem_of_getElem? hc)
   have hin : c ∈ (Str.ofString "0123456789" : Str).cps.toList := by
    have e : (Str.ofString "0123456789" : Str).cps.toList = [48, 49, 50, 51, 52, 53, 54, 55, 56, 57] := by decide +kernel
    rw [e]
    simp only [List.mem_cons, List.not_mem_nil, or_false]
    omega
   rw [PySem.StrLaws.found_one, decide_eq_true hin, List.replicate_succ', List.map_append]
   rfl
  ·refine .inl ⟨show x.cps.size ≤ i by omega, fun q hq => ?_⟩
   refine ⟨q, List.replicate i true, rfl, SqL.of upd_same, true, by simp, iteF ?_⟩
   have s2 := s1.trans (same_new (o := .lst ((List.replicate i true).map V.bl)) hq)
   (try dsimp only)
   generalize upd H1 q (.lst ((List.replicate i true).map V.bl)) = H2 at s2
   refine ⟨_, rfl, rfl, _, _, rfl, rfl, _, rfl, ?_⟩
   have fin : tSeq (tAsg (tC (.int 0)) (gName 1)) (tSeq (tAsg (tOp (rI (fun _ j => 0 < j) fun i j => .int (i % j)) (tCB (fun xs H Q => ∃ z, xs = [.str z] ∧ z.length ≤ sizeLine ∧ Q (.int z.length) H) (tCons (tVar 0) tNil)) (tC (.int 18))) (gName 2))
     (tSeq (tIfS (tTest (tOp (rI0 fun i j => .bl (decide (j < i))) (tVar 2) (tC (.int 0)))) (tAsg (tCB (fun xs H Q => ∃ x n, xs = [.str x] ∧ intText? x = some n ∧ x.length ≤ 640 ∧ Q (.int n) H) (tCons (tSl rSlS (tVar 0) tNoPart (tPart (tVar 2))) tNil)) (gName 1)) tNext)
     (tSeq (tFor (iRng3 (tCons (tVar 2) (tCons (tCB (fun xs H Q => ∃ z, xs = [.str z] ∧ z.length ≤ sizeLine ∧ Q (.int z.length) H) (tCons (tVar 0) tNil)) (tCons (tC (.int 18)) tNil)))) (gName 3) (tAsg (tOp (rI0 fun i j => .int (i + j)) (tOp (rI CMulW fun i j => .int (i * j)) (tVar 1) (tC (.int 1000000000000000000))) (tCB (fun xs H Q => ∃ x n, xs = [.str x] ∧ intText? x = some n ∧ x.length ≤ 640 ∧ Q (.int n) H) (tCons (tSl rSlS (tVar 0) (tPart (tVar 3)) (tPart (tOp (rI0 fun i j => .int (i + j)) (tVar 3) (tC (.int 18))))) tNil))) (gName 1)))
     (tRet (tVar 1))))) { nx := fun _ H' => Q .non H', rt := Q } [some (.str x), none, none, none] H2 := by
    refine ⟨_, rfl, _, rfl, hzl, _, _, rfl, rfl, (by show (0 : Int) < 18; decide), ?_⟩
    generalize hLn : x.cps.toList.length = L at hl hxl hsz
    have hL0 : 0 < L := by
     rw [← hLn]
     cases hcs : x.cps.toList with
     | nil => exact absurd hcs fg.ne
     | cons c r => simp
    have hfm : ((x.length : Int) % 18) = ((L % 18 : Nat) : Int) := by rw [hxl]; omega
    have hq : L = L % 18 + 18 * (L / 18) := by omega
    have loop : ∀ z : Int, z = ((digitsVal (x.cps.toList.take (L % 18)) : Nat) : Int) → (tSeq (tFor (iRng3 (tCons (tVar 2) (tCons (tCB (fun xs H Q => ∃ z, xs = [.str z] ∧ z.length ≤ sizeLine ∧ Q (.int z.length) H) (tCons (tVar 0) tNil)) (tCons (tC (.int 18)) tNil)))) (gName 3) (tAsg (tOp (rI0 fun i j => .int (i + j)) (tOp (rI CMulW fun i j => .int (i * j)) (tVar 1) (tC (.int 1000000000000000000))) (tCB (fun xs H Q => ∃ x n, xs = [.str x] ∧ intText? x = some n ∧ x.length ≤ 640 ∧ Q (.int n) H) (tCons (tSl rSlS (tVar 0) (tPart (tVar 3)) (tPart (tOp (rI0 fun i j => .int (i + j)) (tVar 3) (tC (.int 18))))) tNil))) (gName 1)))
      (tRet (tVar 1))) { nx := fun _ H' => Q .non H', rt := Q } [some (.str x), some (.int z), some (.int ((x.length : Int) % 18)), none] H2 := fun z hz => by
     have hsize : (Builtin.Range.rangeSize ((x.length : Int) % 18) (x.length : Int) 18).toNat = L / 18 := by
      unfold Builtin.Range.rangeSize
      rw [if_pos (by decide), hxl]
      split <;> omega
     refine ⟨_, rfl, _, rfl, _, rfl, hzl, _, _, 18, rfl, ⟨by decide, by decide⟩, ⟨by rw [hfm]; omega, by rw [hfm]; omega, by omega, by rw [hxl]; omega⟩, ?_⟩
     rw [hsize]
     refine for_range3 (Pv := fun i σ H3 => ∃ v3 : Option V, σ = [some (.str x), some (.int ((digitsVal (x.cps.toList.take (L % 18 + 18 * i)) : Nat) : Int)), some (.int ((x.length : Int) % 18)), v3] ∧ H3 = H2) ⟨_, by rw [hz]; rfl, rfl⟩ ?_ ?_
     ·rintro i σ H3 hi ⟨v3, rfl, rfl⟩
      have hs : ((x.length : Int) % 18 + (i : Int) * 18) = ((L % 18 + 18 * i : Nat) : Int) := by rw [hfm]; omega
      have he : (((L % 18 + 18 * i : Nat) : Int) + 18) = ((L % 18 + 18 * (i + 1) : Nat) : Int) := by omega
      have hle : L % 18 + 18 * (i + 1) ≤ L := by omega
      have hsl := slice_codes x (a := L % 18 + 18 * i) (b := L % 18 + 18 * (i + 1)) (by omega) (by rw [hxl]; exact hle)
      obtain ⟨it, il⟩ := ofFig fg (by rw [hLn]; exact hl) (y := Txt.slice x (some ((L % 18 + 18 * i : Nat) : Int)) (some ((L % 18 + 18 * (i + 1) : Nat) : Int))) (by omega) (by rw [hLn]; exact hle) hsl
      have hbig : (digitsVal (x.cps.toList.take (L % 18 + 18 * i)) : Int).natAbs < 2 ^ 4000 := by
       have := valBound (x.cps.toList.take (L % 18 + 18 * i)) (fun c hc => fg.dg c (List.mem_of_mem_take hc))
       have hl2 : (x.cps.toList.take (L % 18 + 18 * i)).length ≤ 200 := by rw [List.length_take]; omega
       refine Nat.lt_of_lt_of_le (show _ < 10 ^ 200 from Nat.lt_of_lt_of_le (by omega) (Nat.pow_le_pow_right (by decide) hl2)) (by decide +kernel)
      refine ⟨_, rfl, _, _, rfl, rfl, ⟨hbig, by decide +kernel⟩, _, rfl, _, rfl, _, rfl, _, rfl, _, _, rfl, rfl, _, rfl, x, rfl, hzl, _, _, rfl, (by rw [hs, he]; exact it), (by rw [hs, he]; exact il), _, _, rfl, rfl, ?_⟩
      refine ⟨some (.int ((x.length : Int) % 18 + (i : Int) * 18)), ?_, rfl⟩
      have hap : x.cps.toList.take (L % 18 + 18 * (i + 1)) = x.cps.toList.take (L % 18 + 18 * i) ++ (x.cps.toList.drop (L % 18 + 18 * i)).take 18 := by
       rw [show L % 18 + 18 * (i + 1) = (L % 18 + 18 * i) + 18 by omega, List.take_add]
      have h18 : ((x.cps.toList.drop (L % 18 + 18 * i)).take 18).length = 18 := by rw [List.length_take, List.length_drop, hLn]; omega
      have e18 : (L % 18 + 18 * (i + 1)) - (L % 18 + 18 * i) = 18 := by omega
      have ez : ((digitsVal (x.cps.toList.take (L % 18 + 18 * (i + 1))) : Nat) : Int) = ((digitsVal (x.cps.toList.take (L % 18 + 18 * i)) : Nat) : Int) * 1000000000000000000 + ((digitsVal ((x.cps.toList.drop (L % 18 + 18 * i)).take ((L % 18 + 18 * (i + 1)) - (L % 18 + 18 * i))) : Nat) : Int) := by
       rw [e18, hap, val_append, h18]
       omega
      rw [ez]
      rfl
     ·rintro σ H3 ⟨v3, rfl, rfl⟩
      refine ⟨_, rfl, ?_⟩
      rw [← hq, List.take_of_length_le (by omega)]
      exact k _ s2
    refine ⟨_, rfl, _, _, rfl, rfl, _, rfl, ?_⟩
    by_cases hf : 0 < (x.length : Int) % 18
    ·rw [decide_eq_true hf]
     refine iteT ?_
     have hsl := slice_codes x (a := 0) (b := L % 18) (by omega) (by rw [hxl]; omega)
     have hlo := slice_lo x ((L % 18 : Nat) : Int)
     rw [← hlo] at hsl
     obtain ⟨it, il⟩ := ofFig fg (by rw [hLn]; exact hl) (y := Txt.slice x none (some ((L % 18 : Nat) : Int))) (a := 0) (b := L % 18) (by omega) (by rw [hLn]; omega) hsl
     refine ⟨_, rfl, _, rfl, _, rfl, x, rfl, hzl, _, _, rfl, (by rw [hfm]; exact it), (by rw [hfm]; exact il), ?_⟩
     refine loop _ ?_
     rw [List.drop_zero, Nat.sub_zero]
    ·rw [decide_eq_false hf]
     refine iteF ?_
     refine loop 0 ?_
     rw [show L % 18 = 0 by omega]
     rfl
   cases hst : Txt.startswith x (Str.ofString "0") with
   | false => exact iteF fin
   | true =>
    refine iteT ?_
    rw [z48] at hst
    obtain ⟨r, hr'⟩ := (startswith_code x 48).mp hst
    have := fg.hd r hr'
    subst this
    have hx : x = Str.ofString "0" := by rw [z48]; exact str_ext hr'
    refine ⟨_, rfl, rfl, _, rfl, ?_⟩
    rw [hx]
    rw [hx] at fin
    exact iteNS rfl fin
end
end K03
namespace K03
open PySem L2 Frac Lw Dig PySem.NumText
open Rd3
theorem pass10 {X : Cx} {P : Program} {w : World} : Passes (CX1 P w) X E0 := fun _ _ _ _ _ _ _ h => by
 obtain ⟨_, _, _, _, _, z⟩ := h
 exact z.elim
theorem bValueError : bootBuiltins "ValueError" = some (.type "ValueError") := by decide +kernel
def DkOk (p : Addr) (fp : List Addr) (H : Hp) : Prop := ∃ c, fp = [c] ∧ DeckAt H p c
theorem DkOk.st {p : Addr} {fp : List Addr} {H H' : Hp} (h : DkOk p fp H) (k : ∀ a ∈ p :: fp, H' a = H a) : DkOk p fp H' := by
 obtain ⟨c, rfl, n, ns, h1, h2, r⟩ := h
 exact ⟨c, rfl, n, ns, by rw [k p (by simp)]; exact h1, by rw [k c (by simp)]; exact h2, r⟩
theorem DkOk.lv {p : Addr} {fp : List Addr} {H : Hp} (h : DkOk p fp H) : ∀ a ∈ p :: fp, ∃ o, H a = some o := fun a ha => by
 obtain ⟨c, rfl, n, ns, h1, h2, r⟩ := h
 rcases List.mem_cons.mp ha with rfl | ha
 ·exact ⟨_, h1⟩
 ·rw [List.mem_singleton.mp ha]; exact ⟨_, h2⟩
def dk1 (K : PySem.W.Frag) : TF K Unit := thgT (fun _ p fp _ H => DkOk p fp H) (fun h _ k => h.st k) (fun h => h.lv)
abbrev dF (a : Int × Int) : PyData := .tuple [.int a.1, .int a.2]
def PreTk (_ : Unit) (ds : List PyData) : Prop := ∃ m : Int, ds = [.int m] ∧ 1 ≤ m ∧ m.natAbs < 10 ^ 100
def RTk (_ : Unit) (ds : List PyData) (x : PyData) (_ : Unit) : Prop := ∃ m r : Int, ds = [.int m] ∧ x = .int r ∧ 0 ≤ r ∧ r < m
def NumOk (a : Int × Int) : Prop := Lst a ∧ a.1.natAbs < 10 ^ 20 ∧ a.2.natAbs ≤ 10 ^ 20
def PreNm (_ : Unit) (ds : List PyData) : Prop := ds = []
def RNm (_ : Unit) (ds : List PyData) (x : PyData) (_ : Unit) : Prop := ∃ a : Int × Int, x = dF a ∧ NumOk a
def RLe (ds : List PyData) (x : PyData) : Prop := ∃ a b : Int, ds = [.int a, .int b] ∧ b ≠ 0 ∧ (a.natAbs < 10 ^ 100 ∧ b.natAbs < 10 ^ 100) ∧ x = dF (norm a b)
section
variable {P : Program} {w : World} {K : PySem.W.Frag} {mg : Str → Option Value} {base : Heap}
theorem gw_kept {G H H' : Hp} {d c : Addr} (sg : Same G H) (gn : ∀ a ∈ [d, c], G a = none) (k : KeptBut d c H H') (D : DeckAt H' d c) : Gw (· ∈ [d, c]) G H G H' := by
 refine gw_set sg gn (fun b o e n => k b o e (fun z => n (by simp [z])) fun z => n (by simp [z])) fun a ha => ?_
 obtain ⟨n, ns, h1, h2, _⟩ := D.ex
 rcases List.mem_cons.mp ha with rfl | ha
 ·exact ⟨_, h1⟩
 ·rw [List.mem_singleton.mp ha]; exact ⟨_, h2⟩
theorem ok_takeT (T : Top K mg) : FnOk P w K mg base CX0 1 T.f__law_take T.fd__law_take ["deck", "many"] (spT (dk1 K) PreTk RTk) := (ok_take T.F__law_take T.len_).imp fun vs H Q E h => by
 obtain ⟨p, fp, us, G, _, ds, rfl, sg, gn, lv, ⟨c, rfl, hD⟩, hv, ⟨m, rfl, hm⟩, k⟩ := h
 obtain ⟨y, r, rfl, hy, hr⟩ := hv.cons
 cases hr.nil
 refine ⟨p, c, m, by rw [hy.int], hD, hm, fun r H' h0 h1 hD' hk => k _ _ () G H' ⟨m, r, rfl, rfl, h0, h1⟩ (gw_kept sg gn hk hD') gn (DkOk.lv ⟨c, rfl, hD'⟩) ⟨c, rfl, hD'⟩ (dat_int _)⟩
theorem ok_numberT (T : Top K mg) : FnOk P w K mg base CX0 4 T.f__law_number T.fd__law_number ["deck"] (spT (dk1 K) PreNm RNm) := ((ok_number T.F__law_number T.len_ T.max_ T.F__law_take T.b__law_take T.m__law_take T.F__law_common T.b__law_common T.m__law_common T.F__law_least T.b__law_least T.m__law_least T.F__law_whole_number T.b__law_whole_number T.m__law_whole_number).mono (by decide)).imp fun vs H Q E h => by
 obtain ⟨p, fp, us, G, _, ds, rfl, sg, gn, lv, ⟨c, rfl, hD⟩, hv, hP, k⟩ := h
 cases (show ds = [] from hP)
 cases hv.nil
 refine ⟨p, c, rfl, hD, fun x y q H' h1 h2 h3 h4 hq hq' hD' hk => ?_⟩
 have gq : G q = none := sg.free hq
 have nq : ∀ a ∈ [p, c], a ≠ q := fun a ha z => by
  obtain ⟨o, e⟩ := lv a ha
  rw [z, hq] at e; cases e
 have g0 := gw_kept sg gn hk hD'
 refine k _ (dF (x, y)) () (upd G q (.tup [.int x, .int y])) H' ⟨(x, y), rfl, ⟨h1, h2⟩, h3, h4⟩ ⟨same_new gq, fun b o e => ?_, g0.kp, g0.al, fun b o e => ?_⟩ (fun a ha => by rw [upd_ne (nq a ha)]; exact gn a ha) (DkOk.lv ⟨c, rfl, hD'⟩) ⟨c, rfl, hD'⟩ (dat_tup (SqT.of upd_same) (dats_cons (dat_int _) (dats_cons (dat_int _) dats_nil)))
 ·by_cases z : b = q
  ·subst z; rw [upd_same] at e; rw [hq', e]
  ·rw [upd_ne z] at e; exact g0.gh b o e
 ·by_cases z : b = q
  ·subst z; exact .inr hq
  ·rw [upd_ne z] at e; exact .inl e
theorem least_P {f : Addr} {fd : FuncData} {ps : List Str} {k : Nat} (F : FnOk P w K mg base CX0 k f fd ps spLeast) : FnOk P w K mg base CX0 k f fd ps (spP K RLe) := F.imp fun vs H Q E h => by
 obtain ⟨G, ds, d, sg, hv, ⟨a, b, rfl, hb, hz, rfl⟩, kk⟩ := h
 obtain ⟨y, r, rfl, hy, hr⟩ := hv.cons
 obtain ⟨y2, r, rfl, hy2, hr⟩ := hr.cons
 cases hr.nil
 refine ⟨a, b, by rw [hy.int, hy2.int], hb, hz, fun p hp => ?_⟩
 exact kk _ _ _ (grow_new sg hp) (dat_tup (SqT.of upd_same) (dats_cons (dat_int _) (dats_cons (dat_int _) dats_nil)))
theorem ok_leastP (T : Top K mg) : FnOk P w K mg base CX0 2 T.f__law_least T.fd__law_least ["top", "below"] (spP K RLe) := least_P (ok_least T.F__law_least T.max_ T.F__law_common T.b__law_common T.m__law_common)
theorem ok_fracP (T : Top K mg) : FnOk P w K mg base CX0 2 T.f_fraction T.fd_fraction ["above", "below"] (spP K RLe) := least_P (ok_frac T.F_fraction T.abs_ T.F_common_divisor T.b_common_divisor T.m_common_divisor)
theorem eg_deck {B : Hp} {ρ : List PV} {X : XK} {i : Nat} {ns : List Int} {R : PV → List PV → Prop} (hi : ρ[i]? = some (.scr ns)) (hl : ns.length ≤ 63) (k : ∀ p fp, R ((dk1 K).pv () p fp) ρ) : Eg K B (tCall (spDeck K) [] X (tCons (tVar i) tNil)) ρ R := fun E G0 H0 G H σ F r Q q => by
 obtain ⟨_, a, hx, hq⟩ := r.sl i _ hi
 refine ⟨_, hx, a, ns, rfl, r.g.gh.seq hq, hl, fun d c H' hD hd hc s => ?_⟩
 have r2 := r.grow (grow_h r.g.gh s)
 have hn : ∀ b ∈ [d, c], H b = none := fun b hb => by
  rcases List.mem_cons.mp hb with rfl | hb
  ·exact hd
  ·rw [List.mem_singleton.mp hb]; exact hc
 refine q _ _ ρ G H' F [d, c] (k d [c]) (Same.refl _) r2 ((dk1 K).sl.mpr ⟨rfl, rfl, c, rfl, hD⟩) ⟨fun b hb => ⟨r.g.gh.free (hn b hb), DkOk.lv ⟨c, rfl, hD⟩ b hb, r.g.al b (hn b hb)⟩, fun b hb j hj => ?_⟩
 obtain ⟨_, ⟨o, h⟩, _⟩ := r.fr j b hj
 rw [hn b hb] at h; cases h
theorem eg_take {B : Hp} {ρ : List PV} {X : XK} {i : Nat} {p : Addr} {fp : List Addr} {te : TE} {m : Int} {R : PV → List PV → Prop} (hi : ρ[i]? = some ((dk1 K).pv () p fp)) (hm : Er K B te (msk ρ) (.int m)) (h1 : 1 ≤ m) (h2 : m ≤ 10 ^ 18) (k : ∀ r : Nat, (r : Int) < m → R (.dat (.int (r : Nat))) (ρ.set i ((dk1 K).pv () p fp))) : Eg K B (tCall (spT (dk1 K) PreTk RTk) [] X (tCons (tVar i) (tCons te tNil))) ρ R :=
 eg_lendT hi (ega_ea (ea_cons hm ea_nil) ⟨(), hi, ⟨m, rfl, h1, Nat.lt_of_le_of_lt (show m.natAbs ≤ 10 ^ 18 by omega) (by decide +kernel)⟩, fun x s2 hx => by
  obtain ⟨m', r, e, rfl, r0, r1⟩ := hx
  injection e with e _
  injection e with e
  obtain ⟨n, rfl⟩ := Int.eq_ofNat_of_zero_le r0
  exact k n (by rw [e]; exact r1)⟩)
end
end K03
namespace K03
open PySem L2 Frac Lw Dig PySem.NumText
open Rd3
def tX (C : Addr) : Option PyData → Except Addr PyData
 | some d => .ok d
 | none => .error C
def RFr (C : Addr) (ds : List PyData) (r : Except Addr PyData) : Prop := ∃ a b : Int, ds = [.int a, .int b] ∧ (a.natAbs < 10 ^ 100 ∧ b.natAbs < 10 ^ 100) ∧ r = tX C (if b = 0 then none else some (dF (norm a b)))
def TxOk (x : Str) : Prop := x.length ≤ 200 ∧ ∀ c ∈ x.cps.toList, c < 128
def RFg (C : Addr) (ds : List PyData) (r : Except Addr PyData) : Prop := ∃ x : Str, ds = [.str x] ∧ TxOk x ∧ r = tX C ((fg x.cps.toList).map fun n => .int (n : Nat))
def RSg (C : Addr) (ds : List PyData) (r : Except Addr PyData) : Prop := ∃ x : Str, ds = [.str x] ∧ TxOk x ∧ r = tX C ((rS x.cps.toList).map fun z => .int z)
def RNu (C : Addr) (ds : List PyData) (r : Except Addr PyData) : Prop := ∃ x : Str, ds = [.str x] ∧ TxOk x ∧ x.length < 90 ∧ r = tX C ((rN x.cps.toList).map fun a => dF a)
theorem TxOk.r {x : Str} (h : TxOk x) : rTxt x := ⟨Nat.le_trans h.1 (by decide), fun c hc => Nat.lt_of_lt_of_le (h.2 c hc) (by decide)⟩
theorem TxOk.z {x : Str} (h : TxOk x) : x.length + 2 ≤ sizeLine := by
 have h3 : (20000 : Nat) < sizeLine := by decide
 have := h.1
 omega
theorem TxOk.of {x y : Str} (h : TxOk x) (hs : ∀ c ∈ y.cps.toList, c ∈ x.cps.toList) (hl : y.length ≤ x.length) : TxOk y := ⟨Nat.le_trans hl h.1, fun c hc => h.2 c (hs c hc)⟩
section
variable {P : Program} {w : World} {K : PySem.W.Frag} {mg : Str → Option Value} {base : Heap}
theorem okX_of {f : Addr} {fd : FuncData} {ps : List Str} {k : Nat} {R : List PyData → Except Addr PyData → Prop} {sp : Sp} (F1 : FnOk P w K mg base CX0 k f fd ps sp) (F2 : FnOk P w K mg base (CX1 P w) k f fd ps (spX K fun ds r => R ds r ∧ ∃ C, r = .error C))
  (h : ∀ vs H Q E G ds d, Same G H → Dats K G vs ds → R ds (.ok d) → (∀ v G' H', Grow G H G' H' → Dat K G' v d → Q v H') → sp vs H Q E) : FnOk P w K mg base (CX1 P w) k f fd ps (spX K R) := (F1.x1.or F2).imp fun vs H Q E ⟨G, ds, r, sg, hv, hR, kk⟩ => by
 cases r with
 | ok d => exact .inl (h vs H Q E G ds d sg hv hR kk)
 | error C => exact .inr ⟨G, ds, .error C, sg, hv, ⟨hR, C, rfl⟩, kk⟩
theorem ok_fracX (T : Top K mg) : FnOk P w K mg base (CX1 P w) 2 T.f_fraction T.fd_fraction ["above", "below"] (spX K (RFr T.c_NoNumber)) := by
 refine okX_of (ok_fracP T) ((Fun.okX (k := 0) T.F_fraction sc_fraction (by rintro _ _ ⟨⟨a, b, rfl, _⟩, _⟩; rfl) fun cdv A outer s H E hr ds r hR => ?_).mono (by decide)) fun vs H Q E G ds d sg hv hR kk => ?_
 ·obtain ⟨⟨a, b, rfl, hz, hr'⟩, C, rfl⟩ := hR
  have hb : b = 0 := by
   by_cases hb : b = 0
   ·exact hb
   ·rw [if_neg hb] at hr'; cases hr'
  rw [if_pos hb] at hr'
  cases hr'
  refine ⟨_, pss_cons (ps_if (pt_cmpR op_eq (pv 1) pe_int (nomark _)) (pss_one (ps_raise raises1 hr.hd T.x_NoNumber (by rfl) (pa_cons pe_str pa_nil st_Constant))) pss_nil) pss_never, fun d e => (by cases e), fun C e => ?_⟩
  cases e
  refine svX_seqX (svX_ifT (et_c (et_test (er_eqI (er_var rfl) er_int)) (decide_eq_true hb)) (svX_raise (ea_cons er_str ea_nil) (by show 1 ≤ sizeLine; decide)))
 ·obtain ⟨a, b, rfl, hz, hr'⟩ := hR
  have hb : b ≠ 0 := fun hb => by rw [if_pos hb] at hr'; cases hr'
  rw [if_neg hb] at hr'
  cases hr'
  exact ⟨G, _, _, sg, hv, ⟨a, b, rfl, hb, hz, rfl⟩, kk⟩
theorem not_fig {x : Str} (h : fg x.cps.toList = none) : x.cps.toList = [] ∨ (x.cps.toList.all fun c => decide (48 ≤ c) && decide (c ≤ 57)) = false ∨ ∃ c r, x.cps.toList = 48 :: c :: r := by
 unfold fg at h
 split at h
 ·cases h
 ·rename_i hb
  unfold fgB at hb
  by_cases h1 : x.cps.toList = []
  ·exact .inl h1
  cases h2 : (x.cps.toList.all fun c => decide (48 ≤ c) && decide (c ≤ 57)) with
  | false => exact .inr (.inl rfl)
  | true =>
   refine .inr (.inr ?_)
   rw [decide_eq_false h1, h2] at hb
   cases hx : x.cps.toList with
   | nil => exact absurd hx h1
   | cons c r =>
    rw [hx] at hb
    by_cases hc : c = 48
    ·subst hc
     cases r with
     | nil => exact absurd rfl hb
     | cons c r => exact ⟨c, r, rfl⟩
    ·rw [decide_eq_false (show ¬ (c :: r).head? = some 48 from fun z => hc (Option.some.inj z))] at hb
     exact absurd rfl hb
theorem figs : (Str.ofString "0123456789" : Str).cps.toList = [48, 49, 50, 51, 52, 53, 54, 55, 56, 57] := by decide +kernel
theorem in_fig {c : Nat} : decide (c ∈ (Str.ofString "0123456789" : Str).cps.toList) = (decide (48 ≤ c) && decide (c ≤ 57)) := by
 rw [figs, Bool.eq_iff_iff, decide_eq_true_eq, Bool.and_eq_true, decide_eq_true_eq, decide_eq_true_eq]
 simp only [List.mem_cons, List.not_mem_nil, or_false]
 omega
theorem occ_fig {c : Nat} : (!(Builtin.Str.occurrences (Str.ofString "0123456789") ⟨#[c]⟩ 0 (Str.ofString "0123456789").length 1).isEmpty) = (decide (48 ≤ c) && decide (c ≤ 57)) := by
 rw [PySem.StrLaws.found_one, in_fig]
theorem er_figs {B : Hp} {ρ : List PV} {i : Nat} {x : Str} (hi : ρ[i]? = some (.dat (.str x))) (hx : TxOk x) : Er K B (tCB (fun xs H Q => ∃ (p : Addr) (bs : List Bool), xs = [.ref p] ∧ SqL K H p (bs.map V.bl) ∧ Q (.bl (bs.all id)) H) (tCons (tLC (iStr (tVar i)) [] tNoIf (tOp (fun x y H Q => ∃ i j, x = .str i ∧ y = .str j ∧ Q (.bl (!(Builtin.Str.occurrences j i 0 j.length 1).isEmpty)) H) (tVar 0) (tC (.str "0123456789")))) tNil)) ρ (.bool (x.cps.toList.all fun c => decide (48 ≤ c) && decide (c ≤ 57))) := by
 have h3 : (20000 : Nat) < sizeLine := by decide
 have hl := hx.1
 rw [len_codes] at hl
 refine er_d (er_all (bs := x.cps.toList.map fun c => decide (48 ≤ c) && decide (c ≤ 57)) (ea_cons (er_d (er_lc (js := []) x.cps.toList (fun c => PyData.str ⟨#[c]⟩) (fun c => some (.bool (decide (48 ≤ c) && decide (c ≤ 57)))) (ei_str (er_var hi)) (by omega) fun c hc => lx1 et_noif (er_d (er_inStr (g := fun b => !b) (er_var rfl) er_str) (by rw [occ_fig]))) ?_) ea_nil)) (by rw [List.all_map]; rfl)
 rw [List.map_map]
 congr 1
 exact List.filterMap_eq_map ▸ rfl
theorem ok_figX (T : Top K mg) : FnOk P w K mg base (CX1 P w) 1 T.f_read_figures T.fd_read_figures ["text"] (spX K (RFg T.c_NoNumber)) := by
 obtain ⟨tF, hF⟩ := T.glb.fig
 refine okX_of (ok_rf T.F_read_figures T.glb T.all_ T.len_ T.int_ T.range_) (Fun.okX (k := 0) T.F_read_figures sc_read_figures (by rintro _ _ ⟨⟨x, rfl, _⟩, _⟩; rfl) fun cdv A outer s H E hr ds r hR => ?_) fun vs H Q E G ds d sg hv hR kk => ?_
 ·obtain ⟨⟨x, rfl, hx, hr'⟩, C, rfl⟩ := hR
  have hn : fg x.cps.toList = none := by
   cases e : fg x.cps.toList with
   | none => rfl
   | some n => rw [e] at hr'; cases hr'
  rw [hn] at hr'
  cases hr'
  refine ⟨_, (pss_cons (ps_if (PT.nox ((pw_or (pt_cmpR op_eq (pv 0) pe_str (nomark _)) (pw_or1 (pt_not (pt_val (pe_callB (call_all rfl) (by rfl) T.all_ bAll (pa_cons (pe_lc (x := "sign") (cap := []) (js := []) ⟨rfl, by decide +kernel, by decide +kernel, rfl, (by show ∀ p ∈ (_ : List (Str × NameKind)), p.2 = NameKind.free → List.lookup p.1 (defScope s_read_figures).names = some NameKind.cell; decide +kernel), by decide +kernel, by decide +kernel, by decide +kernel⟩ rfl rfl (fun _ _ h => h) (pi_str (pv 0)) (fun _ _ _ _ => ⟨pif_nil, (pe_cmpR op_in_str (pv 0) (pe_glob (v := .str "0123456789") (by rfl) hF ⟨_, rfl⟩) (by rfl))⟩)) pa_nil st_ListComp))))))).pt) (pss_one (ps_raise raises1 hr.hd T.x_NoNumber (by rfl) (pa_cons (pe_fR (pv 0)) pa_nil st_JoinedStr))) pss_nil)
   (pss_cons (ps_if ((pw_and (pt_val (pe_bm PySem.F.plainAttrs_str PySem.F.slot_str_startswith PySem.F.type_str_startswith mt_startswith (pv 0) (pa_cons pe_str pa_nil st_Constant))) (pw_and1 (pt_cmpR op_ne (pv 0) pe_str (nomark _))))).pt (pss_one (ps_raise raises1 hr.hd T.x_NoNumber (by rfl) (pa_cons (pe_fR (pv 0)) pa_nil st_JoinedStr))) pss_nil)
   pss_never)) , fun d e => (by cases e), fun C e => ?_⟩
  cases e
  have rz : ∀ {ρ : List PV} {z : Str}, ρ[0]? = some (.dat (.str x)) → Ea K B0 (tCons (tFR z (tVar 0)) tNil) (msk ρ) [.str (Str.empty ++ z ++ reprText x)] := fun h => ea_cons (er_fR (er_var (by rw [List.getElem?_map, h]; rfl)) hx.r) ea_nil
  have t1 : Et K B0 _ [.dat (.str x), .un, .un, .un] _ := et_or (et_test (er_eqStr (er_var (i := 0) rfl) (er_str (x := Str.ofString "")))) fun _ => et_not (et_b (er_figs (i := 0) rfl hx))
  rcases not_fig hn with h | h | ⟨c, r, h⟩
  ·refine svX_seqX (svX_ifT (et_c t1 ?_) (svX_raise (rz rfl) (by show 1 ≤ sizeLine; decide)))
   have : x = Str.ofString "" := str_ext (by rw [h]; rfl)
   rw [decide_eq_true this]; rfl
  ·refine svX_seqX (svX_ifT (et_c t1 ?_) (svX_raise (rz rfl) (by show 1 ≤ sizeLine; decide)))
   rw [h, Bool.not_false, Bool.or_true]
  ·refine svX_seqX (svX_if t1 (fun _ => svX_raise (rz rfl) (by show 1 ≤ sizeLine; decide)) fun _ => svX (sv_next ?_))
   refine svX_seqX (svX_ifT (et_c (et_and (et_b (er_starts (er_var rfl) (ea_cons er_str ea_nil))) fun _ => et_test (er_neStr (er_var rfl) er_str)) ?_) (svX_raise (rz rfl) (by show 1 ≤ sizeLine; decide)))
   have h1 : Txt.startswith x (Str.ofString "0") = true := by rw [z48]; exact (startswith_code x 48).mpr ⟨_, h⟩
   have h2 : ¬ x = Str.ofString "0" := fun z => by rw [z, z48] at h; cases h
   rw [h1, decide_eq_false h2]; rfl
 ·obtain ⟨x, rfl, hx, hr'⟩ := hR
  cases e : fg x.cps.toList with
  | none => rw [e] at hr'; cases hr'
  | some n =>
   rw [e] at hr'
   cases hr'
   unfold fg at e
   split at e
   ·rename_i hb
    cases e
    obtain ⟨y, r, rfl, hy, hr⟩ := hv.cons
    cases hr.nil
    refine ⟨x, by rw [hy.str], fgB_iff.mp hb, by rw [← len_codes]; exact hx.1, fun H' s' => kk _ G H' (grow_h sg s') (dat_int _)⟩
   ·cases e
theorem slice1 {x : Str} {c : Nat} {r : List Nat} (h : x.cps.toList = c :: r) : (Txt.slice x (some 1) none).cps.toList = r := by
 have hl : x.length = r.length + 1 := by rw [len_codes, h]; rfl
 have := slice_codes x (a := 1) (b := x.length) (by omega) (Nat.le_refl _)
 rw [slice_hi, show (1 : Int) = ((1 : Nat) : Int) from rfl, this, h]
 show r.take (x.length - 1) = r
 exact List.take_of_length_le (by omega)
theorem ok_sgX (T : Top K mg) : FnOk P w K mg base (CX1 P w) 2 T.f_read_signed T.fd_read_signed ["text"] (spX K (RSg T.c_NoNumber)) := by
 have G_read_figures : FnOk P w K mg base (CX1 P w) 1 T.f_read_figures T.fd_read_figures ["text"] (spX K (RFg T.c_NoNumber)) := ok_figX T
 refine Fun.okX T.F_read_signed sc_read_signed (by rintro _ _ ⟨x, rfl, _⟩; rfl) fun cdv A outer s H E hr ds r hR => ?_
 obtain ⟨x, rfl, hx, rfl⟩ := hR
 refine ⟨_, (pss_cons (ps_if (pt_not (pt_val (pe_bm PySem.F.plainAttrs_str PySem.F.slot_str_startswith PySem.F.type_str_startswith mt_startswith (pv 0) (pa_cons pe_str pa_nil st_Constant)))) (pss_one (ps_ret (PEX.pe passes1 (pex_call G_read_figures (hr.mono (by decide)) (by rfl) T.m_read_figures T.F_read_figures.kp T.b_read_figures (pax_of (pa_cons (pv 0) pa_nil st_Name)))))) pss_nil)
   (pss_cons (ps_set (i := 1) sc_read_signed.nd rfl (Or.inl rfl) (PEX.pe passes1 (pex_call G_read_figures (hr.mono (by decide)) (by rfl) T.m_read_figures T.F_read_figures.kp T.b_read_figures (pax_of (pa_cons (pe_slice sl_str (pv 0) (po_some pe_int) po_none) pa_nil st_Subscript)))))
   (pss_cons (ps_if (pt_cmpR op_eq (pv 1) pe_int (nomark _)) (pss_one (ps_raise raises1 hr.hd T.x_NoNumber (by rfl) (pa_cons pe_str pa_nil st_Constant))) pss_nil)
   (pss_one (ps_ret (pe_un un_neg (pv 1))))))) , ?_⟩
 have hzz := hx.z
 have hzz : x.length ≤ sizeLine := by omega
 have hst : ∀ b, (Txt.startswith x (Str.ofString "-") = b) → Et K B0 _ [.dat (.str x), .un] (!b) := fun b e => et_c (et_not (et_b (er_starts (er_var (i := 0) rfl) (ea_cons (er_str (x := Str.ofString "-")) ea_nil)))) (by rw [e])
 by_cases hm : ∃ q, x.cps.toList = 45 :: q
 ·obtain ⟨q, hq⟩ := hm
  have h1 : Txt.startswith x (Str.ofString "-") = true := by rw [mn45]; exact (startswith_code x 45).mpr ⟨_, hq⟩
  have hsl := slice1 hq
  have hxs : TxOk (Txt.slice x (some 1) none) := hx.of (fun c hc => by rw [hsl] at hc; rw [hq]; exact List.mem_cons_of_mem _ hc) (by rw [len_codes, hsl, len_codes, hq, List.length_cons]; omega)
  have hrs : rS x.cps.toList = (match fg q with | some n => if n = 0 then none else some (-(n : Int)) | none => none) := by rw [hq]; rfl
  rw [hrs]
  have ear : Ea K B0 (tCons (tSl rSlS (tVar 0) (tPart (tC (.int 1))) tNoPart) tNil) [.dat (.str x), .un] [.str (Txt.slice x (some 1) none)] := ea_cons (er_slS (er_var rfl) eo_int eo_none hzz) ea_nil
  cases e : fg q with
  | none =>
   refine ⟨fun d e => (by cases e), fun C e => ?_⟩
   cases e
   exact svX_seqX (svX_ifF (hst _ h1) (svX (sv_next (svX_seqX (svX_asg (erX_call ear ⟨_, rfl, hxs, by rw [hsl, e]; rfl⟩))))))
  | some n =>
   have hR2 : RFg T.c_NoNumber [.str (Txt.slice x (some 1) none)] (.ok (.int (n : Nat))) := ⟨_, rfl, hxs, by rw [hsl, e]; rfl⟩
   refine ⟨fun d hd => ?_, fun C hd => ?_⟩
   ·dsimp only at hd
    by_cases h0 : n = 0
    ·rw [if_pos h0] at hd; cases hd
    ·rw [if_neg h0] at hd
     cases hd
     refine sv_seq (sv_ifF (hst _ h1) (sv_next ?_))
     refine sv_seq (sv_asg (eg_er (er_callX ear hR2) ?_))
     refine sv_seq (sv_ifF (et_c (et_test (er_eqI (er_var rfl) er_int)) (decide_eq_false (by omega))) (sv_next ?_))
     exact sv_ret (eg_er (er_neg (er_var rfl)) rfl)
   ·dsimp only at hd
    by_cases h0 : n = 0
    ·rw [if_pos h0] at hd
     cases hd
     refine svX_seqX (svX_ifF (hst _ h1) (svX (sv_next ?_)))
     refine svX_seq (sv_asg (eg_er (er_callX ear hR2) ?_))
     exact svX_seqX (svX_ifT (et_c (et_test (er_eqI (er_var rfl) er_int)) (decide_eq_true (by omega))) (svX_raise (ea_cons er_str ea_nil) (by show 1 ≤ sizeLine; decide)))
    ·rw [if_neg h0] at hd; cases hd
 ·have h1 : Txt.startswith x (Str.ofString "-") = false := by
   rw [mn45]
   exact Bool.eq_false_iff.mpr fun z => hm ((startswith_code x 45).mp z)
  have hrs : rS x.cps.toList = (fg x.cps.toList).map Int.ofNat := rS_pos fun z => by
   cases hc : x.cps.toList with
   | nil => rw [hc] at z; cases z
   | cons c q => rw [hc] at z; exact hm ⟨q, by rw [hc, show c = 45 from Option.some.inj z]⟩
  rw [hrs]
  cases e : fg x.cps.toList with
  | none =>
   refine ⟨fun d hd => (by cases hd), fun C hd => ?_⟩
   cases hd
   exact svX_seqX (svX_ifT (hst _ h1) (svX_ret (erX_call (ea_cons (er_var rfl) ea_nil) ⟨_, rfl, hx, by rw [e]; rfl⟩)))
  | some n =>
   refine ⟨fun d hd => ?_, fun C hd => (by cases hd)⟩
   cases hd
   exact sv_seq (sv_ifT (hst _ h1) (sv_ret (eg_er (er_callX (ea_cons (er_var rfl) ea_nil) ⟨_, rfl, hx, by rw [e]; rfl⟩) rfl)))
theorem TxOk.part {x p : Str} (h : TxOk x) (hp : p ∈ Txt.split x ⟨#[47]⟩) : TxOk p ∧ p.length ≤ x.length := by
 have hm : p.cps.toList ∈ spl x.cps.toList := by rw [← split_spl]; exact List.mem_map_of_mem hp
 obtain ⟨A, B, e⟩ := spl_in hm
 have hl : p.length ≤ x.length := by
  rw [len_codes, len_codes, e, List.length_append, List.length_append]; omega
 exact ⟨h.of (fun c hc => by rw [e]; simp [hc]) hl, hl⟩
theorem big90 {n k : Nat} (h : n < 10 ^ k) (hk : k ≤ 90) : n < 10 ^ 100 := Nat.lt_of_lt_of_le h (Nat.pow_le_pow_right (by decide) (by omega))
theorem rS_lt {l : List Nat} {z : Int} (h : rS l = some z) (hl : l.length ≤ 90) : z.natAbs < 10 ^ 100 := by
 unfold rS at h
 split at h
 ·rename_i r
  cases e : fg r with
  | none => rw [e] at h; cases h
  | some n =>
   rw [e] at h
   dsimp only at h
   have hn := fg_lt e
   rw [List.length_cons] at hl
   split at h
   ·cases h
   ·cases h
    rw [Int.natAbs_neg, Int.natAbs_natCast]
    exact big90 hn (by omega)
 ·cases e : fg l with
  | none => rw [e] at h; cases h
  | some n =>
   rw [e] at h
   cases h
   exact big90 (fg_lt e) hl
theorem ok_nuX (T : Top K mg) : FnOk P w K mg base (CX1 P w) 3 T.f_read_number T.fd_read_number ["text"] (spX K (RNu T.c_NoNumber)) := by
 have G_read_figures : FnOk P w K mg base (CX1 P w) 1 T.f_read_figures T.fd_read_figures ["text"] (spX K (RFg T.c_NoNumber)) := ok_figX T
 have G_read_signed : FnOk P w K mg base (CX1 P w) 2 T.f_read_signed T.fd_read_signed ["text"] (spX K (RSg T.c_NoNumber)) := ok_sgX T
 have G_fraction : FnOk P w K mg base (CX1 P w) 2 T.f_fraction T.fd_fraction ["above", "below"] (spX K (RFr T.c_NoNumber)) := ok_fracX T
 refine Fun.okX T.F_read_number sc_read_number (by rintro _ _ ⟨x, rfl, _⟩; rfl) fun cdv A outer s H E hr ds r hR => ?_
 obtain ⟨x, rfl, hx, h90, rfl⟩ := hR
 refine ⟨_, (pss_cons (ps_set (i := 1) sc_read_number.nd rfl (Or.inl rfl) (pe_bm PySem.F.plainAttrs_str PySem.F.slot_str_split PySem.F.type_str_split mt_split (pv 0) (pa_cons pe_str pa_nil st_Constant)))
   (pss_cons (ps_if (pt_cmpR op_gt (pe_callB (call_lenK (K := K) rfl) (by rfl) T.len_ PySem.boot_len (pa_cons (pv 1) pa_nil st_Name)) pe_int (nomark _)) (pss_one (ps_raise raises1 hr.hd T.x_NoNumber (by rfl) (pa_cons (pe_fR (pv 0)) pa_nil st_JoinedStr))) pss_nil)
   (pss_cons (ps_set (i := 2) sc_read_number.nd rfl (Or.inl rfl) (PEX.pe passes1 (pex_call G_read_signed (hr.mono (by decide)) (by rfl) T.m_read_signed T.F_read_signed.kp T.b_read_signed (pax_of (pa_cons (pe_ix (ix_listK (K := K) rfl) (pv 1) pe_int (fun _ _ => rfl)) pa_nil st_Subscript)))))
   (pss_cons (ps_if (pt_cmpR op_eq (pe_callB (call_lenK (K := K) rfl) (by rfl) T.len_ PySem.boot_len (pa_cons (pv 1) pa_nil st_Name)) pe_int (nomark _)) (pss_one (ps_ret (pe_tup (pa_cons (pv 2) (pa_cons pe_int pa_nil st_Constant) st_Name)))) pss_nil)
   (pss_one (ps_ret (PEX.pe passes1 (pex_call G_fraction (hr.mono (by decide)) (by rfl) T.m_fraction T.F_fraction.kp T.b_fraction (pax_cons (pex_of (pv 2)) (pax_cons (pex_call G_read_figures (hr.mono (by decide)) (by rfl) T.m_read_figures T.F_read_figures.kp T.b_read_figures (pax_of (pa_cons (pe_ix (ix_listK (K := K) rfl) (pv 1) pe_int (fun _ _ => rfl)) pa_nil st_Subscript))) pax_nil)))))))))) , ?_⟩
 have hs := split_spl x
 have hpt := fun p => hx.part (p := p)
 unfold rN
 rw [← hs]
 have s1 : ∀ {Z : Hp → Prop} {R : Pn} {u : TS}, SvX Z K B0 u [.dat (.str x), .dat (.list ((Txt.split x ⟨#[47]⟩).map .str)), .un] R → SvX Z K B0 (tSeq _ u) [.dat (.str x), .un, .un] R := fun {Z R u} h => svX_seq (sv_asg (i := 1) (eg_er (er_split (c := 47) (er_var (i := 0) rfl) (ea_cons (er_d (er_str (x := Str.ofString "/")) (by rw [sl47])) ea_nil) hx.z) h))
 have s1' : ∀ {R : Pn} {u : TS}, Sv K B0 u [.dat (.str x), .dat (.list ((Txt.split x ⟨#[47]⟩).map .str)), .un] R → Sv K B0 (tSeq _ u) [.dat (.str x), .un, .un] R := fun {R u} h => sv_seq (sv_asg (i := 1) (eg_er (er_split (c := 47) (er_var (i := 0) rfl) (ea_cons (er_d (er_str (x := Str.ofString "/")) (by rw [sl47])) ea_nil) hx.z) h))
 generalize hL : Txt.split x ⟨#[47]⟩ = L at *
 have len : ∀ {v : PV}, Er K B0 _ [.dat (.str x), .dat (.list (L.map .str)), v] (.int (L.length : Nat)) := fun {v} => er_d (er_lenL (ea_cons (er_var (i := 1) rfl) ea_nil)) (by rw [List.length_map])
 cases L with
 | nil => exact absurd hL (split_ne x _)
 | cons a L =>
 cases L with
 | nil =>
  obtain ⟨ha, hal⟩ := hpt a List.mem_cons_self
  have ear : ∀ {v : PV}, Ea K B0 _ [.dat (.str x), .dat (.list ([a].map .str)), v] [.str a] := fun {v} => ea_cons (er_ixL (n := 0) (er_var (i := 1) rfl) (er_int (i := 0)) rfl rfl) ea_nil
  show (∀ d, tX T.c_NoNumber (((rS a.cps.toList).map fun z => (z, (1 : Int))).map fun a => dF a) = .ok d → _) ∧ ∀ C, tX T.c_NoNumber (((rS a.cps.toList).map fun z => (z, (1 : Int))).map fun a => dF a) = .error C → _
  cases e : rS a.cps.toList with
  | none =>
   refine ⟨fun d hd => (by cases hd), fun C hd => ?_⟩
   cases hd
   exact s1 (svX_seqX (svX_ifF (et_c (et_test (er_i0 len er_int fun _ => dat_bl _)) rfl) (svX (sv_next (svX_seqX (svX_asg (erX_call ear ⟨a, rfl, ha, by rw [e]; rfl⟩)))))))
  | some z =>
   refine ⟨fun d hd => ?_, fun C hd => (by cases hd)⟩
   cases hd
   refine s1' (sv_seq (sv_ifF (et_c (et_test (er_i0 len er_int fun _ => dat_bl _)) rfl) (sv_next ?_)))
   refine sv_seq (sv_asg (eg_er (er_callX ear ⟨a, rfl, ha, by rw [e]; rfl⟩) ?_))
   exact sv_seq (sv_ifT (et_c (et_test (er_eqI len er_int)) rfl) (sv_ret (eg_er (er_tup (ea_cons (er_var rfl) (ea_cons er_int ea_nil)) (by show 2 ≤ sizeLine; decide)) rfl)))
 | cons b L =>
 cases L with
 | nil =>
  obtain ⟨ha, hal⟩ := hpt a List.mem_cons_self
  obtain ⟨hb, hbl⟩ := hpt b (List.mem_cons_of_mem _ List.mem_cons_self)
  have ear : ∀ {v : PV}, Ea K B0 _ [.dat (.str x), .dat (.list ([a, b].map .str)), v] [.str a] := fun {v} => ea_cons (er_ixL (n := 0) (er_var (i := 1) rfl) (er_int (i := 0)) rfl rfl) ea_nil
  have ebr : ∀ {v : PV}, Ea K B0 _ [.dat (.str x), .dat (.list ([a, b].map .str)), v] [.str b] := fun {v} => ea_cons (er_ixL (n := 1) (er_var (i := 1) rfl) (er_int (i := 1)) rfl rfl) ea_nil
  show (∀ d, tX T.c_NoNumber ((match rS a.cps.toList, fg b.cps.toList with | some z, some n => if n = 0 then none else some (norm z n) | _, _ => none).map fun a => dF a) = .ok d → _) ∧ ∀ C, tX T.c_NoNumber ((match rS a.cps.toList, fg b.cps.toList with | some z, some n => if n = 0 then none else some (norm z n) | _, _ => none).map fun a => dF a) = .error C → _
  cases e : rS a.cps.toList with
  | none =>
   refine ⟨fun d hd => (by cases hd), fun C hd => ?_⟩
   cases hd
   exact s1 (svX_seqX (svX_ifF (et_c (et_test (er_i0 len er_int fun _ => dat_bl _)) rfl) (svX (sv_next (svX_seqX (svX_asg (erX_call ear ⟨a, rfl, ha, by rw [e]; rfl⟩)))))))
  | some z =>
   have hz := rS_lt e (by rw [← len_codes]; omega)
   have hRa : RSg T.c_NoNumber [.str a] (.ok (.int z)) := ⟨a, rfl, ha, by rw [e]; rfl⟩
   cases eb : fg b.cps.toList with
   | none =>
    refine ⟨fun d hd => (by cases hd), fun C hd => ?_⟩
    cases hd
    exact s1 (svX_seqX (svX_ifF (et_c (et_test (er_i0 len er_int fun _ => dat_bl _)) rfl) (svX (sv_next (svX_seq (sv_asg (eg_er (er_callX ear hRa) (svX_seqX (svX_ifF (et_c (et_test (er_eqI len er_int)) rfl) (svX (sv_next (svX_ret (te := fun E => tCall (spX K (RFr T.c_NoNumber)) [] E (tCons (tVar 2) (tCons (tCall (spX K (RFg T.c_NoNumber)) [] E (tCons (tOp (rIxL K) (tVar 1) (tC (.int 1))) tNil)) tNil))) (erX_args (ta := fun E => tCons (tVar 2) (tCons (tCall (spX K (RFg T.c_NoNumber)) [] E (tCons (tOp (rIxL K) (tVar 1) (tC (.int 1))) tNil)) tNil)) (eaX_next (te := fun _ => tVar 2) (ta := fun E => tCons (tCall (spX K (RFg T.c_NoNumber)) [] E (tCons (tOp (rIxL K) (tVar 1) (tC (.int 1))) tNil)) tNil) (fun _ => er_var rfl) (eaX_here (te := fun E => tCall (spX K (RFg T.c_NoNumber)) [] E (tCons (tOp (rIxL K) (tVar 1) (tC (.int 1))) tNil)) (ta := fun _ => tNil) (erX_call (R := RFg T.c_NoNumber) ebr ⟨b, rfl, hb, by rw [eb]; rfl⟩))))))))))))))))
   | some n =>
    have hn := fg_lt eb
    have hRb : RFg T.c_NoNumber [.str b] (.ok (.int (n : Nat))) := ⟨b, rfl, hb, by rw [eb]; rfl⟩
    have hfz : (z.natAbs < 10 ^ 100 ∧ ((n : Nat) : Int).natAbs < 10 ^ 100) := ⟨hz, by rw [Int.natAbs_natCast]; exact big90 hn (by rw [← len_codes]; omega)⟩
    have hfr : RFr T.c_NoNumber [.int z, .int (n : Nat)] (tX T.c_NoNumber (if ((n : Nat) : Int) = 0 then none else some (dF (norm z n)))) := ⟨z, n, rfl, hfz, rfl⟩
    dsimp only
    by_cases h0 : n = 0
    ·rw [if_pos h0]
     refine ⟨fun d hd => (by cases hd), fun C hd => ?_⟩
     cases hd
     rw [if_pos (by omega)] at hfr
     exact s1 (svX_seqX (svX_ifF (et_c (et_test (er_i0 len er_int fun _ => dat_bl _)) rfl) (svX (sv_next (svX_seq (sv_asg (eg_er (er_callX ear hRa) (svX_seqX (svX_ifF (et_c (et_test (er_eqI len er_int)) rfl) (svX (sv_next (svX_ret (erX_call (ea_cons (er_var rfl) (ea_cons (er_callX ebr hRb) ea_nil)) hfr)))))))))))))
    ·rw [if_neg h0]
     refine ⟨fun d hd => ?_, fun C hd => (by cases hd)⟩
     cases hd
     rw [if_neg (by omega)] at hfr
     refine s1' (sv_seq (sv_ifF (et_c (et_test (er_i0 len er_int fun _ => dat_bl _)) rfl) (sv_next ?_)))
     refine sv_seq (sv_asg (eg_er (er_callX ear hRa) ?_))
     refine sv_seq (sv_ifF (et_c (et_test (er_eqI len er_int)) rfl) (sv_next ?_))
     exact sv_ret (eg_er (er_callX (ea_cons (er_var rfl) (ea_cons (er_callX ebr hRb) ea_nil)) hfr) rfl)
 | cons c L =>
  refine ⟨fun d hd => (by cases hd), fun C hd => ?_⟩
  cases hd
  refine s1 (svX_seqX (svX_ifT (et_c (et_test (er_i0 len er_int fun _ => dat_bl _)) (decide_eq_true ?_)) (svX_raise (ea_cons (er_fR (er_var rfl) hx.r) ea_nil) (by show 1 ≤ sizeLine; decide))))
  show (2 : Int) < ((L.length + 1 + 1 + 1 : Nat) : Int)
  omega
end
end K03
namespace K03
open PySem L2 Frac Lw Dig PySem.NumText
open Rd3
def oD : Option Nat → PyData
 | some n => .int (n : Nat)
 | none => .none
def oF : Option (Int × Int) → PyData
 | some a => dF a
 | none => .none
def lR (l : List Nat) : Option (Int × Int) := if l.head? = some 45 then lN true ((spl l.tail).map fgL) else lN false ((spl l).map fgL)
theorem lR_rN {l : List Nat} (h : Short l) : lR l = rN l := by
 unfold lR
 split
 ·rename_i hm
  cases l with
  | nil => cases hm
  | cons c r =>
   have : c = 45 := Option.some.inj hm
   subst this
   exact (read_minus h).symm
 ·rename_i hm
  exact (read_plain h hm).symm
def RLf (ds : List PyData) (d : PyData) : Prop := ∃ x : Str, ds = [.str x] ∧ TxOk x ∧ d = oD (fgL x.cps.toList)
def RLr (ds : List PyData) (d : PyData) : Prop := ∃ x : Str, ds = [.str x] ∧ TxOk x ∧ d = oF (lR x.cps.toList)
def RRt (ds : List PyData) (d : PyData) : Prop := ∃ x : Str, ds = [.str x] ∧ TxOk x ∧ x.length < 90 ∧ Short x.cps.toList ∧ d = .bool true
theorem fgL_no {l : List Nat} (h : ¬ (l.length ≤ 20 ∧ Fig l)) : fgL l = none := by
 unfold fgL fg
 split
 ·rename_i h1
  rw [if_neg fun z => h ⟨h1, fgB_iff.mp z⟩]
 ·rfl
theorem fgL_yes {l : List Nat} (h1 : l.length ≤ 20) (h2 : Fig l) : fgL l = some (digitsVal l) := by
 unfold fgL fg
 rw [if_pos h1, if_pos (fgB_iff.mpr h2)]
theorem fgL_lt {l : List Nat} {n : Nat} (h : fgL l = some n) : n < 10 ^ 20 := by
 unfold fgL at h
 split at h
 ·rename_i hl
  exact Nat.lt_of_lt_of_le (fg_lt h) (Nat.pow_le_pow_right (by decide) hl)
 ·cases h
theorem find_fig : ∀ k : Fin 10, Txt.find (Str.ofString "0123456789") ⟨#[48 + k.val]⟩ = (k.val : Int) := by decide +kernel
theorem find_dig {c : Nat} (h1 : 48 ≤ c) (h2 : c ≤ 57) : Txt.find (Str.ofString "0123456789") ⟨#[c]⟩ = ((c - 48 : Nat) : Int) := by
 have := find_fig ⟨c - 48, by omega⟩
 rw [show 48 + (⟨c - 48, by omega⟩ : Fin 10).val = c from by show 48 + (c - 48) = c; omega] at this
 exact this
theorem val_snoc (l : List Nat) (c : Nat) : digitsVal (l ++ [c]) = 10 * digitsVal l + (c - 48) := by
 unfold digitsVal
 rw [List.foldl_append]
 show _ * 10 + (c - 48) = _
 omega
theorem one_ne {c : Nat} : (⟨#[c]⟩ : Str) = Str.ofString "0" ↔ c = 48 := by
 rw [z48]
 constructor
 ·intro h; injection h with h; injection h with h; injection h
 ·intro h; rw [h]
section
variable {P : Program} {w : World} {K : PySem.W.Frag} {mg : Str → Option Value} {base : Heap}
theorem ok_lfig (T : Top K mg) : FnOk P w K mg base CX0 1 T.f__law_figures T.fd__law_figures ["text"] (spP K RLf) := by
 refine T.F__law_figures.okP sc__law_figures (by rintro _ _ ⟨x, rfl, _⟩; rfl) fun cdv A outer s H E hr ds d hR => ?_
 obtain ⟨x, rfl, hx, rfl⟩ := hR
 have h3 : (20000 : Nat) < sizeLine := by decide
 have hzz : x.length ≤ sizeLine := by have := hx.1; omega
 refine ⟨_, (pss_cons (ps_if ((pw_or (pt_cmpR op_eq (pv 0) pe_str (nomark _)) (pw_or (pt_cmpR op_gt (pe_callB call_len_str (by rfl) T.len_ PySem.boot_len (pa_cons (pv 0) pa_nil st_Name)) pe_int (nomark _)) (pw_or1 ((pw_and (pt_cmpR op_eq (pe_ix ix_str (pv 0) pe_int (fun _ _ => rfl)) pe_str (nomark _)) (pw_and1 (pt_cmpR op_ne (pv 0) pe_str (nomark _))))).pt)))).pt (pss_one (ps_ret pe_non)) pss_nil)
   (pss_cons (ps_set (i := 1) sc__law_figures.nd rfl (Or.inl rfl) pe_int)
   (pss_cons (ps_for PassesOwn.never rfl (pi_str (pv 0)) (pg_name (i := 2) sc__law_figures.nd rfl (Or.inl rfl)) (pss_cons (ps_if (pt_cmpR op_notIn_str (pv 2) pe_str (by rfl)) (pss_one (ps_ret pe_non)) pss_nil)
   (pss_one (ps_set (i := 1) sc__law_figures.nd rfl (Or.inl rfl) (pe_op op_add (pe_op op_mulW pe_int (pv 1)) (pe_bm PySem.F.plainAttrs_str PySem.F.slot_str_find PySem.F.type_str_find mt_find pe_str (pa_cons (pv 2) pa_nil st_Name)))))))
   (pss_one (ps_ret (pv 1)))))) , ?_⟩
 by_cases hn : x.cps.toList = []
 ·have e : x = Str.ofString "" := str_ext (by rw [hn]; rfl)
  refine sv_seq (sv_ifT (et_c (et_or (e := true) (et_test (er_eqStr (er_var rfl) er_str)) fun z => ?_) ?_) (sv_ret (eg_er (er_d er_non ?_) rfl)))
  ·rw [decide_eq_true e] at z; cases z
  ·rw [decide_eq_true e]; rfl
  ·rw [fgL_no fun z => z.2.ne hn]; rfl
 obtain ⟨c0, r0, hc⟩ : ∃ c r, x.cps.toList = c :: r := by
  cases h : x.cps.toList with
  | nil => exact absurd h hn
  | cons c r => exact ⟨c, r, rfl⟩
 have t1 : Et K B0 _ [.dat (.str x), .un, .un] (decide (x = Str.ofString "") || (decide ((20 : Int) < x.length) || (decide ((⟨#[c0]⟩ : Str) = Str.ofString "0") && !decide (x = Str.ofString "0")))) := et_or (et_test (er_eqStr (er_var (i := 0) rfl) (er_str (x := Str.ofString "")))) fun _ => et_or (et_test (er_i0 (g := fun i j => .bl (decide (j < i))) (er_lenS (ea_cons (er_var (i := 0) rfl) ea_nil) hzz) (er_int (i := 20)) fun _ => dat_bl _)) fun _ => et_and (et_test (er_eqStr (er_ixStr (n := 0) (c := c0) (er_var (i := 0) rfl) er_int hzz (by rw [hc]; rfl)) (er_str (x := Str.ofString "0")))) fun _ => et_test (er_neStr (er_var (i := 0) rfl) (er_str (x := Str.ofString "0")))
 have e0 : ¬ x = Str.ofString "" := fun z => hn (by rw [z]; rfl)
 rw [decide_eq_false e0, Bool.false_or] at t1
 refine sv_seq (sv_if t1 (fun h => sv_ret (eg_er (er_d er_non ?_) rfl)) fun h => sv_next ?_)
 ·rw [fgL_no]
  ·rfl
  rintro ⟨h1, h2⟩
  rw [Bool.or_eq_true, decide_eq_true_eq, Bool.and_eq_true, decide_eq_true_eq, Bool.not_eq_true', decide_eq_false_iff_not, one_ne] at h
  rcases h with h | ⟨h, h'⟩
  ·rw [len_codes] at h; omega
  ·apply h'
   refine str_ext ?_
   rw [z48, hc, h, h2.hd r0 (by rw [hc, h])]
 rw [Bool.or_eq_false_iff, decide_eq_false_iff_not, Bool.and_eq_false_iff, decide_eq_false_iff_not, one_ne, Bool.not_eq_false', decide_eq_true_eq] at h
 obtain ⟨hl20, hz0⟩ := h
 have hl20 : x.cps.toList.length ≤ 20 := by rw [len_codes] at hl20; omega
 have hhd : ∀ r, x.cps.toList = 48 :: r → r = [] := fun r e => by
  rcases hz0 with z | z
  ·rw [hc] at e; injection e with e _; exact absurd e z
  ·rw [z, z48] at e; injection e with _ e; exact e.symm
 refine sv_seq (sv_asg (eg_er er_int ?_))
 refine sv_seq (sv_for x.cps.toList (fun c => PyData.str ⟨#[c]⟩) (ei_str (er_var rfl)) (fun i ρ => AllDigits (x.cps.toList.take i) ∧ ∃ v2 : PV, ρ = [.dat (.str x), .dat (.int (digitsVal (x.cps.toList.take i) : Nat)), v2]) ⟨fun _ h => (by cases h), _, rfl⟩ ?_ ?_)
 ·rintro i hi _ ⟨hd, v2, rfl⟩
  have etk : x.cps.toList.take (i + 1) = x.cps.toList.take i ++ [x.cps.toList[i]] := by rw [List.take_succ, List.getElem?_eq_getElem hi]; rfl
  have hv : digitsVal (x.cps.toList.take i) < 10 ^ 20 := Nat.lt_of_lt_of_le (valBound _ hd) (Nat.pow_le_pow_right (by decide) (by rw [List.length_take]; omega))
  generalize hci : x.cps.toList[i] = c at etk ⊢
  refine gt_name (sv_seq (sv_if (et_c (et_test (er_inStr (g := fun b => !(!b)) (er_var rfl) er_str)) (by rw [occ_fig])) (fun h => sv_ret (eg_er (er_d er_non ?_) rfl)) fun h => sv_next ?_))
  ·rw [fgL_no]
   ·rfl
   rintro ⟨_, h2⟩
   have := h2.dg c (by rw [← hci]; exact List.getElem_mem hi)
   rw [decide_eq_true this.1, decide_eq_true this.2] at h
   cases h
  ·rw [Bool.not_eq_false', Bool.and_eq_true, decide_eq_true_eq, decide_eq_true_eq] at h
   refine sv_asg (eg_er (er_i0 (er_iC er_int (er_var rfl) (mw (Nat.lt_of_lt_of_le (show (10 : Int).natAbs < 11 by decide) (by decide +kernel)) (by rw [Int.natAbs_natCast]; exact Nat.lt_of_lt_of_le hv (by decide +kernel))) fun _ => dat_int _) (er_d (er_find er_str (ea_cons (er_var rfl) ea_nil)) (by rw [find_dig h.1 h.2])) fun _ => dat_int _) ?_)
   refine ⟨fun d hd' => ?_, .dat (.str ⟨#[c]⟩), ?_⟩
   ·rw [etk] at hd'
    rcases List.mem_append.mp hd' with z | z
    ·exact hd d z
    ·rw [List.mem_singleton.mp z]; exact h
   ·rw [etk, val_snoc]
    show [PV.dat (PyData.str x), PV.dat (PyData.int (10 * (digitsVal (x.cps.toList.take i) : Nat) + (c - 48 : Nat))), PV.dat (PyData.str ⟨#[c]⟩)] = _
    congr 4
 ·rintro _ ⟨hd, v2, rfl⟩
  rw [List.take_length] at hd
  refine sv_ret (eg_er (er_d (er_var rfl) ?_) rfl)
  rw [List.take_length, fgL_yes hl20 ⟨hd, hn, hhd⟩]; rfl
def oV : Option Nat → V
 | some n => .int (n : Nat)
 | none => .non
theorem oV_of {G : Hp} : ∀ {us : List V} {ns : List (Option Nat)}, Dats K G us (ns.map oD) → us = ns.map oV
 | _, [], h => h.nil
 | _, n :: ns, h => by
  obtain ⟨v, r, rfl, hv, hr⟩ := Dats.cons (d := oD n) (ds := ns.map oD) h
  rw [oV_of hr]
  cases n with
  | none => rw [Dat.non hv]; rfl
  | some n => rw [Dat.int hv]; rfl
theorem oV_flat (ns : List (Option Nat)) : (ns.map oV).all flatV = true := by
 rw [List.all_eq_true]
 intro v hv
 obtain ⟨n, _, rfl⟩ := List.mem_map.mp hv
 cases n <;> rfl
theorem oV_in (ns : List (Option Nat)) : inV .non (ns.map oV) = decide (none ∈ ns) := by
 unfold inV
 rw [List.any_map, Bool.eq_iff_iff, List.any_eq_true, decide_eq_true_eq]
 constructor
 ·rintro ⟨n, hn, e⟩
  cases n with
  | none => exact hn
  | some n => cases e
 ·intro h; exact ⟨none, h, rfl⟩
theorem lN_none {m : Bool} {ns : List (Option Nat)} (h : none ∈ ns) : lN m ns = none := by
 unfold lN
 split
 ·simp at h
 ·simp at h
 ·rfl
theorem lN_long {m : Bool} {ns : List (Option Nat)} (h : 2 < ns.length) : lN m ns = none := by
 unfold lN
 split
 ·simp at h
 ·simp at h
 ·rfl
theorem pl_oD (n : Option Nat) {k : Nat} : Pl k (oD n) := by
 cases n with
 | none =>
  show Pl k PyData.none
  exact ⟨by unfold PyData.canLay0; rfl, by unfold PyData.depth; omega, by unfold noBool; rfl⟩
 | some n => exact pl_int _
theorem slice0 (x : Str) : Txt.slice x (some 0) none = x := by
 refine str_ext ?_
 have := slice_codes x (a := 0) (b := x.length) (Nat.zero_le _) (Nat.le_refl _)
 rw [slice_hi, show (0 : Int) = ((0 : Nat) : Int) from rfl, this, List.drop_zero, Nat.sub_zero]
 exact List.take_of_length_le (by rw [len_codes]; omega)
theorem slice_head (x : Str) : decide (Txt.slice x none (some 1) = Str.ofString "-") = decide (x.cps.toList.head? = some 45) := by
 rw [decide_eq_decide, mn45]
 have e : (Txt.slice x none (some 1)).cps.toList = x.cps.toList.take 1 := by
  cases hx : x.cps.toList with
  | nil =>
   have : x = Str.ofString "" := str_ext (by rw [hx]; rfl)
   rw [this]; decide +kernel
  | cons c r =>
   have hl : x.length = r.length + 1 := by rw [len_codes, hx]; rfl
   have := slice_codes x (a := 0) (b := 1) (Nat.zero_le _) (by omega)
   rw [slice_lo, show (1 : Int) = ((1 : Nat) : Int) from rfl, this, hx]; rfl
 constructor
 ·intro h
  rw [h] at e
  cases hx : x.cps.toList with
  | nil => rw [hx] at e; cases e
  | cons c r => rw [hx] at e; injection e with e _; rw [← e]; rfl
 ·intro h
  refine str_ext ?_
  rw [e]
  cases hx : x.cps.toList with
  | nil => rw [hx] at h; cases h
  | cons c r => rw [hx] at h; rw [show c = 45 from Option.some.inj h]; rfl
theorem ok_lread (T : Top K mg) : FnOk P w K mg base CX0 3 T.f__law_reading T.fd__law_reading ["text"] (spP K RLr) := by
 have G__law_figures : FnOk P w K mg base CX0 2 T.f__law_figures T.fd__law_figures ["text"] (spP K RLf) := (ok_lfig T).mono (by decide)
 have G__law_least : FnOk P w K mg base CX0 2 T.f__law_least T.fd__law_least ["top", "below"] (spP K RLe) := ok_leastP T
 refine T.F__law_reading.okP sc__law_reading (by rintro _ _ ⟨x, rfl, _⟩; rfl) fun cdv A outer s H E hr ds d hR => ?_
 have hu := hr.units
 obtain ⟨x, rfl, hx, rfl⟩ := hR
 have h3 : (20000 : Nat) < sizeLine := by decide
 have hzz : x.length ≤ sizeLine := by have := hx.1; omega
 refine ⟨_, (pss_cons (ps_set (i := 1) sc__law_reading.nd rfl (Or.inl rfl) (pe_cmpR op_eq (pe_slice sl_str (pv 0) po_none (po_some pe_int)) pe_str (nomark _)))
   (pss_cons (ps_set (i := 2) sc__law_reading.nd rfl (Or.inl rfl) (pe_bm PySem.F.plainAttrs_str PySem.F.slot_str_split PySem.F.type_str_split mt_split (pe_slice sl_str (pv 0) (po_some (pe_callTy call_int1 (by rfl) T.int_ bInt (pa_cons (pv 1) pa_nil st_Name))) po_none) (pa_cons pe_str pa_nil st_Constant)))
   (pss_cons (ps_lc (x := "part") (cap := []) (js := []) (i := 3) (y := "numbers") ⟨rfl, by decide +kernel, by decide +kernel, rfl, (by show ∀ p ∈ (_ : List (Str × NameKind)), p.2 = NameKind.free → List.lookup p.1 (defScope s__law_reading).names = some NameKind.cell; decide +kernel), by decide +kernel, by decide +kernel, by decide +kernel⟩ rfl rfl (fun _ _ h => h) sc__law_reading.nd rfl rfl (pi_list (pv 2)) (fun _ _ _ _ => ⟨pif_nil, (pe_call G__law_figures hr (by rfl) T.m__law_figures T.F__law_figures.kp T.b__law_figures .nil pass0 (pa_cons (pv 0) pa_nil st_Name))⟩))
   (pss_cons (ps_if ((pw_or (pt_cmpR op_in_seq pe_non (pv 3) (by rfl)) (pw_or (pt_cmpR op_gt (pe_callB (call_lenK (K := K) rfl) (by rfl) T.len_ PySem.boot_len (pa_cons (pv 3) pa_nil st_Name)) pe_int (nomark _)) (pw_or ((pw_and (pt_val (pv 1)) (pw_and1 (pt_cmpR op_eq (pe_ix (ix_listK (K := K) rfl) (pv 3) pe_int (fun _ _ => rfl)) pe_int (nomark _))))).pt (pw_or1 (pt_cmpR (op_eqDK (K := K) rfl hu) (pe_slice (sl_listK (K := K) rfl) (pv 3) (po_some pe_int) po_none) (pe_lst (pa_cons pe_int pa_nil st_Constant)) (nomark _))))))).pt (pss_one (ps_ret pe_non)) pss_nil)
   (pss_one (ps_ret (pe_call G__law_least hr (by rfl) T.m__law_least T.F__law_least.kp T.b__law_least .nil pass0 (pa_cons (pe_op op_mulW (pe_ix (ix_listK (K := K) rfl) (pv 3) pe_int (fun _ _ => rfl)) (pe_ix (ix_listK (K := K) rfl) (pe_lst (pa_cons pe_int (pa_cons (pe_un un_neg pe_int) pa_nil st_UnaryOp) st_Constant)) (pe_callTy call_int1 (by rfl) T.int_ bInt (pa_cons (pv 1) pa_nil st_Name)) (fun _ _ => rfl))) (pa_cons (pe_ix (ix_listK (K := K) rfl) (pe_op op_cat (pv 3) (pe_lst (pa_cons pe_int pa_nil st_Constant))) pe_int (fun _ _ => rfl)) pa_nil st_Subscript) st_BinOp)))))))) , ?_⟩
 refine sv_seq (sv_asg (eg_er (er_eqStr (er_slS (er_var rfl) eo_none eo_int hzz) er_str) ?_))
 rw [slice_head]
 unfold lR
 obtain ⟨m, y, hm, hys, hy, hlr⟩ : ∃ (m : Bool) (y : Str), decide (x.cps.toList.head? = some 45) = m ∧ Txt.slice x (some (if m then 1 else 0)) none = y ∧ TxOk y ∧ (if x.cps.toList.head? = some 45 then lN true ((spl x.cps.toList.tail).map fgL) else lN false ((spl x.cps.toList).map fgL)) = lN m ((spl y.cps.toList).map fgL) := by
  by_cases h : x.cps.toList.head? = some 45
  ·cases hc : x.cps.toList with
   | nil => rw [hc] at h; cases h
   | cons c r =>
    rw [hc] at h
    have hs := slice1 hc
    refine ⟨true, Txt.slice x (some 1) none, decide_eq_true h, rfl, hx.of (fun d hd => by rw [hs] at hd; rw [hc]; exact List.mem_cons_of_mem _ hd) (by rw [len_codes, hs, len_codes, hc, List.length_cons]; omega), ?_⟩
    rw [if_pos h, hs]; rfl
  ·refine ⟨false, x, decide_eq_false h, slice0 x, hx, ?_⟩
   rw [if_neg h]
 rw [hm, hlr]
 show Sv K B0 _ [.dat (.str x), .dat (.bool m), .un, .un] _
 refine sv_seq (sv_asg (eg_er (er_split (c := 47) (er_d (er_slS (er_var rfl) (eo_intB rfl) eo_none hzz) (by rw [hys])) (ea_cons (er_d er_str (by rw [sl47])) ea_nil) hy.z) ?_))
 have hpl : (Txt.split y ⟨#[47]⟩).length < sizeLine := by
  have := PyProof.Rows.split_le y ⟨#[47]⟩
  have := hy.1
  omega
 refine sv_seq (sv_asg (eg_lc (Txt.split y ⟨#[47]⟩) PyData.str (fun p => some (oD (fgL p.cps.toList))) (ei_lst (er_var rfl)) hpl (fun p hp => lx1 et_noif (er_call (ea_cons (er_var rfl) ea_nil) ⟨p, rfl, (hy.part hp).1, rfl⟩)) ?_))
 have ens : (Txt.split y ⟨#[47]⟩).filterMap (fun p => some (oD (fgL p.cps.toList))) = ((spl y.cps.toList).map fgL).map oD := by
  rw [← split_spl, List.map_map, List.map_map]
  show List.filterMap (some ∘ fun p : Str => oD (fgL p.cps.toList)) _ = _
  rw [List.filterMap_eq_map]; rfl
 rw [ens]
 have hns : ∀ n ∈ (spl y.cps.toList).map fgL, ∀ k, n = some k → k < 10 ^ 20 := fun n hn k e => by
  obtain ⟨p, _, rfl⟩ := List.mem_map.mp hn
  exact fgL_lt e
 have hne : (spl y.cps.toList).map fgL ≠ [] := fun z => spl_ne y.cps.toList (List.map_eq_nil_iff.mp z)
 have hle : ((spl y.cps.toList).map fgL).length < 1000 := by
  rw [List.length_map, ← split_spl, List.length_map]
  have := PyProof.Rows.split_le y ⟨#[47]⟩
  have := hy.1
  omega
 generalize (spl y.cps.toList).map fgL = ns at hns hne hle
 generalize hps : PyData.list ((Txt.split y ⟨#[47]⟩).map .str) = dp
 show Sv K B0 _ [.dat (.str x), .dat (.bool m), .dat dp, .own (ns.map oD)] _
 have tin : Et K B0 _ [.dat (.str x), .dat (.bool m), .dat dp, .own (ns.map oD)] (decide (none ∈ ns)) := et_c (et_test (er_inL (neg := false) (er_non (K := K)) (er_own (i := 3) rfl rfl) (fun _ _ h => h.non) (fun _ _ h => oV_of h) rfl (oV_flat ns))) (by rw [← oV_in]; rfl)
 have tlen : Et K B0 _ [.dat (.str x), .dat (.bool m), .dat dp, .own (ns.map oD)] (decide ((2 : Int) < ns.length)) := et_test (er_i0 (g := fun i j => .bl (decide (j < i))) (er_d (er_lenL (ea_cons (er_own (i := 3) rfl rfl) ea_nil)) (show _ = PyData.int (ns.length : Nat) by rw [List.length_map])) (er_int (i := 2)) fun _ => dat_bl _)
 by_cases hnn : none ∈ ns
 ·refine sv_seq (sv_ifT (et_c (et_or (e := true) tin fun z => ?_) ?_) (sv_ret (eg_er (er_d er_non (by rw [lN_none hnn]; rfl)) rfl)))
  ·rw [decide_eq_true hnn] at z; cases z
  ·rw [decide_eq_true hnn]; rfl
 by_cases hl2 : 2 < ns.length
 ·refine sv_seq (sv_ifT (et_c (et_or tin fun _ => et_or (e := true) tlen fun z => ?_) ?_) (sv_ret (eg_er (er_d er_non (by rw [lN_long hl2]; rfl)) rfl)))
  ·rw [decide_eq_true (by omega)] at z; cases z
  ·rw [decide_eq_true (show (2 : Int) < ns.length by omega), Bool.true_or, Bool.or_true]
 rw [decide_eq_false hnn] at tin
 rw [decide_eq_false (show ¬ (2 : Int) < ns.length by omega)] at tlen
 have fin : ∀ (a b : Nat) (ns' : List (Option Nat)), ns = some a :: ns' → (ns' = [] ∧ b = 1 ∨ ns' = [some b]) → b ≠ 0 → a < 10 ^ 20 → b < 10 ^ 20 → Sv K B0 (tRet (tCall (spP K RLe) [] E0 (tCons (tOp (rI CMulW fun i j => V.int (i * j)) (tOp (rIxL K) (tVar 3) (tC (V.int 0))) (tOp (rIxL K) (tLst (tCons (tC (V.int 1)) (tCons (tUn (rU fun i => V.int (-i)) (tC (V.int 1))) tNil))) (tCB (fun xs H Q => (∃ i, xs = [V.int i] ∧ Q (V.int i) H) ∨ ∃ k, xs = [V.bl k] ∧ Q (V.int (if k then 1 else 0)) H) (tCons (tVar 1) tNil)))) (tCons (tOp (rIxL K) (tOp rCat (tVar 3) (tLst (tCons (tC (V.int 1)) tNil))) (tC (V.int 1))) tNil)))) [.dat (.str x), .dat (.bool m), .dat dp, .own (ns.map oD)] { nx := fun _ => oF (some (norm ((a : Int) * (if m then -1 else 1)) b)) = .none, rt := fun r _ => r = .dat (oF (some (norm ((a : Int) * (if m then -1 else 1)) b))) } := fun a b ns' e hb hb0 ha hb1 => by
  have hmul : ∀ z : Int, (z = 1 ∨ z = -1) → ((a : Int) * z).natAbs < 10 ^ 100 := fun z hz => by
   rw [Int.natAbs_mul, Int.natAbs_natCast]
   have : z.natAbs = 1 := by rcases hz with rfl | rfl <;> rfl
   rw [this, Nat.mul_one]
   exact Nat.lt_of_lt_of_le ha (by decide +kernel)
  have hb100 : ((b : Nat) : Int).natAbs < 10 ^ 100 := by rw [Int.natAbs_natCast]; exact Nat.lt_of_lt_of_le hb1 (by decide +kernel)
  have hone : ∀ z : Int, (z = 1 ∨ z = -1) → z.natAbs < 10 ^ 100 := fun z hz => by
   have : z.natAbs = 1 := by rcases hz with rfl | rfl <;> rfl
   rw [this]; decide +kernel
  have hw : ∀ z : Int, (z = 1 ∨ z = -1) → CMulW (a : Int) z := fun z hz => mw (by rw [Int.natAbs_natCast]; exact Nat.lt_of_lt_of_le ha (by decide +kernel)) (hone z hz)
  have s2 : (2 : Nat) ≤ sizeLine := by decide
  have s1 : (1 : Nat) ≤ sizeLine := by decide
  have ix : ∀ (z : Int), (if m then (-1 : Int) else 1) = z → Er K B0 (tOp (rIxL K) (tLst (tCons (tC (V.int 1)) (tCons (tUn (rU fun i => V.int (-i)) (tC (V.int 1))) tNil))) (tCB (fun xs H Q => (∃ i, xs = [V.int i] ∧ Q (V.int i) H) ∨ ∃ k, xs = [V.bl k] ∧ Q (V.int (if k then 1 else 0)) H) (tCons (tVar 1) tNil))) ([.dat (.str x), .dat (.bool m), .dat dp, .own (ns.map oD)].map PV.mlt) (.int z) := fun z e => by
   subst e
   cases m with
   | false => exact er_ixL (n := 0) (er_lst (ea_cons er_int (ea_cons (er_neg er_int) ea_nil)) s2) (er_intB (ea_cons (er_var rfl) ea_nil)) rfl rfl
   | true => exact er_ixL (n := 1) (er_lst (ea_cons er_int (ea_cons (er_neg er_int) ea_nil)) s2) (er_intB (ea_cons (er_var rfl) ea_nil)) rfl rfl
  have hz : (if m then (-1 : Int) else 1) = 1 ∨ (if m then (-1 : Int) else 1) = -1 := by cases m <;> simp
  generalize hzz' : (if m then (-1 : Int) else 1) = z at hz
  have ix := ix z hzz'
  subst e
  rcases hb with ⟨rfl, rfl⟩ | rfl
  ·exact sv_retF (er_call (ea_cons (er_iC (er_ixL (n := 0) (er_own (u := .own _) rfl rfl) er_int rfl rfl) ix (hw z hz) fun _ => dat_int _) (ea_cons (er_ixL (n := 1) (er_catL (er_own (u := .own _) rfl rfl) (er_lst (ea_cons er_int ea_nil) s1) (by show 2 ≤ sizeLine; decide)) er_int rfl rfl) ea_nil)) ⟨_, _, rfl, by decide, ⟨hmul z hz, by decide +kernel⟩, rfl⟩) rfl
  ·exact sv_retF (er_call (ea_cons (er_iC (er_ixL (n := 0) (er_own (u := .own _) rfl rfl) er_int rfl rfl) ix (hw z hz) fun _ => dat_int _) (ea_cons (er_ixL (n := 1) (er_catL (er_own (u := .own _) rfl rfl) (er_lst (ea_cons er_int ea_nil) s1) (by show 3 ≤ sizeLine; decide)) er_int rfl rfl) ea_nil)) ⟨_, _, rfl, by omega, ⟨hmul z hz, hb100⟩, rfl⟩) rfl
 have tsl : ∀ (b : Bool), PySem.Spec.same (.list (slD (ns.map oD) (some 1) none)) (.list [.int 0]) = b → Et K B0 _ [.dat (.str x), .dat (.bool m), .dat dp, .own (ns.map oD)] b := fun b e => et_c (et_test (er_eqD (g := id) (n := 4) (er_slL (er_own (i := 3) rfl rfl) (eo_int (i := 1)) eo_none) (er_lst (ea_cons (er_int (i := 0)) ea_nil) (by show 1 ≤ sizeLine; decide)) (pl_lst fun d hd => by
  have hd := List.mem_of_mem_drop (List.mem_of_mem_take hd)
  obtain ⟨n, _, rfl⟩ := List.mem_map.mp hd
  exact pl_oD n) (pl_lst fun d hd => by rw [List.mem_singleton.mp hd]; exact pl_int _) (by decide))) e
 cases ns with
 | nil => exact absurd rfl hne
 | cons n0 ns =>
 cases n0 with
 | none => exact absurd List.mem_cons_self hnn
 | some a =>
 have ha := hns (some a) List.mem_cons_self a rfl
 have tm : ∀ {ns' : List (Option Nat)}, Et K B0 _ [.dat (.str x), .dat (.bool m), .dat dp, .own ((some a :: ns').map oD)] (m && decide ((a : Int) = 0)) := fun {ns'} => et_and (et_b (er_var (i := 1) rfl)) fun _ => et_test (er_eqI (er_ixL (n := 0) (er_own (i := 3) (u := .own _) rfl rfl) (er_int (i := 0)) (ixN_nat (show 0 < ((some a :: ns').map oD).length from Nat.succ_pos _)) rfl) (er_int (i := 0)))
 have hma : ∀ b : Bool, (m && decide ((a : Int) = 0)) = b → (b = true ↔ (m = true ∧ a = 0)) := fun b e => by
  rw [← e, Bool.and_eq_true, decide_eq_true_eq]
  constructor
  ·rintro ⟨h1, h2⟩; exact ⟨h1, by omega⟩
  ·rintro ⟨h1, h2⟩; exact ⟨h1, by omega⟩
 cases ns with
 | nil =>
  refine sv_seq (sv_if (et_or tin fun _ => et_or tlen fun _ => et_or tm fun _ => tsl false rfl) (fun h => sv_ret (eg_er (er_d er_non ?_) rfl)) fun h => sv_next ?_)
  ·rw [Bool.false_or, Bool.false_or, Bool.or_false] at h
   show PyData.none = oF (if m = true ∧ a = 0 then none else some (norm ((a : Int) * (if m then -1 else 1)) 1))
   rw [if_pos ((hma _ rfl).mp h)]; rfl
  ·rw [Bool.false_or, Bool.false_or, Bool.or_false] at h
   have hn2 : ¬ (m = true ∧ a = 0) := fun z => by rw [(hma _ rfl).mpr z] at h; cases h
   have := fin a 1 [] rfl (.inl ⟨rfl, rfl⟩) (by decide) ha (by decide)
   show Sv K B0 _ _ { nx := fun _ => oF (if m = true ∧ a = 0 then none else some (norm ((a : Int) * (if m then -1 else 1)) 1)) = .none, rt := fun r _ => r = .dat (oF (if m = true ∧ a = 0 then none else some (norm ((a : Int) * (if m then -1 else 1)) 1))) }
   rw [if_neg hn2]
   exact this
 | cons n1 ns =>
 cases n1 with
 | none => exact absurd (List.mem_cons_of_mem _ List.mem_cons_self) hnn
 | some b =>
 cases ns with
 | cons n2 ns => exact absurd (show 2 < (some a :: some b :: n2 :: ns).length from by rw [List.length_cons, List.length_cons, List.length_cons]; omega) hl2
 | nil =>
  have hb := hns (some b) (List.mem_cons_of_mem _ List.mem_cons_self) b rfl
  refine sv_seq (sv_if (et_or tin fun _ => et_or tlen fun _ => et_or tm fun _ => tsl (decide (b = 0)) (by cases b <;> rfl)) (fun h => sv_ret (eg_er (er_d er_non ?_) rfl)) fun h => sv_next ?_)
  ·rw [Bool.false_or, Bool.false_or] at h
   show PyData.none = oF (if (m = true ∧ a = 0) ∨ b = 0 then none else some (norm ((a : Int) * (if m then -1 else 1)) b))
   rw [if_pos]
   ·rfl
   rw [Bool.or_eq_true] at h
   exact h.imp (fun h => (hma _ rfl).mp h) of_decide_eq_true
  ·rw [Bool.false_or, Bool.false_or, Bool.or_eq_false_iff] at h
   have hn2 : ¬ ((m = true ∧ a = 0) ∨ b = 0) := fun z => z.elim (fun z => by rw [(hma _ rfl).mpr z] at h; cases h.1) (of_decide_eq_false h.2)
   have := fin a b [some b] rfl (.inr rfl) (of_decide_eq_false h.2) ha hb
   show Sv K B0 _ _ { nx := fun _ => oF (if (m = true ∧ a = 0) ∨ b = 0 then none else some (norm ((a : Int) * (if m then -1 else 1)) b)) = .none, rt := fun r _ => r = .dat (oF (if (m = true ∧ a = 0) ∨ b = 0 then none else some (norm ((a : Int) * (if m then -1 else 1)) b))) }
   rw [if_neg hn2]
   exact this
theorem er_notN {B : Hp} {ρ : List PV} {ta : TE} {d : PyData} (ha : Er K B ta ρ d) : Er K B (tOp (fun x y H Q => y = .non ∧ Q (.bl (!decide (x = .non))) H) ta (tC .non)) ρ (.bool (!(match d with | .none => true | _ => false))) := fun G σ r => ev_op (ha G σ r) ev_non fun G1 H x y Q s1 s2 hx hy k => by
 refine ⟨hy.non, ?_⟩
 cases d with
 | none => rw [hx.non]; exact k _ G1 H (Grow.refl s2) (dat_bl _)
 | bool b => rw [hx.bl]; exact k _ G1 H (Grow.refl s2) (dat_bl _)
 | int i => rw [hx.int]; exact k _ G1 H (Grow.refl s2) (dat_bl _)
 | str s => rw [hx.str]; exact k _ G1 H (Grow.refl s2) (dat_bl _)
 | list l => obtain ⟨p, xs, rfl, _⟩ := hx.lst; exact k _ G1 H (Grow.refl s2) (dat_bl _)
 | tuple l => obtain ⟨p, xs, rfl, _⟩ := hx.tup; exact k _ G1 H (Grow.refl s2) (dat_bl _)
 | dict l => exact hx.elim
theorem ok_right (T : Top K mg) : FnOk P w K mg base CX0 4 T.f__law_right T.fd__law_right ["text"] (spP K RRt) := by
 have G__law_reading : FnOk P w K mg base CX0 3 T.f__law_reading T.fd__law_reading ["text"] (spP K RLr) := ok_lread T
 have G_read_number : FnOk P w K mg base (CX1 P w) 3 T.f_read_number T.fd_read_number ["text"] (spX K (RNu T.c_NoNumber)) := ok_nuX T
 refine T.F__law_right.okP sc__law_right (by rintro _ _ ⟨x, rfl, _⟩; rfl) fun cdv A outer s H E hr ds d hR => ?_
 have hu := hr.units
 obtain ⟨x, rfl, hx, h90, hsh, rfl⟩ := hR
 refine ⟨_, (pss_cons (ps_set (i := 1) sc__law_right.nd rfl (Or.inl rfl) (pe_call G__law_reading hr (by rfl) T.m__law_reading T.F__law_reading.kp T.b__law_reading .nil pass0 (pa_cons (pv 0) pa_nil st_Name)))
   (pss_cons (ps_set (i := 2) sc__law_right.nd rfl (Or.inl rfl) pe_non)
   (pss_cons (ps_set (i := 3) sc__law_right.nd rfl (Or.inl rfl) pe_non)
   (pss_cons (ps_tryA (i := 2) (j := 4) (pex_call G_read_number (hr.mono (by decide)) (by rfl) T.m_read_number T.F_read_number.kp T.b_read_number (pax_of (pa_cons (pv 0) pa_nil st_Name))) rfl rfl sc__law_right.nd rfl (Or.inl rfl) (by rfl) T.cm_OrderError rfl rfl (fun _ => (pss_one (ps_set (i := 3) sc__law_right.nd rfl (Or.inl rfl) (pv 4)))))
   (pss_cons (ps_if (pt_cmpR op_notN (pv 1) pe_non (nomark _)) (pss_cons (ps_if ((pw_or (pt_not (pt_val (pe_callB (call_isD (K := K) rfl) (by rfl) T.isinstance_ bIsi (pa_cons (pv 2) (pa_cons (pe_bltn (v := .ty "tuple") (by rfl) T.tuple_ bTup rfl) pa_nil))))) (pw_or1 (pt_cmpR (op_neDK (K := K) rfl hu) (pe_lc (x := "n") (cap := []) (js := []) ⟨rfl, by decide +kernel, by decide +kernel, rfl, (by show ∀ p ∈ (_ : List (Str × NameKind)), p.2 = NameKind.free → List.lookup p.1 (defScope s__law_right).names = some NameKind.cell; decide +kernel), by decide +kernel, by decide +kernel, by decide +kernel⟩ rfl rfl (fun _ _ h => h) (pi_tup (pv 2)) (fun _ _ _ _ => ⟨(pif_one (pt_val (pe_callB (call_isD (K := K) rfl) (by rfl) T.isinstance_ bIsi (pa_cons (pv 0) (pa_cons (pe_bltn (v := .ty "bool") (by rfl) T.bool_ bBool rfl) pa_nil))))), (pv 0)⟩)) (pe_lst pa_nil) (nomark _))))).pt (pss_one (ps_ret pe_bl)) pss_nil)
   (pss_one (ps_ret (pe_and (pe_cmpR op_isN (pv 3) pe_non (nomark _)) (pe_one (pe_cmpR (op_eqDK (K := K) rfl hu) (pv 2) (pv 1) (nomark _))))))) pss_nil)
   (pss_cons (ps_if (pt_val (pe_callB (call_isX (K := K) rfl) (by rfl) T.isinstance_ bIsi (pa_cons (pv 3) (pa_cons (pe_tup (pa_cons (pe_glob (v := .ref T.c_Clash) (by rfl) T.cm_Clash rfl) (pa_cons (pe_glob (v := .ref T.c_NoAsk) (by rfl) T.cm_NoAsk rfl) (pa_cons (pe_glob (v := .ref T.c_NoField) (by rfl) T.cm_NoField rfl) (pa_cons (pe_glob (v := .ref T.c_NoNet) (by rfl) T.cm_NoNet rfl) (pa_cons (pe_glob (v := .ref T.c_NoOrder) (by rfl) T.cm_NoOrder rfl) (pa_cons (pe_glob (v := .ref T.c_NoPlace) (by rfl) T.cm_NoPlace rfl) (pa_cons (pe_glob (v := .ref T.c_NoRow) (by rfl) T.cm_NoRow rfl) (pa_cons (pe_glob (v := .ref T.c_NoThing) (by rfl) T.cm_NoThing rfl) pa_nil st_Name) st_Name) st_Name) st_Name) st_Name) st_Name) st_Name) st_Name)) pa_nil)))) (pss_one (ps_ret pe_bl)) pss_nil)
   (pss_one (ps_ret (pe_and (pe_callB (call_isX (K := K) rfl) (by rfl) T.isinstance_ bIsi (pa_cons (pv 3) (pa_cons (pe_glob (v := .ref T.c_NoNumber) (by rfl) T.cm_NoNumber rfl) pa_nil))) (pe_one (pe_callB (call_isX (K := K) rfl) (by rfl) T.isinstance_ bIsi (pa_cons (pv 3) (pa_cons (pe_bltn (v := .ty "ValueError") (by rfl) T.ValueError_ bValueError rfl) pa_nil))))))))))))) , ?_⟩
 refine sv_seq (sv_asg (eg_er (er_call (ea_cons (er_var rfl) ea_nil) ⟨x, rfl, hx, rfl⟩) ?_))
 rw [lR_rN hsh]
 refine sv_seq (sv_asg (eg_er er_non ?_))
 refine sv_seq (sv_asg (eg_er er_non ?_))
 cases e : rN x.cps.toList with
 | some a =>
  show Sv K B0 _ [.dat (.str x), .dat (dF a), .dat .none, .dat .none, .un] _
  have hRn : RNu T.c_NoNumber [.str x] (.ok (dF a)) := ⟨x, rfl, hx, h90, by rw [e]; rfl⟩
  refine sv_seq (sv_tryOk (d := dF a) (fun E => er_callX (ea_cons (er_var rfl) ea_nil) hRn) ?_)
  show Sv K B0 _ [.dat (.str x), .dat (dF a), .dat (dF a), .dat .none, .un] _
  have hp : Pl 2 (dF a) := pl_tup fun y hy => by
   rcases List.mem_cons.mp hy with rfl | hy
   ·exact pl_int _
   ·rw [List.mem_singleton.mp hy]; exact pl_int _
  refine sv_seq (sv_ifT (et_c (et_test (er_notN (er_var rfl))) rfl) ?_)
  refine sv_seq (sv_ifF (et_c (et_or (et_not (et_b (er_isD (er_var rfl) T.tt))) fun _ => et_test (er_eqD (g := fun b => !b) (n := 2) (er_lc (js := []) [a.1, a.2] (fun z => PyData.int z) (fun _ => none) (ei_tup (er_var rfl)) (by show 2 < sizeLine; decide) fun z hz => lx0 (et_b (er_isD (er_var rfl) T.ib))) (er_lst ea_nil (Nat.zero_le _)) (pl_lst fun d hd => by cases hd) (pl_lst fun d hd => by cases hd) (by decide))) rfl) (sv_next ?_))
  refine sv_ret (eg_er (er_d (er_and (er_isN (er_var rfl)) fun _ => er_eqD (g := id) (n := 2) (er_var rfl) (er_var rfl) hp hp (by decide)) ?_) rfl)
  show PyData.bool (true && PySem.Spec.same (dF a) (dF a)) = .bool true
  rw [PySem.Spec.same_self]; rfl
 | none =>
  show Sv K B0 _ [.dat (.str x), .dat .none, .dat .none, .dat .none, .un] _
  have hRn : RNu T.c_NoNumber [.str x] (.error T.c_NoNumber) := ⟨x, rfl, hx, h90, by rw [e]; rfl⟩
  refine sv_seq (sv_tryAs (erX_call (ea_cons (er_var rfl) ea_nil) hRn) T.exm (Nat.lt_succ_self 4) ?_)
  show Sv K B0 _ [.dat (.str x), .dat .none, .dat .none, .thg (xcT T.c_NoNumber), .un] _
  refine sv_seq (sv_ifF (et_c (et_test (er_notN (er_var rfl))) rfl) (sv_next ?_))
  refine sv_seq (sv_ifF (et_b (er_isXs (us := [.ref T.c_Clash, .ref T.c_NoAsk, .ref T.c_NoField, .ref T.c_NoNet, .ref T.c_NoOrder, .ref T.c_NoPlace, .ref T.c_NoRow, .ref T.c_NoThing]) rfl T.x_NoNumber.c (fun _ _ _ q => q) (by show 8 ≤ sizeLine; decide) rfl T.oth)) (sv_next ?_))
  exact sv_ret (eg_flat (er_d (er_and (er_isX rfl T.x_NoNumber.c rfl T.own) fun _ => er_isX rfl T.x_NoNumber.c rfl T.vae) rfl) rfl rfl)
end
end K03
namespace K03
open PySem L2 Frac Lw Dig PySem.NumText
open Rd3
def OkS (n : Nat) (x : Str) : Prop := x.length ≤ n ∧ ∀ c ∈ x.cps.toList, c < 128
theorem OkS.app {a b : Nat} {x y : Str} (hx : OkS a x) (hy : OkS b y) : OkS (a + b) (x ++ y) := by
 refine ⟨by rw [strLen_append]; have := hx.1; have := hy.1; omega, fun c hc => ?_⟩
 rw [PySem.Str.cps_append, Array.toList_append] at hc
 rcases List.mem_append.mp hc with h | h
 ·exact hx.2 c h
 ·exact hy.2 c h
theorem OkS.mono {a b : Nat} {x : Str} (h : OkS a x) (hb : a ≤ b) : OkS b x := ⟨Nat.le_trans h.1 hb, h.2⟩
theorem OkS.slice {a : Nat} {x : Str} (h : OkS a x) (lo hi : Option Int) : OkS a (Txt.slice x lo hi) := by
 refine ⟨Nat.le_trans (Txt.slice_le x lo hi) h.1, fun c hc => ?_⟩
 unfold Txt.slice at hc
 split at hc
 ·exact h.2 c hc
 ·have hc : c ∈ ((PySem.Builtin.Str.strSliceIndices lo hi 1 x.length).filterMap fun i => x.cps[i]?) := by simpa using hc
  obtain ⟨i, _, hi⟩ := List.mem_filterMap.mp hc
  exact h.2 c (Array.mem_toList_iff.mpr (Array.mem_of_getElem? hi))
theorem OkS.fit {a b : Nat} {x y : Str} (hx : OkS a x) (hy : OkS b y) (h : a + b ≤ 1000) : x.length + y.length ≤ sizeLine := by
 have h3 : (20000 : Nat) < sizeLine := by decide
 have := hx.1
 have := hy.1
 omega
theorem OkS.z {a : Nat} {x : Str} (hx : OkS a x) (h : a ≤ 1000) : x.length ≤ sizeLine := by
 have h3 : (20000 : Nat) < sizeLine := by decide
 have := hx.1
 omega
theorem okS_num {m k : Nat} (h1 : 1 ≤ k) (h : m < 10 ^ k) : OkS k (Str.ofString (toString ((m : Nat) : Int))) := by
 refine ⟨by rw [len_codes, codes_num]; exact dig_len h1 h, fun c hc => ?_⟩
 rw [codes_num] at hc
 have := dig_digits m c hc
 omega
theorem okS_one {c : Nat} (h : c < 128) : OkS 1 ⟨#[c]⟩ := ⟨Nat.le_refl 1, fun d hd => by
 have : d = c := by simpa using hd
 rw [this]; exact h⟩
theorem fg_dig (n : Nat) : fg (dig n) = some n := by
 unfold fg
 rw [if_pos (fgB_iff.mpr (fig_dig n)), dig_val]
theorem rS_tp (z : Int) : rS (tp z) = some z := by
 unfold tp
 by_cases h : z < 0
 ·rw [if_pos h]
  show (match fg (dig z.natAbs) with | some n => if n = 0 then none else some (-(n : Int)) | none => none) = _
  rw [fg_dig]
  show (if z.natAbs = 0 then none else some (-(z.natAbs : Int))) = _
  rw [if_neg (by omega)]
  congr 1
  omega
 ·rw [if_neg h, rS_pos, fg_dig]
  ·show some ((z.natAbs : Nat) : Int) = _
   congr 1
   omega
  ·intro e
   cases hd : dig z.natAbs with
   | nil => exact dig_ne _ hd
   | cons c r =>
    rw [hd] at e
    have := dig_digits z.natAbs c (by rw [hd]; exact List.mem_cons_self)
    have : c = 45 := Option.some.inj e
    omega
theorem spl_plain {l : List Nat} (h : 47 ∉ l) : spl l = [l] := J_inj (spl_ne l) (List.cons_ne_nil _ _) (spl_free l) (fun a ha => by rw [List.mem_singleton.mp ha]; exact h) (J_spl l)
theorem spl_two {a b : List Nat} (ha : 47 ∉ a) (hb : 47 ∉ b) : spl (a ++ 47 :: b) = [a, b] := J_inj (spl_ne _) (List.cons_ne_nil _ _) (spl_free _) (fun x hx => by
 rcases List.mem_cons.mp hx with rfl | hx
 ·exact ha
 ·rw [List.mem_singleton.mp hx]; exact hb) (J_spl _)
theorem rN_nt {a : Int × Int} (h : Lst a) : rN (nt a) = some a := by
 have h1 : 1 ≤ a.2 := h.1
 unfold nt rN
 by_cases e : a.2 = 1
 ·rw [if_pos e, List.append_nil, spl_plain (tp47 _)]
  show (rS (tp a.1)).map _ = _
  rw [rS_tp]
  show some (a.1, (1 : Int)) = _
  rw [← e]
 ·rw [if_neg e, spl_two (tp47 _) (no47 (dig_digits _))]
  show (match rS (tp a.1), fg (dig a.2.natAbs) with | some z, some n => if n = 0 then none else some (norm z n) | _, _ => none) = _
  rw [rS_tp, fg_dig]
  show (if a.2.natAbs = 0 then none else some (norm a.1 a.2.natAbs)) = _
  rw [if_neg (by omega), show ((a.2.natAbs : Nat) : Int) = a.2 by omega, norm_id h]
theorem nt_ok {x : Str} {a : Int × Int} (h : NumOk a) (e : x.cps.toList = nt a) : OkS 43 x := by
 have h1 : 1 ≤ a.2 := h.1.1
 have l1 := dig_len (k := 20) (by decide) h.2.1
 have l2 := dig_len (m := a.2.natAbs) (k := 21) (by decide) (Nat.lt_of_le_of_lt h.2.2 (by decide))
 have d1 : ∀ c ∈ tp a.1, c < 128 := fun c hc => by
  unfold tp at hc
  split at hc
  ·rcases List.mem_cons.mp hc with rfl | hc
   ·decide
   ·have := dig_digits _ c hc; omega
  ·have := dig_digits _ c hc; omega
 have t1 : (tp a.1).length ≤ 21 := by
  unfold tp
  split
  ·rw [List.length_cons]; omega
  ·omega
 refine ⟨?_, fun c hc => ?_⟩
 ·rw [len_codes, e]
  unfold nt
  rw [List.length_append]
  split
  ·show (tp a.1).length + 0 ≤ 43
   omega
  ·rw [List.length_cons]; omega
 ·rw [e] at hc
  unfold nt at hc
  rcases List.mem_append.mp hc with h | h
  ·exact d1 c h
  ·split at h
   ·cases h
   ·rcases List.mem_cons.mp h with rfl | h
    ·decide
    ·have := dig_digits _ c h; omega
theorem tp_str (z : Int) : (Str.ofString (toString z)).cps.toList = tp z := by
 unfold tp
 by_cases h : z < 0
 ·rw [if_pos h]
  have := codes_neg z.natAbs (by omega)
  rw [show -((z.natAbs : Nat) : Int) = z by omega] at this
  exact this
 ·rw [if_neg h]
  have := codes_num z.natAbs
  rw [show ((z.natAbs : Nat) : Int) = z by omega] at this
  exact this
def RTx (ds : List PyData) (d : PyData) : Prop := ∃ (a : Int × Int) (x : Str), ds = [dF a] ∧ NumOk a ∧ d = .str x ∧ x.cps.toList = nt a
def PreSp (_ : Unit) (ds : List PyData) : Prop := ∃ a : Int × Int, ds = [dF a] ∧ NumOk a
def RSp (_ : Unit) (ds : List PyData) (d : PyData) (_ : Unit) : Prop := ∃ x : Str, d = .str x ∧ OkS 89 x
section
variable {P : Program} {w : World} {K : PySem.W.Frag} {mg : Str → Option Value} {base : Heap}
theorem ok_text (T : Top K mg) : FnOk P w K mg base CX0 1 T.f__law_text T.fd__law_text ["number"] (spP K RTx) := by
 refine T.F__law_text.okP sc__law_text (by rintro _ _ ⟨a, x, rfl, _⟩; rfl) fun cdv A outer s H E hr ds d hR => ?_
 obtain ⟨a, x, rfl, hN, rfl, hx⟩ := hR
 refine ⟨_, (pss_one (ps_ret (pe_op op_add_str (pe_callTy call_str_int (by rfl) T.str_ bStr (pa_cons (pe_ix (ix_tupK (K := K) rfl) (pv 0) pe_int (fun _ _ => rfl)) pa_nil st_Subscript)) (pe_ix (ix_listK (K := K) rfl) (pe_lst (pa_cons (pe_op op_add_str pe_str (pe_callTy call_str_int (by rfl) T.str_ bStr (pa_cons (pe_ix (ix_tupK (K := K) rfl) (pv 0) pe_int (fun _ _ => rfl)) pa_nil st_Subscript))) (pa_cons pe_str pa_nil st_Constant) st_BinOp)) (pe_callTy call_int1 (by rfl) T.int_ bInt (pa_cons (pe_cmpR op_eq (pe_ix (ix_tupK (K := K) rfl) (pv 0) pe_int (fun _ _ => rfl)) pe_int (nomark _)) pa_nil st_Compare)) (fun _ _ => rfl))))) , ?_⟩
 have h1 : 1 ≤ a.2 := hN.1.1
 have g1 : a.1.natAbs.log2 < 1920 := lg (Nat.lt_of_lt_of_le hN.2.1 (by decide +kernel))
 have g2 : a.2.natAbs.log2 < 1920 := lg (Nat.lt_of_le_of_lt hN.2.2 (by decide +kernel))
 have e0 : Er K B0 (tOp (rIxT K) (tVar 0) (tC (.int 0))) [.dat (dF a)] (.int a.1) := er_ixT (n := 0) (er_var rfl) er_int rfl rfl
 have e1 : Er K B0 (tOp (rIxT K) (tVar 0) (tC (.int 1))) [.dat (dF a)] (.int a.2) := er_ixT (n := 1) (er_var rfl) er_int rfl rfl
 have hxo := nt_ok hN hx
 have s1 : OkS 21 (Str.ofString (toString a.2)) := by
  have := okS_num (m := a.2.natAbs) (k := 21) (by decide) (Nat.lt_of_le_of_lt hN.2.2 (by decide))
  rw [show ((a.2.natAbs : Nat) : Int) = a.2 by omega] at this
  exact this
 have sS : OkS 1 (Str.ofString "/") := ⟨by decide +kernel, by decide +kernel⟩
 have l0 : (Str.ofString (toString a.1)).length ≤ 43 := by
  rw [len_codes, tp_str]
  have := hxo.1
  rw [len_codes, hx] at this
  unfold nt at this
  rw [List.length_append] at this
  omega
 have h3 : (20000 : Nat) < sizeLine := by decide
 have fin : ∀ (y z : Str), (if a.2 = 1 then z = Str.ofString "" else z = Str.ofString "/" ++ Str.ofString (toString a.2)) → y = Str.ofString (toString a.1) ++ z → y = x := fun y z hz hy => by
  subst hy
  refine str_ext ?_
  rw [PySem.Str.cps_append, Array.toList_append, tp_str, hx]
  unfold nt
  congr 1
  split at hz
  ·rename_i e; rw [hz, if_pos e]; rfl
  ·rename_i e
   rw [hz, if_neg e, PySem.Str.cps_append, Array.toList_append, tp_str, sl47]
   unfold tp
   rw [if_neg (by omega)]; rfl
 have lst : Er K B0 _ [.dat (dF a)] (.list [.str (Str.ofString "/" ++ Str.ofString (toString a.2)), .str (Str.ofString "")]) := er_lst (ea_cons (er_addS (er_str (x := Str.ofString "/")) (er_strI (ea_cons e1 ea_nil) g2) (sS.fit s1 (by decide))) (ea_cons (er_str (x := Str.ofString "")) ea_nil)) (by show 2 ≤ sizeLine; decide)
 by_cases e : a.2 = 1
 ·refine sv_ret (eg_er (er_d (er_addS (er_strI (ea_cons e0 ea_nil) g1) (er_ixL (n := 1) lst (er_d (er_intB (ea_cons (er_eqI e1 er_int) ea_nil)) (by rw [decide_eq_true e])) rfl rfl) (by show _ + 0 ≤ _; omega)) ?_) rfl)
  exact congrArg PyData.str (fin _ _ (by rw [if_pos e]) rfl)
 ·refine sv_ret (eg_er (er_d (er_addS (er_strI (ea_cons e0 ea_nil) g1) (er_ixL (n := 0) lst (er_d (er_intB (ea_cons (er_eqI e1 er_int) ea_nil)) (by rw [decide_eq_false e])) rfl rfl) ?_) ?_) rfl)
  ·have := (sS.app s1).1
   omega
  ·exact congrArg PyData.str (fin _ _ (by rw [if_neg e]) rfl)
theorem sgn94 : (Str.ofString " !\"#$&'()*+,-./0123456789:;<=>?@ABCDEFGHIJKLMNOPQRSTUVWXYZ[\\]^_`abcdefghijklmnopqrstuvwxyz{|}~" : Str).cps.toList.length = 94 ∧ ∀ c ∈ (Str.ofString " !\"#$&'()*+,-./0123456789:;<=>?@ABCDEFGHIJKLMNOPQRSTUVWXYZ[\\]^_`abcdefghijklmnopqrstuvwxyz{|}~" : Str).cps.toList, c < 128 := by decide +kernel
theorem sgnF : (Str.ofString "0123456789-/ 0123456789-/1234567890+.e_ abcdefgh()'!~" : Str).cps.toList.length = 53 ∧ ∀ c ∈ (Str.ofString "0123456789-/ 0123456789-/1234567890+.e_ abcdefgh()'!~" : Str).cps.toList, c < 128 := by decide +kernel
theorem eg_sign {B : Hp} {ρ : List PV} {i j n : Nat} {X : XK} {p : Addr} {fp : List Addr} {te : TE} {x : Str} {R : PV → List PV → Prop} (hj : ρ[j]? = some (.dat (.str x))) (hi : ρ[i]? = some ((dk1 K).pv () p fp)) (hm : Er K B te (msk ρ) (.int (n : Nat))) (hx : x.cps.toList.length = n ∧ ∀ c ∈ x.cps.toList, c < 128) (h1 : 1 ≤ n) (h2 : n ≤ 1000)
  (k : ∀ c, c < 128 → R (.dat (.str ⟨#[c]⟩)) (ρ.set i ((dk1 K).pv () p fp))) : Eg K B (tOp rIxS (tVar j) (tCall (spT (dk1 K) PreTk RTk) [] X (tCons (tVar i) (tCons te tNil)))) ρ R := by
 have h3 : (20000 : Nat) < sizeLine := by decide
 refine eg_op (eg_er (er_var (by rw [List.getElem?_map, hj]; rfl)) ⟨_, rfl, eg_take hi hm (by omega) (by omega) fun r hr => ?_⟩)
 obtain ⟨hl, hc⟩ := hx
 have hr : r < x.cps.toList.length := by omega
 refine ⟨_, .str ⟨#[x.cps.toList[r]]⟩, rfl, fun G σ va vb ha hb => ev_op (ev_c ha) (ev_c hb) fun G1 H u v Q s1 s2 hu hv k => ⟨x, (r : Nat), _, hu.str, hv.int, by rw [len_codes]; omega, atI_nat (List.getElem?_eq_getElem hr), k _ G1 H (Grow.refl s2) (dat_str _)⟩, k _ (hc _ (List.getElem_mem hr))⟩
theorem ok_free (T : Top K mg) : FnOk P w K mg base CX0 2 T.f__law_free T.fd__law_free ["deck"] (spT (dk1 K) PreNm RSp) := by
 have G__law_take : FnOk P w K mg base CX0 1 T.f__law_take T.fd__law_take ["deck", "many"] (spT (dk1 K) PreTk RTk) := ok_takeT T
 refine T.F__law_free.okT sc__law_free (by rintro _ _ rfl; rfl) fun cdv A outer s H E hr p fp u ds hP => ?_
 cases (show ds = [] from hP)
 have h3 : (20000 : Nat) < sizeLine := by decide
 refine ⟨_, (pss_cons (ps_set (i := 1) sc__law_free.nd rfl (Or.inr rfl) pe_str)
   (pss_one (ps_ret (pe_bm PySem.F.plainAttrs_str PySem.F.slot_str_join PySem.F.type_str_join (mt_join (K := K) rfl) pe_str (pa_cons (pe_lc (x := "k") (cap := ["signs", "deck"]) (js := [1, 0]) ⟨rfl, by decide +kernel, by decide +kernel, rfl, (by show ∀ p ∈ (_ : List (Str × NameKind)), p.2 = NameKind.free → List.lookup p.1 (defScope s__law_free).names = some NameKind.cell; decide +kernel), by decide +kernel, by decide +kernel, by decide +kernel⟩ rfl rfl (fun _ _ h => h) (pi_range1 (by rfl) T.range_ (pa_cons (pe_call G__law_take hr (by rfl) T.m__law_take T.F__law_take.kp T.b__law_take .nil pass0 (pa_cons (pv 0) (pa_cons pe_int pa_nil st_Constant) st_Name)) pa_nil st_Call)) (fun _ _ _ _ => ⟨pif_nil, (pe_ix ix_str (pv 1) (pe_call G__law_take hr (by rfl) T.m__law_take T.F__law_take.kp T.b__law_take .nil pass0 (pa_cons (pv 2) (pa_cons (pe_callB call_len_str (by rfl) T.len_ PySem.boot_len (pa_cons (pv 1) pa_nil st_Name)) pa_nil st_Call) st_Name)) (fun _ _ => rfl))⟩)) pa_nil st_ListComp))))) , ?_⟩
 refine sv_seq (sv_asg (eg_er er_str ?_))
 refine sv_ret (eg_join (eg_frz (eg_lcT (D := dk1 K) (p := p) (fp := fp) (i := 0) (kp := 1) rfl (egi_rng (ega_cons (eg_take rfl er_int (by decide) (by decide) fun r hr => ⟨_, rfl, ega_ea ea_nil ⟨r, rfl, by omega, (), fun k out _ => ∃ zs : List Str, out = zs.map .str ∧ ∀ z ∈ zs, OkS 1 z, rfl, by rw [List.length_map, List.length_range]; omega, ⟨[], rfl, fun _ h => (by cases h)⟩, ?_, ?_⟩⟩)))))) 
 ·rintro k hk out _ ⟨zs, rfl, hz⟩ hol
  refine eg_sign (n := 53) (j := 1) (i := 2) rfl rfl (er_d (er_lenS (ea_cons (er_var rfl) ea_nil) (by rw [len_codes, sgnF.1]; omega)) (by rw [len_codes, sgnF.1])) sgnF (by decide) (by decide) fun c hc => ⟨_, (), rfl, rfl, zs ++ [⟨#[c]⟩], by rw [List.map_append]; rfl, fun z hz' => ?_⟩
  rcases List.mem_append.mp hz' with h | h
  ·exact hz z h
  ·rw [List.mem_singleton.mp h]; exact okS_one hc
 ·rintro out _ ⟨zs, rfl, hz⟩ hol
  rw [List.length_map, List.length_map, List.length_range] at hol
  have hsum : (zs.map fun z => z.length).sum ≤ zs.length := by
   clear hol
   induction zs with
   | nil => exact Nat.le_refl 0
   | cons z zs ih =>
    rw [List.map_cons, List.sum_cons, List.length_cons]
    have := (hz z List.mem_cons_self).1
    have := ih fun y hy => hz y (List.mem_cons_of_mem _ hy)
    omega
  have hr7 : r < 7 := by omega
  refine ⟨_, rfl, zs, rfl, ?_, _, (), rfl, ⟨_, rfl, ?_⟩, rfl⟩
  ·show _ + zs.length * 0 ≤ _
   omega
  ·have ej : (Txt.join (Str.ofString "") zs).cps.toList = (zs.map fun y => y.cps.toList).flatten := by rw [em]; exact join_codes zs
   refine ⟨?_, fun c hc => ?_⟩
   ·rw [len_codes, ej, List.length_flatten, List.map_map]
    have : (zs.map (List.length ∘ fun y => y.cps.toList)).sum = (zs.map fun z => z.length).sum := congrArg List.sum (List.map_congr_left fun z _ => (len_codes z).symm)
    omega
   ·rw [ej] at hc
    obtain ⟨l, hl, hcl⟩ := List.mem_flatten.mp hc
    obtain ⟨z, hz', rfl⟩ := List.mem_map.mp hl
    exact (hz z hz').2 c hcl
theorem oC (s : String) (h : (Str.ofString s).length ≤ 4 ∧ ∀ c ∈ (Str.ofString s : Str).cps.toList, c < 128) : OkS 4 (Str.ofString s) := h
theorem mod18 (z : Int) : ∃ k : Nat, z % 1000000000000000000 = (k : Nat) ∧ k < 10 ^ 18 := by
 have h0 := Int.emod_nonneg z (show (1000000000000000000 : Int) ≠ 0 by decide)
 have h1 := Int.emod_lt_of_pos z (show (0 : Int) < 1000000000000000000 by decide)
 obtain ⟨k, hk⟩ := Int.eq_ofNat_of_zero_le h0
 exact ⟨k, hk, by omega⟩
theorem er_more {B : Hp} {ρ : List PV} {ta : TE} {t : TA} {L : List Str} {ds : List PyData} (ha : Er K B ta ρ (.list (L.map .str))) (hb : Ea K B t ρ ds) (hl : L.length + ds.length ≤ 1000) : Er K B (tOp rCat ta (tLst t)) ρ (.list (L.map .str ++ ds)) := by
 have h3 : (20000 : Nat) < sizeLine := by decide
 exact er_catL ha (er_lst hb (by omega)) (by rw [List.length_map]; omega)
theorem ok_spoilt (T : Top K mg) : FnOk P w K mg base CX0 2 T.f__law_spoilt T.fd__law_spoilt ["deck", "number"] (spT (dk1 K) PreSp RSp) := by
 have G__law_take : FnOk P w K mg base CX0 1 T.f__law_take T.fd__law_take ["deck", "many"] (spT (dk1 K) PreTk RTk) := ok_takeT T
 have G__law_text : FnOk P w K mg base CX0 1 T.f__law_text T.fd__law_text ["number"] (spP K RTx) := ok_text T
 refine T.F__law_spoilt.okT sc__law_spoilt (by rintro _ _ ⟨a, rfl, _⟩; rfl) fun cdv A outer s H E hr p fp u ds hP => ?_
 obtain ⟨a, rfl, hN⟩ := hP
 have h3 : (20000 : Nat) < sizeLine := by decide
 refine ⟨_, (pss_cons (ps_set (i := 2) sc__law_spoilt.nd rfl (Or.inl rfl) (pe_call G__law_text hr (by rfl) T.m__law_text T.F__law_text.kp T.b__law_text .nil pass0 (pa_cons (pv 1) pa_nil st_Name)))
   (pss_cons (ps_set (i := 3) sc__law_spoilt.nd rfl (Or.inl rfl) pe_str)
   (pss_cons (ps_set (i := 4) sc__law_spoilt.nd rfl (Or.inl rfl) (pe_ix ix_str (pv 3) (pe_call G__law_take hr (by rfl) T.m__law_take T.F__law_take.kp T.b__law_take .nil pass0 (pa_cons (pv 0) (pa_cons pe_int pa_nil st_Constant) st_Name)) (fun _ _ => rfl)))
   (pss_cons (ps_set (i := 5) sc__law_spoilt.nd rfl (Or.inl rfl) (pe_call G__law_take hr (by rfl) T.m__law_take T.F__law_take.kp T.b__law_take .nil pass0 (pa_cons (pv 0) (pa_cons (pe_op op_add (pe_callB call_len_str (by rfl) T.len_ PySem.boot_len (pa_cons (pv 2) pa_nil st_Name)) pe_int) pa_nil st_BinOp) st_Name)))
   (pss_cons (ps_set (i := 6) sc__law_spoilt.nd rfl (Or.inl rfl) (pe_callTy call_str_int (by rfl) T.str_ bStr (pa_cons (pe_call G__law_take hr (by rfl) T.m__law_take T.F__law_take.kp T.b__law_take .nil pass0 (pa_cons (pv 0) (pa_cons pe_int pa_nil st_Constant) st_Name)) pa_nil st_Call)))
   (pss_cons (ps_set (i := 7) sc__law_spoilt.nd rfl (Or.inl rfl) (pe_op op_add_str (pe_op op_add_str (pe_callTy call_str_int (by rfl) T.str_ bStr (pa_cons (pe_op op_mulW pe_int (pe_op op_mod (pe_ix (ix_tupK (K := K) rfl) (pv 1) pe_int (fun _ _ => rfl)) (pe_op op_pow pe_int pe_int))) pa_nil st_BinOp)) pe_str) (pe_callTy call_str_int (by rfl) T.str_ bStr (pa_cons (pe_op op_mulW pe_int (pe_op op_mod (pe_ix (ix_tupK (K := K) rfl) (pv 1) pe_int (fun _ _ => rfl)) (pe_op op_pow pe_int pe_int))) pa_nil st_BinOp))))
   (pss_cons (ps_set (i := 8) sc__law_spoilt.nd rfl (Or.inl rfl) (pe_lst (pa_cons (pe_op op_add_str (pe_op op_add_str (pe_slice sl_str (pv 2) po_none (po_some (pv 5))) (pv 4)) (pe_slice sl_str (pv 2) (po_some (pv 5)) po_none)) (pa_cons (pe_op op_add_str (pe_slice sl_str (pv 2) po_none (po_some (pv 5))) (pe_slice sl_str (pv 2) (po_some (pe_op op_add (pv 5) pe_int)) po_none)) (pa_cons (pe_op op_add_str (pe_op op_add_str (pe_slice sl_str (pv 2) po_none (po_some (pv 5))) (pv 4)) (pe_slice sl_str (pv 2) (po_some (pe_op op_add (pv 5) pe_int)) po_none)) (pa_cons (pe_op op_add_str pe_str (pv 2)) pa_nil st_BinOp) st_BinOp) st_BinOp) st_BinOp)))
   (pss_cons (ps_set (i := 8) sc__law_spoilt.nd rfl (Or.inl rfl) (pe_op op_cat (pv 8) (pe_lst (pa_cons (pe_op op_add_str pe_str (pv 2)) (pa_cons (pe_op op_add_str (pe_op op_add_str (pv 2) pe_str) (pv 6)) (pa_cons (pe_op op_add_str (pe_op op_add_str (pv 6) pe_str) (pv 6)) (pa_cons (pe_op op_add_str pe_str (pv 6)) (pa_cons (pv 7) (pa_cons (pe_op op_add_str (pv 2) pe_str) (pa_cons (pe_op op_add_str pe_str (pv 2)) pa_nil st_BinOp) st_BinOp) st_Name) st_BinOp) st_BinOp) st_BinOp) st_BinOp))))
   (pss_cons (ps_set (i := 8) sc__law_spoilt.nd rfl (Or.inl rfl) (pe_op op_cat (pv 8) (pe_lst (pa_cons (pe_op op_add_str (pe_op op_add_str (pv 6) pe_str) (pv 6)) (pa_cons (pe_op op_add_str (pe_op op_add_str (pv 6) pe_str) (pv 6)) (pa_cons (pe_op op_add_str pe_str (pv 2)) (pa_cons (pe_op op_add_str (pv 2) pe_str) (pa_cons pe_str (pa_cons pe_str (pa_cons pe_str (pa_cons pe_str (pa_cons pe_str pa_nil st_Constant) st_Constant) st_Constant) st_Constant) st_Constant) st_BinOp) st_BinOp) st_BinOp) st_BinOp))))
   (pss_one (ps_ret (pe_ix (ix_listK (K := K) rfl) (pv 8) (pe_call G__law_take hr (by rfl) T.m__law_take T.F__law_take.kp T.b__law_take .nil pass0 (pa_cons (pv 0) (pa_cons (pe_callB (call_lenK (K := K) rfl) (by rfl) T.len_ PySem.boot_len (pa_cons (pv 8) pa_nil st_Name)) pa_nil st_Call) st_Name)) (fun _ _ => rfl))))))))))))) , ?_⟩
 obtain ⟨text, htx⟩ : ∃ x : Str, x.cps.toList = nt a := ⟨⟨(nt a).toArray⟩, rfl⟩
 have hT := nt_ok hN htx
 refine sv_seq (sv_asg (eg_er (er_call (ea_cons (er_var rfl) ea_nil) ⟨a, text, rfl, hN, rfl, htx⟩) ?_))
 refine sv_seq (sv_asg (eg_er er_str ?_))
 generalize hsg : (Str.ofString " !\"#$&'()*+,-./0123456789:;<=>?@ABCDEFGHIJKLMNOPQRSTUVWXYZ[\\]^_`abcdefghijklmnopqrstuvwxyz{|}~" : Str) = signs
 have h94 : signs.cps.toList.length = 94 ∧ ∀ c ∈ signs.cps.toList, c < 128 := by rw [← hsg]; exact sgn94
 refine sv_seq (sv_asg (eg_sign (n := 94) (j := 3) (i := 0) rfl rfl er_int h94 (by decide) (by decide) fun c hc => ?_))
 generalize hgs : (⟨#[c]⟩ : Str) = sign
 have hG : OkS 1 sign := by rw [← hgs]; exact okS_one hc
 show Sv K B0 _ [(dk1 K).pv () p fp, .dat (dF a), .dat (.str text), .dat (.str signs), .dat (.str sign), .un, .un, .un, .un] _
 refine sv_seq (sv_asg (eg_take rfl (er_d (er_i0 (er_lenS (ea_cons (er_var rfl) ea_nil) (hT.z (by decide))) er_int fun _ => dat_int _) (show _ = PyData.int ((text.length + 1 : Nat) : Int) by rfl)) (by omega) (by have := hT.1; omega) fun n hn => ?_))
 refine sv_seq (sv_asg (eg_cb1 (eg_take rfl er_int (by decide) (by decide) fun r hr => ⟨_, .str (Str.ofString (toString ((r : Nat) : Int))), rfl, fun G σ va ha => ev_strI (eva_cons (ev_c ha) eva_nil) (lg (by rw [Int.natAbs_natCast]; exact Nat.lt_of_lt_of_le (show r < 12 by omega) (by decide +kernel))), ?_⟩)))
 have hM : OkS 2 (Str.ofString (toString ((r : Nat) : Int))) := okS_num (by decide) (by omega)
 generalize (Str.ofString (toString ((r : Nat) : Int))) = small at hM
 show Sv K B0 _ [(dk1 K).pv () p fp, .dat (dF a), .dat (.str text), .dat (.str signs), .dat (.str sign), .dat (.int (n : Nat)), .dat (.str small), .un, .un] _
 obtain ⟨k1, e1, l1⟩ := mod18 a.1
 obtain ⟨k2, e2, l2⟩ := mod18 a.2
 have hw1 : ∀ k : Nat, k < 10 ^ 18 → OkS 19 (Str.ofString (toString ((2 * k : Nat) : Int))) := fun k hk => okS_num (by decide) (by omega)
 have hlg : ∀ k : Nat, k < 10 ^ 18 → ((2 * k : Nat) : Int).natAbs.log2 < 1920 := fun k hk => lg (by rw [Int.natAbs_natCast]; exact Nat.lt_of_lt_of_le (show 2 * k < 10 ^ 19 by omega) (by decide +kernel))
 have hmw : ∀ k : Nat, k < 10 ^ 18 → CMulW 2 (k : Nat) := fun k hk => mw (by decide +kernel) (by rw [Int.natAbs_natCast]; exact Nat.lt_of_lt_of_le hk (by decide +kernel))
 have m18 : (0 : Int) < 1000000000000000000 := by decide
 have pw : ∀ {ρ : List PV}, Er K B0 (tOp (rI CPow fun i j => V.int (i ^ j.toNat)) (tC (.int 10)) (tC (.int 18))) ρ (.int 1000000000000000000) := fun {ρ} => er_pow ⟨by decide, by decide, by decide⟩ (by decide)
 refine sv_seq (sv_asg (eg_er (er_addS (er_addS (er_strI (i := ((2 * k1 : Nat) : Int)) (ea_cons (er_d (er_iC er_int (er_d (er_iC (er_ixT (n := 0) (er_var rfl) er_int rfl rfl) pw m18 fun _ => dat_int _) (congrArg PyData.int e1)) (hmw k1 l1) fun _ => dat_int _) (by congr 1)) ea_nil) (hlg k1 l1)) er_str ((hw1 k1 l1).fit (oC "/" (by decide +kernel)) (by decide))) (er_strI (i := ((2 * k2 : Nat) : Int)) (ea_cons (er_d (er_iC er_int (er_d (er_iC (er_ixT (n := 1) (er_var rfl) er_int rfl rfl) pw m18 fun _ => dat_int _) (congrArg PyData.int e2)) (hmw k2 l2) fun _ => dat_int _) (by congr 1)) ea_nil) (hlg k2 l2)) (((hw1 k1 l1).app (oC "/" (by decide +kernel))).fit (hw1 k2 l2) (by decide))) ?_))
 have hW := ((hw1 k1 l1).app (oC "/" (by decide +kernel))).app (hw1 k2 l2)
 generalize (Str.ofString (toString ((2 * k1 : Nat) : Int)) ++ Str.ofString "/" ++ Str.ofString (toString ((2 * k2 : Nat) : Int))) = twice at hW
 show Sv K B0 _ [(dk1 K).pv () p fp, .dat (dF a), .dat (.str text), .dat (.str signs), .dat (.str sign), .dat (.int (n : Nat)), .dat (.str small), .dat (.str twice), .un] _
 obtain ⟨LL1, q1, a1⟩ : ∃ L : List Str, L = [Txt.slice text none (some ((n : Nat) : Int)) ++ sign ++ Txt.slice text (some ((n : Nat) : Int)) none, Txt.slice text none (some ((n : Nat) : Int)) ++ Txt.slice text (some (((n : Nat) : Int) + 1)) none, Txt.slice text none (some ((n : Nat) : Int)) ++ sign ++ Txt.slice text (some (((n : Nat) : Int) + 1)) none, Str.ofString "0" ++ text] ∧ ∀ z ∈ L, OkS 89 z := ⟨_, rfl, (List.forall_mem_cons.mpr ⟨(((hT.slice _ _).app hG).app (hT.slice _ _)).mono (by decide), (List.forall_mem_cons.mpr ⟨((hT.slice _ _).app (hT.slice _ _)).mono (by decide), (List.forall_mem_cons.mpr ⟨(((hT.slice _ _).app hG).app (hT.slice _ _)).mono (by decide), (List.forall_mem_cons.mpr ⟨((oC "0" (by decide +kernel)).app hT).mono (by decide), (fun _ h => nomatch h)⟩)⟩)⟩)⟩)⟩
 refine sv_seq (sv_asg (eg_er (er_d (er_lst (ea_cons (er_addS (er_addS (er_slS (er_var (i := 2) rfl) eo_none (eo_var (i := 5) (j := (n : Nat)) rfl) (hT.z (by decide))) (er_var (i := 4) rfl) ((hT.slice _ _).fit hG (by decide))) (er_slS (er_var (i := 2) rfl) (eo_var (i := 5) (j := (n : Nat)) rfl) eo_none (hT.z (by decide))) (((hT.slice _ _).app hG).fit (hT.slice _ _) (by decide))) (ea_cons (er_addS (er_slS (er_var (i := 2) rfl) eo_none (eo_var (i := 5) (j := (n : Nat)) rfl) (hT.z (by decide))) (er_slS (er_var (i := 2) rfl) (eo_op (g := fun a b => a + b) (i := 5) (j := (n : Nat)) (c := 1) rfl) eo_none (hT.z (by decide))) ((hT.slice _ _).fit (hT.slice _ _) (by decide))) (ea_cons (er_addS (er_addS (er_slS (er_var (i := 2) rfl) eo_none (eo_var (i := 5) (j := (n : Nat)) rfl) (hT.z (by decide))) (er_var (i := 4) rfl) ((hT.slice _ _).fit hG (by decide))) (er_slS (er_var (i := 2) rfl) (eo_op (g := fun a b => a + b) (i := 5) (j := (n : Nat)) (c := 1) rfl) eo_none (hT.z (by decide))) (((hT.slice _ _).app hG).fit (hT.slice _ _) (by decide))) (ea_cons (er_addS (er_str (x := Str.ofString "0")) (er_var (i := 2) rfl) ((oC "0" (by decide +kernel)).fit hT (by decide))) ea_nil)))) (by show 4 ≤ sizeLine; decide)) (show _ = PyData.list (LL1.map .str) by rw [q1]; rfl)) ?_))
 have n1 : LL1.length = 4 := by rw [q1]; rfl
 clear q1
 show Sv K B0 _ [(dk1 K).pv () p fp, .dat (dF a), .dat (.str text), .dat (.str signs), .dat (.str sign), .dat (.int (n : Nat)), .dat (.str small), .dat (.str twice), .dat (.list (LL1.map .str))] _
 obtain ⟨LL2, q2, a2⟩ : ∃ L : List Str, L = [Str.ofString "-" ++ text, text ++ Str.ofString "/" ++ small, small ++ Str.ofString "/" ++ small, Str.ofString "-" ++ small, twice, text ++ Str.ofString "/", Str.ofString "/" ++ text] ∧ ∀ z ∈ L, OkS 89 z := ⟨_, rfl, (List.forall_mem_cons.mpr ⟨((oC "-" (by decide +kernel)).app hT).mono (by decide), (List.forall_mem_cons.mpr ⟨((hT.app (oC "/" (by decide +kernel))).app hM).mono (by decide), (List.forall_mem_cons.mpr ⟨((hM.app (oC "/" (by decide +kernel))).app hM).mono (by decide), (List.forall_mem_cons.mpr ⟨((oC "-" (by decide +kernel)).app hM).mono (by decide), (List.forall_mem_cons.mpr ⟨hW.mono (by decide), (List.forall_mem_cons.mpr ⟨(hT.app (oC "/" (by decide +kernel))).mono (by decide), (List.forall_mem_cons.mpr ⟨((oC "/" (by decide +kernel)).app hT).mono (by decide), (fun _ h => nomatch h)⟩)⟩)⟩)⟩)⟩)⟩)⟩)⟩
 have n2 : LL2.length = 7 := by rw [q2]; rfl
 refine sv_seq (sv_asg (eg_er (er_d (er_more (er_var rfl) (ea_cons (er_addS (er_str (x := Str.ofString "-")) (er_var (i := 2) rfl) ((oC "-" (by decide +kernel)).fit hT (by decide))) (ea_cons (er_addS (er_addS (er_var (i := 2) rfl) (er_str (x := Str.ofString "/")) (hT.fit (oC "/" (by decide +kernel)) (by decide))) (er_var (i := 6) rfl) ((hT.app (oC "/" (by decide +kernel))).fit hM (by decide))) (ea_cons (er_addS (er_addS (er_var (i := 6) rfl) (er_str (x := Str.ofString "/")) (hM.fit (oC "/" (by decide +kernel)) (by decide))) (er_var (i := 6) rfl) ((hM.app (oC "/" (by decide +kernel))).fit hM (by decide))) (ea_cons (er_addS (er_str (x := Str.ofString "-")) (er_var (i := 6) rfl) ((oC "-" (by decide +kernel)).fit hM (by decide))) (ea_cons (er_var (i := 7) rfl) (ea_cons (er_addS (er_var (i := 2) rfl) (er_str (x := Str.ofString "/")) (hT.fit (oC "/" (by decide +kernel)) (by decide))) (ea_cons (er_addS (er_str (x := Str.ofString "/")) (er_var (i := 2) rfl) ((oC "/" (by decide +kernel)).fit hT (by decide))) ea_nil))))))) (by rw [n1]; exact (by decide : 4 + 7 ≤ 1000))) (show _ = PyData.list ((LL1 ++ LL2).map .str) by rw [List.map_append, q2]; rfl)) ?_))
 have b2 : ∀ z ∈ LL1 ++ LL2, OkS 89 z := fun z hz => (List.mem_append.mp hz).elim (a1 z) (a2 z)
 have m2 : (LL1 ++ LL2).length = 11 := by rw [List.length_append, n1, n2]
 clear q2
 generalize LL1 ++ LL2 = M2 at b2 m2
 show Sv K B0 _ [(dk1 K).pv () p fp, .dat (dF a), .dat (.str text), .dat (.str signs), .dat (.str sign), .dat (.int (n : Nat)), .dat (.str small), .dat (.str twice), .dat (.list (M2.map .str))] _
 obtain ⟨LL3, q3, a3⟩ : ∃ L : List Str, L = [small ++ Str.ofString "/0" ++ small, small ++ Str.ofString "/-" ++ small, Str.ofString "+" ++ text, text ++ Str.ofString " ", Str.ofString "", Str.ofString "-", Str.ofString "-0", Str.ofString "0/7", Str.ofString "-0/1"] ∧ ∀ z ∈ L, OkS 89 z := ⟨_, rfl, (List.forall_mem_cons.mpr ⟨((hM.app (oC "/0" (by decide +kernel))).app hM).mono (by decide), (List.forall_mem_cons.mpr ⟨((hM.app (oC "/-" (by decide +kernel))).app hM).mono (by decide), (List.forall_mem_cons.mpr ⟨((oC "+" (by decide +kernel)).app hT).mono (by decide), (List.forall_mem_cons.mpr ⟨(hT.app (oC " " (by decide +kernel))).mono (by decide), (List.forall_mem_cons.mpr ⟨(oC "" (by decide +kernel)).mono (by decide), (List.forall_mem_cons.mpr ⟨(oC "-" (by decide +kernel)).mono (by decide), (List.forall_mem_cons.mpr ⟨(oC "-0" (by decide +kernel)).mono (by decide), (List.forall_mem_cons.mpr ⟨(oC "0/7" (by decide +kernel)).mono (by decide), (List.forall_mem_cons.mpr ⟨(oC "-0/1" (by decide +kernel)).mono (by decide), (fun _ h => nomatch h)⟩)⟩)⟩)⟩)⟩)⟩)⟩)⟩)⟩)⟩
 have n3 : LL3.length = 9 := by rw [q3]; rfl
 refine sv_seq (sv_asg (eg_er (er_d (er_more (er_var rfl) (ea_cons (er_addS (er_addS (er_var (i := 6) rfl) (er_str (x := Str.ofString "/0")) (hM.fit (oC "/0" (by decide +kernel)) (by decide))) (er_var (i := 6) rfl) ((hM.app (oC "/0" (by decide +kernel))).fit hM (by decide))) (ea_cons (er_addS (er_addS (er_var (i := 6) rfl) (er_str (x := Str.ofString "/-")) (hM.fit (oC "/-" (by decide +kernel)) (by decide))) (er_var (i := 6) rfl) ((hM.app (oC "/-" (by decide +kernel))).fit hM (by decide))) (ea_cons (er_addS (er_str (x := Str.ofString "+")) (er_var (i := 2) rfl) ((oC "+" (by decide +kernel)).fit hT (by decide))) (ea_cons (er_addS (er_var (i := 2) rfl) (er_str (x := Str.ofString " ")) (hT.fit (oC " " (by decide +kernel)) (by decide))) (ea_cons (er_str (x := Str.ofString "")) (ea_cons (er_str (x := Str.ofString "-")) (ea_cons (er_str (x := Str.ofString "-0")) (ea_cons (er_str (x := Str.ofString "0/7")) (ea_cons (er_str (x := Str.ofString "-0/1")) ea_nil))))))))) (by rw [m2]; exact (by decide : 11 + 9 ≤ 1000))) (show _ = PyData.list ((M2 ++ LL3).map .str) by rw [List.map_append, q3]; rfl)) ?_))
 have b3 : ∀ z ∈ M2 ++ LL3, OkS 89 z := fun z hz => (List.mem_append.mp hz).elim (b2 z) (a3 z)
 have m3 : (M2 ++ LL3).length = 20 := by rw [List.length_append, m2, n3]
 clear q3
 generalize M2 ++ LL3 = M3 at b3 m3
 show Sv K B0 _ [(dk1 K).pv () p fp, .dat (dF a), .dat (.str text), .dat (.str signs), .dat (.str sign), .dat (.int (n : Nat)), .dat (.str small), .dat (.str twice), .dat (.list (M3.map .str))] _
 refine sv_ret (eg_op (eg_er (er_var rfl) ⟨_, rfl, eg_take rfl (er_d (er_lenL (ea_cons (er_var rfl) ea_nil)) (show _ = PyData.int ((20 : Nat) : Int) by rw [List.length_map, m3])) (by decide) (by decide) fun r hr => ?_⟩))
 have hr : r < M3.length := by omega
 exact ⟨_, .str M3[r], rfl, fun G σ va vb ha hb => ev_ixL (ev_c ha) (ev_c hb) (by rw [List.length_map]; exact ixN_nat hr) (by rw [List.getElem?_map, List.getElem?_eq_getElem hr]; rfl), _, (), rfl, ⟨_, rfl, b3 _ (List.getElem_mem hr)⟩, rfl⟩
end
end K03
namespace K03
open PySem L2 Frac Lw Dig PySem.NumText
open Rd3
theorem max_in : ∀ {l : List Int}, l ≠ [] → ∃ m ∈ l, ∀ a ∈ l, a ≤ m
 | [], h => absurd rfl h
 | [a], _ => ⟨a, List.mem_cons_self, fun b hb => by rw [List.mem_singleton.mp hb]; exact Int.le_refl _⟩
 | a :: b :: l, _ => by
  obtain ⟨m, hm, hl⟩ := max_in (l := b :: l) (List.cons_ne_nil _ _)
  by_cases h : a ≤ m
  ·exact ⟨m, List.mem_cons_of_mem _ hm, fun c hc => (List.mem_cons.mp hc).elim (fun z => by rw [z]; exact h) (hl c)⟩
  ·exact ⟨a, List.mem_cons_self, fun c hc => (List.mem_cons.mp hc).elim (fun z => by rw [z]; exact Int.le_refl _) fun z => by have := hl c z; omega⟩
section
variable {P : Program} {w : World} {K : PySem.W.Frag} {mg : Str → Option Value} {base : Heap}
theorem egi_lst {B : Hp} {ρ : List PV} {te : TE} {R : List PyData → List PV → Prop} (h : Eg K B te ρ fun r ρ' => ∃ ds, r = .dat (.list ds) ∧ R ds ρ') : EgI K B (iList K te) ρ R := fun E G0 H0 G H σ F r Q q =>
 h E G0 H0 G H σ F r _ fun v rr ρ' G' H' F' L hR s r' sl n => by
  obtain ⟨ds, rfl, k⟩ := hR
  obtain ⟨_, y, hy, hd⟩ := sl
  cases hy
  obtain ⟨p, xs, rfl, hp, hx⟩ := hd.lst
  exact ⟨p, rfl, ⟨xs, SqL.of (r'.g.gh _ _ hp)⟩, q _ ds ρ' G' H' F' k s r' (wd_lst hp hx)⟩
theorem ok_law {f : Addr} {fd : FuncData} (F : Fun K "law" "law" s_law f fd) (T : Top K mg) : FnOk P w K mg base CX0 6 f fd ["script"] (spLaw K) := by
 have G__law_deck : FnOk P w K mg base CX0 5 T.f__law_deck T.fd__law_deck ["script"] (spDeck K) := (ok_deck T.F__law_deck T.len_ T.sum_ T.range_).mono (by decide)
 have G__law_number : FnOk P w K mg base CX0 5 T.f__law_number T.fd__law_number ["deck"] (spT (dk1 K) PreNm RNm) := (ok_numberT T).mono (by decide)
 have G__law_text : FnOk P w K mg base CX0 5 T.f__law_text T.fd__law_text ["number"] (spP K RTx) := (ok_text T).mono (by decide)
 have G__law_spoilt : FnOk P w K mg base CX0 5 T.f__law_spoilt T.fd__law_spoilt ["deck", "number"] (spT (dk1 K) PreSp RSp) := (ok_spoilt T).mono (by decide)
 have G__law_free : FnOk P w K mg base CX0 5 T.f__law_free T.fd__law_free ["deck"] (spT (dk1 K) PreNm RSp) := (ok_free T).mono (by decide)
 have G__law_right : FnOk P w K mg base CX0 5 T.f__law_right T.fd__law_right ["text"] (spP K RRt) := (ok_right T).mono (by decide)
 have G_read_number : FnOk P w K mg base (CX1 P w) 3 T.f_read_number T.fd_read_number ["text"] (spX K (RNu T.c_NoNumber)) := ok_nuX T
 refine F.okLaw sc_law fun cdv A outer s H E hr ns hl => ?_
 have hu := hr.units
 have h3 : (20000 : Nat) < sizeLine := by decide
 refine ⟨_, (pss_cons (ps_set (i := 1) sc_law.nd rfl (Or.inl rfl) (pe_call G__law_deck hr (by rfl) T.m__law_deck T.F__law_deck.kp T.b__law_deck .nil pass0 (pa_cons (pv 0) pa_nil st_Name)))
   (pss_cons (ps_forT PassesOwn.never rfl (pit_range (by rfl) T.range_) (pg_name (i := 2) sc_law.nd rfl (Or.inl rfl)) (pss1_cons (PS.one (ps_set (i := 3) sc_law.nd rfl (Or.inl rfl) (pe_call G__law_number hr (by rfl) T.m__law_number T.F__law_number.kp T.b__law_number .nil pass0 (pa_cons (pv 1) pa_nil st_Name))))
   (pss1_cons (PS.one (ps_if (pt_cmpR (op_neDK (K := K) rfl hu) (pe_call G_read_number (hr.mono (by decide)) (by rfl) T.m_read_number T.F_read_number.kp T.b_read_number .nil pass10 (pa_cons (pe_call G__law_text hr (by rfl) T.m__law_text T.F__law_text.kp T.b__law_text .nil pass0 (pa_cons (pv 3) pa_nil st_Name)) pa_nil st_Call)) (pv 3) (nomark _)) (pss_one (ps_ret pe_bl)) pss_nil))
   (pss1_one (ps1_forT PassesOwn.never rfl (pi_list (pe_lst (pa_cons (pe_call G__law_spoilt hr (by rfl) T.m__law_spoilt T.F__law_spoilt.kp T.b__law_spoilt .nil pass0 (pa_cons (pv 1) (pa_cons (pv 3) pa_nil st_Name) st_Name)) (pa_cons (pe_call G__law_spoilt hr (by rfl) T.m__law_spoilt T.F__law_spoilt.kp T.b__law_spoilt .nil pass0 (pa_cons (pv 1) (pa_cons (pv 3) pa_nil st_Name) st_Name)) (pa_cons (pe_call G__law_free hr (by rfl) T.m__law_free T.F__law_free.kp T.b__law_free .nil pass0 (pa_cons (pv 1) pa_nil st_Name)) (pa_cons (pe_call G__law_free hr (by rfl) T.m__law_free T.F__law_free.kp T.b__law_free .nil pass0 (pa_cons (pv 1) pa_nil st_Name)) pa_nil st_Call) st_Call) st_Call) st_Call))) (pg_name (i := 4) sc_law.nd rfl (Or.inl rfl)) (pss1_cons (ps1_set (i := 5) sc_law.nd rfl (Or.inl rfl) (fun s ht => (pes_callB (call_maxL (K := K) rfl rfl) (by rfl) T.max_ bMax (pas_one (pes_lc (x := "part") (cap := []) (js := []) ⟨rfl, by decide +kernel, by decide +kernel, rfl, (by show ∀ p ∈ (_ : List (Str × NameKind)), p.2 = NameKind.free → List.lookup p.1 (defScope s_law).names = some NameKind.cell; decide +kernel), by decide +kernel, by decide +kernel, by decide +kernel⟩ rfl rfl (fun _ _ h => h) (pis_list (pes_bm PySem.F.plainAttrs_str PySem.F.slot_str_split PySem.F.type_str_split mt_split (pes_replace (pv 4) ht (by decide +kernel)) (pa_cons pe_str pa_nil st_Constant))) (fun _ _ _ _ => ⟨pif_nil, (pe_callB call_len_str (by rfl) T.len_ PySem.boot_len (pa_cons (pv 0) pa_nil st_Name))⟩))))))
   (pss1_one (PS.one (ps_if ((pw_and (pt_cmpR op_lt (pv 5) pe_int (nomark _)) (pw_and1 ((pw_or (pt_not (pt_val (pe_call G__law_right hr (by rfl) T.m__law_right T.F__law_right.kp T.b__law_right .nil pass0 (pa_cons (pv 4) pa_nil st_Name)))) (pw_or1 (pt_not (pt_val (pe_call G__law_right hr (by rfl) T.m__law_right T.F__law_right.kp T.b__law_right .nil pass0 (pa_cons (pv 4) pa_nil st_Name))))))).pt))).pt (pss_one (ps_ret pe_bl)) pss_nil)))))))))
   (pss_one (ps_ret pe_bl)))) , ?_⟩
 refine sv_seq (sv_asg (eg_deck rfl hl fun p fp => ?_))
 refine sv_seq (sv_for (List.range 8) (fun (i : Nat) => PyData.int (i : Nat)) (ei_rngN (n := 8) (ea_cons er_int ea_nil) (by decide)) (fun _ ρ => ∃ v2 v3 v4 v5 : PV, ρ = [.scr ns, (dk1 K).pv () p fp, v2, v3, v4, v5]) ⟨_, _, _, _, rfl⟩ ?_ ?_)
 ·rintro k hk _ ⟨v2, v3, v4, v5, rfl⟩
  generalize (List.range 8)[k] = k'
  refine gt_name (sv_seq (sv_asg (eg_lendT (D := dk1 K) (s := ()) (p := p) (fp := fp) (i := 1) rfl (ega_ea ea_nil ⟨(), rfl, rfl, fun x s2 hx => ?_⟩))))
  obtain ⟨a, rfl, hN⟩ := hx
  show Sv K B0 _ [.scr ns, (dk1 K).pv () p fp, .dat (.int (k' : Nat)), .dat (dF a), v4, v5] _
  obtain ⟨text, htx⟩ : ∃ x : Str, x.cps.toList = nt a := ⟨⟨(nt a).toArray⟩, rfl⟩
  have hT := nt_ok hN htx
  have hRn : RNu T.c_NoNumber [.str text] (.ok (dF a)) := ⟨text, rfl, ⟨Nat.le_trans hT.1 (by decide), hT.2⟩, Nat.lt_of_le_of_lt hT.1 (by decide), by rw [htx, rN_nt hN.1]; rfl⟩
  have hp : Pl 2 (dF a) := pl_tup fun y hy => by
   rcases List.mem_cons.mp hy with rfl | hy
   ·exact pl_int _
   ·rw [List.mem_singleton.mp hy]; exact pl_int _
  refine sv_seq (sv_ifF (et_c (et_test (er_eqD (g := fun b => !b) (n := 2) (er_callX (ea_cons (er_call (ea_cons (er_var rfl) ea_nil) ⟨a, text, rfl, hN, rfl, htx⟩) ea_nil) hRn) (er_var rfl) hp hp (by decide))) (by rw [PySem.Spec.same_self]; rfl)) (sv_next ?_))
  have sp : ∀ {X : XK} {v4 : PV} {R : PV → List PV → Prop}, (∀ x : Str, OkS 89 x → R (.dat (.str x)) [.scr ns, (dk1 K).pv () p fp, .dat (.int (k' : Nat)), .dat (dF a), v4, v5]) → Eg K B0 (tCall (spT (dk1 K) PreSp RSp) [] X (tCons (tVar 1) (tCons (tVar 3) tNil))) [.scr ns, (dk1 K).pv () p fp, .dat (.int (k' : Nat)), .dat (dF a), v4, v5] R := fun {X v4 R} h => eg_lendT (D := dk1 K) (s := ()) (p := p) (fp := fp) (i := 1) rfl (ega_ea (ea_cons (er_var rfl) ea_nil) ⟨(), rfl, ⟨a, rfl, hN⟩, fun x s2 hx => by
   obtain ⟨y, rfl, hy⟩ := hx
   exact h y hy⟩)
  have fe : ∀ {X : XK} {v4 : PV} {R : PV → List PV → Prop}, (∀ x : Str, OkS 89 x → R (.dat (.str x)) [.scr ns, (dk1 K).pv () p fp, .dat (.int (k' : Nat)), .dat (dF a), v4, v5]) → Eg K B0 (tCall (spT (dk1 K) PreNm RSp) [] X (tCons (tVar 1) tNil)) [.scr ns, (dk1 K).pv () p fp, .dat (.int (k' : Nat)), .dat (dF a), v4, v5] R := fun {X v4 R} h => eg_lendT (D := dk1 K) (s := ()) (p := p) (fp := fp) (i := 1) rfl (ega_ea ea_nil ⟨(), rfl, rfl, fun x s2 hx => by
   obtain ⟨y, rfl, hy⟩ := hx
   exact h y hy⟩)
  refine sv_forG (egi_lst (eg_lstD (ega_cons (sp fun x1 o1 => ⟨_, rfl, ega_cons (sp fun x2 o2 => ⟨_, rfl, ega_cons (fe fun x3 o3 => ⟨_, rfl, ega_cons (fe fun x4 o4 => ⟨_, rfl, ega_ea ea_nil ⟨by show 4 ≤ sizeLine; decide, _, rfl, fun _ ρ => ∃ v4 v5 : PV, ρ = [.scr ns, (dk1 K).pv () p fp, .dat (.int (k' : Nat)), .dat (dF a), v4, v5], ⟨_, _, rfl⟩, ?_, ?_⟩⟩)⟩)⟩)⟩))))
  ·rintro i hi _ ⟨v4, v5, rfl⟩
   obtain ⟨x, ex, hx⟩ : ∃ x : Str, [PyData.str x1, .str x2, .str x3, .str x4][i] = .str x ∧ OkS 89 x := by
    have : ∀ d ∈ [PyData.str x1, .str x2, .str x3, .str x4], ∃ x : Str, d = .str x ∧ OkS 89 x := List.forall_mem_cons.mpr ⟨⟨_, rfl, o1⟩, List.forall_mem_cons.mpr ⟨⟨_, rfl, o2⟩, List.forall_mem_cons.mpr ⟨⟨_, rfl, o3⟩, List.forall_mem_cons.mpr ⟨⟨_, rfl, o4⟩, fun _ h => nomatch h⟩⟩⟩⟩
    exact this _ (List.getElem_mem hi)
   rw [ex]
   have hxT : TxOk x := ⟨Nat.le_trans hx.1 (by decide), hx.2⟩
   have hx1 := hx.1
   refine gt_name ?_
   show Sv K B0 _ [.scr ns, (dk1 K).pv () p fp, .dat (.int (k' : Nat)), .dat (dF a), .dat (.str x), v5] _
   have hrl : (Txt.replace x ⟨#[45]⟩ ⟨#[47]⟩).length = x.length := by rw [len_codes, replace_rep, len_codes]; unfold rep; rw [List.length_map]
   have hsl := PyProof.Rows.split_le (Txt.replace x ⟨#[45]⟩ ⟨#[47]⟩) ⟨#[47]⟩
   obtain ⟨M, hM, hle⟩ := max_in (l := (Txt.split (Txt.replace x ⟨#[45]⟩ ⟨#[47]⟩) ⟨#[47]⟩).map fun q => (q.length : Int)) (fun z => split_ne _ _ (List.map_eq_nil_iff.mp z))
   have hpart : ∀ q ∈ Txt.split (Txt.replace x ⟨#[45]⟩ ⟨#[47]⟩) ⟨#[47]⟩, q.length ≤ 100 := fun q hq => by
    have hm : q.cps.toList ∈ spl (Txt.replace x ⟨#[45]⟩ ⟨#[47]⟩).cps.toList := by rw [← split_spl]; exact List.mem_map_of_mem hq
    obtain ⟨A, B, e⟩ := spl_in hm
    have := congrArg List.length e
    rw [List.length_append, List.length_append, ← len_codes, ← len_codes] at this
    omega
   refine sv_seq (sv_asg (eg_er (er_maxL (M := M) (ea_cons (er_d (er_lc (js := []) (Txt.split (Txt.replace x ⟨#[45]⟩ ⟨#[47]⟩) ⟨#[47]⟩) PyData.str (fun q => some (.int q.length)) (ei_lst (er_split (c := 47) (er_d (er_repl (er_var rfl) (by rw [sl47]; show _ + _ * 1 ≤ _; omega)) (by rw [mn45, sl47])) (ea_cons (er_d er_str (by rw [sl47])) ea_nil) (by rw [hrl]; omega))) (by omega) fun q hq => lx1 et_noif (er_lenS (ea_cons (er_var rfl) ea_nil) (by have := hpart q hq; omega))) (show _ = PyData.list (((Txt.split (Txt.replace x ⟨#[45]⟩ ⟨#[47]⟩) ⟨#[47]⟩).map fun q => (q.length : Int)).map .int) by
    rw [List.map_map]
    show PyData.list (List.filterMap (some ∘ fun q : Str => PyData.int q.length) _) = _
    rw [List.filterMap_eq_map]; rfl)) ea_nil) hM hle) ?_))
   show Sv K B0 _ [.scr ns, (dk1 K).pv () p fp, .dat (.int (k' : Nat)), .dat (dF a), .dat (.str x), .dat (.int M)] _
   have hsh : M < 21 → RRt [.str x] (.bool true) := fun hM21 => ⟨x, rfl, hxT, by omega, short_of fun q hq => by
    rw [← replace_rep, ← split_spl] at hq
    obtain ⟨y, hy, rfl⟩ := List.mem_map.mp hq
    have := hle _ (List.mem_map_of_mem hy)
    rw [← len_codes]
    omega, rfl⟩
   refine sv_ifF (et_c (et_and (e := false) (et_test (er_i0 (er_var rfl) er_int fun _ => dat_bl _)) fun hb => et_c (et_or (et_not (et_b (er_call (ea_cons (er_var rfl) ea_nil) (hsh (of_decide_eq_true hb))))) fun _ => et_not (et_b (er_call (ea_cons (er_var rfl) ea_nil) (hsh (of_decide_eq_true hb))))) rfl) (Bool.and_false _)) (sv_next ⟨_, _, rfl⟩)
  ·rintro _ ⟨v4, v5, rfl⟩
   exact ⟨_, _, _, _, rfl⟩
 ·rintro _ ⟨v2, v3, v4, v5, rfl⟩
  exact sv_ret (eg_er er_bl rfl)
end
end K03
namespace K03
open PySem L2 Frac Lw Dig PySem.NumText
theorem all_mk {l : PySem.W.OpenLaw} {w : World} {K : PySem.W.Frag} {h : Heap} {mg : Str → Option Value} {fa : Addr} {fz0 fz1 fz2 fz3 fz4 fz5 fz6 fz7 fz8 fz9 fz10 fz11 fz12 fz13 fz14 fz15 fz16 fz17 : Addr} (X : K.In h) (G : h.Ns mainGlobals mg) (hfa : mg "law" = some (.ref fa))
  {odz0 anz0 odz1 anz1 odz2 anz2 odz3 anz3 odz4 anz4 odz5 anz5 odz6 anz6 odz7 anz7 odz8 anz8 odz9 anz9 odz10 anz10 odz11 anz11 odz12 anz12 odz13 anz13 odz14 anz14 odz15 anz15 odz16 anz16 odz17 anz17 : Option Addr} {slz0 slz1 slz2 slz3 slz4 slz5 slz6 slz7 slz8 slz9 slz10 slz11 slz12 slz13 slz14 slz15 slz16 slz17 : Array (Option Value)} {ocz0 kVz0 dcz0 pmz0 cdz0 ctz0 ocz1 kVz1 dcz1 pmz1 cdz1 ctz1 ocz2 kVz2 dcz2 pmz2 cdz2 ctz2 ocz3 kVz3 dcz3 pmz3 cdz3 ctz3 ocz4 kVz4 dcz4 pmz4 cdz4 ctz4 ocz5 kVz5 dcz5 pmz5 cdz5 ctz5 ocz6 kVz6 dcz6 pmz6 cdz6 ctz6 ocz7 kVz7 dcz7 pmz7 cdz7 ctz7 ocz8 kVz8 dcz8 pmz8 cdz8 ctz8 ocz9 kVz9 dcz9 pmz9 cdz9 ctz9 ocz10 kVz10 dcz10 pmz10 cdz10 ctz10 ocz11 kVz11 dcz11 pmz11 cdz11 ctz11 ocz12 kVz12 dcz12 pmz12 cdz12 ctz12 ocz13 kVz13 dcz13 pmz13 cdz13 ctz13 ocz14 kVz14 dcz14 pmz14 cdz14 ctz14 ocz15 kVz15 dcz15 pmz15 cdz15 ctz15 ocz16 kVz16 dcz16 pmz16 cdz16 ctz16 ocz17 kVz17 dcz17 pmz17 cdz17 ctz17 : Value}
  (az0 : PySem.W.nsIn K mainGlobals "fraction" = some (some (.ref fz0))) (lz0 : K.lookup fz0 = some ⟨ocz0, odz0, .func (PySem.W.fnOf "fraction" "fraction" (defArgs s_fraction) (defBody s_fraction) (defScope s_fraction) .none kVz0 dcz0 pmz0 anz0 cdz0 ctz0), slz0⟩) (cz0 : PySem.W.codeIn K cdz0 "fraction" = true) (kz0 : PySem.W.keepIn K (.ref fz0) = true)
  (az1 : PySem.W.nsIn K mainGlobals "common_divisor" = some (some (.ref fz1))) (lz1 : K.lookup fz1 = some ⟨ocz1, odz1, .func (PySem.W.fnOf "common_divisor" "common_divisor" (defArgs s_common_divisor) (defBody s_common_divisor) (defScope s_common_divisor) .none kVz1 dcz1 pmz1 anz1 cdz1 ctz1), slz1⟩) (cz1 : PySem.W.codeIn K cdz1 "common_divisor" = true) (kz1 : PySem.W.keepIn K (.ref fz1) = true)
  (az2 : PySem.W.nsIn K mainGlobals "read_number" = some (some (.ref fz2))) (lz2 : K.lookup fz2 = some ⟨ocz2, odz2, .func (PySem.W.fnOf "read_number" "read_number" (defArgs s_read_number) (defBody s_read_number) (defScope s_read_number) .none kVz2 dcz2 pmz2 anz2 cdz2 ctz2), slz2⟩) (cz2 : PySem.W.codeIn K cdz2 "read_number" = true) (kz2 : PySem.W.keepIn K (.ref fz2) = true)
  (az3 : PySem.W.nsIn K mainGlobals "read_signed" = some (some (.ref fz3))) (lz3 : K.lookup fz3 = some ⟨ocz3, odz3, .func (PySem.W.fnOf "read_signed" "read_signed" (defArgs s_read_signed) (defBody s_read_signed) (defScope s_read_signed) .none kVz3 dcz3 pmz3 anz3 cdz3 ctz3), slz3⟩) (cz3 : PySem.W.codeIn K cdz3 "read_signed" = true) (kz3 : PySem.W.keepIn K (.ref fz3) = true)
  (az4 : PySem.W.nsIn K mainGlobals "read_figures" = some (some (.ref fz4))) (lz4 : K.lookup fz4 = some ⟨ocz4, odz4, .func (PySem.W.fnOf "read_figures" "read_figures" (defArgs s_read_figures) (defBody s_read_figures) (defScope s_read_figures) .none kVz4 dcz4 pmz4 anz4 cdz4 ctz4), slz4⟩) (cz4 : PySem.W.codeIn K cdz4 "read_figures" = true) (kz4 : PySem.W.keepIn K (.ref fz4) = true)
  (az5 : PySem.W.nsIn K mainGlobals "_law_deck" = some (some (.ref fz5))) (lz5 : K.lookup fz5 = some ⟨ocz5, odz5, .func (PySem.W.fnOf "_law_deck" "_law_deck" (defArgs s__law_deck) (defBody s__law_deck) (defScope s__law_deck) .none kVz5 dcz5 pmz5 anz5 cdz5 ctz5), slz5⟩) (cz5 : PySem.W.codeIn K cdz5 "_law_deck" = true) (kz5 : PySem.W.keepIn K (.ref fz5) = true)
  (az6 : PySem.W.nsIn K mainGlobals "_law_take" = some (some (.ref fz6))) (lz6 : K.lookup fz6 = some ⟨ocz6, odz6, .func (PySem.W.fnOf "_law_take" "_law_take" (defArgs s__law_take) (defBody s__law_take) (defScope s__law_take) .none kVz6 dcz6 pmz6 anz6 cdz6 ctz6), slz6⟩) (cz6 : PySem.W.codeIn K cdz6 "_law_take" = true) (kz6 : PySem.W.keepIn K (.ref fz6) = true)
  (az7 : PySem.W.nsIn K mainGlobals "_law_common" = some (some (.ref fz7))) (lz7 : K.lookup fz7 = some ⟨ocz7, odz7, .func (PySem.W.fnOf "_law_common" "_law_common" (defArgs s__law_common) (defBody s__law_common) (defScope s__law_common) .none kVz7 dcz7 pmz7 anz7 cdz7 ctz7), slz7⟩) (cz7 : PySem.W.codeIn K cdz7 "_law_common" = true) (kz7 : PySem.W.keepIn K (.ref fz7) = true)
  (az8 : PySem.W.nsIn K mainGlobals "_law_least" = some (some (.ref fz8))) (lz8 : K.lookup fz8 = some ⟨ocz8, odz8, .func (PySem.W.fnOf "_law_least" "_law_least" (defArgs s__law_least) (defBody s__law_least) (defScope s__law_least) .none kVz8 dcz8 pmz8 anz8 cdz8 ctz8), slz8⟩) (cz8 : PySem.W.codeIn K cdz8 "_law_least" = true) (kz8 : PySem.W.keepIn K (.ref fz8) = true)
  (az9 : PySem.W.nsIn K mainGlobals "_law_whole_number" = some (some (.ref fz9))) (lz9 : K.lookup fz9 = some ⟨ocz9, odz9, .func (PySem.W.fnOf "_law_whole_number" "_law_whole_number" (defArgs s__law_whole_number) (defBody s__law_whole_number) (defScope s__law_whole_number) .none kVz9 dcz9 pmz9 anz9 cdz9 ctz9), slz9⟩) (cz9 : PySem.W.codeIn K cdz9 "_law_whole_number" = true) (kz9 : PySem.W.keepIn K (.ref fz9) = true)
  (az10 : PySem.W.nsIn K mainGlobals "_law_number" = some (some (.ref fz10))) (lz10 : K.lookup fz10 = some ⟨ocz10, odz10, .func (PySem.W.fnOf "_law_number" "_law_number" (defArgs s__law_number) (defBody s__law_number) (defScope s__law_number) .none kVz10 dcz10 pmz10 anz10 cdz10 ctz10), slz10⟩) (cz10 : PySem.W.codeIn K cdz10 "_law_number" = true) (kz10 : PySem.W.keepIn K (.ref fz10) = true)
  (az11 : PySem.W.nsIn K mainGlobals "_law_figures" = some (some (.ref fz11))) (lz11 : K.lookup fz11 = some ⟨ocz11, odz11, .func (PySem.W.fnOf "_law_figures" "_law_figures" (defArgs s__law_figures) (defBody s__law_figures) (defScope s__law_figures) .none kVz11 dcz11 pmz11 anz11 cdz11 ctz11), slz11⟩) (cz11 : PySem.W.codeIn K cdz11 "_law_figures" = true) (kz11 : PySem.W.keepIn K (.ref fz11) = true)
  (az12 : PySem.W.nsIn K mainGlobals "_law_reading" = some (some (.ref fz12))) (lz12 : K.lookup fz12 = some ⟨ocz12, odz12, .func (PySem.W.fnOf "_law_reading" "_law_reading" (defArgs s__law_reading) (defBody s__law_reading) (defScope s__law_reading) .none kVz12 dcz12 pmz12 anz12 cdz12 ctz12), slz12⟩) (cz12 : PySem.W.codeIn K cdz12 "_law_reading" = true) (kz12 : PySem.W.keepIn K (.ref fz12) = true)
  (az13 : PySem.W.nsIn K mainGlobals "_law_text" = some (some (.ref fz13))) (lz13 : K.lookup fz13 = some ⟨ocz13, odz13, .func (PySem.W.fnOf "_law_text" "_law_text" (defArgs s__law_text) (defBody s__law_text) (defScope s__law_text) .none kVz13 dcz13 pmz13 anz13 cdz13 ctz13), slz13⟩) (cz13 : PySem.W.codeIn K cdz13 "_law_text" = true) (kz13 : PySem.W.keepIn K (.ref fz13) = true)
  (az14 : PySem.W.nsIn K mainGlobals "_law_spoilt" = some (some (.ref fz14))) (lz14 : K.lookup fz14 = some ⟨ocz14, odz14, .func (PySem.W.fnOf "_law_spoilt" "_law_spoilt" (defArgs s__law_spoilt) (defBody s__law_spoilt) (defScope s__law_spoilt) .none kVz14 dcz14 pmz14 anz14 cdz14 ctz14), slz14⟩) (cz14 : PySem.W.codeIn K cdz14 "_law_spoilt" = true) (kz14 : PySem.W.keepIn K (.ref fz14) = true)
  (az15 : PySem.W.nsIn K mainGlobals "_law_free" = some (some (.ref fz15))) (lz15 : K.lookup fz15 = some ⟨ocz15, odz15, .func (PySem.W.fnOf "_law_free" "_law_free" (defArgs s__law_free) (defBody s__law_free) (defScope s__law_free) .none kVz15 dcz15 pmz15 anz15 cdz15 ctz15), slz15⟩) (cz15 : PySem.W.codeIn K cdz15 "_law_free" = true) (kz15 : PySem.W.keepIn K (.ref fz15) = true)
  (az16 : PySem.W.nsIn K mainGlobals "_law_right" = some (some (.ref fz16))) (lz16 : K.lookup fz16 = some ⟨ocz16, odz16, .func (PySem.W.fnOf "_law_right" "_law_right" (defArgs s__law_right) (defBody s__law_right) (defScope s__law_right) .none kVz16 dcz16 pmz16 anz16 cdz16 ctz16), slz16⟩) (cz16 : PySem.W.codeIn K cdz16 "_law_right" = true) (kz16 : PySem.W.keepIn K (.ref fz16) = true)
  (az17 : PySem.W.nsIn K mainGlobals "law" = some (some (.ref fz17))) (lz17 : K.lookup fz17 = some ⟨ocz17, odz17, .func (PySem.W.fnOf "law" "law" (defArgs s_law) (defBody s_law) (defScope s_law) .none kVz17 dcz17 pmz17 anz17 cdz17 ctz17), slz17⟩) (cz17 : PySem.W.codeIn K cdz17 "law" = true) (kz17 : PySem.W.keepIn K (.ref fz17) = true)
  (z_len : PySem.W.nsIn K mainGlobals "len" = some none)
  (z_range : PySem.W.nsIn K mainGlobals "range" = some none)
  (z_tuple : PySem.W.nsIn K mainGlobals "tuple" = some none)
  (z_isinstance : PySem.W.nsIn K mainGlobals "isinstance" = some none)
  (z_bool : PySem.W.nsIn K mainGlobals "bool" = some none)
  (z_sum : PySem.W.nsIn K mainGlobals "sum" = some none)
  (z_max : PySem.W.nsIn K mainGlobals "max" = some none)
  (z_str : PySem.W.nsIn K mainGlobals "str" = some none)
  (z_int : PySem.W.nsIn K mainGlobals "int" = some none)
  (z_abs : PySem.W.nsIn K mainGlobals "abs" = some none)
  (z_all : PySem.W.nsIn K mainGlobals "all" = some none)
  (z_ValueError : PySem.W.nsIn K mainGlobals "ValueError" = some none)
  {tokF tokB tokW : Tok} {c_OrderError c_NoNumber c_NoOrder c_Clash c_NoField c_NoRow c_NoNet c_NoPlace c_NoThing c_NoAsk : Addr} {xo1 : Value} {xo2 : Option Addr} {xo3 : ClassData} {xo4 : Array (Option Value)}
  (gF : PySem.W.nsIn K mainGlobals "FIGURES" = some (some (.str "0123456789" tokF)))
  (gB : PySem.W.nsIn K mainGlobals "BLOCK" = some (some (.int 18 tokB)))
  (gW : PySem.W.nsIn K mainGlobals "BLOCK_WORTH" = some (some (.int 1000000000000000000 tokW)))
  (ac_OrderError : PySem.W.nsIn K mainGlobals "OrderError" = some (some (.ref c_OrderError)))
  (ac_NoNumber : PySem.W.nsIn K mainGlobals "NoNumber" = some (some (.ref c_NoNumber)))
  (ac_NoOrder : PySem.W.nsIn K mainGlobals "NoOrder" = some (some (.ref c_NoOrder)))
  (ac_Clash : PySem.W.nsIn K mainGlobals "Clash" = some (some (.ref c_Clash)))
  (ac_NoField : PySem.W.nsIn K mainGlobals "NoField" = some (some (.ref c_NoField)))
  (ac_NoRow : PySem.W.nsIn K mainGlobals "NoRow" = some (some (.ref c_NoRow)))
  (ac_NoNet : PySem.W.nsIn K mainGlobals "NoNet" = some (some (.ref c_NoNet)))
  (ac_NoPlace : PySem.W.nsIn K mainGlobals "NoPlace" = some (some (.ref c_NoPlace)))
  (ac_NoThing : PySem.W.nsIn K mainGlobals "NoThing" = some (some (.ref c_NoThing)))
  (ac_NoAsk : PySem.W.nsIn K mainGlobals "NoAsk" = some (some (.ref c_NoAsk)))
  (xlk : K.lookup c_NoNumber = some ⟨xo1, xo2, .cls xo3, xo4⟩)
  (xga : PySem.W.findIn K (.ref c_NoNumber) "__getattribute__" = some (some (.builtin "BaseException.__getattribute__")))
  (xgn : PySem.W.findIn K (.ref c_NoNumber) "__getattr__" = some none)
  (xcl : PySem.W.findIn K (.ref c_NoNumber) "__class__" = some (some (.builtin "object.__class__")))
  (xsb : PySem.W.subIn K (.ref c_NoNumber) (.type "BaseException") = some true)
  (xso : PySem.W.subIn K (.ref c_NoNumber) (.type "object") = some true)
  (xeq : PySem.W.excIn K c_NoNumber bmVE "ValueError.__new__" = true)
  (xem : PySem.W.exmOne K (.ref c_NoNumber) (.ref c_OrderError) = some true)
  (xot : PySem.W.kitAny K (.ref c_NoNumber) [.ref c_Clash, .ref c_NoAsk, .ref c_NoField, .ref c_NoNet, .ref c_NoOrder, .ref c_NoPlace, .ref c_NoRow, .ref c_NoThing] = some false)
  (xow : PySem.W.kitOne K (.ref c_NoNumber) (.ref c_NoNumber) = some true)
  (xva : PySem.W.kitOne K (.ref c_NoNumber) (.type "ValueError") = some true)
  (xoN : PySem.W.kitAny K (.type "NoneType") [.ref c_Clash, .ref c_NoAsk, .ref c_NoField, .ref c_NoNet, .ref c_NoOrder, .ref c_NoPlace, .ref c_NoRow, .ref c_NoThing] = some false)
  (tt : PySem.W.kitOne K (.type "tuple") (.type "tuple") = some true)
  (ib : PySem.W.kitOne K (.type "int") (.type "bool") = some false)
  (nt : PySem.W.kitOne K (.type "NoneType") (.type "tuple") = some false) :
  ∃ fd : FuncData, (∀ (s : Shared) (v : Value), BindsTo s fd ⟨[v], []⟩ [("script", v)]) ∧ ∀ base : Heap, K.In base → base.Ns mainGlobals mg → FnOk l.prog w K mg base CX0 6 fa fd ["script"] (spLaw K) := by
 have e := hfa.symm.trans (PySem.W.mg_of X G az17)
 cases e
 exact ⟨PySem.W.fnOf "law" "law" (defArgs s_law) (defBody s_law) (defScope s_law) .none kVz17 dcz17 pmz17 anz17 cdz17 ctz17, fun s v => .of_eq rfl, fun base _ _ => ok_law (fun_mk (st := s_law) lz17 cz17 kz17)
  ⟨fz0, _, (fun_mk (st := s_fraction) lz0 cz0 kz0), (fun_mk (st := s_fraction) lz0 cz0 kz0).binds (ps := ["above", "below"]) fun _ _ _ _ _ _ us hl => match us, hl with | [_, _], _ => rfl, PySem.W.mg_of X G az0,
   fz1, _, (fun_mk (st := s_common_divisor) lz1 cz1 kz1), (fun_mk (st := s_common_divisor) lz1 cz1 kz1).binds (ps := ["one", "other"]) fun _ _ _ _ _ _ us hl => match us, hl with | [_, _], _ => rfl, PySem.W.mg_of X G az1,
   fz2, _, (fun_mk (st := s_read_number) lz2 cz2 kz2), (fun_mk (st := s_read_number) lz2 cz2 kz2).binds (ps := ["text"]) fun _ _ _ _ _ _ us hl => match us, hl with | [_], _ => rfl, PySem.W.mg_of X G az2,
   fz3, _, (fun_mk (st := s_read_signed) lz3 cz3 kz3), (fun_mk (st := s_read_signed) lz3 cz3 kz3).binds (ps := ["text"]) fun _ _ _ _ _ _ us hl => match us, hl with | [_], _ => rfl, PySem.W.mg_of X G az3,
   fz4, _, (fun_mk (st := s_read_figures) lz4 cz4 kz4), (fun_mk (st := s_read_figures) lz4 cz4 kz4).binds (ps := ["text"]) fun _ _ _ _ _ _ us hl => match us, hl with | [_], _ => rfl, PySem.W.mg_of X G az4,
   fz5, _, (fun_mk (st := s__law_deck) lz5 cz5 kz5), (fun_mk (st := s__law_deck) lz5 cz5 kz5).binds (ps := ["script"]) fun _ _ _ _ _ _ us hl => match us, hl with | [_], _ => rfl, PySem.W.mg_of X G az5,
   fz6, _, (fun_mk (st := s__law_take) lz6 cz6 kz6), (fun_mk (st := s__law_take) lz6 cz6 kz6).binds (ps := ["deck", "many"]) fun _ _ _ _ _ _ us hl => match us, hl with | [_, _], _ => rfl, PySem.W.mg_of X G az6,
   fz7, _, (fun_mk (st := s__law_common) lz7 cz7 kz7), (fun_mk (st := s__law_common) lz7 cz7 kz7).binds (ps := ["one", "other"]) fun _ _ _ _ _ _ us hl => match us, hl with | [_, _], _ => rfl, PySem.W.mg_of X G az7,
   fz8, _, (fun_mk (st := s__law_least) lz8 cz8 kz8), (fun_mk (st := s__law_least) lz8 cz8 kz8).binds (ps := ["top", "below"]) fun _ _ _ _ _ _ us hl => match us, hl with | [_, _], _ => rfl, PySem.W.mg_of X G az8,
   fz9, _, (fun_mk (st := s__law_whole_number) lz9 cz9 kz9), (fun_mk (st := s__law_whole_number) lz9 cz9 kz9).binds (ps := ["deck"]) fun _ _ _ _ _ _ us hl => match us, hl with | [_], _ => rfl, PySem.W.mg_of X G az9,
   fz10, _, (fun_mk (st := s__law_number) lz10 cz10 kz10), (fun_mk (st := s__law_number) lz10 cz10 kz10).binds (ps := ["deck"]) fun _ _ _ _ _ _ us hl => match us, hl with | [_], _ => rfl, PySem.W.mg_of X G az10,
   fz11, _, (fun_mk (st := s__law_figures) lz11 cz11 kz11), (fun_mk (st := s__law_figures) lz11 cz11 kz11).binds (ps := ["text"]) fun _ _ _ _ _ _ us hl => match us, hl with | [_], _ => rfl, PySem.W.mg_of X G az11,
   fz12, _, (fun_mk (st := s__law_reading) lz12 cz12 kz12), (fun_mk (st := s__law_reading) lz12 cz12 kz12).binds (ps := ["text"]) fun _ _ _ _ _ _ us hl => match us, hl with | [_], _ => rfl, PySem.W.mg_of X G az12,
   fz13, _, (fun_mk (st := s__law_text) lz13 cz13 kz13), (fun_mk (st := s__law_text) lz13 cz13 kz13).binds (ps := ["number"]) fun _ _ _ _ _ _ us hl => match us, hl with | [_], _ => rfl, PySem.W.mg_of X G az13,
   fz14, _, (fun_mk (st := s__law_spoilt) lz14 cz14 kz14), (fun_mk (st := s__law_spoilt) lz14 cz14 kz14).binds (ps := ["deck", "number"]) fun _ _ _ _ _ _ us hl => match us, hl with | [_, _], _ => rfl, PySem.W.mg_of X G az14,
   fz15, _, (fun_mk (st := s__law_free) lz15 cz15 kz15), (fun_mk (st := s__law_free) lz15 cz15 kz15).binds (ps := ["deck"]) fun _ _ _ _ _ _ us hl => match us, hl with | [_], _ => rfl, PySem.W.mg_of X G az15,
   fz16, _, (fun_mk (st := s__law_right) lz16 cz16 kz16), (fun_mk (st := s__law_right) lz16 cz16 kz16).binds (ps := ["text"]) fun _ _ _ _ _ _ us hl => match us, hl with | [_], _ => rfl, PySem.W.mg_of X G az16,
   PySem.W.mg_none_of X G z_len,
   PySem.W.mg_none_of X G z_range,
   PySem.W.mg_none_of X G z_tuple,
   PySem.W.mg_none_of X G z_isinstance,
   PySem.W.mg_none_of X G z_bool,
   PySem.W.mg_none_of X G z_sum,
   PySem.W.mg_none_of X G z_max,
   PySem.W.mg_none_of X G z_str,
   PySem.W.mg_none_of X G z_int,
   PySem.W.mg_none_of X G z_abs,
   PySem.W.mg_none_of X G z_all,
   PySem.W.mg_none_of X G z_ValueError,
   tt,
   ib,
   nt,
   c_OrderError, PySem.W.mg_of X G ac_OrderError, c_NoNumber, PySem.W.mg_of X G ac_NoNumber, c_NoOrder, PySem.W.mg_of X G ac_NoOrder, c_Clash, PySem.W.mg_of X G ac_Clash, c_NoField, PySem.W.mg_of X G ac_NoField, c_NoRow, PySem.W.mg_of X G ac_NoRow, c_NoNet, PySem.W.mg_of X G ac_NoNet, c_NoPlace, PySem.W.mg_of X G ac_NoPlace, c_NoThing, PySem.W.mg_of X G ac_NoThing, c_NoAsk, PySem.W.mg_of X G ac_NoAsk, ⟨PySem.W.mg_of X G ac_NoNumber, ⟨xga, xgn, xcl, xsb, xso, ⟨_, _, _, _, xlk⟩⟩, xeq⟩, xem, xot, xow, xva, xoN, ⟨⟨_, PySem.W.mg_of X G gF⟩, ⟨_, PySem.W.mg_of X G gB⟩, ⟨_, PySem.W.mg_of X G gW⟩⟩⟩⟩
theorem walk {l : PySem.W.OpenLaw} {q : Program} {loose : List Str} {XP : (Str → Option Value) → Heap → Prop} {YP : World → Heap → Prop} {d : DefRec} {K : Params → PySem.W.Frag} (hn : l.most = some 63) (hdf : d.params.defaults = [])
  (hY : ∀ (w : World) (h : Heap), YP w h → (K w.params).In h)
  (F : ∀ (w : World) (mg : Str → Option Value) (fa : Addr) (h : Heap), (K w.params).In h → h.Ns mainGlobals mg → mg d.name = some (.ref fa) →
   ∃ fd : FuncData, (∀ (s : Shared) (u : Value), BindsTo s fd ⟨[u], []⟩ [("script", u)]) ∧ ∀ base : Heap, (K w.params).In base → base.Ns mainGlobals mg → FnOk l.prog w (K w.params) mg base CX0 6 fa fd ["script"] (spLaw (K w.params))) :
  PySem.W.WalkO q loose XP YP l.row.toRowW d [] (fun f vs => PySem.call f vs) :=
 L2.walk_of (n := 63) (k := 6) (x := "script") (CX := fun _ => CX0) (sp := fun w => spLaw (K w.params)) hn (by decide) hdf ⟨rfl, by decide, by decide⟩ hY F (fun _ _ a ns hl _ hS => ⟨a, ns, rfl, hS, hl, fun _ => rfl⟩) fun _ _ _ _ _ z => z
end K03
def PySem.W.Fast.tw15509234233837255520 : Nat := 0
def PySem.W.Fast.tw15798570849753376012 : Nat := 0
def PySem.W.Fast.tw15377242010712847950 : Nat := 0
def PySem.W.Fast.tw807980764440645206 : Nat := 0
def PySem.W.Fast.tw11620044600258088314 : Nat := 0
def PySem.W.Fast.tw722596725512155487 : Nat := 0
open PySem PySem.W PyProof.Rows
set_option maxRecDepth 100000 in
set_option maxHeartbeats 0 in
theorem PySem.Challenge.cw_ordertext_k03_numbers_read_holds : PySem.Challenge.rw_ordertext_k03_numbers_read.Holds := by
 w_on; o_law; k_head; (case hw => w_witness2)
 k_fill
 refine K03.walk (l := PySem.Challenge.rw_ordertext_k03_numbers_read) rfl rfl (fun w h Y => PySem.W.kIn_of Y) ?F
 case F =>
  intro w mg fa h KX G hmg
  refine' K03.all_mk KX G hmg ?az0 ?lz0 ?cz0 ?kz0 ?az1 ?lz1 ?cz1 ?kz1 ?az2 ?lz2 ?cz2 ?kz2 ?az3 ?lz3 ?cz3 ?kz3 ?az4 ?lz4 ?cz4 ?kz4 ?az5 ?lz5 ?cz5 ?kz5 ?az6 ?lz6 ?cz6 ?kz6 ?az7 ?lz7 ?cz7 ?kz7 ?az8 ?lz8 ?cz8 ?kz8 ?az9 ?lz9 ?cz9 ?kz9 ?az10 ?lz10 ?cz10 ?kz10 ?az11 ?lz11 ?cz11 ?kz11 ?az12 ?lz12 ?cz12 ?kz12 ?az13 ?lz13 ?cz13 ?kz13 ?az14 ?lz14 ?cz14 ?kz14 ?az15 ?lz15 ?cz15 ?kz15 ?az16 ?lz16 ?cz16 ?kz16 ?az17 ?lz17 ?cz17 ?kz17 ?z_len ?z_range ?z_tuple ?z_isinstance ?z_bool ?z_sum ?z_max ?z_str ?z_int ?z_abs ?z_all ?z_ValueError ?gF ?gB ?gW ?ac_OrderError ?ac_NoNumber ?ac_NoOrder ?ac_Clash ?ac_NoField ?ac_NoRow ?ac_NoNet ?ac_NoPlace ?ac_NoThing ?ac_NoAsk ?xlk ?xga ?xgn ?xcl ?xsb ?xso ?xeq ?xem ?xot ?xow ?xva ?xoN ?tt ?ib ?nt
  (case az0 => k_is)
  (case lz0 => k_is)
  (case cz0 => k_is)
  (case kz0 => k_is)
  (case az1 => k_is)
  (case lz1 => k_is)
  (case cz1 => k_is)
  (case kz1 => k_is)
  (case az2 => k_is)
  (case lz2 => k_is)
  (case cz2 => k_is)
  (case kz2 => k_is)
  (case az3 => k_is)
  (case lz3 => k_is)
  (case cz3 => k_is)
  (case kz3 => k_is)
  (case az4 => k_is)
  (case lz4 => k_is)
  (case cz4 => k_is)
  (case kz4 => k_is)
  (case az5 => k_is)
  (case lz5 => k_is)
  (case cz5 => k_is)
  (case kz5 => k_is)
  (case az6 => k_is)
  (case lz6 => k_is)
  (case cz6 => k_is)
  (case kz6 => k_is)
  (case az7 => k_is)
  (case lz7 => k_is)
  (case cz7 => k_is)
  (case kz7 => k_is)
  (case az8 => k_is)
  (case lz8 => k_is)
  (case cz8 => k_is)
  (case kz8 => k_is)
  (case az9 => k_is)
  (case lz9 => k_is)
  (case cz9 => k_is)
  (case kz9 => k_is)
  (case az10 => k_is)
  (case lz10 => k_is)
  (case cz10 => k_is)
  (case kz10 => k_is)
  (case az11 => k_is)
  (case lz11 => k_is)
  (case cz11 => k_is)
  (case kz11 => k_is)
  (case az12 => k_is)
  (case lz12 => k_is)
  (case cz12 => k_is)
  (case kz12 => k_is)
  (case az13 => k_is)
  (case lz13 => k_is)
  (case cz13 => k_is)
  (case kz13 => k_is)
  (case az14 => k_is)
  (case lz14 => k_is)
  (case cz14 => k_is)
  (case kz14 => k_is)
  (case az15 => k_is)
  (case lz15 => k_is)
  (case cz15 => k_is)
  (case kz15 => k_is)
  (case az16 => k_is)
  (case lz16 => k_is)
  (case cz16 => k_is)
  (case kz16 => k_is)
  (case az17 => k_is)
  (case lz17 => k_is)
  (case cz17 => k_is)
  (case kz17 => k_is)
  (case z_len => k_is)
  (case z_range => k_is)
  (case z_tuple => k_is)
  (case z_isinstance => k_is)
  (case z_bool => k_is)
  (case z_sum => k_is)
  (case z_max => k_is)
  (case z_str => k_is)
  (case z_int => k_is)
  (case z_abs => k_is)
  (case z_all => k_is)
  (case z_ValueError => k_is)
  (case gF => k_is)
  (case gB => k_is)
  (case gW => k_is)
  (case ac_OrderError => k_is)
  (case ac_NoNumber => k_is)
  (case ac_NoOrder => k_is)
  (case ac_Clash => k_is)
  (case ac_NoField => k_is)
  (case ac_NoRow => k_is)
  (case ac_NoNet => k_is)
  (case ac_NoPlace => k_is)
  (case ac_NoThing => k_is)
  (case ac_NoAsk => k_is)
  (case xlk => k_is)
  (case xga => first | kit_is | k_is | rfl | kernel_rfl)
  (case xgn => first | kit_is | k_is | rfl | kernel_rfl)
  (case xcl => first | kit_is | k_is | rfl | kernel_rfl)
  (case xsb => first | kit_is | k_is | rfl | kernel_rfl)
  (case xso => first | kit_is | k_is | rfl | kernel_rfl)
  (case xeq => first | kit_is | k_is | rfl | kernel_rfl)
  (case xem => first | kit_is | k_is | rfl | kernel_rfl)
  (case xot => first | kit_is | k_is | rfl | kernel_rfl)
  (case xow => first | kit_is | k_is | rfl | kernel_rfl)
  (case xva => first | kit_is | k_is | rfl | kernel_rfl)
  (case xoN => first | kit_is | k_is | rfl | kernel_rfl)
  (case tt => first | kit_is | k_is | rfl)
  (case ib => first | kit_is | k_is | rfl)
  (case nt => first | kit_is | k_is | rfl)
