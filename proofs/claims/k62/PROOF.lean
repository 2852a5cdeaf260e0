import PyProof.Rows.All
import Wide.All
import OpenK.AllK
import Wide.FinOn
import Lean
import PyProof.EqAt
import PyProof.EqKinds
import PyProof.TupleCall
import PySem.Challenge.RW_ordertext_k62_moves_lead
set_option Elab.async false
set_option linter.all false
set_option maxRecDepth 100000
/-! THE HAND LAYER, for ints, bools, texts, own classes, LISTS and tuples (index, slices, in, append, pop ..), calls, loops. Paste it whole ahead of your own text; what your proof does not reach may be deleted. -/
namespace L2
open PySem PySem.Spec PyProof.Rows

/-- a key: an int or a str -/
abbrev Key := Sum Int Str
def keyIs : Key → Value → Bool
  | .inl k, v => Value.isInt k v
  | .inr x, v => Value.isStrOf x v
def keyH (w : World) : Key → Int
  | .inl k => hashInt k
  | .inr x => hashStr w x
theorem keyIs_shape : ∀ {k : Key} {v : Value}, keyIs k v = true → (∃ i t, k = Sum.inl i ∧ v = Value.int i t) ∨ (∃ x t, k = Sum.inr x ∧ v = Value.str x t)
  | .inl i, v, h => by
    obtain ⟨t, e⟩ := Value.isInt_shape (k := i) (v := v) h
    exact .inl ⟨i, t, rfl, e⟩
  | .inr x, v, h => by
    obtain ⟨t, e⟩ := Value.isStrOf_shape (x := x) (v := v) h
    exact .inr ⟨x, t, rfl, e⟩
theorem keyIs_int (i : Int) (t : Tok) : keyIs (.inl i) (.int i t) = true := by simp [keyIs, Value.isInt]
theorem keyIs_str (x : Str) (t : Tok) : keyIs (.inr x) (.str x t) = true := by simp [keyIs, Value.isStrOf]
theorem key_ll (a b : Int) : decide ((Sum.inl a : Key) = Sum.inl b) = (a == b) := by
  by_cases e : a = b
  · subst e; simp
  · have h : ¬ (Sum.inl a : Key) = Sum.inl b := fun q => e (Sum.inl.inj q)
    rw [decide_eq_false h]
    exact (beq_eq_false_iff_ne.mpr e).symm
theorem key_rr (a b : Str) : decide ((Sum.inr a : Key) = Sum.inr b) = decide (a = b) := by
  by_cases e : a = b
  · subst e; simp
  · have h : ¬ (Sum.inr a : Key) = Sum.inr b := fun q => e (Sum.inr.inj q)
    rw [decide_eq_false h, decide_eq_false e]
theorem key_lr (a : Int) (b : Str) : decide ((Sum.inl a : Key) = Sum.inr b) = false := decide_eq_false (fun q => nomatch q)
theorem key_rl (a : Str) (b : Int) : decide ((Sum.inr a : Key) = Sum.inl b) = false := decide_eq_false (fun q => nomatch q)

def mixKind (prog : Program) (w : World) : PySem.KeyKind prog w Key where
  is := keyIs
  hash := keyH w
  inj := fun v a b ha hb => by
    rcases keyIs_shape ha with ⟨i, t, rfl, rfl⟩ | ⟨x, t, rfl, rfl⟩
    · rcases keyIs_shape hb with ⟨j, u, rfl, e⟩ | ⟨y, u, rfl, e⟩
      · injection e with e1 _; rw [e1]
      · exact nomatch e
    · rcases keyIs_shape hb with ⟨j, u, rfl, e⟩ | ⟨y, u, rfl, e⟩
      · exact nomatch e
      · injection e with e1 _; rw [e1]
  byValue := fun k v h => by
    rcases keyIs_shape h with ⟨i, t, rfl, rfl⟩ | ⟨x, t, rfl, rfl⟩ <;> rfl
  pyHash := fun hv h => by
    rcases keyIs_shape hv with ⟨i, t, rfl, rfl⟩ | ⟨x, t, rfl, rfl⟩
    · exact wpAny_pyHash_int h
    · exact wpAny_pyHash_str h
  eqBool := fun hu hv h => by
    rcases keyIs_shape hu with ⟨i, t, rfl, rfl⟩ | ⟨x, t, rfl, rfl⟩
    · rcases keyIs_shape hv with ⟨j, u, rfl, rfl⟩ | ⟨y, u, rfl, rfl⟩
      · rw [key_ll] at h; exact wpAny_eqBool_int h
      · rw [key_lr] at h; exact SeqAt.EqAt.int_str i t y u _ _ _ _ h
    · rcases keyIs_shape hv with ⟨j, u, rfl, rfl⟩ | ⟨y, u, rfl, rfl⟩
      · rw [key_rl] at h; exact SeqAt.EqAt.str_int x t j u _ _ _ _ h
      · rw [key_rr] at h; exact wpAny_eqBool_str h
  «strs» := fun k x t v h => by
    rcases keyIs_shape h with ⟨i, u, rfl, e⟩ | ⟨y, u, rfl, e⟩
    · exact nomatch e
    · injection e with e1 _
      subst e1
      cases v <;> rfl

theorem mixKind_is (prog : Program) (w : World) (k : Key) (v : Value) : (mixKind prog w).is k v = keyIs k v := rfl
theorem mixKind_int (prog : Program) (w : World) (i : Int) (t : Tok) : (mixKind prog w).is (.inl i) (.int i t) = true := keyIs_int i t
theorem mixKind_str (prog : Program) (w : World) (x : Str) (t : Tok) : (mixKind prog w).is (.inr x) (.str x t) = true := keyIs_str x t
end L2

namespace L2
open PySem PySem.Spec PyProof.Rows

/-- a value, without the heap -/
inductive V where
  | non | bl (b : Bool) | int (i : Int) | str (x : Str) | byt (b : Array UInt8) | flt (b : UInt64) | ref (a : Addr) | ty (n : String)
  deriving DecidableEq

def RelV : V → Value → Prop
  | .non, u => u = Value.none
  | .bl b, u => u = Value.bool b
  | .int i, u => ∃ t, u = Value.int i t
  | .str x, u => ∃ t, u = Value.str x t
  | .byt b, u => ∃ t, u = Value.bytes b t
  | .flt b, u => ∃ t, u = Value.float b t
  | .ref a, u => u = Value.ref a
  | .ty n, u => u = Value.type n

abbrev Vals : List V → List Value → Prop := Paired RelV
theorem Vals.length {xs : List V} {us : List Value} (r : Vals xs us) : xs.length = us.length := Paired.length r
theorem Vals.get : ∀ {xs : List V} {us : List Value} {i : Nat} {x : V}, Vals xs us → xs[i]? = some x → ∃ u, us[i]? = some u ∧ RelV x u
  | _, _, _, _, .nil, e => by simp at e
  | _, _, 0, _, .cons r _, e => by simp at e; subst e; exact ⟨_, rfl, r⟩
  | _, _, i + 1, x, .cons _ t, e => by
    obtain ⟨u, h1, h2⟩ := Vals.get (i := i) (x := x) t (by simpa using e)
    exact ⟨u, by simpa using h1, h2⟩
theorem Vals.set {x : V} {u : Value} (r : RelV x u) : ∀ {xs : List V} {us : List Value} (i : Nat), Vals xs us → Vals (xs.set i x) (us.set i u)
  | _, _, _, .nil => .nil
  | _, _, 0, .cons _ t => .cons r t
  | _, _, i + 1, .cons q t => .cons q (Vals.set r i t)
theorem Vals.append : ∀ {xs ys : List V} {us ws : List Value}, Vals xs us → Vals ys ws → Vals (xs ++ ys) (us ++ ws)
  | _, _, _, _, .nil, s => s
  | _, _, _, _, .cons r t, s => .cons r (Vals.append t s)
theorem Vals.take : ∀ {xs : List V} {us : List Value} (n : Nat), Vals xs us → Vals (xs.take n) (us.take n)
  | _, _, 0, _ => .nil
  | _, _, _ + 1, .nil => .nil
  | _, _, n + 1, .cons r t => .cons r (Vals.take n t)
theorem Vals.drop : ∀ {xs : List V} {us : List Value} (n : Nat), Vals xs us → Vals (xs.drop n) (us.drop n)
  | _, _, 0, r => r
  | _, _, _ + 1, .nil => .nil
  | _, _, n + 1, .cons _ t => Vals.drop n t
theorem Vals.none_of : ∀ {xs : List V} {us : List Value} {i : Nat}, Vals xs us → xs[i]? = none → us[i]? = none := fun {xs us i} r e => by
  have h1 := r.length
  have h2 : xs.length ≤ i := List.getElem?_eq_none_iff.mp e
  exact List.getElem?_eq_none_iff.mpr (by omega)

def RelO : Option V → Option Value → Prop
  | some v, some u => RelV v u
  | none, none => True
  | _, _ => False
def KV {κ : Type} : List (κ × V) → List (κ × Value) → Prop := Paired fun (p : κ × V) (q : κ × Value) => p.1 = q.1 ∧ RelV p.2 q.2

/-- a key of a dict (00_mix): an int or a text -/
def kV : Key → V
  | .inl i => .int i
  | .inr x => .str x

/-- what stands at a tracked address -/
inductive HO where
  /-- a list -/
  | lst (xs : List V)
  /-- a tuple (never changes) -/
  | tup (xs : List V)
  /-- a dict whose keys are ints and texts; one whose keys are tuples of ints and texts (the empty one is both) -/
  | dK (kvs : List (Key × V)) | dT (kvs : List (List Key × V))
  /-- a set of ints: its members, its size -/
  | set (S : Int → Bool) (n : Nat)
  /-- an instance of the class at C, its dict at dx, its attributes -/
  | ins (C dx : Addr) (fs : List (Str × V))
  /-- the dict of the instance at x -/
  | own (x : Addr)
  /-- the dict of an exception -/
  | xd (fs : List (Str × V))
  /-- a bound method, f of x -/
  | met (f x : Addr)
  /-- a range object lo, lo + 1, .. below hi -/
  | rng (lo hi : Int)
  /-- a thing that is known to the object (the script; a dict while a loop walks it): read, never written while it is so -/
  | frz (o : Obj) (u : HO)
  /-- a code object's table -/
  | tbl (cr : Nat → Nat → Option Str)
  /-- any other thing, by what is true of its one object (a def of one's own: SetO a S n := HO.ext fun h => ..) -/
  | ext (φ : Heap → Prop)

abbrev Hp := Addr → Option HO
def upd (H : Hp) (a : Addr) (o : HO) : Hp := fun b => if b = a then some o else H b
theorem upd_same {H : Hp} {a : Addr} {o : HO} : upd H a o a = some o := by unfold upd; rw [if_pos rfl]
theorem upd_ne {H : Hp} {a b : Addr} {o : HO} (h : b ≠ a) : upd H a o b = H b := by unfold upd; rw [if_neg h]
theorem upd_upd {H : Hp} {a : Addr} {o u : HO} : upd (upd H a o) a u = upd H a u := by
  funext b; unfold upd; split <;> rfl
/-- two objects of different content stand apart -/
theorem ne_of {H : Hp} {a b : Addr} {o u : HO} (h : H a = some o) (h' : H b = some u) (d : o ≠ u) : a ≠ b := by
  intro e; subst e; rw [h] at h'; exact d (Option.some.inj h')
theorem ne_of_none {H : Hp} {a b : Addr} {o : HO} (h : H a = some o) (h' : H b = none) : a ≠ b := by
  intro e; subst e; rw [h] at h'; cases h'

/-- a code object of the name q -/
def CodeOf (oc : Obj) (q : Str) : Prop := ∃ (vs : Array Value) (t : Tok), oc.data = .fields vs ∧ vs[1]? = some (.str q t)
section
variable (P : Program) (w : World)
def ObjOk (H : Hp) (h : Heap) (a : Addr) : HO → Prop
  | .lst xs => xs.length ≤ sizeLine ∧ ∃ (its : List Value) (n : Nat), Vals xs its ∧ h.get? a = some { cls := .type "list", data := .seq its.toArray n }
  | .tup xs => xs.length ≤ sizeLine ∧ ∃ its : List Value, Vals xs its ∧ IsTup h a its.toArray
  | .dK kvs => kvs.length ≤ sizeLine ∧ (a == sysModules) = false ∧ ∃ vs, KV kvs vs ∧ h.DictOf (mixKind P w) a vs
  | .dT kvs => kvs.length ≤ sizeLine ∧ (a == sysModules) = false ∧ ∃ xs : List (List Key × Addr × Value),
      Paired (fun (p : List Key × V) (q : List Key × Addr × Value) => p.1 = q.1 ∧ H q.2.1 = some (.tup (p.1.map kV)) ∧ RelV p.2 q.2.2) kvs xs ∧
      ∃ o es ep, h.get? a = some o ∧ o.ExactDict ∧ o.data = .dict es ep ∧ es.toList = xs.map (entryOfKey (tupleKind (mixKind P w))) ∧ (xs.map (·.1)).Nodup
  | .set S n => h.SetOf (intKind P w) a S n
  | .ins C dx fs => H dx = some (.own a) ∧ fs.length ≤ 1000 ∧ dx ≠ a ∧ h.get? a = some (PySem.W.instObj C dx) ∧
      ∃ mA, h.Ns1 dx mA ∧ (∀ f, RelO (fs.lookup f) (mA f)) ∧ PySem.Within mA (fs.map (·.1))
  | .own _ => ∃ o, h.get? a = some o
  | .xd fs => ∃ mA, h.Ns1 a mA ∧ ∀ f, RelO (fs.lookup f) (mA f)
  | .rng lo hi => ∃ t u v, h.get? a = some { cls := .type "range", data := .fields #[.int lo t, .int hi u, .int 1 v] }
  | .frz o u => h.get? a = some o ∧ ObjOk H h a u
  | .tbl cr => ∃ ps : Array Value, h.get? a = some { cls := .none, data := .fields ps } ∧ TriplesOk ps.toList ∧ ∀ (pos : Pos) (v : Value), codeAmong pos ps.toList = some v →
      ∃ (c : Addr) (oc : Obj) (q : Str), v = .ref c ∧ cr pos.line pos.col = some q ∧ H c = some (.frz oc (.own c)) ∧ CodeOf oc q
  | .met f x => h.get? a = some (PySem.W.methodObj (.ref f) (.ref x))
  | .ext φ => φ h ∧ (∃ o, h.get? a = some o) ∧ ∀ h1 h2 : Heap, φ h1 → (∀ o, h1.get? a = some o → h2.get? a = some o) → φ h2
/-- the abstract heap is held -/
def HOk (H : Hp) (h : Heap) : Prop := ∀ a o, H a = some o → ObjOk P w H h a o
end

section
variable {P : Program} {w : World} {H H' : Hp} {h h' : Heap} {a : Addr} {o : HO}
theorem ObjOk.lt (x : ObjOk P w H h a o) : a < h.objs.size := by
  cases o with
  | lst xs => obtain ⟨_, _, _, _, e⟩ := x; exact Heap.lt_size e
  | tup xs => obtain ⟨_, _, _, p⟩ := x; exact p.lt
  | dK kvs => obtain ⟨_, _, _, _, o, _, _, e, _⟩ := x; exact Heap.lt_size e
  | dT kvs => obtain ⟨_, _, _, _, o, _, _, e, _⟩ := x; exact Heap.lt_size e
  | set S n => obtain ⟨o, _, _, _, e, _⟩ := x; exact Heap.lt_size e
  | ins C dx fs => obtain ⟨_, _, _, e, _⟩ := x; exact Heap.lt_size e
  | own y => obtain ⟨_, e⟩ := x; exact Heap.lt_size e
  | xd fs => obtain ⟨_, ⟨_, _, _, e, _⟩, _⟩ := x; exact Heap.lt_size e
  | rng lo hi => obtain ⟨_, _, _, e⟩ := x; exact Heap.lt_size e
  | frz ob u => obtain ⟨e, _⟩ := x; exact Heap.lt_size e
  | tbl cr => obtain ⟨_, e, _⟩ := x; exact Heap.lt_size e
  | met f y => exact Heap.lt_size (show h.get? a = some _ from x)
  | ext φ => obtain ⟨_, ⟨_, e⟩, _⟩ := x; exact Heap.lt_size e
theorem Paired.mapP {α β : Type} {F G : α → β → Prop} : ∀ {l₁ : List α} {l₂ : List β}, Paired F l₁ l₂ → (∀ a b, F a b → G a b) → Paired G l₁ l₂
  | _, _, .nil, _ => .nil
  | _, _, .cons r t, f => .cons (f _ _ r) (Paired.mapP t f)
theorem Paired.imp' {α β : Type} {F G : α → β → Prop} (f : ∀ a b, F a b → G a b) {l₁ : List α} {l₂ : List β} (r : Paired F l₁ l₂) : Paired G l₁ l₂ := Paired.mapP r f
/-- what an object's description leans on: its own object, its own dict, the tuples -/
theorem ObjOk.stay (x : ObjOk P w H h a o) (k : ∀ b u, (b = a ∨ H b = some (.own a)) → h.get? b = some u → h'.get? b = some u)
    (ho : ∀ b, H b = some (.own a) → H' b = some (.own a)) (ht : ∀ b xs, H b = some (.tup xs) → H' b = some (.tup xs)) (hz : ∀ b o u, H b = some (.frz o u) → H' b = some (.frz o u)) : ObjOk P w H' h' a o := by
  induction o with
  | lst xs => obtain ⟨z, its, n, r, e⟩ := x; exact ⟨z, its, n, r, k _ _ (.inl rfl) e⟩
  | tup xs => obtain ⟨z, its, r, ob, e, c⟩ := x; exact ⟨z, its, r, ob, k _ _ (.inl rfl) e, c⟩
  | dK kvs => obtain ⟨z, y, vs, r, ob, es, ep, e, c⟩ := x; exact ⟨z, y, vs, r, ob, es, ep, k _ _ (.inl rfl) e, c⟩
  | dT kvs =>
    obtain ⟨z, y, xs, r, ob, es, ep, e, c⟩ := x
    exact ⟨z, y, xs, Paired.mapP r fun p q z => ⟨z.1, ht _ _ z.2.1, z.2.2⟩, ob, es, ep, k _ _ (.inl rfl) e, c⟩
  | set S n => obtain ⟨ob, es, ep, t, e, c⟩ := x; exact ⟨ob, es, ep, t, k _ _ (.inl rfl) e, c⟩
  | ins C dx fs =>
    obtain ⟨d, z, ne, e, mA, ⟨od, es, ep, e2, c⟩, r⟩ := x
    exact ⟨ho _ d, z, ne, k _ _ (.inl rfl) e, mA, ⟨od, es, ep, k _ _ (.inr d) e2, c⟩, r⟩
  | own y => obtain ⟨ob, e⟩ := x; exact ⟨ob, k _ _ (.inl rfl) e⟩
  | xd fs => obtain ⟨mA, ⟨od, es, ep, e, c⟩, r⟩ := x; exact ⟨mA, ⟨od, es, ep, k _ _ (.inl rfl) e, c⟩, r⟩
  | rng lo hi => obtain ⟨t, u, v, e⟩ := x; exact ⟨t, u, v, k _ _ (.inl rfl) e⟩
  | frz ob u ih => obtain ⟨e, q⟩ := x; exact ⟨k _ _ (.inl rfl) e, ih q⟩
  | tbl cr =>
    obtain ⟨ps, e, ht3, hc⟩ := x
    exact ⟨ps, k a _ (.inl rfl) e, ht3, fun pos v q => let ⟨c, oc, z, h1, h2, h3, h4⟩ := hc pos v q; ⟨c, oc, z, h1, h2, hz _ _ _ h3, h4⟩⟩
  | met f y =>
    have e : h.get? a = some (PySem.W.methodObj (.ref f) (.ref y)) := x
    show h'.get? a = some (PySem.W.methodObj (.ref f) (.ref y))
    exact k a _ (.inl rfl) e
  | ext φ => obtain ⟨p, ⟨o, e⟩, st⟩ := x; exact ⟨st _ _ p fun o q => k _ _ (.inl rfl) q, ⟨o, k _ _ (.inl rfl) e⟩, st⟩
theorem HOk.lt (x : HOk P w H h) (e : H a = some o) : a < h.objs.size := (x a o e).lt
theorem HOk.fresh (x : HOk P w H h) (e : h.objs.size ≤ a) : H a = none := by
  cases q : H a with
  | none => rfl
  | some u => exact absurd (Nat.lt_of_lt_of_le (x.lt q) e) (Nat.lt_irrefl _)
/-- every object of the heap is kept -/
theorem HOk.kept (x : HOk P w H h) (k : ∀ b u, h.get? b = some u → h'.get? b = some u) : HOk P w H h' := fun a o e =>
  (x a o e).stay (fun b u _ q => k b u q) (fun _ q => q) (fun _ _ q => q) fun _ _ _ q => q
/-- a new object is laid and tracked -/
theorem HOk.laid (x : HOk P w H h) (k : ∀ b u, h.get? b = some u → h'.get? b = some u) (hp : h.objs.size ≤ a) (new : ObjOk P w (upd H a o) h' a o) : HOk P w (upd H a o) h' := fun b u e => by
  have hn := x.fresh hp
  by_cases hb : b = a
  · subst hb; rw [upd_same] at e; cases e; exact new
  · rw [upd_ne hb] at e
    exact (x b u e).stay (fun c v _ q => k c v q) (fun c q => by rw [upd_ne (ne_of_none q hn)]; exact q) (fun c xs q => by rw [upd_ne (ne_of_none q hn)]; exact q) fun c o u q => by rw [upd_ne (ne_of_none q hn)]; exact q
end

/-- what may be read as u: it is u, or a known u -/
def Rd (H : Hp) (a : Addr) (u : HO) : Prop := H a = some u ∨ ∃ o, H a = some (.frz o u)
theorem Rd.of {H : Hp} {a : Addr} {u : HO} (h : H a = some u) : Rd H a u := .inl h
theorem Rd.ok {P : Program} {w : World} {H : Hp} {h : Heap} {a : Addr} {u : HO} (r : Rd H a u) (x : HOk P w H h) : ObjOk P w H h a u := by
  rcases r with r | ⟨o, r⟩
  · exact x a u r
  · obtain ⟨_, q⟩ := x a _ r
    exact q
/-- what may be written -/
def Mut : Option HO → Prop
  | some (.lst _) => True
  | some (.dK _) => True
  | some (.dT _) => True
  | some (.set _ _) => True
  | some (.ins _ _ _) => True
  | some (.ext _) => True
  | _ => False
section
variable {P : Program} {w : World} {H : Hp} {h h' : Heap} {x e : Addr} {o' : HO}
/-- the object at e is changed: x itself, or the dict of the instance x -/
theorem HOk.write (ok : HOk P w H h) (mu : Mut (H x)) (he : e = x ∨ H e = some (.own x)) (k : ∀ b u, b ≠ e → h.get? b = some u → h'.get? b = some u) (heo : ∃ u, h'.get? e = some u)
    (new : ObjOk P w (upd H x o') h' x o') : HOk P w (upd H x o') h' := fun b u q => by
  have nown : ∀ c y, H c = some (.own y) → c ≠ x := fun c y r z => by subst z; rw [r] at mu; exact mu
  have ntup : ∀ c xs, H c = some (.tup xs) → c ≠ x := fun c xs r z => by subst z; rw [r] at mu; exact mu
  have nfrz : ∀ c o u, H c = some (.frz o u) → c ≠ x := fun c o u r z => by subst z; rw [r] at mu; exact mu
  by_cases hb : b = x
  · subst hb; rw [upd_same] at q; cases q; exact new
  · rw [upd_ne hb] at q
    by_cases hbe : b = e
    · have q' : H b = some (.own x) := by
        rcases he with z | z
        · exact absurd (hbe.trans z) hb
        · rw [hbe]; exact z
      rw [q] at q'; cases q'
      obtain ⟨v, hv⟩ := heo
      exact ⟨v, by rw [hbe]; exact hv⟩
    · refine (ok b u q).stay (fun c v hc r => k c v ?_ r) (fun c r => by rw [upd_ne (nown c b r)]; exact r) (fun c xs r => by rw [upd_ne (ntup c xs r)]; exact r) fun c o u r => by rw [upd_ne (nfrz c o u r)]; exact r
      rcases hc with rfl | hc
      · exact hbe
      · rintro rfl
        rcases he with z | z
        · exact nown c b hc z
        · rw [hc] at z; cases z; exact hb rfl
end

/-! ### kept unless tracked; of the frames at fs (the callers') the slots may change (an exception that passes writes there); of the records at ex (iterators) nothing is said -/
structure Un (fs ex : List Addr) (H H' : Hp) (h h' : Heap) : Prop where
  keep : ∀ b o, h.get? b = some o → H b = none → b ∉ fs → b ∉ ex → h'.get? b = some o
  slot : ∀ b o, h.get? b = some o → H b = none → b ∈ fs → b ∉ ex → ∃ sl, h'.get? b = some { o with slots := sl }
  free : ∀ b o, h.get? b = some o → H b = none → b ∉ ex → H' b = none
  there : ∀ b o, h.get? b = some o → b ∉ ex → ∃ o', h'.get? b = some o'
  tups : ∀ b xs, H b = some (.tup xs) → H' b = some (.tup xs)
  frzs : ∀ b o u, H b = some (.frz o u) → H' b = some (.frz o u)
  tbls : ∀ b cr, H b = some (.tbl cr) → H' b = some (.tbl cr)
section
variable {fs fs' ex ex' : List Addr} {H H1 H2 : Hp} {h h1 h2 h' : Heap} {a x e : Addr} {o : HO}
theorem Un.any (u : Un fs ex H H1 h h1) {b : Addr} {ob : Obj} (q : h.get? b = some ob) (n : H b = none) (hx : b ∉ ex) : ∃ sl, h1.get? b = some { ob with slots := sl } := by
  by_cases hb : b ∈ fs
  · exact u.slot b ob q n hb hx
  · exact ⟨ob.slots, u.keep b ob q n hb hx⟩
theorem Un.trans (a : Un fs ex H H1 h h1) (b : Un fs ex H1 H2 h1 h2) : Un fs ex H H2 h h2 where
  keep := fun c ob q n hc hx => b.keep c ob (a.keep c ob q n hc hx) (a.free c ob q n hx) hc hx
  slot := fun c ob q n hc hx => by
    obtain ⟨sl, e1⟩ := a.slot c ob q n hc hx
    obtain ⟨sl', e2⟩ := b.slot c _ e1 (a.free c ob q n hx) hc hx
    exact ⟨sl', e2⟩
  free := fun c ob q n hx => by
    obtain ⟨o', e1⟩ := a.there c ob q hx
    exact b.free c o' e1 (a.free c ob q n hx) hx
  there := fun c ob q hx => by
    obtain ⟨o', e1⟩ := a.there c ob q hx
    exact b.there c o' e1 hx
  tups := fun c xs q => b.tups c xs (a.tups c xs q)
  frzs := fun c ob xs q => b.frzs c ob xs (a.frzs c ob xs q)
  tbls := fun c cr q => b.tbls c cr (a.tbls c cr q)
theorem Un.kept (k : ∀ b u, h.get? b = some u → h'.get? b = some u) : Un fs ex H H h h' :=
  ⟨fun b ob q _ _ _ => k b ob q, fun b ob q _ _ _ => ⟨ob.slots, k b ob q⟩, fun _ _ _ n _ => n, fun b ob q _ => ⟨ob, k b ob q⟩, fun _ _ q => q, fun _ _ _ q => q, fun _ _ q => q⟩
theorem Un.refl : Un fs ex H H h h := Un.kept fun _ _ q => q
theorem Un.laid (k : ∀ b u, h.get? b = some u → h'.get? b = some u) (hp : h.objs.size ≤ a) (hn : H a = none) : Un fs ex H (upd H a o) h h' where
  keep := fun b u q _ _ _ => k b u q
  slot := fun b u q _ _ _ => ⟨u.slots, k b u q⟩
  free := fun b u q n _ => by rw [upd_ne (Nat.ne_of_lt (Nat.lt_of_lt_of_le (Heap.lt_size q) hp))]; exact n
  there := fun b u q _ => ⟨u, k b u q⟩
  tups := fun b xs q => by rw [upd_ne (ne_of_none q hn)]; exact q
  frzs := fun b u xs q => by rw [upd_ne (ne_of_none q hn)]; exact q
  tbls := fun b cr q => by rw [upd_ne (ne_of_none q hn)]; exact q
theorem Un.write (mu : Mut (H x)) (he : e = x ∨ H e = some (.own x)) (k : ∀ b u, b ≠ e → h.get? b = some u → h'.get? b = some u) (heo : ∃ u, h'.get? e = some u) : Un fs ex H (upd H x o) h h' := by
  have hx : ∀ b, H b = none → b ≠ x := fun b n z => by subst z; rw [n] at mu; exact mu
  have hb : ∀ b, H b = none → b ≠ e := fun b n z => by
    subst z
    rcases he with r | r
    · exact hx b n r
    · rw [n] at r; cases r
  have hm : ∀ b u, H b = some u → ¬ Mut (some u) → b ≠ x := fun b u q nm z => by subst z; rw [q] at mu; exact nm mu
  refine ⟨fun b u q n _ _ => k b u (hb b n) q, fun b u q n _ _ => ⟨u.slots, k b u (hb b n) q⟩, fun b u q n _ => by rw [upd_ne (hx b n)]; exact n, fun b u q _ => ?_,
    fun b xs q => by rw [upd_ne (hm b _ q fun z => z)]; exact q, fun b u xs q => by rw [upd_ne (hm b _ q fun z => z)]; exact q, fun b cr q => by rw [upd_ne (hm b _ q fun z => z)]; exact q⟩
  by_cases hbe : b = e
  · subst hbe; exact heo
  · exact ⟨u, k b u hbe q⟩
theorem Un.mono (u : Un fs ex H H1 h h1) (hs : ∀ b ∈ fs, b ∈ fs') (hx : ∀ b ∈ ex, b ∈ ex') : Un fs' ex' H H1 h h1 :=
  ⟨fun b ob q n hb he => u.keep b ob q n (fun z => hb (hs b z)) fun z => he (hx b z), fun _ _ q n _ he => u.any q n fun z => he (hx _ z), fun b ob q n he => u.free b ob q n fun z => he (hx b z), fun b ob q he => u.there b ob q fun z => he (hx b z), u.tups, u.frzs, u.tbls⟩
end

/-! ### the heap without what is tracked -/
def trk (h : Heap) (H : Hp) : List Addr := (List.range h.objs.size).filter fun a => (H a).isSome
def hidT (h : Heap) (H : Hp) : Heap := PySem.W.hideAll h (trk h H)
theorem hidT_size (h : Heap) (H : Hp) : (hidT h H).objs.size = h.objs.size := PySem.W.hideAll_size _ _
theorem hidT_get {h : Heap} {H : Hp} {b : Addr} {o : Obj} (e : h.get? b = some o) (n : H b = none) : (hidT h H).get? b = some o :=
  PySem.W.hideAll_get _ e fun hm => by
    have q : (H b).isSome = true := (List.mem_filter.mp hm).2
    rw [n] at q; simp at q
theorem of_hidT {h : Heap} {H : Hp} {b : Addr} {o : Obj} (e : (hidT h H).get? b = some o) : h.get? b = some o ∧ H b = none := by
  have e' : h.get? b = some o := PySem.W.of_hideAll (trk h H) e
  refine ⟨e', ?_⟩
  cases q : H b with
  | none => rfl
  | some x =>
    have hm : b ∈ trk h H := List.mem_filter.mpr ⟨List.mem_range.mpr (Heap.lt_size e'), by simp [q]⟩
    have z : (hidT h H).get? b = none := PySem.W.hideAll_none (trk h H) hm
    rw [z] at e; cases e

/-! ### OpenK's ledger, filled with every new object but one -/
def allNews (g h : Heap) (L : Addr) : List (Addr × Obj) := (List.range h.objs.size).filterMap fun a => if a = L ∨ (g.get? a).isSome = true then none else (h.get? a).map fun o => (a, o)
theorem mem_allNews {g h : Heap} {L a : Addr} {o : Obj} (h1 : a ≠ L) (h2 : g.get? a = none) (h3 : h.get? a = some o) : (a, o) ∈ allNews g h L :=
  List.mem_filterMap.mpr ⟨a, List.mem_range.mpr (Heap.lt_size h3), by simp [h1, h2, h3]⟩
theorem of_mem_allNews {g h : Heap} {L : Addr} {p : Addr × Obj} (hp : p ∈ allNews g h L) : p.1 ≠ L ∧ g.get? p.1 = none ∧ h.get? p.1 = some p.2 := by
  obtain ⟨b, _, e⟩ := List.mem_filterMap.mp hp
  split at e
  · cases e
  · rename_i hn
    cases q : h.get? b with
    | none => rw [q] at e; simp at e
    | some u =>
      rw [q] at e
      simp only [Option.map_some, Option.some.injEq] at e
      subst e
      refine ⟨fun z => hn (.inl z), ?_, q⟩
      show g.get? b = none
      cases r : g.get? b with
      | none => rfl
      | some v => exact (hn (.inr (by simp [r]))).elim
def rest (g h : Heap) (L d : Addr) : List (Addr × Obj) := (allNews g h L).filter fun p => decide (p.1 ≠ d)
theorem rest_ne {g h : Heap} {L d : Addr} : ∀ p ∈ rest g h L d, p.1 ≠ d := fun p hp => of_decide_eq_true (List.mem_filter.mp hp).2
theorem mem_rest {g h : Heap} {L d a : Addr} {o : Obj} (h1 : a ≠ L) (h2 : g.get? a = none) (h3 : h.get? a = some o) (h4 : a ≠ d) : (a, o) ∈ rest g h L d :=
  List.mem_filter.mpr ⟨mem_allNews h1 h2 h3, decide_eq_true h4⟩
theorem news_all {g h : Heap} {L : Addr} : News g L h (allNews g h L) := fun p hp => let ⟨a, b, c⟩ := of_mem_allNews hp; ⟨c, a, b⟩
theorem news_at {g h : Heap} {L d : Addr} {o : Obj} (h1 : d ≠ L) (h2 : g.get? d = none) (h3 : h.get? d = some o) : News g L h ((d, o) :: rest g h L d) := fun p hp => by
  rcases List.mem_cons.mp hp with rfl | hp
  · exact ⟨h3, h1, h2⟩
  · exact news_all p (List.mem_filter.mp hp).1
/-- behind a rule that changed d alone: all else but the frame is kept -/
theorem kept_of_news {g h h' : Heap} {L d : Addr} {m : Str → Option Value} (k : ∀ b o, g.get? b = some o → h.get? b = some o) (F : Fr g L h' m) (N : News g L h' (rest g h L d)) :
    ∀ b o, b ≠ L → b ≠ d → h.get? b = some o → h'.get? b = some o := fun b o h1 h2 e => by
  cases q : g.get? b with
  | some u =>
    have := k b u q
    rw [e] at this; cases this
    exact F.keep b _ q
  | none => exact (N (b, o) (mem_rest h1 q e h2)).1
end L2

namespace L2
open PySem PySem.Spec PyProof.Rows

/-- the module's facts, over the base: the heap at the law's entry without what is tracked there -/
structure Mod (K : PySem.W.Frag) (mg : Str → Option Value) (base : Heap) : Prop where
  kin : K.In base
  glob : base.Ns mainGlobals mg
  blt : ∃ mb, base.Ns builtinsNs mb ∧ ∀ x : Str, x ≠ "__name__" → mb x = bootBuiltins x
  nolimit : base.NoLimit

/-- the context: a def's body (or a comprehension's block) running. base: fixed through the whole law; s₀, H₀: the entry; outer: the frames whose slots others may change (a def's callers); stack: all frames that run;
   ex: iterators that were made ahead of the entry and are walked here (a comprehension's); fn: the names whose cells were made at the entry (a def: all; a comprehension's block: its own); calm: not within an except suite; pn: pins that every state bears; xe: what is wanted of an exception that leaves the code -/
structure Cx where
  prog : Program
  w : World
  K : PySem.W.Frag
  mg : Str → Option Value
  base : Heap
  A : Around
  N : List Str
  s₀ : Shared
  H₀ : Hp
  env : Env
  outer : List Env
  stack : List Env
  ex : List Addr
  fn : Str → Bool
  calm : Bool
  pn : List (Addr × Obj)
  xe : Value → Shared → Prop
/-- the callers' frames -/
def frs (l : List Env) : List Addr := l.filterMap (·.frame)
abbrev Cx.fs (X : Cx) : List Addr := frs X.outer

def Vis (sc : Scope) (x : Str) : Prop := sc.names.lookup x = some .local ∨ sc.names.lookup x = some .cell ∨ sc.names.lookup x = some .free
def Loc (sc : Scope) (x : Str) : Prop := sc.names.lookup x = some .local ∨ sc.names.lookup x = some .cell
def Look (env : Env) (h : Heap) (m : Str → Option Value) (x : Str) (u : Value) : Prop :=
  (env.kindOf x = some .local ∧ m x = some u) ∨ ((env.kindOf x = some .cell ∨ env.kindOf x = some .free) ∧ ∃ c, env.cells.lookup x = some c ∧ h.IsCell c (some u))

structure Cx.Ok (X : Cx) : Prop where
  mod : Mod X.K X.mg X.base
  kind : X.env.scope.kind = .function
  glob : X.env.globals = mainGlobals
  blt : X.env.builtins = builtinsNs
  above : X.s₀.heap.objs.size ≤ X.env.locals
  inj : ∀ x y c, X.env.cells.lookup x = some c → X.env.cells.lookup y = some c → x = y
  has : ∀ x, (X.env.kindOf x = some .cell ∨ X.env.kindOf x = some .free) → ∃ c, X.env.cells.lookup x = some c
  cab : ∀ x c, X.fn x = true → X.env.cells.lookup x = some c → X.s₀.heap.objs.size ≤ c
  hd : X.calm = true → X.A.handled = none
  frames : X.A.frames = some X.stack
  stk : X.stack = X.outer ∨ (X.stack = X.env :: X.outer ∧ X.env.frame = some X.env.locals)
  exf : ∀ b ∈ X.ex, b ≠ X.env.locals ∧ ∀ x c, X.env.cells.lookup x = some c → c ≠ b
  bs : ∀ b o, X.base.get? b = some o → X.s₀.heap.get? b = some o ∧ X.H₀ b = none
  bsz : X.base.objs.size ≤ X.s₀.heap.objs.size
  noex : ∀ b o, X.base.get? b = some o → b ∉ X.ex
  exfs : ∀ b ∈ X.ex, b ∉ X.fs
  funs : X.s₀.heap.FunFrames X.base X.outer
  frf : ∀ b ∈ X.fs, X.H₀ b = none

structure Inv (X : Cx) (pins : List (Addr × Obj)) (σ : List (Option V)) (H : Hp) (s : Shared) : Prop where
  ok : X.Ok
  os : s.os = X.s₀.os
  bare : AllBare s.gens
  base : Un X.fs X.ex X.H₀ H X.s₀.heap s.heap
  loc : ∃ m, s.heap.Ns X.env.locals m ∧ ∀ (i : Nat) (x : Str) (v : V), X.N[i]? = some x → σ[i]? = some (some v) → Vis X.env.scope x → ∃ u, RelV v u ∧ Look X.env s.heap m x u
  cell : ∀ x c, X.env.cells.lookup x = some c → ∃ v, s.heap.IsCell c v
  free : H X.env.locals = none
  freeC : ∀ x c, X.env.cells.lookup x = some c → H c = none
  pin : ∀ p ∈ X.pn ++ pins, s.heap.get? p.1 = some p.2 ∧ H p.1 = none ∧ p.1 ≠ X.env.locals ∧ p.1 ∉ X.fs ∧ ∀ v, p.2.data ≠ .cell v
  hok : HOk X.prog X.w H s.heap
  len : σ.length = X.N.length

section
variable {X : Cx} {pins : List (Addr × Obj)} {σ : List (Option V)} {H H' : Hp} {s : Shared} {h' : Heap}

theorem Cx.Ok.nofr (ok : X.Ok) {b : Addr} {o : Obj} (e : X.base.get? b = some o) : b ∉ X.fs := fun hb => by
  have := (ok.funs.mem hb).1
  rw [e] at this; cases this
theorem Inv.bs (I : Inv X pins σ H s) : ∀ b o, X.base.get? b = some o → s.heap.get? b = some o ∧ H b = none := fun b o e =>
  ⟨I.base.keep b o (I.ok.bs b o e).1 (I.ok.bs b o e).2 (I.ok.nofr e) (I.ok.noex b o e), I.base.free b o (I.ok.bs b o e).1 (I.ok.bs b o e).2 (I.ok.noex b o e)⟩
theorem Inv.bk (I : Inv X pins σ H s) : ∀ b o, X.base.get? b = some o → s.heap.get? b = some o := fun b o e => (I.bs b o e).1
theorem Inv.mod (I : Inv X pins σ H s) : Mod X.K X.mg X.base := I.ok.mod
theorem Inv.kIn (I : Inv X pins σ H s) : X.K.In s.heap := I.ok.mod.kin.keeps I.bk
theorem Inv.nolimit (I : Inv X pins σ H s) : s.heap.NoLimit := I.ok.mod.nolimit.keeps I.bk
/-- the frame over the base: for OpenK's rules (K.In X.base is I.mod.kin) -/
theorem Inv.fr (I : Inv X pins σ H s) : ∃ m, Fr X.base X.env.locals s.heap m :=
  let ⟨m, hn, _⟩ := I.loc
  ⟨m, hn, I.bk, Nat.le_trans I.ok.bsz I.ok.above⟩
theorem Inv.lt (I : Inv X pins σ H s) : X.env.locals < s.heap.objs.size := let ⟨_, hn, _⟩ := I.loc; hn.lt
theorem Inv.sz (I : Inv X pins σ H s) : X.s₀.heap.objs.size ≤ s.heap.objs.size := Nat.le_trans I.ok.above (Nat.le_of_lt I.lt)
theorem Inv.nofs (I : Inv X pins σ H s) {a : Addr} (h : s.heap.objs.size ≤ a) : a ∉ X.fs := fun hb => by
  obtain ⟨_, o, ho, _⟩ := I.ok.funs.mem hb
  exact absurd (Nat.lt_of_lt_of_le (Heap.lt_size ho) (Nat.le_trans I.sz h)) (Nat.lt_irrefl _)
theorem Inv.cne (I : Inv X pins σ H s) : ∀ x c, X.env.cells.lookup x = some c → c ≠ X.env.locals := fun x c e z => by
  obtain ⟨v, o, ho, hd⟩ := I.cell x c e
  obtain ⟨m, ⟨o', es, ep, ho', hd', _⟩, _⟩ := I.loc
  rw [z, ho'] at ho; cases ho; rw [hd'] at hd; cases hd
theorem Inv.funs (I : Inv X pins σ H s) : s.heap.FunFrames X.base X.outer := by
  have all : ∀ (l : List Env), (∀ b ∈ frs l, b ∈ X.fs) → X.s₀.heap.FunFrames X.base l → s.heap.FunFrames X.base l := by
    intro l
    induction l with
    | nil => intro _ _; trivial
    | cons env r ih =>
      intro hs hl
      obtain ⟨hk, ⟨L, o, hf, hn, ho, hd⟩, hr⟩ := hl
      have hL : L ∈ X.fs := hs L (by unfold frs; rw [List.filterMap_cons, hf]; exact List.mem_cons_self)
      obtain ⟨sl, e⟩ := I.base.slot L o ho (I.ok.frf L hL) hL fun z => I.ok.exfs L z hL
      exact ⟨hk, ⟨L, _, hf, hn, e, hd⟩, ih (fun b hb => hs b (by unfold frs; rw [List.filterMap_cons, hf]; exact List.mem_cons_of_mem _ hb)) hr⟩
  exact all X.outer (fun _ hb => hb) I.ok.funs

/-- the frames that run, for a call -/
theorem Inv.stack (I : Inv X pins σ H s) : s.heap.FunFrames X.base X.stack := by
  rcases I.ok.stk with e | ⟨e, hf⟩
  · rw [e]; exact I.funs
  · rw [e]
    obtain ⟨m, hn, _⟩ := I.loc
    refine .cons (by rw [I.ok.kind]; decide) hf hn ?_ I.funs
    exact Heap.get?_none_of_le (Nat.le_trans I.ok.bsz I.ok.above)
theorem Inv.stkSub (I : Inv X pins σ H s) : ∀ b ∈ frs X.stack, b ∈ X.env.locals :: X.fs := fun b hb => by
  rcases I.ok.stk with e | ⟨e, hf⟩
  · rw [e] at hb; exact List.mem_cons_of_mem _ hb
  · rw [e] at hb
    unfold frs at hb
    rw [List.filterMap_cons, hf] at hb
    exact hb
theorem Inv.stkFree (I : Inv X pins σ H s) : ∀ b ∈ frs X.stack, H b = none := fun b hb => by
  rcases List.mem_cons.mp (I.stkSub b hb) with e | hb
  · rw [e]; exact I.free
  · obtain ⟨_, o, ho, _⟩ := I.ok.funs.mem hb
    exact I.base.free b o ho (I.ok.frf b hb) fun z => I.ok.exfs b z hb

/-- THE STEP: the untracked objects but the frame and the records at ch are kept (the callers' frames up to slots), the frame's map is kept, the new abstract heap is held -/
theorem Inv.step {g' : Array GenState} {t' : Nat} {d' : Drawn} {ch : List Addr} (I : Inv X pins σ H s)
    (hch : ∀ b ∈ ch, (b ∈ X.ex ∨ X.s₀.heap.objs.size ≤ b) ∧ b ≠ X.env.locals ∧ (∀ x c, X.env.cells.lookup x = some c → c ≠ b) ∧ ∀ p ∈ X.pn ++ pins, p.1 ≠ b)
    (keep : ∀ b o, b ≠ X.env.locals → b ∉ X.fs → b ∉ ch → s.heap.get? b = some o → H b = none → h'.get? b = some o)
    (slot : ∀ b o, b ≠ X.env.locals → b ∈ X.fs → b ∉ ch → s.heap.get? b = some o → H b = none → ∃ sl, h'.get? b = some { o with slots := sl }) (free : ∀ b o, b ∉ ch → s.heap.get? b = some o → H b = none → H' b = none)
    (there : ∀ b o, b ∉ ch → s.heap.get? b = some o → ∃ o', h'.get? b = some o')
    (tups : ∀ b xs, H b = some (.tup xs) → H' b = some (.tup xs)) (frzs : ∀ b o u, H b = some (.frz o u) → H' b = some (.frz o u)) (tbls : ∀ b cr, H b = some (.tbl cr) → H' b = some (.tbl cr))
    (ns : ∀ m, s.heap.Ns X.env.locals m → h'.Ns X.env.locals m) (hok : HOk X.prog X.w H' h') (hg : AllBare g') :
    Inv X pins σ H' { s with heap := h', gens := g', drawn := d', toks := t' } := by
  have neL : ∀ b o, X.s₀.heap.get? b = some o → b ≠ X.env.locals := fun b o e => Nat.ne_of_lt (Nat.lt_of_lt_of_le (Heap.lt_size e) I.ok.above)
  have neC : ∀ b o, X.s₀.heap.get? b = some o → b ∉ X.ex → b ∉ ch := fun b o e hx hb => by
    rcases (hch b hb).1 with z | z
    · exact hx z
    · exact absurd (Nat.lt_of_lt_of_le (Heap.lt_size e) z) (Nat.lt_irrefl _)
  have cellK : ∀ x c, X.env.cells.lookup x = some c → ∀ v, s.heap.IsCell c v → h'.IsCell c v := fun x c e v ⟨o, ho, hd⟩ => by
    have nch : c ∉ ch := fun z => (hch c z).2.2.1 x c e rfl
    by_cases hc : c ∈ X.fs
    · obtain ⟨sl, q⟩ := slot c o (I.cne x c e) hc nch ho (I.freeC x c e)
      exact ⟨_, q, hd⟩
    · exact ⟨o, keep c o (I.cne x c e) hc nch ho (I.freeC x c e), hd⟩
  refine ⟨I.ok, I.os, hg, ⟨fun b o e n hb hx => ?_, fun b o e n hb hx => ?_, fun b o e n hx => ?_, fun b o e hx => ?_, fun b xs e => tups b xs (I.base.tups b xs e), fun b o xs e => frzs b o xs (I.base.frzs b o xs e), fun b ps e => ?_⟩, ?_, fun x c e => ?_, ?_, fun x c e => ?_, fun p hp => ?_, hok, I.len⟩
  · exact keep b o (neL b o e) hb (neC b o e hx) (I.base.keep b o e n hb hx) (I.base.free b o e n hx)
  · obtain ⟨sl, e1⟩ := I.base.slot b o e n hb hx
    obtain ⟨sl', e2⟩ := slot b _ (neL b o e) hb (neC b o e hx) e1 (I.base.free b o e n hx)
    exact ⟨sl', e2⟩
  · obtain ⟨o', e1⟩ := I.base.there b o e hx
    exact free b o' (neC b o e hx) e1 (I.base.free b o e n hx)
  · obtain ⟨o', e1⟩ := I.base.there b o e hx
    exact there b o' (neC b o e hx) e1
  · exact tbls b ps (I.base.tbls b ps e)
  · obtain ⟨m, hn, hl⟩ := I.loc
    refine ⟨m, ns m hn, fun i x v e1 e2 e3 => ?_⟩
    obtain ⟨u, r, l⟩ := hl i x v e1 e2 e3
    refine ⟨u, r, ?_⟩
    rcases l with l | ⟨k, c, e, z⟩
    · exact .inl l
    · exact .inr ⟨k, c, e, cellK x c e _ z⟩
  · obtain ⟨v, z⟩ := I.cell x c e
    exact ⟨v, cellK x c e v z⟩
  · obtain ⟨m, ⟨o, _, _, ho, _⟩, _⟩ := I.loc
    exact free _ o (fun z => (hch _ z).2.1 rfl) ho I.free
  · obtain ⟨v, o, ho, hd⟩ := I.cell x c e
    exact free c o (fun z => (hch c z).2.2.1 x c e rfl) ho (I.freeC x c e)
  · obtain ⟨e, n, ne, nf, d⟩ := I.pin p hp
    have nch : p.1 ∉ ch := fun z => (hch p.1 z).2.2.2 p hp rfl
    exact ⟨keep p.1 p.2 ne nf nch e n, free p.1 p.2 nch e n, ne, nf, d⟩
/-- .. where the frame's own object is kept too -/
theorem Inv.un {t' : Nat} (I : Inv X pins σ H s) (u : Un X.fs [] H H' s.heap h') (hok : HOk X.prog X.w H' h') : Inv X pins σ H' { s with heap := h', toks := t' } := by
  obtain ⟨m, ⟨o, es, ep, ho, r⟩, _⟩ := id I.loc
  obtain ⟨sl, hL⟩ := u.any ho I.free (by simp)
  exact I.step (g' := s.gens) (d' := s.drawn) (ch := []) (fun _ z => nomatch z) (fun b o _ hb _ e n => u.keep b o e n hb (by simp)) (fun b o _ hb _ e n => u.slot b o e n hb (by simp)) (fun b o _ e n => u.free b o e n (by simp)) (fun b o _ e => u.there b o e (by simp)) u.tups u.frzs u.tbls (fun m' hm => by
    obtain ⟨o', es', ep', ho', r'⟩ := hm
    rw [ho] at ho'; cases ho'
    exact ⟨_, es', ep', hL, r'⟩) hok I.bare
/-- behind a call (or a comprehension's block): the slots of this frame may have changed too, the records at ch may have turned -/
theorem Inv.call {g' : Array GenState} {t' : Nat} {d' : Drawn} {ch : List Addr} (I : Inv X pins σ H s) (u : Un (frs X.stack) ch H H' s.heap h') (hok : HOk X.prog X.w H' h') (hg : AllBare g')
    (hch : ∀ b ∈ ch, (b ∈ X.ex ∨ X.s₀.heap.objs.size ≤ b) ∧ b ≠ X.env.locals ∧ (∀ x c, X.env.cells.lookup x = some c → c ≠ b) ∧ ∀ p ∈ X.pn ++ pins, p.1 ≠ b) :
    Inv X pins σ H' { s with heap := h', gens := g', drawn := d', toks := t' } := by
  obtain ⟨m, ⟨o, es, ep, ho, r⟩, _⟩ := id I.loc
  obtain ⟨sl, hL⟩ := u.any ho I.free fun z => (hch _ z).2.1 rfl
  exact I.step (ch := ch) hch (fun b o hL hb hc e n => u.keep b o e n (fun z => (List.mem_cons.mp (I.stkSub b z)).elim hL hb) hc) (fun b o _ _ hc e n => u.any e n hc) (fun b o hc e n => u.free b o e n hc) (fun b o hc e => u.there b o e hc) u.tups u.frzs u.tbls (fun m' hm => by
    obtain ⟨o', es', ep', ho', r'⟩ := hm
    rw [ho] at ho'; cases ho'
    exact ⟨_, es', ep', hL, r'⟩) hok hg
/-- an untracked record of ours (an iterator) has turned -/
theorem Inv.turned {t' : Nat} {it : Addr} (I : Inv X pins σ H s) (k : ∀ b o, b ≠ it → s.heap.get? b = some o → h'.get? b = some o) (hn : H it = none) (hL : it ≠ X.env.locals)
    (h1 : it ∈ X.ex ∨ X.s₀.heap.objs.size ≤ it) (h2 : ∀ x c, X.env.cells.lookup x = some c → c ≠ it) (h3 : ∀ p ∈ X.pn ++ pins, p.1 ≠ it) : Inv X pins σ H { s with heap := h', toks := t' } := by
  have nit : ∀ b u, H b = some u → b ≠ it := fun b u e z => by rw [z, hn] at e; cases e
  refine I.step (g' := s.gens) (d' := s.drawn) (ch := [it]) (fun b hb => ?_) (fun b o _ _ hc e _ => k b o (fun z => hc (by simp [z])) e) (fun b o _ _ hc e _ => ⟨o.slots, k b o (fun z => hc (by simp [z])) e⟩) (fun _ _ _ _ n => n)
    (fun b o hc e => ⟨o, k b o (fun z => hc (by simp [z])) e⟩) (fun _ _ e => e) (fun _ _ _ e => e) (fun _ _ e => e) (fun m hm => ?_) (fun b u e => ?_) I.bare
  · have e : b = it := by simpa using hb
    subst e
    exact ⟨h1, hL, h2, h3⟩
  · obtain ⟨o, es, ep, ho, r⟩ := hm
    exact ⟨o, es, ep, k _ o (Ne.symm hL) ho, r⟩
  · refine (I.hok b u e).stay (fun c v hc q => k c v ?_ q) (fun _ q => q) (fun _ _ q => q) fun _ _ _ q => q
    rcases hc with z | z
    · rw [z]; exact nit b u e
    · exact nit c _ z
theorem Inv.tok (I : Inv X pins σ H s) (t : Nat) : Inv X pins σ H { s with toks := t } := I.un (h' := s.heap) (t' := t) Un.refl I.hok
/-- all objects kept -/
theorem Inv.kept {t' : Nat} (I : Inv X pins σ H s) (k : ∀ b u, s.heap.get? b = some u → h'.get? b = some u) : Inv X pins σ H { s with heap := h', toks := t' } := I.un (Un.kept k) (I.hok.kept k)
/-- a new object laid and tracked -/
theorem Inv.laid {a : Addr} {o : HO} {t' : Nat} (I : Inv X pins σ H s) (k : ∀ b u, s.heap.get? b = some u → h'.get? b = some u) (hp : s.heap.objs.size ≤ a) (new : ObjOk X.prog X.w (upd H a o) h' a o) :
    Inv X pins σ (upd H a o) { s with heap := h', toks := t' } := I.un (Un.laid k hp (I.hok.fresh hp)) (I.hok.laid k hp new)
/-- an object written -/
theorem Inv.write {x e : Addr} {o : HO} {t' : Nat} (I : Inv X pins σ H s) (mu : Mut (H x)) (he : e = x ∨ H e = some (.own x)) (k : ∀ b u, b ≠ e → s.heap.get? b = some u → h'.get? b = some u) (heo : ∃ u, h'.get? e = some u)
    (new : ObjOk X.prog X.w (upd H x o) h' x o) : Inv X pins σ (upd H x o) { s with heap := h', toks := t' } := I.un (Un.write mu he k heo) (I.hok.write mu he k heo new)
/-- forgetting slots, pins -/
theorem Inv.weak {σ' : List (Option V)} (I : Inv X pins σ H s) (hl : σ'.length = σ.length) (w : ∀ (i : Nat) v, σ'[i]? = some (some v) → σ[i]? = some (some v)) : Inv X pins σ' H s :=
  ⟨I.ok, I.os, I.bare, I.base, let ⟨m, hn, hl'⟩ := I.loc; ⟨m, hn, fun i x v e1 e2 e3 => hl' i x v e1 (w i v e2) e3⟩, I.cell, I.free, I.freeC, I.pin, I.hok, hl.trans I.len⟩
theorem Inv.pins_of {pins' : List (Addr × Obj)} (I : Inv X pins σ H s) (h : ∀ p ∈ pins', s.heap.get? p.1 = some p.2 ∧ H p.1 = none ∧ p.1 ≠ X.env.locals ∧ p.1 ∉ X.fs ∧ ∀ v, p.2.data ≠ .cell v) : Inv X pins' σ H s :=
  ⟨I.ok, I.os, I.bare, I.base, I.loc, I.cell, I.free, I.freeC, fun p hp => (List.mem_append.mp hp).elim (fun z => I.pin p (List.mem_append_left _ z)) (h p), I.hok, I.len⟩

theorem nodup_ix {N : List Str} (hN : N.Nodup) {i j : Nat} {x : Str} (a : N[i]? = some x) (b : N[j]? = some x) : i = j := by
  obtain ⟨h1, e1⟩ := List.getElem?_eq_some_iff.mp a
  obtain ⟨h2, e2⟩ := List.getElem?_eq_some_iff.mp b
  exact (List.getElem_inj hN).mp (e1.trans e2.symm)

/-- a name is stored; what changed -/
theorem store_ok2 {M : Model} {A : Around} {E : Value → Shared → Prop} {i : Nat} {x : Str} {v : V} {u : Value} {Q : Unit → Shared → Prop} (I : Inv X pins σ H s) (hN : X.N.Nodup) (hi : X.N[i]? = some x) (hx : Loc X.env.scope x) (r : RelV v u)
    (h : ∀ s', Inv X pins (σ.set i (some v)) H s' → (∃ a, Heap.SameBut a s.heap s'.heap ∧ (a = X.env.locals ∨ X.env.cells.lookup x = some a)) → Q () s') (hf : X.fn x = true ∨ X.env.scope.names.lookup x = some .local := by first | exact .inl rfl | exact .inr rfl | assumption) : wpAny M A (storeName X.env x u) Q E s := by
  obtain ⟨m, hn, hl⟩ := id I.loc
  have hcls : (X.env.scope.kind == .class || (X.env.scope.kind == .module && X.env.locals != X.env.globals)) = false := by rw [I.ok.kind]; rfl
  have hiσ : i < σ.length := by rw [I.len]; exact (List.getElem?_eq_some_iff.mp hi).1
  have cne := I.cne
  have tracked : ∀ {a : Addr} {h' : Heap}, (∃ o, s.heap.get? a = some o ∧ H a = none) → Heap.SameBut a s.heap h' → HOk X.prog X.w H h' := fun {a h'} ha hs b ob e => by
    obtain ⟨_, _, hfree⟩ := ha
    refine (I.hok b ob e).stay (fun c w' hc q => (hs.2 c ?_).trans q) (fun _ q => q) (fun _ _ q => q) fun _ _ _ q => q
    rintro rfl
    rcases hc with rfl | hc
    · rw [hfree] at e; cases e
    · rw [hfree] at hc; cases hc
  rcases hx with hk | hk
  · refine wpAny_storeName_local hk hn (fun h' hn' hs => ?_) hcls
    obtain ⟨oL, _, _, hoL, _⟩ := id hn
    refine h _ ⟨I.ok, I.os, I.bare, ⟨fun b o e n hb hx => ?_, fun b o e n hb hx => ?_, I.base.free, fun b o e hx => ?_, I.base.tups, I.base.frzs, I.base.tbls⟩, ⟨_, hn', fun j y v' e1 e2 e3 => ?_⟩, fun y c e => ?_, I.free, I.freeC, fun p hp => ?_, tracked ⟨oL, hoL, I.free⟩ hs, by simpa using I.len⟩ ⟨_, hs, .inl rfl⟩
    · exact (hs.2 b (Nat.ne_of_lt (Nat.lt_of_lt_of_le (Heap.lt_size e) I.ok.above))).trans (I.base.keep b o e n hb hx)
    · obtain ⟨sl, e1⟩ := I.base.slot b o e n hb hx
      exact ⟨sl, (hs.2 b (Nat.ne_of_lt (Nat.lt_of_lt_of_le (Heap.lt_size e) I.ok.above))).trans e1⟩
    · obtain ⟨o', e1⟩ := I.base.there b o e hx
      exact ⟨o', (hs.2 b (Nat.ne_of_lt (Nat.lt_of_lt_of_le (Heap.lt_size e) I.ok.above))).trans e1⟩
    · by_cases hj : j = i
      · subst hj
        rw [hi] at e1; cases e1
        rw [List.getElem?_set_self hiσ] at e2
        cases e2
        exact ⟨u, r, .inl ⟨hk, by simp⟩⟩
      · rw [List.getElem?_set_ne (Ne.symm hj)] at e2
        obtain ⟨u', r', q⟩ := hl j y v' e1 e2 e3
        refine ⟨u', r', ?_⟩
        rcases q with ⟨k, e⟩ | ⟨k, c, e, z⟩
        · refine .inl ⟨k, ?_⟩
          have : y ≠ x := fun e => hj (nodup_ix hN e1 (e ▸ hi))
          simp [this, e]
        · exact .inr ⟨k, c, e, z.sameBut hs (cne y c e)⟩
    · obtain ⟨w', z⟩ := I.cell y c e
      exact ⟨w', z.sameBut hs (cne y c e)⟩
    · obtain ⟨e, n, ne, nf, d⟩ := I.pin p hp
      exact ⟨(hs.2 p.1 ne).trans e, n, ne, nf, d⟩
  · have hfn : X.fn x = true := by
      rcases hf with z | z
      · exact z
      · rw [z] at hk; cases hk
    obtain ⟨c, hc⟩ := I.ok.has x (.inl hk)
    obtain ⟨w', z⟩ := I.cell x c hc
    refine wpAny_storeName_cell I.ok.kind hk hc z (fun h' hc' hs => ?_)
    obtain ⟨oc, hoc, hocd⟩ := id z
    refine h { s with heap := h' } ⟨I.ok, I.os, I.bare, ⟨fun b o e n hb hx => ?_, fun b o e n hb hx => ?_, I.base.free, fun b o e hx => ?_, I.base.tups, I.base.frzs, I.base.tbls⟩, ⟨m, hn.sameBut hs (Ne.symm (cne x c hc)), fun j y v' e1 e2 e3 => ?_⟩, fun y c' e => ?_, I.free, I.freeC, fun p hp => ?_, tracked ⟨oc, hoc, I.freeC x c hc⟩ hs, by simpa using I.len⟩ ⟨c, hs, .inr hc⟩
    · exact (hs.2 b (Nat.ne_of_lt (Nat.lt_of_lt_of_le (Heap.lt_size e) (I.ok.cab x c hfn hc)))).trans (I.base.keep b o e n hb hx)
    · obtain ⟨sl, e1⟩ := I.base.slot b o e n hb hx
      exact ⟨sl, (hs.2 b (Nat.ne_of_lt (Nat.lt_of_lt_of_le (Heap.lt_size e) (I.ok.cab x c hfn hc)))).trans e1⟩
    · obtain ⟨o', e1⟩ := I.base.there b o e hx
      exact ⟨o', (hs.2 b (Nat.ne_of_lt (Nat.lt_of_lt_of_le (Heap.lt_size e) (I.ok.cab x c hfn hc)))).trans e1⟩
    · by_cases hj : j = i
      · subst hj
        rw [hi] at e1; cases e1
        rw [List.getElem?_set_self hiσ] at e2
        cases e2
        exact ⟨u, r, .inr ⟨.inl hk, c, hc, hc'⟩⟩
      · rw [List.getElem?_set_ne (Ne.symm hj)] at e2
        obtain ⟨u', r', q⟩ := hl j y v' e1 e2 e3
        refine ⟨u', r', ?_⟩
        rcases q with q | ⟨k, c', e, z'⟩
        · exact .inl q
        · refine .inr ⟨k, c', e, z'.sameBut hs ?_⟩
          rintro rfl
          exact hj (nodup_ix hN e1 (I.ok.inj _ _ _ e hc ▸ hi))
    · by_cases hcc : c' = c
      · subst hcc; exact ⟨_, hc'⟩
      · obtain ⟨w2, z2⟩ := I.cell y c' e
        exact ⟨w2, z2.sameBut hs hcc⟩
    · obtain ⟨e, n, ne, nf, d⟩ := I.pin p hp
      refine ⟨(hs.2 p.1 ?_).trans e, n, ne, nf, d⟩
      intro q
      rw [q, hoc] at e
      have q' : oc = p.2 := Option.some.inj e
      exact d w' (by rw [← q']; exact hocd)
theorem store_ok {M : Model} {A : Around} {E : Value → Shared → Prop} {i : Nat} {x : Str} {v : V} {u : Value} {Q : Unit → Shared → Prop} (I : Inv X pins σ H s) (hN : X.N.Nodup) (hi : X.N[i]? = some x) (hx : Loc X.env.scope x) (r : RelV v u)
    (h : ∀ s', Inv X pins (σ.set i (some v)) H s' → Q () s') (hf : X.fn x = true ∨ X.env.scope.names.lookup x = some .local := by first | exact .inl rfl | exact .inr rfl | assumption) : wpAny M A (storeName X.env x u) Q E s :=
  store_ok2 I hN hi hx r (fun s' I' _ => h s' I') hf
/-- behind a call or a block, the state as it is -/
theorem Inv.call' {s' : Shared} {ch : List Addr} (I : Inv X pins σ H s) (ho : s'.os = s.os) (u : Un (frs X.stack) ch H H' s.heap s'.heap) (hok : HOk X.prog X.w H' s'.heap) (hg : AllBare s'.gens)
    (hch : ∀ b ∈ ch, (b ∈ X.ex ∨ X.s₀.heap.objs.size ≤ b) ∧ b ≠ X.env.locals ∧ (∀ x c, X.env.cells.lookup x = some c → c ≠ b) ∧ ∀ p ∈ X.pn ++ pins, p.1 ≠ b) : Inv X pins σ H' s' := by
  obtain ⟨h', g', d', t', o'⟩ := s'
  have e : o' = s.os := ho
  subst e
  exact I.call (g' := g') (t' := t') (d' := d') u hok hg hch
end

/-! ### the judgements -/
/-- an exception: its class, its own dict's address (where it has one), the abstract heap behind it -/
abbrev XK := Value → Option Addr → Hp → Prop
abbrev St := List (Option V)
abbrev VK := V → Hp → Prop
/-- an expression's reading; a test's; an argument list's -/
abbrev TE := St → Hp → VK → Prop
abbrev TT := St → Hp → (Bool → Hp → Prop) → Prop
abbrev TA := St → Hp → (List V → Hp → Prop) → Prop
/-- what is wanted behind a statement -/
structure Ends where
  nx : St → Hp → Prop
  rt : VK
  bk : St → Hp → Prop := fun _ _ => False
  ct : St → Hp → Prop := fun _ _ => False
abbrev TS := Ends → St → Hp → Prop

def EP (X : Cx) (pins : List (Addr × Obj)) (σ : St) (Q : VK) (u : Value) (s' : Shared) : Prop := ∃ v H', Inv X pins σ H' s' ∧ RelV v u ∧ Q v H'
def TP (X : Cx) (pins : List (Addr × Obj)) (σ : St) (Q : Bool → Hp → Prop) (b : Bool) (s' : Shared) : Prop := ∃ H', Inv X pins σ H' s' ∧ Q b H'
def AP (X : Cx) (pins : List (Addr × Obj)) (σ : St) (Q : List V → Hp → Prop) (us : List Value) (s' : Shared) : Prop := ∃ vs H', Inv X pins σ H' s' ∧ Vals vs us ∧ Q vs H'
def SP (X : Cx) (pins : List (Addr × Obj)) (D : Ends) (f : Flow) (s' : Shared) : Prop :=
  match f with
  | .next => ∃ σ' H', Inv X pins σ' H' s' ∧ D.nx σ' H'
  | .brk => ∃ σ' H', Inv X pins σ' H' s' ∧ D.bk σ' H'
  | .cont => ∃ σ' H', Inv X pins σ' H' s' ∧ D.ct σ' H'
  | .ret u => ∃ v σ' H', Inv X pins σ' H' s' ∧ RelV v u ∧ D.rt v H'

def PE (X : Cx) (e : Expr) (t : TE) : Prop :=
  ∀ (pins : List (Addr × Obj)) (s : Shared) (σ : St) (H : Hp) (Q : VK), Inv X pins σ H s → t σ H Q → wpAny (model X.prog X.w) X.A (eval e X.env) (EP X pins σ Q) X.xe s
def PT (X : Cx) (e : Expr) (t : TT) : Prop :=
  ∀ (pins : List (Addr × Obj)) (s : Shared) (σ : St) (H : Hp) (Q : Bool → Hp → Prop), Inv X pins σ H s → t σ H Q → wpAny (model X.prog X.w) X.A (isTrue e X.env (eval e X.env)) (TP X pins σ Q) X.xe s
/-- a test whatever its 'whole' is (and, or) -/
def PW (X : Cx) (e : Expr) (t : TT) : Prop :=
  ∀ (whole : Sem Value) (pins : List (Addr × Obj)) (s : Shared) (σ : St) (H : Hp) (Q : Bool → Hp → Prop), Inv X pins σ H s → t σ H Q → wpAny (model X.prog X.w) X.A (isTrue e X.env whole) (TP X pins σ Q) X.xe s
theorem PW.pt {X : Cx} {e : Expr} {t : TT} (h : PW X e t) : PT X e t := h _
/-- an argument list (no star), from the left -/
def PA (X : Cx) (es : List Expr) (t : TA) : Prop :=
  ∀ (pos : Pos) (pins : List (Addr × Obj)) (s : Shared) (σ : St) (H : Hp) (Q : List V → Hp → Prop), Inv X pins σ H s → t σ H Q → wpAny (model X.prog X.w) X.A (spliced (backTo pos (starEach es X.env))) (AP X pins σ Q) X.xe s
def PS (X : Cx) (st : Stmt) (t : TS) : Prop :=
  ∀ (pins : List (Addr × Obj)) (s : Shared) (σ : St) (H : Hp) (D : Ends), Inv X pins σ H s → t D σ H → wpAny (model X.prog X.w) X.A (exec st X.env) (SP X pins D) X.xe s
def PSs (X : Cx) (st : List Stmt) (t : TS) : Prop :=
  ∀ (pins : List (Addr × Obj)) (s : Shared) (σ : St) (H : Hp) (D : Ends), Inv X pins σ H s → t D σ H → wpAny (model X.prog X.w) X.A (execs st X.env) (SP X pins D) X.xe s
/-- weaken the end -/
theorem thn {α : Type} {t : Sem α} {Q Q' : α → Shared → Prop} {M : Model} {A : Around} {E : Value → Shared → Prop} {s : Shared} (h : wpAny M A t Q E s) (hQ : ∀ a s, Q a s → Q' a s) : wpAny M A t Q' E s := wpAny_mono h hQ fun _ _ x => x
end L2

namespace L2
open PySem PySem.Spec PyProof.Rows
section
variable {X : Cx}

/-- two expressions in a row -/
theorem bin {a b : Expr} {ta tb : TE} (ha : PE X a ta) (hb : PE X b tb) {pins : List (Addr × Obj)} {s : Shared} {σ : St} {H : Hp} {R : V → V → Hp → Prop} (I : Inv X pins σ H s) (h : ta σ H fun x H1 => tb σ H1 fun y H2 => R x y H2)
    {α : Type} {Q : α → Shared → Prop} {f : Value → Value → Sem α}
    (hf : ∀ v u s2 x y H2, Inv X pins σ H2 s2 → RelV x v → RelV y u → R x y H2 → wpAny (model X.prog X.w) X.A (f v u) Q X.xe s2) :
    wpAny (model X.prog X.w) X.A (eval a X.env) (fun v s₁ => wpAny (model X.prog X.w) X.A (eval b X.env) (fun u s₂ => wpAny (model X.prog X.w) X.A (f v u) Q X.xe s₂) X.xe s₁) X.xe s := by
  refine thn (ha pins s σ H _ I h) fun v s1 ⟨x, H1, I1, r1, q1⟩ => ?_
  refine thn (hb pins s1 σ H1 _ I1 q1) fun u s2 ⟨y, H2, I2, r2, q2⟩ => ?_
  exact hf v u s2 x y H2 I2 r1 r2 q2

/-! ### names and constants -/
def tVar (i : Nat) : TE := fun σ H Q => ∃ v, σ[i]? = some (some v) ∧ Q v H
def tC (v : V) : TE := fun _ H Q => Q v H
theorem pe_var {i : Nat} {x : Str} {pos : Pos} (hN : X.N[i]? = some x) (hv : Vis X.env.scope x) (hd : (x == ("__debug__" : Str)) = false := by decide) (hcd : (x == ("__classdict__" : Str)) = false := by decide) : PE X (.Name x pos) (tVar i) := by
  intro pins s σ H Q I h
  obtain ⟨v, e, h⟩ := h
  obtain ⟨m, hn, hl⟩ := I.loc
  obtain ⟨u, r, l⟩ := hl i x v hN e hv
  have fin : EP X pins σ Q u s := ⟨v, H, I, r, h⟩
  rcases l with ⟨hk, hm⟩ | ⟨hk, c, hc, hcell⟩
  · exact wpAny_Name (wpAny_loadName_local I.ok.kind hk hn hm fin) hd
  · rcases hk with hk | hk
    · exact wpAny_Name (wpAny_loadName_cell I.ok.kind hk hc hcell fin) hd
    · exact wpAny_Name (wpAny_loadName_free I.ok.kind hk hc hcell fin hcd) hd
theorem pe_int {i j pos} : PE X (.Constant (.int i) j pos) (tC (.int i)) := fun _ _ _ H _ I h => wpAny_Constant_int ⟨.int i, H, I.tok _, ⟨_, rfl⟩, h⟩
theorem pe_bl {b j pos} : PE X (.Constant (.bool b) j pos) (tC (.bl b)) := fun _ _ _ H _ I h => Constant_bool ⟨.bl b, H, I, rfl, h⟩
theorem pe_non {j pos} : PE X (.Constant .none j pos) (tC .non) := fun _ _ _ H _ I h => Constant_none ⟨.non, H, I, rfl, h⟩
theorem pe_str {x j pos} : PE X (.Constant (.str x) j pos) (tC (.str x)) := fun _ _ _ H _ I h => Calls.Constant_str ⟨.str x, H, I.tok _, ⟨_, rfl⟩, h⟩

/-- a global name of the def -/
def Gl (X : Cx) (x : Str) : Prop := X.env.kindOf x = some .globalImplicit
theorem ld_glob {E : Value → Shared → Prop} {pins : List (Addr × Obj)} {s : Shared} {σ : St} {H : Hp} {x : Str} {u : Value} {pos : Pos} {Q : Value → Shared → Prop} (I : Inv X pins σ H s) (hg : Gl X x) (hm : X.mg x = some u) (h : Q u s)
    (hd : (x == ("__debug__" : Str)) = false := by decide) : wpAny (model X.prog X.w) X.A (eval (.Name x pos) X.env) Q E s :=
  Calls.Name_function_global I.ok.kind hg (Calls.loadGlobal_global (by rw [I.ok.glob]; exact I.mod.glob.keeps I.bk) hm h) hd
theorem ld_blt {E : Value → Shared → Prop} {pins : List (Addr × Obj)} {s : Shared} {σ : St} {H : Hp} {x : Str} {u : Value} {pos : Pos} {Q : Value → Shared → Prop} (I : Inv X pins σ H s) (hg : Gl X x) (hm : X.mg x = none) (hv : bootBuiltins x = some u) (h : Q u s)
    (hn : x ≠ "__name__" := by decide) (hd : (x == ("__debug__" : Str)) = false := by decide) : wpAny (model X.prog X.w) X.A (eval (.Name x pos) X.env) Q E s := by
  obtain ⟨mb, h1, h2⟩ := I.mod.blt
  exact Calls.Name_function_global I.ok.kind hg (Calls.loadGlobal_builtin (by rw [I.ok.glob]; exact I.mod.glob.keeps I.bk) hm (by rw [I.ok.blt]; exact h1.keeps I.bk) ((h2 x hn).trans hv) h) hd
/-- a module's constant, a class, a function, as a value -/
theorem pe_glob {x : Str} {v : V} {u : Value} {pos : Pos} (hg : Gl X x) (hm : X.mg x = some u) (r : RelV v u) (hd : (x == ("__debug__" : Str)) = false := by decide) : PE X (.Name x pos) (tC v) :=
  fun _ _ _ H _ I h => ld_glob I hg hm ⟨v, H, I, r, h⟩ hd
theorem pe_bltn {x : Str} {v : V} {u : Value} {pos : Pos} (hg : Gl X x) (hm : X.mg x = none) (hv : bootBuiltins x = some u) (r : RelV v u) (hn : x ≠ "__name__" := by decide) (hd : (x == ("__debug__" : Str)) = false := by decide) : PE X (.Name x pos) (tC v) :=
  fun _ _ _ H _ I h => ld_blt I hg hm hv ⟨v, H, I, r, h⟩ hn hd

/-! ### arithmetic -/
/-- two ints -/
def t2I (ta tb : TE) (k : Int → Int → Hp → Prop) : St → Hp → Prop := fun σ H => ta σ H fun x H1 => tb σ H1 fun y H2 => ∃ i j, x = .int i ∧ y = .int j ∧ k i j H2
def tAdd (ta tb : TE) : TE := fun σ H Q => t2I ta tb (fun i j H2 => Q (.int (i + j)) H2) σ H
def tSub (ta tb : TE) : TE := fun σ H Q => t2I ta tb (fun i j H2 => Q (.int (i - j)) H2) σ H
/-- the left factor below 2^64 -/
def tMul (ta tb : TE) : TE := fun σ H Q => t2I ta tb (fun i j H2 => (-(2 ^ 64) < i ∧ i < 2 ^ 64) ∧ Q (.int (i * j)) H2) σ H
variable {a b : Expr} {ta tb : TE} {pos : Pos}
theorem pe_add (ha : PE X a ta) (hb : PE X b tb) : PE X (.BinOp a .Add b pos) (tAdd ta tb) := by
  intro pins s σ H Q I h
  refine wpAny_BinOp (bin ha hb I h fun v u s2 x y H2 I2 rx ry q => ?_)
  obtain ⟨i, j, rfl, rfl, q⟩ := q
  obtain ⟨t, rfl⟩ := rx
  obtain ⟨t', rfl⟩ := ry
  exact add_int ⟨.int _, H2, I2.tok _, ⟨_, rfl⟩, q⟩
theorem pe_sub (ha : PE X a ta) (hb : PE X b tb) : PE X (.BinOp a .Sub b pos) (tSub ta tb) := by
  intro pins s σ H Q I h
  refine wpAny_BinOp (bin ha hb I h fun v u s2 x y H2 I2 rx ry q => ?_)
  obtain ⟨i, j, rfl, rfl, q⟩ := q
  obtain ⟨t, rfl⟩ := rx
  obtain ⟨t', rfl⟩ := ry
  exact sub_int ⟨.int _, H2, I2.tok _, ⟨_, rfl⟩, q⟩
theorem pe_mul (ha : PE X a ta) (hb : PE X b tb) : PE X (.BinOp a .Mult b pos) (tMul ta tb) := by
  intro pins s σ H Q I h
  refine wpAny_BinOp (bin ha hb I h fun v u s2 x y H2 I2 rx ry q => ?_)
  obtain ⟨i, j, rfl, rfl, ⟨q1, q2⟩, q⟩ := q
  obtain ⟨t, rfl⟩ := rx
  obtain ⟨t', rfl⟩ := ry
  exact mul_int ⟨.int _, H2, I2.tok _, ⟨_, rfl⟩, q⟩ (.of_left (intBits_le_64 q1 q2))

/-! ### comparisons -/
def PC (X : Cx) (op : CmpOp) (a b : Expr) (t : TE) : Prop :=
  ∀ (pins : List (Addr × Obj)) (s : Shared) (σ : St) (H : Hp) (Q : VK), Inv X pins σ H s → t σ H Q →
    wpAny (model X.prog X.w) X.A (eval a X.env) (fun v s₁ => wpAny (model X.prog X.w) X.A (eval b X.env) (fun u s₂ => wpAny (model X.prog X.w) X.A (compareOp op v u) (EP X pins σ Q) X.xe s₂) X.xe s₁) X.xe s
theorem nobehind (b : Expr) {op : CmpOp} (h : op ≠ .In) (h2 : op ≠ .NotIn) : behindInMarks op b = false := by
  have e1 : (op == CmpOp.In) = false := by cases op <;> first | rfl | exact absurd rfl h
  have e2 : (op == CmpOp.NotIn) = false := by cases op <;> first | rfl | exact absurd rfl h2
  cases b <;> simp [behindInMarks, e1, e2]
def tCmp (p : Int → Int → Bool) (ta tb : TE) : TE := fun σ H Q => t2I ta tb (fun i j H2 => Q (.bl (p i j)) H2) σ H
abbrev tLt : TE → TE → TE := tCmp fun i j => decide (i < j)
abbrev tLe : TE → TE → TE := tCmp fun i j => decide (i ≤ j)
abbrev tGt : TE → TE → TE := tCmp fun i j => decide (j < i)
abbrev tGe : TE → TE → TE := tCmp fun i j => decide (j ≤ i)
abbrev tEqI : TE → TE → TE := tCmp fun i j => decide (i = j)
abbrev tNeI : TE → TE → TE := tCmp fun i j => !decide (i = j)
/-- a comparison of two ints, by its rule -/
theorem pc_int {op : CmpOp} {p : Int → Int → Bool} (ha : PE X a ta) (hb : PE X b tb)
    (rule : ∀ (i j : Int) (t u : Tok) (Q : Value → Shared → Prop) (s : Shared), Q (.bool (p i j)) s → wpAny (model X.prog X.w) X.A (compareOp op (.int i t) (.int j u)) Q X.xe s) : PC X op a b (tCmp p ta tb) := by
  intro pins s σ H Q I h
  refine bin ha hb I h fun v u s2 x y H2 I2 rx ry q => ?_
  obtain ⟨i, j, rfl, rfl, q⟩ := q
  obtain ⟨t, rfl⟩ := rx
  obtain ⟨t', rfl⟩ := ry
  exact rule i j t t' _ s2 ⟨.bl _, H2, I2, rfl, q⟩
theorem pc_lt (ha : PE X a ta) (hb : PE X b tb) : PC X .Lt a b (tLt ta tb) := pc_int ha hb fun _ _ _ _ _ _ h => lt_int h
theorem pc_le (ha : PE X a ta) (hb : PE X b tb) : PC X .LtE a b (tLe ta tb) := pc_int ha hb fun _ _ _ _ _ _ h => le_int h
theorem pc_gt (ha : PE X a ta) (hb : PE X b tb) : PC X .Gt a b (tGt ta tb) := pc_int ha hb fun _ _ _ _ _ _ h => gt_int h
theorem pc_ge (ha : PE X a ta) (hb : PE X b tb) : PC X .GtE a b (tGe ta tb) := pc_int ha hb fun _ _ _ _ _ _ h => ge_int h
theorem pc_eqI (ha : PE X a ta) (hb : PE X b tb) : PC X .Eq a b (tEqI ta tb) := pc_int ha hb fun _ _ _ _ _ _ h => eq_int (by rw [Bool.beq_eq_decide_eq]; exact h)
theorem pc_neI (ha : PE X a ta) (hb : PE X b tb) : PC X .NotEq a b (tNeI ta tb) := pc_int ha hb fun _ _ _ _ _ _ h => ne_int (by rw [bne, Bool.beq_eq_decide_eq]; exact h)
/-- is None -/
def tIsN (ta : TE) : TE := fun σ H Q => ta σ H fun x H1 => Q (.bl (decide (x = .non))) H1
def tNotN (ta : TE) : TE := fun σ H Q => ta σ H fun x H1 => Q (.bl (!decide (x = .non))) H1
theorem RelV.none_iff {x : V} {v : Value} (r : RelV x v) : (v == Value.none) = decide (x = .non) := by
  cases x with
  | non => cases r; rfl
  | bl _ => cases r; rfl
  | int _ => obtain ⟨t, rfl⟩ := r; rfl
  | str _ => obtain ⟨t, rfl⟩ := r; rfl
  | byt _ => obtain ⟨t, rfl⟩ := r; rfl
  | flt _ => obtain ⟨t, rfl⟩ := r; rfl
  | ref _ => cases r; rfl
  | ty _ => cases r; rfl
theorem pc_isN {j pos'} (ha : PE X a ta) : PC X .Is a (.Constant .none j pos') (tIsN ta) := by
  intro pins s σ H Q I h
  refine thn (ha pins s σ H _ I h) fun v s1 ⟨x, H1, I1, r1, q1⟩ => ?_
  exact Constant_none (is_none_gen ⟨.bl _, H1, I1, by rw [r1.none_iff]; rfl, q1⟩)
theorem pc_notN {j pos'} (ha : PE X a ta) : PC X .IsNot a (.Constant .none j pos') (tNotN ta) := by
  intro pins s σ H Q I h
  refine thn (ha pins s σ H _ I h) fun v s1 ⟨x, H1, I1, r1, q1⟩ => ?_
  exact Constant_none (isnot_none_gen ⟨.bl _, H1, I1, by rw [r1.none_iff]; rfl, q1⟩)
/-- a comparison as a value, as a test -/
def tB (t : TE) : TT := fun σ H Q => t σ H fun x H1 => ∃ c, x = .bl c ∧ Q c H1
theorem pe_cmp {op : CmpOp} {t : TE} (h : PC X op a b t) (h1 : behindInMarks op b = false := by first | exact nobehind _ (by decide) (by decide) | rfl) : PE X (.Compare a [op] [b] pos) t := fun pins s σ H Q I hw => wpAny_Compare1 (h pins s σ H Q I hw) h1
theorem pt_cmp {op : CmpOp} {t : TE} (h : PC X op a b t) (h1 : behindInMarks op b = false := by first | exact nobehind _ (by decide) (by decide) | rfl) : PT X (.Compare a [op] [b] pos) (tB t) := by
  intro pins s σ H Q I hw
  refine wpAny_isTrue_Compare1 (thn (h pins s σ H _ I hw) fun v s1 h1 => thn h1 fun u s2 h2 => thn h2 fun c s3 ⟨x, H1, I1, r1, q1⟩ => ?_) h1
  obtain ⟨d, rfl, q⟩ := q1
  cases r1
  exact wpAny_truthy_bool ⟨H1, I1, q⟩
/-- an expression whose value is a bool, as a test -/
theorem pt_val {e : Expr} {t : TE} (h : PE X e t) (he : ∀ whole, isTrue e X.env whole = (do let v ← whole; standAt e.pos; holding [v] (truthy v)) := by intro _; rfl) : PT X e (tB t) := by
  intro pins s σ H Q I hw
  refine isTrue_plain (thn (h pins s σ H _ I hw) fun v s1 ⟨x, H1, I1, r1, q1⟩ => ?_) (he _)
  obtain ⟨d, rfl, q⟩ := q1
  cases r1
  exact wpAny_truthy_bool ⟨H1, I1, q⟩

/-! ### and, or, not -/
variable {tA tB' : TT} {rest : List Expr}
def tAnd (t u : TT) : TT := fun σ H Q => t σ H fun c H1 => if c = true then u σ H1 Q else Q false H1
def tOr (t u : TT) : TT := fun σ H Q => t σ H fun c H1 => if c = true then Q true H1 else u σ H1 Q
def tNot (t : TT) : TT := fun σ H Q => t σ H fun c H1 => Q (!c) H1
theorem pw_and1 (ha : PT X a tA) : PW X (.BoolOp .And [a] pos) tA := by
  intro wh pins s σ H Q I h
  refine isTrue_and (thn (ha pins s σ H Q I h) fun c s1 e => ?_)
  cases c with
  | true => exact isTrue_and_nil e
  | false => exact e
theorem pw_or1 (ha : PT X a tA) : PW X (.BoolOp .Or [a] pos) tA := by
  intro wh pins s σ H Q I h
  refine isTrue_or (thn (ha pins s σ H Q I h) fun c s1 e => ?_)
  cases c with
  | false => exact isTrue_or_nil e
  | true => exact e
theorem pw_and (ha : PT X a tA) (hb : PW X (.BoolOp .And (b :: rest) pos) tB') : PW X (.BoolOp .And (a :: b :: rest) pos) (tAnd tA tB') := by
  intro wh pins s σ H Q I h
  refine isTrue_and (thn (ha pins s σ H _ I h) fun c s1 ⟨H1, I1, q1⟩ => ?_)
  cases c with
  | true => exact hb wh pins s1 σ H1 Q I1 q1
  | false => exact ⟨H1, I1, q1⟩
theorem pw_or (ha : PT X a tA) (hb : PW X (.BoolOp .Or (b :: rest) pos) tB') : PW X (.BoolOp .Or (a :: b :: rest) pos) (tOr tA tB') := by
  intro wh pins s σ H Q I h
  refine isTrue_or (thn (ha pins s σ H _ I h) fun c s1 ⟨H1, I1, q1⟩ => ?_)
  cases c with
  | true => exact ⟨H1, I1, q1⟩
  | false => exact hb wh pins s1 σ H1 Q I1 q1
theorem pt_not (ha : PT X a tA) : PT X (.UnaryOp .Not a pos) (tNot tA) := by
  intro pins s σ H Q I h
  exact isTrue_not (ha pins s σ H (fun c H1 => Q (!c) H1) I h)
/-- .. as values (bools) -/
def tAndV (ta tb : TE) : TE := fun σ H Q => ta σ H fun x H1 => ∃ c, x = .bl c ∧ if c = true then tb σ H1 Q else Q (.bl false) H1
def tOrV (ta tb : TE) : TE := fun σ H Q => ta σ H fun x H1 => ∃ c, x = .bl c ∧ if c = true then Q (.bl true) H1 else tb σ H1 Q
def tNotV (ta : TE) : TE := fun σ H Q => ta σ H fun x H1 => ∃ c, x = .bl c ∧ Q (.bl (!c)) H1
theorem pe_one {op} {t : TE} (h : PE X a t) : PE X (.BoolOp op [a] pos) t := fun pins s σ H Q I hw => BoolOp_one (h pins s σ H Q I hw)
theorem pe_and (ha : PE X a ta) (hb : PE X (.BoolOp .And (b :: rest) pos) tb) : PE X (.BoolOp .And (a :: b :: rest) pos) (tAndV ta tb) := by
  intro pins s σ H Q I h
  refine BoolOp_and (thn (ha pins s σ H _ I h) fun v s1 ⟨x, H1, I1, r1, q1⟩ => ?_)
  obtain ⟨c, rfl, q1⟩ := q1
  cases r1
  refine wpAny_truthy_bool ?_
  cases c with
  | true => exact hb pins s1 σ H1 Q I1 q1
  | false => exact ⟨.bl false, H1, I1, rfl, q1⟩
theorem pe_or (ha : PE X a ta) (hb : PE X (.BoolOp .Or (b :: rest) pos) tb) : PE X (.BoolOp .Or (a :: b :: rest) pos) (tOrV ta tb) := by
  intro pins s σ H Q I h
  refine BoolOp_or (thn (ha pins s σ H _ I h) fun v s1 ⟨x, H1, I1, r1, q1⟩ => ?_)
  obtain ⟨c, rfl, q1⟩ := q1
  cases r1
  refine wpAny_truthy_bool ?_
  cases c with
  | false => exact hb pins s1 σ H1 Q I1 q1
  | true => exact ⟨.bl true, H1, I1, rfl, q1⟩
theorem pe_not (ha : PE X a ta) : PE X (.UnaryOp .Not a pos) (tNotV ta) := by
  intro pins s σ H Q I h
  refine UnaryOp_ (thn (ha pins s σ H _ I h) fun v s1 ⟨x, H1, I1, r1, q1⟩ => ?_)
  obtain ⟨c, rfl, q1⟩ := q1
  cases r1
  exact not_of (wpAny_truthy_bool ⟨.bl (!c), H1, I1, rfl, q1⟩)
/-- a if t else b -/
def tIf (t : TT) (ta tb : TE) : TE := fun σ H Q => t σ H fun c H1 => if c = true then ta σ H1 Q else tb σ H1 Q
theorem pe_ifExp {c : Expr} (hc : PT X c tA) (ha : PE X a ta) (hb : PE X b tb) : PE X (.IfExp c a b pos) (tIf tA ta tb) := by
  intro pins s σ H Q I h
  refine wpAny_IfExp (thn (hc pins s σ H _ I h) fun d s1 ⟨H1, I1, q1⟩ => ?_)
  cases d with
  | true => exact ha pins s1 σ H1 Q I1 q1
  | false => exact hb pins s1 σ H1 Q I1 q1
end
end L2

namespace L2
open PySem PySem.Spec PyProof.Rows

/-! ### a list, a tuple that is read: tracked, frozen, or an object of the module -/
def SqL (K : PySem.W.Frag) (H : Hp) (a : Addr) (xs : List V) : Prop :=
  Rd H a (.lst xs) ∨
    ∃ (o : Obj) (its : Array Value) (n : Nat), K.lookup a = some o ∧ o.cls = .type "list" ∧ o.dict = none ∧ o.data = .seq its n ∧ its.size ≤ sizeLine ∧ Vals xs its.toList
def SqT (K : PySem.W.Frag) (H : Hp) (a : Addr) (xs : List V) : Prop :=
  Rd H a (.tup xs) ∨
    ∃ (o : Obj) (its : Array Value) (n : Nat), K.lookup a = some o ∧ o.cls = .type "tuple" ∧ o.data = .seq its n ∧ its.size ≤ sizeLine ∧ Vals xs its.toList
def absV : Value → Option V
  | .none => some .non
  | .bool b => some (.bl b)
  | .int i _ => some (.int i)
  | .str x _ => some (.str x)
  | .bytes b _ => some (.byt b)
  | .float b _ => some (.flt b)
  | .ref a => some (.ref a)
  | .type n => some (.ty n)
  | _ => none
theorem RelV.abs {x : V} {u : Value} (r : RelV x u) : absV u = some x := by
  cases x with
  | non => cases r; rfl
  | bl _ => cases r; rfl
  | int _ => obtain ⟨t, rfl⟩ := r; rfl
  | str _ => obtain ⟨t, rfl⟩ := r; rfl
  | byt _ => obtain ⟨t, rfl⟩ := r; rfl
  | flt _ => obtain ⟨t, rfl⟩ := r; rfl
  | ref _ => cases r; rfl
  | ty _ => cases r; rfl
theorem RelV.inj {x y : V} {u : Value} (r : RelV x u) (q : RelV y u) : x = y := Option.some.inj (r.abs.symm.trans q.abs)
theorem Vals.inj : ∀ {xs ys : List V} {us : List Value}, Vals xs us → Vals ys us → xs = ys
  | _, _, _, .nil, .nil => rfl
  | _, _, _, .cons r t, .cons r' t' => by rw [r.inj r', Vals.inj t t']
section
variable {X : Cx} {pins : List (Addr × Obj)} {σ : St} {H : Hp} {s : Shared} {a : Addr} {xs ys : List V}
theorem SqL.of {K : PySem.W.Frag} (h : H a = some (.lst xs)) : SqL K H a xs := .inl (.inl h)
theorem SqT.of {K : PySem.W.Frag} (h : H a = some (.tup xs)) : SqT K H a xs := .inl (.inl h)
theorem Inv.list (I : Inv X pins σ H s) (h : SqL X.K H a xs) : ∃ its : List Value, Vals xs its ∧ PlainL s.heap a its.toArray ∧ xs.length ≤ sizeLine := by
  rcases h with h | ⟨o, its, n, hk, hc, hd, hs, hz, r⟩
  · obtain ⟨z, its, n, r, e⟩ := h.ok I.hok
    exact ⟨its, r, ⟨_, n, e, rfl, rfl, rfl⟩, z⟩
  · refine ⟨its.toList, r, ⟨o, n, I.kIn a o hk, hc, hd, by simpa using hs⟩, ?_⟩
    have e := r.length
    simp only [Array.length_toList] at e
    omega
theorem Inv.tuple (I : Inv X pins σ H s) (h : SqT X.K H a xs) : ∃ its : List Value, Vals xs its ∧ IsTup s.heap a its.toArray ∧ xs.length ≤ sizeLine := by
  rcases h with h | ⟨o, its, n, hk, hc, hs, hz, r⟩
  · obtain ⟨z, its, r, p⟩ := h.ok I.hok
    exact ⟨its, r, p, z⟩
  · refine ⟨its.toList, r, ⟨o, I.kIn a o hk, hc, n, by simpa using hs⟩, ?_⟩
    have e := r.length
    simp only [Array.length_toList] at e
    omega
theorem Inv.list_inj (I : Inv X pins σ H s) (h : SqL X.K H a xs) (h' : SqL X.K H a ys) : xs = ys := by
  obtain ⟨its, r, ⟨o, n, e, _, _, d⟩, _⟩ := I.list h
  obtain ⟨its', r', ⟨o', n', e', _, _, d'⟩, _⟩ := I.list h'
  rw [e] at e'; cases e'
  rw [d] at d'
  injection d' with d1 _
  have : its = its' := by simpa using congrArg Array.toList d1
  subst this
  exact r.inj r'
theorem Inv.tuple_inj (I : Inv X pins σ H s) (h : SqT X.K H a xs) (h' : SqT X.K H a ys) : xs = ys := by
  obtain ⟨its, r, ⟨o, e, _, n, d⟩, _⟩ := I.tuple h
  obtain ⟨its', r', ⟨o', e', _, n', d'⟩, _⟩ := I.tuple h'
  rw [e] at e'; cases e'
  rw [d] at d'
  injection d' with d1 _
  have : its = its' := by simpa using congrArg Array.toList d1
  subst this
  exact r.inj r'
end

/-! ### another wish about exceptions -/
abbrev Cx.wish (X : Cx) (E : Value → Shared → Prop) : Cx := { X with xe := E }
/-- no exception leaves -/
abbrev Cx.nox (X : Cx) : Cx := X.wish fun _ _ => False
theorem Cx.Ok.wish {X : Cx} (ok : X.Ok) (E : Value → Shared → Prop) : (X.wish E).Ok :=
  ⟨ok.mod, ok.kind, ok.glob, ok.blt, ok.above, ok.inj, ok.has, ok.cab, ok.hd, ok.frames, ok.stk, ok.exf, ok.bs, ok.bsz, ok.noex, ok.exfs, ok.funs, ok.frf⟩
theorem Cx.Ok.unwish {X : Cx} {E : Value → Shared → Prop} (ok : (X.wish E).Ok) : X.Ok :=
  ⟨ok.mod, ok.kind, ok.glob, ok.blt, ok.above, ok.inj, ok.has, ok.cab, ok.hd, ok.frames, ok.stk, ok.exf, ok.bs, ok.bsz, ok.noex, ok.exfs, ok.funs, ok.frf⟩
section
variable {X : Cx} {pins : List (Addr × Obj)} {σ : St} {H : Hp} {s : Shared} {E : Value → Shared → Prop}
theorem Inv.wish (I : Inv X pins σ H s) (E : Value → Shared → Prop) : Inv (X.wish E) pins σ H s := ⟨I.ok.wish E, I.os, I.bare, I.base, I.loc, I.cell, I.free, I.freeC, I.pin, I.hok, I.len⟩
theorem Inv.unwish (I : Inv (X.wish E) pins σ H s) : Inv X pins σ H s := ⟨I.ok.unwish, I.os, I.bare, I.base, I.loc, I.cell, I.free, I.freeC, I.pin, I.hok, I.len⟩
theorem SP.unwish {D : Ends} {f : Flow} {s' : Shared} (h : SP (X.wish E) pins D f s') : SP X pins D f s' := by
  cases f with
  | next => obtain ⟨σ', H', I, q⟩ := h; exact ⟨σ', H', I.unwish, q⟩
  | brk => obtain ⟨σ', H', I, q⟩ := h; exact ⟨σ', H', I.unwish, q⟩
  | cont => obtain ⟨σ', H', I, q⟩ := h; exact ⟨σ', H', I.unwish, q⟩
  | ret u => obtain ⟨v, σ', H', I, r, q⟩ := h; exact ⟨v, σ', H', I.unwish, r, q⟩
theorem PE.nox {e : Expr} {t : TE} (h : PE X.nox e t) : PE X e t := fun pins s σ H Q I hw =>
  wpAny_mono (h pins s σ H Q (I.wish _) hw) (fun _ _ ⟨v, H', I', r, q⟩ => ⟨v, H', I'.unwish, r, q⟩) fun _ _ z => False.elim z
theorem PT.nox {e : Expr} {t : TT} (h : PT X.nox e t) : PT X e t := fun pins s σ H Q I hw =>
  wpAny_mono (h pins s σ H Q (I.wish _) hw) (fun _ _ ⟨H', I', q⟩ => ⟨H', I'.unwish, q⟩) fun _ _ z => False.elim z
theorem PSs.nox {st : List Stmt} {t : TS} (h : PSs X.nox st t) : PSs X st t := fun pins s σ H D I hw =>
  wpAny_mono (h pins s σ H D (I.wish _) hw) (fun _ _ q => q.unwish) fun _ _ z => False.elim z
end

/-! ### blocks and small statements -/
section
variable {X : Cx} {st : Stmt} {rest : List Stmt} {t u : TS} {e : Expr} {te : TE} {pos : Pos}
def tNext : TS := fun D σ H => D.nx σ H
def tSeq (t u : TS) : TS := fun D σ H => t { D with nx := u D } σ H
theorem pss_nil : PSs X [] tNext := fun _ _ σ H _ I h => wpAny_execs_nil ⟨σ, H, I, h⟩
theorem pss_cons (h1 : PS X st t) (h2 : PSs X rest u) : PSs X (st :: rest) (tSeq t u) := by
  intro pins s σ H D I h
  refine wpAny_execs_cons (thn (h1 pins s σ H { D with nx := u D } I h) fun f s1 q => ?_)
  cases f with
  | next =>
    obtain ⟨σ', H', I', q⟩ := q
    exact h2 pins s1 σ' H' D I' q
  | ret v => exact q
  | brk => exact q
  | cont => exact q
theorem pss_one (h1 : PS X st t) : PSs X [st] t := by
  intro pins s σ H D I h
  refine wpAny_execs_cons (thn (h1 pins s σ H D I h) fun f s1 q => ?_)
  cases f with
  | next => exact wpAny_execs_nil q
  | ret v => exact q
  | brk => exact q
  | cont => exact q
def tBreak : TS := fun D σ H => D.bk σ H
def tCont : TS := fun D σ H => D.ct σ H
theorem ps_pass : PS X (.Pass pos) tNext := fun _ _ σ H _ I h => wpAny_Pass ⟨σ, H, I, h⟩
theorem ps_break : PS X (.Break pos) tBreak := fun _ _ σ H _ I h => wpAny_Break ⟨σ, H, I, h⟩
theorem ps_continue : PS X (.Continue pos) tCont := fun _ _ σ H _ I h => wpAny_Continue ⟨σ, H, I, h⟩
/-- in a def's body nothing is shown -/
theorem Inv.quiet {pins : List (Addr × Obj)} {σ : St} {H : Hp} {s : Shared} (I : Inv X pins σ H s) : interactive X.env = false := by simp [interactive, I.ok.kind]
/-- a docstring -/
theorem ps_doc {x j pos pos'} : PS X (.Expr (.Constant (.str x) j pos) pos') tNext := fun _ s σ H _ I h => wpAny_Expr (Calls.Constant_str (show SP X _ _ .next { s with toks := s.toks + 1 } from ⟨σ, H, I.tok _, h⟩)) I.quiet
/-- an expression whose value is dropped -/
def tDrop (te : TE) : TS := fun D σ H => te σ H fun _ H1 => D.nx σ H1
theorem ps_expr (he : PE X e te) (hs : swapsWith e none pos.line X.env = pure false := by rfl) : PS X (.Expr e pos) (tDrop te) := by
  intro pins s σ H D I h
  exact wpAny_Expr_any (thn (he pins s σ H _ I h) fun v s1 ⟨x, H1, I1, r1, q1⟩ => ⟨σ, H1, I1, q1⟩) I.quiet hs
def tRet (te : TE) : TS := fun D σ H => te σ H D.rt
theorem ps_ret (he : PE X e te) : PS X (.Return (some e) pos) (tRet te) := by
  intro pins s σ H D I h
  exact wpAny_Return_some (thn (he pins s σ H _ I h) fun v s1 ⟨x, H1, I1, r1, q1⟩ => ⟨x, σ, H1, I1, r1, q1⟩)
def tRetN : TS := fun D _ H => D.rt .non H
theorem ps_retN : PS X (.Return none pos) tRetN := fun _ _ σ H _ I h => wpAny_Return_none ⟨.non, σ, H, I, rfl, h⟩
def tIfS (c : TT) (t u : TS) : TS := fun D σ H => c σ H fun b H1 => if b = true then t D σ H1 else u D σ H1
theorem ps_if {c : Expr} {a b : List Stmt} {tc : TT} (hc : PT X c tc) (ha : PSs X a t) (hb : PSs X b u) : PS X (.If c a b pos) (tIfS tc t u) := by
  intro pins s σ H D I h
  refine wpAny_If (thn (hc pins s σ H _ I h) fun d s1 ⟨H1, I1, q1⟩ => ?_)
  cases d with
  | true => exact ha pins s1 σ H1 D I1 q1
  | false => exact hb pins s1 σ H1 D I1 q1
/-- code that the proof never comes to -/
def tNever : TS := fun _ _ _ => False
theorem ps_never : PS X st tNever := fun _ _ _ _ _ _ h => h.elim
theorem pss_never {sts : List Stmt} : PSs X sts tNever := fun _ _ _ _ _ _ h => h.elim
end

/-! ### targets -/
abbrev TG := V → St → Hp → (St → Hp → Prop) → Prop
abbrev TGs := List V → St → Hp → (St → Hp → Prop) → Prop
def PG (X : Cx) (target : Expr) (t : TG) : Prop :=
  ∀ (pins : List (Addr × Obj)) (s : Shared) (σ : St) (H : Hp) (v : V) (u : Value) (Q : St → Hp → Prop), Inv X pins σ H s → RelV v u → t v σ H Q →
    wpAny (model X.prog X.w) X.A (assign target X.env u) (fun _ s' => ∃ σ' H', Inv X pins σ' H' s' ∧ Q σ' H') X.xe s
/-- several targets, one after another -/
def PGs (X : Cx) (ts : List Expr) (t : TGs) : Prop :=
  ∀ (pins : List (Addr × Obj)) (s : Shared) (σ : St) (H : Hp) (vs : List V) (us : List Value) (Q : St → Hp → Prop), Inv X pins σ H s → Vals vs us → t vs σ H Q →
    wpAny (model X.prog X.w) X.A (assignInOrder ((assignEach ts X.env).map (·.2)) us) (fun _ s' => ∃ σ' H', Inv X pins σ' H' s' ∧ Q σ' H') X.xe s
/-- o[i] = v, by values -/
abbrev TSet := V → V → V → Hp → (Hp → Prop) → Prop
def PSet (X : Cx) (t : TSet) : Prop :=
  ∀ (pins : List (Addr × Obj)) (s : Shared) (σ : St) (H : Hp) (o i v : V) (ov iv u : Value) (Q : Hp → Prop), Inv X pins σ H s → RelV o ov → RelV i iv → RelV v u → t o i v H Q →
    wpAny (model X.prog X.w) X.A (setItem ov iv u) (fun _ s' => ∃ H', Inv X pins σ H' s' ∧ Q H') X.xe s
/-- a op= b, by values -/
abbrev TIp := V → V → Hp → VK → Prop
def PIp (X : Cx) (op : Operator) (t : TIp) : Prop :=
  ∀ (pins : List (Addr × Obj)) (s : Shared) (σ : St) (H : Hp) (x y : V) (v u : Value) (Q : VK), Inv X pins σ H s → RelV x v → RelV y u → t x y H Q →
    wpAny (model X.prog X.w) X.A (inplaceOp op v u) (EP X pins σ Q) X.xe s
section
variable {X : Cx} {pos : Pos}
def gName (i : Nat) : TG := fun v σ H Q => Q (σ.set i (some v)) H
theorem pg_name {i : Nat} {x : Str} (hN : X.N.Nodup) (hi : X.N[i]? = some x) (hx : Loc X.env.scope x) (hf : X.fn x = true ∨ X.env.scope.names.lookup x = some .local := by first | exact .inl rfl | exact .inr rfl | assumption) : PG X (.Name x pos) (gName i) := by
  intro pins s σ H v u Q I r h
  exact wpAny_assign_Name (store_ok I hN hi hx r (fun s' I' => ⟨_, H, I', h⟩) hf)
def gNil : TGs := fun vs σ H Q => vs = [] ∧ Q σ H
def gCons (t : TG) (u : TGs) : TGs := fun vs σ H Q => ∃ v r, vs = v :: r ∧ t v σ H fun σ' H' => u r σ' H' Q
theorem pgs_nil : PGs X [] gNil := by
  intro pins s σ H vs us Q I r h
  obtain ⟨e, h⟩ := h
  subst e
  cases r
  exact assignInOrder_nil ⟨σ, H, I, h⟩
theorem pgs_cons {e : Expr} {es : List Expr} {t : TG} {u : TGs} (h1 : PG X e t) (h2 : PGs X es u)
    (hs : (assignEach (e :: es) X.env).map (·.2) = assign e X.env :: (assignEach es X.env).map (·.2) := by rfl) : PGs X (e :: es) (gCons t u) := by
  intro pins s σ H vs us Q I r h
  obtain ⟨v, vr, e1, h⟩ := h
  subst e1
  cases r with
  | cons r rr =>
    rw [hs]
    refine assignInOrder_cons (thn (h1 pins s σ H _ _ _ I r h) fun _ s1 ⟨σ1, H1, I1, q1⟩ => ?_)
    exact h2 pins s1 σ1 H1 _ _ Q I1 rr q1
/-- (a, b, ..) = a tuple of that length -/
def gTup (K : PySem.W.Frag) (n : Nat) (t : TGs) : TG := fun v σ H Q => ∃ a xs, v = .ref a ∧ SqT K H a xs ∧ xs.length = n ∧ t xs σ H Q
theorem pg_tup {es : List Expr} {k : Nat} {t : TGs} {n : Nat} (hc : X.calm = true) (h : PGs X es t)
    (hn : (assignEach es X.env).length = n := by rfl) (hst : (assignEach es X.env).findIdx? (·.1) = none := by rfl) : PG X (.Tuple es k pos) (gTup X.K n t) := by
  intro pins s σ H v u Q I r hw
  obtain ⟨a, xs, e1, hq, hl, hw⟩ := hw
  subst e1
  cases r
  obtain ⟨its, rv, ht, hz⟩ := I.tuple hq
  refine assign_Tuple_tuple (I.ok.hd hc) ht (by simp [hn, ← hl, rv.length]) hst fun h' hx => ?_
  have I1 : Inv X pins σ H { s with heap := h' } := I.kept (t' := s.toks) fun b o e => hx b o (Nat.ne_of_lt (Heap.lt_size e)) e
  exact h pins _ σ H xs _ Q I1 (by simpa using rv) hw
/-- o[i] = .. -/
def gSub (to ti : TE) (t : TSet) : TG := fun v σ H Q => to σ H fun o H1 => ti σ H1 fun i H2 => t o i v H2 fun H3 => Q σ H3
theorem pg_sub {o i : Expr} {to ti : TE} {t : TSet} (ho : PE X o to) (hi : PE X i ti) (hs : PSet X t)
    (ha : ∀ v, assign (.Subscript o i pos) X.env v = (do
      let ov ← holding [v] (eval o X.env)
      let iv ← holding [v, ov] (eval i X.env)
      standAt pos
      holding [v, ov, iv] (setItem ov iv v)
      release [v, ov, iv] []) := by intro _; rfl) : PG X (.Subscript o i pos) (gSub to ti t) := by
  intro pins s σ H v u Q I r h
  rw [ha]
  refine wpAny_bind (wpAny_holding (thn (ho pins s σ H _ I h) fun ov s1 ⟨x, H1, I1, r1, q1⟩ => ?_))
  refine wpAny_bind (wpAny_holding (thn (hi pins s1 σ H1 _ I1 q1) fun iv s2 ⟨y, H2, I2, r2, q2⟩ => ?_))
  refine wpAny_bind (wpAny_standAt (wpAny_bind (wpAny_holding (thn (hs pins s2 σ H2 x y v ov iv u _ I2 r1 r2 r q2) fun _ s3 ⟨H3, I3, q3⟩ => ?_))))
  exact wpAny_release ⟨σ, H3, I3, q3⟩
/-- target = value -/
def tAsg (te : TE) (g : TG) : TS := fun D σ H => te σ H fun x H1 => g x σ H1 D.nx
theorem ps_asg {tg e : Expr} {te : TE} {g : TG} (he : PE X e te) (hg : PG X tg g) (hs : swapsWithSole [tg] e pos.line X.env = pure false := by rfl) (hw : swappedStores [tg] e X.env = pure none := by rfl)
    (h1 : (assignEach [tg] X.env).map (·.2) = [assign tg X.env] := by rfl) : PS X (.Assign [tg] e pos) (tAsg te g) := by
  intro pins s σ H D I h
  refine wpAny_Assign_stores (thn (he pins s σ H _ I h) fun v s1 ⟨x, H1, I1, r1, q1⟩ => ?_) hs hw
  rw [h1]
  exact thn (hg pins s1 σ H1 x v _ I1 r1 q1) fun _ s2 q => q
/-- name = value -/
theorem ps_set {i : Nat} {x : Str} {e : Expr} {te : TE} {pos' : Pos} (hN : X.N.Nodup) (hi : X.N[i]? = some x) (hx : Loc X.env.scope x) (he : PE X e te) (hs : swapsWith e (some (.Name x pos')) pos.line X.env = pure false := by rfl) (hf : X.fn x = true ∨ X.env.scope.names.lookup x = some .local := by first | exact .inl rfl | exact .inr rfl | assumption) :
    PS X (.Assign [.Name x pos'] e pos) (tAsg te (gName i)) := by
  intro pins s σ H D I h
  refine wpAny_Assign_Name (thn (he pins s σ H _ I h) fun v s1 ⟨y, H1, I1, r1, q1⟩ => ?_) hs
  exact store_ok I1 hN hi hx r1 (fun s2 I2 => ⟨_, H1, I2, q1⟩) hf
/-- a, b = x, y with plain local names: stored from the right; the pair itself is not tracked (the opening rows as in PyProof/Rows/TupAssign.lean:23) -/
def tPar (i j : Nat) (ta : TA) : TS := fun D σ H => ta σ H fun vs H1 => ∃ v w, vs = [v, w] ∧ D.nx ((σ.set i (some v)).set j (some w)) H1
theorem ps_par {i j : Nat} {x y : Str} {a b : Expr} {ta : TA} {px py pt : Pos} {kt k2 pt2} (hc : X.calm = true) (hN : X.N.Nodup) (hi : X.N[i]? = some x) (hj : X.N[j]? = some y) (hij : i ≠ j)
    (hx : X.env.scope.names.lookup x = some .local) (hy : X.env.scope.names.lookup y = some .local) (ha : PA X [a, b] ta)
    (hw : swappedStores [.Tuple [.Name x px, .Name y py] kt pt] (.Tuple [a, b] k2 pt2) X.env = pure (some [x, y]))
    (hs : swapsWithSole [.Tuple [.Name x px, .Name y py] kt pt] (.Tuple [a, b] k2 pt2) pos.line X.env = pure false := by rfl) :
    PS X (.Assign [.Tuple [.Name x px, .Name y py] kt pt] (.Tuple [a, b] k2 pt2) pos) (tPar i j ta) := by
  intro pins s σ H D I h
  rw [exec_Assign_arm]
  refine wpAny_bind (wpAny_standAt ?_)
  rw [hs]
  refine wpAny_bind (wpAny_pure ?_)
  rw [if_neg (by decide)]
  refine wpAny_bind (Tuple_ (thn (ha _ pins s σ H _ I h) fun us s1 ⟨vs, H1, I1, r1, q1⟩ => ?_))
  obtain ⟨v, w, e1, q1⟩ := q1
  subst e1
  obtain ⟨u1, u2, rfl, rv, rw'⟩ : ∃ u1 u2, us = [u1, u2] ∧ RelV v u1 ∧ RelV w u2 := by
    cases r1 with
    | cons p q =>
      cases q with
      | cons p' q' =>
        cases q'
        exact ⟨_, _, rfl, p, p'⟩
  refine wpAny_newObj_type ?_ (by show 2 ≤ sizeLine; decide)
  have I2 : Inv X pins σ H1 { s1 with heap := s1.heap.push { cls := .type "tuple", data := .seq [u1, u2].toArray } } := I1.kept (t' := s1.toks) fun b o e => Heap.get?_push_of_some _ e
  rw [hw]
  refine wpAny_bind (wpAny_pure ?_)
  show wpAny (model X.prog X.w) X.A (do rule "assign.swapped-stores"; let items ← unpackItems (.ref s1.heap.objs.size) 2 none; assignInOrder [fun v => bindName X.env y v, fun v => bindName X.env x v] items.reverse; pure Flow.next) _ _ _
  refine wpAny_bind (wpAny_rule (wpAny_bind (unpackItems_tuple (items := #[u1, u2]) (I.ok.hd hc) (IsTup.new s1.heap _) fun h' hx' => ?_)))
  have I3 := I2.kept (h' := h') (t' := s1.toks) fun b o e => hx' b o (Nat.ne_of_lt (Heap.lt_size e)) e
  show wpAny _ _ (assignInOrder [fun v => bindName X.env y v, fun v => bindName X.env x v] [u2, u1] >>= fun _ => pure Flow.next) _ _ _
  refine wpAny_bind (assignInOrder_cons (wpAny_bindName (store_ok I3 hN hj (.inl hy) rw' (fun s2 I4 => ?_) (.inr hy))))
  refine assignInOrder_cons (wpAny_bindName (store_ok I4 hN hi (.inl hx) rv (fun s3 I5 => assignInOrder_nil (wpAny_pure ?_)) (.inr hx)))
  rw [List.set_comm _ _ (Ne.symm hij)] at I5
  exact ⟨_, H1, I5, q1⟩
/-- name op= e -/
def tAug (i : Nat) (te : TE) (ti : TIp) : TS := fun D σ H => ∃ x, σ[i]? = some (some x) ∧ te σ H fun y H1 => ti x y H1 fun z H2 => D.nx (σ.set i (some z)) H2
theorem ps_aug {i : Nat} {x : Str} {e : Expr} {te : TE} {op : Operator} {ti : TIp} {pos' : Pos} (hN : X.N.Nodup) (hi : X.N[i]? = some x) (hx : Loc X.env.scope x) (he : PE X e te) (ho : PIp X op ti) (hf : X.fn x = true ∨ X.env.scope.names.lookup x = some .local := by first | exact .inl rfl | exact .inr rfl | assumption) :
    PS X (.AugAssign (.Name x pos') op e pos) (tAug i te ti) := by
  intro pins s σ H D I h
  obtain ⟨v, e1, h⟩ := h
  obtain ⟨m, hn, hl⟩ := I.loc
  have vis : Vis X.env.scope x := by rcases hx with k | k; exact .inl k; exact .inr (.inl k)
  obtain ⟨u, r, l⟩ := hl i x v hi e1 vis
  refine wpAny_AugAssign_Name ?_
  have go : wpAny (model X.prog X.w) X.A (eval e X.env) (fun w s₂ => wpAny (model X.prog X.w) X.A (inplaceOp op u w) (fun r s₃ => wpAny (model X.prog X.w) X.A (storeName X.env x r) (fun _ => SP X pins D .next) X.xe s₃) X.xe s₂) X.xe s := by
    refine thn (he pins s σ H _ I h) fun w s1 ⟨y, H1, I1, r1, q1⟩ => ?_
    refine thn (ho pins s1 σ H1 v y u w _ I1 r r1 q1) fun z s2 ⟨zv, H2, I2, r2, q2⟩ => ?_
    exact store_ok I2 hN hi hx r2 (fun s3 I3 => ⟨_, H2, I3, q2⟩) hf
  rcases l with ⟨hk, hm⟩ | ⟨hk, c, hc, hcell⟩
  · exact wpAny_loadName_local I.ok.kind hk hn hm go
  · rcases hk with hk | hk
    · exact wpAny_loadName_cell I.ok.kind hk hc hcell go
    · rcases hx with k | k
      · have : X.env.scope.names.lookup x = some .free := hk
        rw [k] at this; cases this
      · have : X.env.scope.names.lookup x = some .free := hk
        rw [k] at this; cases this
/-- o[i] op= e -/
def tAugS (to ti te : TE) (tget : V → V → Hp → VK → Prop) (tip : TIp) (tset : TSet) : TS := fun D σ H => to σ H fun o H1 => ti σ H1 fun i H2 => tget o i H2 fun x H3 => te σ H3 fun y H4 => tip x y H4 fun z H5 => tset o i z H5 fun H6 => D.nx σ H6
/-- o[i], by values -/
def PGet (X : Cx) (t : V → V → Hp → VK → Prop) : Prop :=
  ∀ (pins : List (Addr × Obj)) (s : Shared) (σ : St) (H : Hp) (o i : V) (ov iv : Value) (Q : VK), Inv X pins σ H s → RelV o ov → RelV i iv → t o i H Q →
    wpAny (model X.prog X.w) X.A (getItem ov iv) (EP X pins σ Q) X.xe s
theorem ps_augS {o i e : Expr} {to ti te : TE} {tget : V → V → Hp → VK → Prop} {tip : TIp} {tset : TSet} {op : Operator} {tpos : Pos} (ho : PE X o to) (hi : PE X i ti) (hg : PGet X tget) (he : PE X e te) (hp : PIp X op tip) (hs : PSet X tset)
    (ha : ∀ ov iv new, augStore i ov iv new = (do holding [new, ov, iv] (setItem ov iv new); release [new, ov, iv] []; pure .next) := by intros; rfl) : PS X (.AugAssign (.Subscript o i tpos) op e pos) (tAugS to ti te tget tip tset) := by
  intro pins s σ H D I h
  refine wpAny_AugAssign_SubscriptAny (thn (ho pins s σ H _ I h) fun ov s1 ⟨x1, H1, I1, r1, q1⟩ => ?_) ha
  refine thn (hi pins s1 σ H1 _ I1 q1) fun iv s2 ⟨x2, H2, I2, r2, q2⟩ => ?_
  refine thn (hg pins s2 σ H2 x1 x2 ov iv _ I2 r1 r2 q2) fun old s3 ⟨x3, H3, I3, r3, q3⟩ => ?_
  refine thn (he pins s3 σ H3 _ I3 q3) fun v s4 ⟨x4, H4, I4, r4, q4⟩ => ?_
  refine thn (hp pins s4 σ H4 x3 x4 old v _ I4 r3 r4 q4) fun new s5 ⟨x5, H5, I5, r5, q5⟩ => ?_
  exact thn (hs pins s5 σ H5 x1 x2 x5 ov iv new _ I5 r1 r2 r5 q5) fun _ s6 ⟨H6, I6, q6⟩ => ⟨σ, H6, I6, q6⟩
/-- ints -/
def ipI (f : Int → Int → Int) : TIp := fun x y H Q => ∃ i j, x = .int i ∧ y = .int j ∧ Q (.int (f i j)) H
theorem ip_add : PIp X .Add (ipI fun i j => i + j) := by
  intro pins s σ H x y v u Q I r1 r2 h
  obtain ⟨i, j, e1, e2, q⟩ := h
  subst e1; subst e2
  obtain ⟨t, rfl⟩ := r1
  obtain ⟨t', rfl⟩ := r2
  exact iadd_int ⟨.int _, H, I.tok _, ⟨_, rfl⟩, q⟩
theorem ip_sub : PIp X .Sub (ipI fun i j => i - j) := by
  intro pins s σ H x y v u Q I r1 r2 h
  obtain ⟨i, j, e1, e2, q⟩ := h
  subst e1; subst e2
  obtain ⟨t, rfl⟩ := r1
  obtain ⟨t', rfl⟩ := r2
  exact isub_int ⟨.int _, H, I.tok _, ⟨_, rfl⟩, q⟩
end

/-! ### while -/
section
variable {X : Cx} {pos : Pos}
/-- the invariant W with its measure -/
def tWhile (c : TT) (tb : TS) : TS := fun D σ H => ∃ W : Nat → St → Hp → Prop, (∃ m, W m σ H) ∧ ∀ m σ H, W m σ H →
  c σ H fun b H1 => if b = true then ∃ N : St → Hp → Prop, (∀ σ' H', N σ' H' → ∃ m', m' < m ∧ W m' σ' H') ∧ tb { D with nx := N, ct := N, bk := D.nx } σ H1 else D.nx σ H1
theorem ps_while {c : Expr} {body : List Stmt} {tc : TT} {tb : TS} (hp : PassesOwn (model X.prog X.w) X.A X.env X.xe) (hc : PT X c tc) (hb : PSs X body tb) : PS X (.While c body [] pos) (tWhile tc tb) := by
  intro pins s σ H D I h
  obtain ⟨W, ⟨m0, w0⟩, turn⟩ := h
  refine wpAny_While (codeAny_whileLoop (fun n s' => ∃ σ' H', Inv X pins σ' H' s' ∧ W n σ' H') ?_ m0 ⟨σ, H, I, w0⟩)
  rintro n s1 ⟨σ1, H1, I1, w1⟩
  refine wpAny_passesOwn hp (thn (hc pins s1 σ1 H1 _ I1 (turn n σ1 H1 w1)) fun b s2 ⟨H2, I2, q2⟩ => ?_)
  cases b with
  | true =>
    obtain ⟨N, hN, q2⟩ := q2
    rw [if_pos rfl]
    refine wpAny_passesOwn hp (thn (hb pins s2 σ1 H2 _ I2 q2) fun f s3 q3 => ?_)
    cases f with
    | next =>
      obtain ⟨σ3, H3, I3, n3⟩ := q3
      obtain ⟨m', hm, w3⟩ := hN σ3 H3 n3
      exact ⟨m', hm, σ3, H3, I3, w3⟩
    | cont =>
      obtain ⟨σ3, H3, I3, n3⟩ := q3
      obtain ⟨m', hm, w3⟩ := hN σ3 H3 n3
      exact ⟨m', hm, σ3, H3, I3, w3⟩
    | brk => exact q3
    | ret v => exact q3
  | false =>
    rw [if_neg Bool.false_ne_true]
    exact wpAny_execs_nil ⟨σ1, H2, I2, q2⟩
end

/-! ### what a loop or a comprehension walks -/
/-- at turn i: it yields x (the heap may grow), or it stops -/
structure It where
  go : Nat → Hp → Prop
  yld : Nat → Hp → V → Hp → Prop
  stop : Nat → Hp → Prop
/-- the iterator's own objects may turn: they are not the frame's, not pinned, younger than the entry (or a comprehension's own) -/
def FpOk (X : Cx) (pins : List (Addr × Obj)) (H : Hp) (b : Addr) : Prop :=
  H b = none ∧ b ≠ X.env.locals ∧ b ∉ X.fs ∧ (b ∈ X.ex ∨ X.s₀.heap.objs.size ≤ b) ∧ (∀ x c, X.env.cells.lookup x = some c → c ≠ b) ∧ ∀ p ∈ X.pn ++ pins, p.1 ≠ b
theorem Inv.fpOk {X : Cx} {pins : List (Addr × Obj)} {σ : St} {H H' : Hp} {s : Shared} {b : Addr} (I : Inv X pins σ H s) (hb : s.heap.objs.size ≤ b) (hn : H' b = none) : FpOk X pins H' b := by
  refine ⟨hn, Nat.ne_of_gt (Nat.lt_of_lt_of_le I.lt hb), I.nofs hb, .inr (Nat.le_trans I.sz hb), fun x c e z => ?_, fun p hp z => ?_⟩
  · obtain ⟨v, q⟩ := I.cell x c e
    exact absurd (Nat.lt_of_lt_of_le q.lt (by rw [z]; exact hb)) (Nat.lt_irrefl _)
  · exact absurd (Nat.lt_of_lt_of_le (Heap.lt_size (I.pin p hp).1) (by rw [z]; exact hb)) (Nat.lt_irrefl _)
structure Turn (P : Program) (w : World) (K : PySem.W.Frag) (tg : Expr) (J : It) (fp : List Addr) (it : Addr) (tn : Nat → Heap → Prop) : Prop where
  mem : it ∈ fp
  obj : ∀ i h, tn i h → ∀ b ∈ fp, ∃ o, h.get? b = some o ∧ ∀ v, o.data ≠ .cell v
  keep : ∀ i h h', tn i h → (∀ b ∈ fp, ∀ o, h.get? b = some o → h'.get? b = some o) → tn i h'
  item : ∀ (X : Cx), X.prog = P → X.w = w → X.K = K → X.calm = true → ∀ (i : Nat) (pins : List (Addr × Obj)) (s : Shared) (σ : St) (H : Hp) (E : Value → Shared → Prop), Inv X pins σ H s → (∀ b ∈ fp, FpOk X pins H b) → tn i s.heap → J.go i H →
    wpAny (model P w) X.A (pyNext (.ref it)) (fun r s1 => ∃ u, r = some u ∧
      wpAny (model P w) X.A (letOwnedTupleGo tg (.ref it) u) (fun _ s2 => ∃ x H', Inv X pins σ H' s2 ∧ RelV x u ∧ J.yld i H x H' ∧ tn (i + 1) s2.heap ∧ ∀ b ∈ fp, H' b = none) E s1) E s
  done : ∀ (X : Cx), X.prog = P → X.w = w → X.K = K → X.calm = true → ∀ (i : Nat) (pins : List (Addr × Obj)) (s : Shared) (σ : St) (H : Hp) (E : Value → Shared → Prop), Inv X pins σ H s → (∀ b ∈ fp, FpOk X pins H b) → tn i s.heap → J.stop i H →
    wpAny (model P w) X.A (pyNext (.ref it)) (fun r s1 => r = none ∧ Inv X pins σ H s1) E s
  self : ∀ (A : Around) (i : Nat) (s : Shared) (Q : Value → Shared → Prop) (E : Value → Shared → Prop), tn i s.heap → Q (.ref it) s → wpAny (model P w) A (pyIter (.ref it)) Q E s
abbrev TI := St → Hp → (It → Hp → Prop) → Prop
/-- an iterator has come -/
def PIE (X : Cx) (pins : List (Addr × Obj)) (σ : St) (tg : Expr) (R : It → Hp → Prop) (itv : Value) (s2 : Shared) : Prop :=
  ∃ (it : Addr) (fp : List Addr) (tn : Nat → Heap → Prop) (J : It) (H' : Hp), itv = .ref it ∧ Inv X pins σ H' s2 ∧ Turn X.prog X.w X.K tg J fp it tn ∧ tn 0 s2.heap ∧ (∀ b ∈ fp, FpOk X pins H' b) ∧ R J H'
def PI (X : Cx) (tg iter : Expr) (wi : TI) : Prop :=
  ∀ (pins : List (Addr × Obj)) (s : Shared) (σ : St) (H : Hp) (R : It → Hp → Prop), Inv X pins σ H s → wi σ H R →
    wpAny (model X.prog X.w) X.A (eval iter X.env) (fun v s1 => wpAny (model X.prog X.w) X.A (pyIter v) (PIE X pins σ tg R) X.xe s1) X.xe s

/-- the step ahead of the store is nothing for an iterator that keeps no tuple -/
theorem go_of {M : Model} {A : Around} {E : Value → Shared → Prop} {s : Shared} {tg : Expr} {it : Addr} {u : Value} {o : Obj} {n : String} {vs : Array Value} {Q : Unit → Shared → Prop} (ho : s.heap.get? it = some o) (hc : o.cls = .type n) (hd : o.data = .fields vs)
    (hn : ["enumerate", "zip", "dict_itemiterator", "dict_reverseitemiterator", "odict_iterator", "itertools.zip_longest", "itertools.pairwise"].contains n = false) (hQ : Q () s) : wpAny M A (letOwnedTupleGo tg (.ref it) u) Q E s := by
  unfold letOwnedTupleGo
  cases tg <;> first
    | exact wpAny_pure hQ
    | (cases u <;> first
        | exact wpAny_pure hQ
        | (refine wpAny_bind (wpAny_load ho ?_)
           rw [hc, hd]
           show wpAny M A (if (["enumerate", "zip", "dict_itemiterator", "dict_reverseitemiterator", "odict_iterator", "itertools.zip_longest", "itertools.pairwise"].contains n && vs[0]? == some (rawInt _)) = true then _ else _) Q E s
           rw [if_neg (by intro h; rw [hn, Bool.false_and] at h; cases h)]
           exact wpAny_pure hQ))

/-- the list at a, as it stands at each turn (a loop may append to it) -/
def Itl (K : PySem.W.Frag) (a : Addr) : It :=
  ⟨fun i H => ∃ xs x, SqL K H a xs ∧ xs[i]? = some x, fun i H x H' => H' = H ∧ ∀ xs, SqL K H a xs → xs[i]? = some x, fun i H => ∃ xs, SqL K H a xs ∧ xs.length ≤ i⟩
def Itt (K : PySem.W.Frag) (a : Addr) : It :=
  ⟨fun i H => ∃ xs x, SqT K H a xs ∧ xs[i]? = some x, fun i H x H' => H' = H ∧ ∀ xs, SqT K H a xs → xs[i]? = some x, fun i H => ∃ xs, SqT K H a xs ∧ xs.length ≤ i⟩
/-- lo, lo + 1, .. (n of them) -/
def Itr (lo : Int) (n : Nat) : It := ⟨fun i _ => i < n, fun i H x H' => H' = H ∧ x = .int (lo + i), fun i _ => n ≤ i⟩
theorem turn_list {P : Program} {w : World} {K : PySem.W.Frag} {tg : Expr} (a it : Addr) : Turn P w K tg (Itl K a) [it] it (fun i h => h.IsListIter it a i) where
  mem := by simp
  obj := fun i h st b hb => by
    have e : b = it := by simpa using hb
    subst e
    obtain ⟨o, e, c, d⟩ := st
    exact ⟨o, e, fun v z => by rw [d] at z; cases z⟩
  keep := fun i h h' st k => st.at fun o e => k it (by simp) o e
  item := by
    intro X hP hw hK hc i pins s σ H E I hf st hg
    subst hP hw hK
    obtain ⟨xs, x, hq, hx⟩ := hg
    obtain ⟨its, rv, p, hz⟩ := I.list hq
    obtain ⟨u, hu, ru⟩ := rv.get hx
    obtain ⟨f0, f1, f2, f3, f4, f5⟩ := hf it (by simp)
    refine wpAny_pyNext_list_item st p.isList (x := u) (by simpa using hu) fun h' st' sb => ?_
    have I1 : Inv X pins σ H { s with heap := h' } := I.turned (t' := s.toks) (fun b o hb e => (sb.2 b hb).trans e) f0 f1 f3 f4 f5
    obtain ⟨o, e, c, d⟩ := id st'
    exact ⟨u, rfl, go_of (s := { s with heap := h' }) e c d (by decide) ⟨x, H, I1, ru, ⟨rfl, fun ys hy => by rw [I.list_inj hy hq]; exact hx⟩, st', fun b hb => (hf b hb).1⟩⟩
  done := by
    intro X hP hw hK hc i pins s σ H E I hf st hg
    subst hP hw hK
    obtain ⟨xs, hq, hx⟩ := hg
    obtain ⟨its, rv, p, hz⟩ := I.list hq
    obtain ⟨f0, f1, f2, f3, f4, f5⟩ := hf it (by simp)
    have hl := rv.length
    exact wpAny_pyNext_list_end (I.ok.hd hc) st p.isList (by simp; omega) fun h' eb => ⟨rfl, I.turned (t' := s.toks) (fun b o hb e => eb b o hb e) f0 f1 f3 f4 f5⟩
  self := fun _ _ _ _ _ st h => wpAny_pyIter_listiter st h
theorem turn_tuple {P : Program} {w : World} {K : PySem.W.Frag} {tg : Expr} (a it : Addr) : Turn P w K tg (Itt K a) [it] it (fun i h => h.IsTupleIter it a i) where
  mem := by simp
  obj := fun i h st b hb => by
    have e : b = it := by simpa using hb
    subst e
    obtain ⟨o, e, c, d⟩ := st
    exact ⟨o, e, fun v z => by rw [d] at z; cases z⟩
  keep := fun i h h' st k => st.at fun o e => k it (by simp) o e
  item := by
    intro X hP hw hK hc i pins s σ H E I hf st hg
    subst hP hw hK
    obtain ⟨xs, x, hq, hx⟩ := hg
    obtain ⟨its, rv, p, hz⟩ := I.tuple hq
    obtain ⟨u, hu, ru⟩ := rv.get hx
    obtain ⟨f0, f1, f2, f3, f4, f5⟩ := hf it (by simp)
    refine wpAny_pyNext_tuple_item st (show s.heap.IsTuple a its.toArray from p) (x := u) (by simpa using hu) fun h' st' sb => ?_
    have I1 : Inv X pins σ H { s with heap := h' } := I.turned (t' := s.toks) (fun b o hb e => (sb.2 b hb).trans e) f0 f1 f3 f4 f5
    obtain ⟨o, e, c, d⟩ := id st'
    exact ⟨u, rfl, go_of (s := { s with heap := h' }) e c d (by decide) ⟨x, H, I1, ru, ⟨rfl, fun ys hy => by rw [I.tuple_inj hy hq]; exact hx⟩, st', fun b hb => (hf b hb).1⟩⟩
  done := by
    intro X hP hw hK hc i pins s σ H E I hf st hg
    subst hP hw hK
    obtain ⟨xs, hq, hx⟩ := hg
    obtain ⟨its, rv, p, hz⟩ := I.tuple hq
    obtain ⟨f0, f1, f2, f3, f4, f5⟩ := hf it (by simp)
    have hl := rv.length
    exact wpAny_pyNext_tuple_end (I.ok.hd hc) st (show s.heap.IsTuple a its.toArray from p) (by simp; omega) fun h' eb => ⟨rfl, I.turned (t' := s.toks) (fun b o hb e => eb b o hb e) f0 f1 f3 f4 f5⟩
  self := fun _ _ _ _ _ st h => wpAny_pyIter_tupleiter st h
theorem turn_range {P : Program} {w : World} {K : PySem.W.Frag} {tg : Expr} (it : Addr) (lo : Int) (n : Nat) : Turn P w K tg (Itr lo n) [it] it (fun i h => IsRangeIter h it (lo + (i : Nat) * 1) ((n : Int) - (i : Nat)) 1) where
  mem := by simp
  obj := fun i h st b hb => by
    have e : b = it := by simpa using hb
    subst e
    exact ⟨_, st, fun v z => by
      have z' : Data.fields _ = Data.cell v := z
      cases z'⟩
  keep := fun i h h' st k => k it (by simp) _ st
  item := by
    intro X hP hw hK hc i pins s σ H E I hf st hg
    subst hP hw hK
    obtain ⟨f0, f1, f2, f3, f4, f5⟩ := hf it (by simp)
    have W := Walks.range (prog := X.prog) (w := X.w) (I.ok.hd hc) it lo 1 n
    refine W.item i s _ _ hg st fun v h' tk hv st' kk => ?_
    obtain ⟨t, rfl⟩ := hv
    have I1 : Inv X pins σ H { s with heap := h', toks := tk } := I.turned (fun b o hb e => kk b o (by simpa using hb) e) f0 f1 f3 f4 f5
    refine ⟨_, rfl, go_of (s := { s with heap := h', toks := tk }) (n := "range_iterator") st' rfl rfl (by decide) ⟨.int (lo + i), H, I1, ⟨t, ?_⟩, ⟨rfl, rfl⟩, st', fun b hb => (hf b hb).1⟩⟩
    rw [Int.mul_one]
  done := by
    intro X hP hw hK hc i pins s σ H E I hf st hg
    subst hP hw hK
    obtain ⟨f0, f1, f2, f3, f4, f5⟩ := hf it (by simp)
    exact wpAny_pyNext_range_end (I.ok.hd hc) st (by have : n ≤ i := hg; omega) fun h' eb => ⟨rfl, I.turned (t' := s.toks) (fun b o hb e => eb b o hb e) f0 f1 f3 f4 f5⟩
  self := fun _ _ _ _ _ st h => wpAny_pyIter_rangeiter st h
end L2

namespace L2
open PySem PySem.Spec PyProof.Rows
section
variable {X : Cx} {tg : Expr}
def iList (K : PySem.W.Frag) (tl : TE) : TI := fun σ H R => tl σ H fun x H1 => ∃ a, x = .ref a ∧ (∃ xs, SqL K H1 a xs) ∧ R (Itl K a) H1
def iTup (K : PySem.W.Frag) (tl : TE) : TI := fun σ H R => tl σ H fun x H1 => ∃ a, x = .ref a ∧ (∃ xs, SqT K H1 a xs) ∧ R (Itt K a) H1
theorem pi_list {l : Expr} {tl : TE} (hl : PE X l tl) : PI X tg l (iList X.K tl) := by
  intro pins s σ H R I h
  refine thn (hl pins s σ H _ I h) fun v s1 ⟨x, H1, I1, r1, q1⟩ => ?_
  obtain ⟨a, e, ⟨xs, hq⟩, q⟩ := q1
  subst e
  cases r1
  obtain ⟨its, rv, p, hz⟩ := I1.list hq
  refine wpAny_pyIter_list p.isList ?_
  refine ⟨s1.heap.objs.size, [s1.heap.objs.size], _, _, H1, rfl, I1.kept (t' := s1.toks) fun b o e => Heap.get?_push_of_some _ e, turn_list a _, ⟨_, Heap.get?_push_size _ rfl, rfl, rfl⟩, fun b hb => ?_, q⟩
  have e : b = s1.heap.objs.size := by simpa using hb
  subst e
  exact I1.fpOk (Nat.le_refl _) (I1.hok.fresh (Nat.le_refl _))
theorem pi_tup {l : Expr} {tl : TE} (hl : PE X l tl) : PI X tg l (iTup X.K tl) := by
  intro pins s σ H R I h
  refine thn (hl pins s σ H _ I h) fun v s1 ⟨x, H1, I1, r1, q1⟩ => ?_
  obtain ⟨a, e, ⟨xs, hq⟩, q⟩ := q1
  subst e
  cases r1
  obtain ⟨its, rv, p, hz⟩ := I1.tuple hq
  refine wpAny_pyIter_tuple (show s1.heap.IsTuple a its.toArray from p) ?_
  refine ⟨s1.heap.objs.size, [s1.heap.objs.size], _, _, H1, rfl, I1.kept (t' := s1.toks) fun b o e => Heap.get?_push_of_some _ e, turn_tuple a _, ⟨_, Heap.get?_push_size _ rfl, rfl, rfl⟩, fun b hb => ?_, q⟩
  have e : b = s1.heap.objs.size := by simpa using hb
  subst e
  exact I1.fpOk (Nat.le_refl _) (I1.hok.fresh (Nat.le_refl _))
/-- a range object just made, walked -/
theorem range_it {pins : List (Addr × Obj)} {σ : St} {H : Hp} {s : Shared} {R : It → Hp → Prop} {E : Value → Shared → Prop} {lo hi : Int} {t u v : Tok} {tk : Nat} (I : Inv X pins σ H s) (h1 : -(2 ^ 62) ≤ lo) (h2 : lo < 2 ^ 62) (h3 : -(2 ^ 62) ≤ hi) (h4 : hi < 2 ^ 62)
    (q : R (Itr lo (hi - lo).toNat) H) : wpAny (model X.prog X.w) X.A (pyIter (.ref s.heap.objs.size)) (PIE X pins σ tg R) E { s with heap := s.heap.push { cls := .type "range", data := .fields #[.int lo t, .int hi u, .int 1 v] }, toks := tk } := by
  refine wpAny_pyIter_range (IsRange.new ..) (small_one h1 h2 h3 h4) ?_
  have I1 : Inv X pins σ H { s with heap := s.heap.push { cls := .type "range", data := .fields #[.int lo t, .int hi u, .int 1 v] }, toks := tk } := I.kept fun b o e => Heap.get?_push_of_some _ e
  refine ⟨(s.heap.push { cls := .type "range", data := .fields #[.int lo t, .int hi u, .int 1 v] }).objs.size, [(s.heap.push { cls := .type "range", data := .fields #[.int lo t, .int hi u, .int 1 v] }).objs.size], _, _, H, rfl,
    I1.kept (t' := tk) fun b o e => Heap.get?_push_of_some _ e, turn_range _ lo (hi - lo).toNat, ?_, fun b hb => ?_, q⟩
  · have e1 : lo + ((0 : Nat) : Int) * 1 = lo := by simp
    have e2 : (((hi - lo).toNat : Nat) : Int) - ((0 : Nat) : Int) = Builtin.Range.rangeSize lo hi 1 := by rw [rangeSize_one]; split <;> omega
    show IsRangeIter _ _ (lo + ((0 : Nat) : Int) * 1) ((((hi - lo).toNat : Nat) : Int) - ((0 : Nat) : Int)) 1
    rw [e1, e2]
    exact Heap.get?_push_size _ rfl
  · have e : b = (s.heap.push { cls := .type "range", data := .fields #[.int lo t, .int hi u, .int 1 v] }).objs.size := by simpa using hb
    subst e
    exact I1.fpOk (Nat.le_refl _) (I1.hok.fresh (Nat.le_refl _))
def iRng1 (ta : TA) : TI := fun σ H R => ta σ H fun vs H1 => ∃ j : Int, vs = [.int j] ∧ -(2 ^ 62) ≤ j ∧ j < 2 ^ 62 ∧ R (Itr 0 j.toNat) H1
def iRng2 (ta : TA) : TI := fun σ H R => ta σ H fun vs H1 => ∃ i j : Int, vs = [.int i, .int j] ∧ (-(2 ^ 62) ≤ i ∧ i < 2 ^ 62 ∧ -(2 ^ 62) ≤ j ∧ j < 2 ^ 62) ∧ R (Itr i (j - i).toNat) H1
theorem pi_range1 {a : Expr} {ta : TA} {p pos : Pos} (hg : Gl X "range") (hm : X.mg "range" = none) (ha : PA X [a] ta) (hs : starEach [a] X.env = [(false, eval a X.env)] := by rfl) : PI X tg (.Call (.Name "range" p) [a] [] pos) (iRng1 ta) := by
  intro pins s σ H R I h
  refine Call_ (ld_blt I hg hm boot_range (PyProof.Rows.callWith_type1 (thn (ha pos pins s σ H _ I h) fun us s1 ⟨vs, H1, I1, r1, q1⟩ => ?_) hs rfl))
  obtain ⟨j, e, q1, q2, q⟩ := q1
  subst e
  cases r1 with
  | cons r rr =>
    cases rr
    obtain ⟨t, rfl⟩ := r
    exact call_range_1 (range_it I1 (by omega) (by omega) q1 q2 (by simpa using q))
theorem pi_range2 {a b : Expr} {ta : TA} {p pos : Pos} (hg : Gl X "range") (hm : X.mg "range" = none) (ha : PA X [a, b] ta) (hs : starEach [a, b] X.env = [(false, eval a X.env), (false, eval b X.env)] := by rfl) (hs2 : starEach [b] X.env = [(false, eval b X.env)] := by rfl) :
    PI X tg (.Call (.Name "range" p) [a, b] [] pos) (iRng2 ta) := by
  intro pins s σ H R I h
  refine Call_ (ld_blt I hg hm boot_range (PyProof.Rows.callWith_type1 (thn (ha pos pins s σ H _ I h) fun us s1 ⟨vs, H1, I1, r1, q1⟩ => ?_) (by rw [hs, hs2]) (by rw [hs2]; rfl)))
  obtain ⟨i, j, e, ⟨q1, q2, q3, q4⟩, q⟩ := q1
  subst e
  cases r1 with
  | cons r rr =>
    cases rr with
    | cons r' rr =>
      cases rr
      obtain ⟨t, rfl⟩ := r
      obtain ⟨t', rfl⟩ := r'
      exact call_range_2 (range_it I1 q1 q2 q3 q4 q)

/-! ### for -/
/-- W: the invariant by the turn and a measure; N: what the body is to reach -/
def tFor (wi : TI) (g : TG) (tb : TS) : TS := fun D σ H => wi σ H fun J H1 => ∃ W : Nat → Nat → St → Hp → Prop, (∃ m, W 0 m σ H1) ∧ ∀ i m σ H, W i m σ H →
  (J.stop i H ∧ D.nx σ H) ∨ (J.go i H ∧ ∃ N : St → Hp → Prop, (∀ σ' H', N σ' H' → ∃ m', m' < m ∧ W (i + 1) m' σ' H') ∧ ∀ x H', J.yld i H x H' → g x σ H' fun σ2 H2 => tb { D with nx := N, ct := N, bk := D.nx } σ2 H2)
/-- the records at fp as they stand -/
def pinsAt (fp : List Addr) (h : Heap) : List (Addr × Obj) := fp.filterMap fun b => (h.get? b).map fun o => (b, o)
theorem mem_pinsAt {fp : List Addr} {h : Heap} {b : Addr} {o : Obj} (hb : b ∈ fp) (e : h.get? b = some o) : (b, o) ∈ pinsAt fp h := List.mem_filterMap.mpr ⟨b, hb, by rw [e]; rfl⟩
theorem of_pinsAt {fp : List Addr} {h : Heap} {p : Addr × Obj} (hp : p ∈ pinsAt fp h) : p.1 ∈ fp ∧ h.get? p.1 = some p.2 := by
  obtain ⟨b, hb, e⟩ := List.mem_filterMap.mp hp
  cases q : h.get? b with
  | none => rw [q] at e; cases e
  | some o =>
    rw [q] at e
    have e' : (b, o) = p := Option.some.inj e
    subst e'
    exact ⟨hb, q⟩
theorem Inv.pinned {pins : List (Addr × Obj)} {σ : St} {H : Hp} {s : Shared} {fp : List Addr} (I : Inv X pins σ H s) (hf : ∀ b ∈ fp, FpOk X pins H b) (ho : ∀ b ∈ fp, ∃ o, s.heap.get? b = some o ∧ ∀ v, o.data ≠ .cell v) : Inv X (pins ++ pinsAt fp s.heap) σ H s :=
  I.pins_of fun p hp => (List.mem_append.mp hp).elim (fun z => I.pin p (List.mem_append_right _ z)) fun z => by
    obtain ⟨hb, e⟩ := of_pinsAt z
    obtain ⟨f0, f1, f2, _⟩ := hf p.1 hb
    obtain ⟨o, e', d⟩ := ho p.1 hb
    rw [e] at e'; cases e'
    exact ⟨e, f0, f1, f2, d⟩
theorem Inv.unpinned {pins pl : List (Addr × Obj)} {σ : St} {H : Hp} {s : Shared} (I : Inv X (pins ++ pl) σ H s) : Inv X pins σ H s := I.pins_of fun p hp => I.pin p (List.mem_append_right _ (List.mem_append_left _ hp))
theorem ps_for {iter : Expr} {body : List Stmt} {wi : TI} {g : TG} {tb : TS} {pos : Pos} (hp : PassesOwn (model X.prog X.w) X.A X.env X.xe) (hc : X.calm = true) (hi : PI X tg iter wi) (hg : PG X tg g) (hb : PSs X body tb)
    (hs : ∀ x, foldedSetIterable iter X.env x = pure x := by intro _; rfl) : PS X (.For tg iter body [] pos) (tFor wi g tb) := by
  intro pins s σ H D I h
  refine wpAny_For (thn (hi pins s σ H _ I h) fun v s1 h1 => thn h1 fun itv s2 h2 => ?_) hs
  obtain ⟨it, fp, tn, J, H2, e, I2, T, st2, f2, W, ⟨m0, w0⟩, turn⟩ := h2
  subst e
  -- what stays true of the iterator's objects through the loop
  have stat : ∀ {H' : Hp}, (∀ b ∈ fp, H' b = none) → ∀ b ∈ fp, FpOk X pins H' b := fun hn b hb => ⟨hn b hb, (f2 b hb).2⟩
  refine codeAny_forLoop_any (fun n s' => ∃ i σ' H', Inv X pins σ' H' s' ∧ tn i s'.heap ∧ (∀ b ∈ fp, H' b = none) ∧ W i n σ' H') ?_ m0 ⟨0, σ, H2, I2, st2, fun b hb => (f2 b hb).1, w0⟩
  rintro n s3 ⟨i, σ3, H3, I3, st3, fr3, w3⟩
  rcases turn i n σ3 H3 w3 with ⟨stop, qn⟩ | ⟨go, N, hN, step⟩
  · refine wpAny_passesOwn hp (thn (T.done X rfl rfl rfl hc i pins s3 σ3 H3 X.xe I3 (stat fr3) st3 stop) fun r s4 ⟨hr, I4⟩ => ?_)
    subst hr
    exact wpAny_execs_nil ⟨σ3, H3, I4, qn⟩
  · refine wpAny_passesOwn hp (thn (T.item X rfl rfl rfl hc i pins s3 σ3 H3 X.xe I3 (stat fr3) st3 go) fun r s4 ⟨u, hr, h4⟩ => ?_)
    subst hr
    refine wpAny_passesOwn hp (thn h4 fun _ s5 ⟨x, H5, I5, r5, y5, st5, fr5⟩ => ?_)
    have I5' := I5.pinned (stat fr5) (T.obj _ _ st5)
    refine wpAny_passesOwn hp (thn (hg _ s5 σ3 H5 x u _ I5' r5 (step x H5 y5)) fun _ s6 ⟨σ6, H6, I6, q6⟩ => ?_)
    refine wpAny_passesOwn hp (thn (hb _ s6 σ6 H6 _ I6 q6) fun f s7 q7 => ?_)
    have again : ∀ {σ7 : St} {H7 : Hp}, Inv X (pins ++ pinsAt fp s5.heap) σ7 H7 s7 → N σ7 H7 → ∃ m, m < n ∧ ∃ i σ' H', Inv X pins σ' H' s7 ∧ tn i s7.heap ∧ (∀ b ∈ fp, H' b = none) ∧ W i m σ' H' := fun {σ7 H7} I7 n7 => by
      obtain ⟨m', hm, w7⟩ := hN σ7 H7 n7
      refine ⟨m', hm, i + 1, σ7, H7, I7.unpinned, T.keep _ _ _ st5 fun b hb o e => (I7.pin (b, o) (List.mem_append_right _ (List.mem_append_right _ (mem_pinsAt hb e)))).1, fun b hb => ?_, w7⟩
      obtain ⟨o, e, d⟩ := T.obj _ _ st5 b hb
      exact (I7.pin (b, o) (List.mem_append_right _ (List.mem_append_right _ (mem_pinsAt hb e)))).2.1
    cases f with
    | next => obtain ⟨σ7, H7, I7, n7⟩ := q7; exact again I7 n7
    | cont => obtain ⟨σ7, H7, I7, n7⟩ := q7; exact again I7 n7
    | brk => obtain ⟨σ7, H7, I7, q7⟩ := q7; exact ⟨σ7, H7, I7.unpinned, q7⟩
    | ret v => obtain ⟨x7, σ7, H7, I7, r7, q7⟩ := q7; exact ⟨x7, σ7, H7, I7.unpinned, r7, q7⟩
end

/-! ### the forms one uses -/
/-- over a list that the body leaves as it is -/
theorem for_list {K : PySem.W.Frag} {a : Addr} {xs : List V} {g : TG} {tb : TS} {D : Ends} {σ : St} {H : Hp} (Pv : Nat → St → Hp → Prop) (h0 : Pv 0 σ H) (hl : ∀ i σ H, i ≤ xs.length → Pv i σ H → SqL K H a xs)
    (hs : ∀ i x σ H, xs[i]? = some x → Pv i σ H → g x σ H fun σ2 H2 => tb { D with nx := Pv (i + 1), ct := Pv (i + 1), bk := D.nx } σ2 H2) (hd : ∀ σ H, Pv xs.length σ H → D.nx σ H) :
    ∃ W : Nat → Nat → St → Hp → Prop, (∃ m, W 0 m σ H) ∧ ∀ i m σ H, W i m σ H →
      ((Itl K a).stop i H ∧ D.nx σ H) ∨ ((Itl K a).go i H ∧ ∃ N : St → Hp → Prop, (∀ σ' H', N σ' H' → ∃ m', m' < m ∧ W (i + 1) m' σ' H') ∧ ∀ x H', (Itl K a).yld i H x H' → g x σ H' fun σ2 H2 => tb { D with nx := N, ct := N, bk := D.nx } σ2 H2) := by
  refine ⟨fun i m σ H => m = xs.length - i ∧ i ≤ xs.length ∧ Pv i σ H, ⟨xs.length, by simp, Nat.zero_le _, h0⟩, ?_⟩
  rintro i m σ H ⟨rfl, hi, p⟩
  have q := hl i σ H hi p
  by_cases hlt : i < xs.length
  · refine .inr ⟨⟨xs, xs[i], q, by simp [hlt]⟩, Pv (i + 1), fun σ' H' p' => ⟨xs.length - (i + 1), by omega, rfl, hlt, p'⟩, fun x H' y => ?_⟩
    obtain ⟨e, y⟩ := y
    subst e
    exact hs i x σ _ (y xs q) p
  · have e : i = xs.length := by omega
    subst e
    exact .inl ⟨⟨xs, q, Nat.le_refl _⟩, hd σ H p⟩
theorem for_tup {K : PySem.W.Frag} {a : Addr} {xs : List V} {g : TG} {tb : TS} {D : Ends} {σ : St} {H : Hp} (Pv : Nat → St → Hp → Prop) (h0 : Pv 0 σ H) (hl : ∀ i σ H, i ≤ xs.length → Pv i σ H → SqT K H a xs)
    (hs : ∀ i x σ H, xs[i]? = some x → Pv i σ H → g x σ H fun σ2 H2 => tb { D with nx := Pv (i + 1), ct := Pv (i + 1), bk := D.nx } σ2 H2) (hd : ∀ σ H, Pv xs.length σ H → D.nx σ H) :
    ∃ W : Nat → Nat → St → Hp → Prop, (∃ m, W 0 m σ H) ∧ ∀ i m σ H, W i m σ H →
      ((Itt K a).stop i H ∧ D.nx σ H) ∨ ((Itt K a).go i H ∧ ∃ N : St → Hp → Prop, (∀ σ' H', N σ' H' → ∃ m', m' < m ∧ W (i + 1) m' σ' H') ∧ ∀ x H', (Itt K a).yld i H x H' → g x σ H' fun σ2 H2 => tb { D with nx := N, ct := N, bk := D.nx } σ2 H2) := by
  refine ⟨fun i m σ H => m = xs.length - i ∧ i ≤ xs.length ∧ Pv i σ H, ⟨xs.length, by simp, Nat.zero_le _, h0⟩, ?_⟩
  rintro i m σ H ⟨rfl, hi, p⟩
  have q := hl i σ H hi p
  by_cases hlt : i < xs.length
  · refine .inr ⟨⟨xs, xs[i], q, by simp [hlt]⟩, Pv (i + 1), fun σ' H' p' => ⟨xs.length - (i + 1), by omega, rfl, hlt, p'⟩, fun x H' y => ?_⟩
    obtain ⟨e, y⟩ := y
    subst e
    exact hs i x σ _ (y xs q) p
  · have e : i = xs.length := by omega
    subst e
    exact .inl ⟨⟨xs, q, Nat.le_refl _⟩, hd σ H p⟩
theorem for_range {lo : Int} {n : Nat} {g : TG} {tb : TS} {D : Ends} {σ : St} {H : Hp} (Pv : Nat → St → Hp → Prop) (h0 : Pv 0 σ H)
    (hs : ∀ i σ H, i < n → Pv i σ H → g (.int (lo + i)) σ H fun σ2 H2 => tb { D with nx := Pv (i + 1), ct := Pv (i + 1), bk := D.nx } σ2 H2) (hd : ∀ σ H, Pv n σ H → D.nx σ H) :
    ∃ W : Nat → Nat → St → Hp → Prop, (∃ m, W 0 m σ H) ∧ ∀ i m σ H, W i m σ H →
      ((Itr lo n).stop i H ∧ D.nx σ H) ∨ ((Itr lo n).go i H ∧ ∃ N : St → Hp → Prop, (∀ σ' H', N σ' H' → ∃ m', m' < m ∧ W (i + 1) m' σ' H') ∧ ∀ x H', (Itr lo n).yld i H x H' → g x σ H' fun σ2 H2 => tb { D with nx := N, ct := N, bk := D.nx } σ2 H2) := by
  refine ⟨fun i m σ H => m = n - i ∧ i ≤ n ∧ Pv i σ H, ⟨n, by simp, Nat.zero_le _, h0⟩, ?_⟩
  rintro i m σ H ⟨rfl, hi, p⟩
  by_cases hlt : i < n
  · refine .inr ⟨hlt, Pv (i + 1), fun σ' H' p' => ⟨n - (i + 1), by omega, rfl, hlt, p'⟩, fun x H' y => ?_⟩
    obtain ⟨e, y⟩ := y
    subst e y
    exact hs i σ _ hlt p
  · have e : i = n := by omega
    subst e
    exact .inl ⟨Nat.le_refl _, hd σ H p⟩
/-- while, by a word and a measure of the state -/
theorem while_by {c : TT} {tb : TS} {D : Ends} {σ : St} {H : Hp} (Pv : St → Hp → Prop) (μ : St → Hp → Nat) (h0 : Pv σ H)
    (hs : ∀ σ H, Pv σ H → c σ H fun b H1 => if b = true then tb { D with nx := fun σ' H' => Pv σ' H' ∧ μ σ' H' < μ σ H, ct := fun σ' H' => Pv σ' H' ∧ μ σ' H' < μ σ H, bk := D.nx } σ H1 else D.nx σ H1)
    (mono : ∀ σ H Q Q', (∀ b H1, Q b H1 → Q' b H1) → c σ H Q → c σ H Q') : tWhile c tb D σ H := by
  refine ⟨fun m σ H => m = μ σ H ∧ Pv σ H, ⟨_, rfl, h0⟩, ?_⟩
  rintro m σ H ⟨rfl, p⟩
  refine mono σ H _ _ (fun b H1 q => ?_) (hs σ H p)
  cases b with
  | true => exact ⟨_, fun σ' H' ⟨p', l⟩ => ⟨_, l, rfl, p'⟩, q⟩
  | false => exact q
end L2

namespace L2
open PySem PySem.Spec PyProof.Rows

abbrev R2 := V → V → Hp → VK → Prop
/-- a two-place operation on values: f is binaryOp op, inplaceOp op or compareOp op -/
def OpR (X : Cx) (f : Value → Value → Sem Value) (r : R2) : Prop :=
  ∀ (pins : List (Addr × Obj)) (s : Shared) (σ : St) (H : Hp) (x y : V) (v u : Value) (Q : VK), Inv X pins σ H s → RelV x v → RelV y u → r x y H Q →
    wpAny (model X.prog X.w) X.A (f v u) (EP X pins σ Q) X.xe s
/-- a one-place operation -/
def UnR (X : Cx) (f : Value → Sem Value) (r : V → Hp → VK → Prop) : Prop :=
  ∀ (pins : List (Addr × Obj)) (s : Shared) (σ : St) (H : Hp) (x : V) (v : Value) (Q : VK), Inv X pins σ H s → RelV x v → r x H Q →
    wpAny (model X.prog X.w) X.A (f v) (EP X pins σ Q) X.xe s
/-- a call of a value that is known (a builtin, a type) with values -/
def CallR (X : Cx) (f : Value) (r : List V → Hp → VK → Prop) : Prop :=
  ∀ (pins : List (Addr × Obj)) (s : Shared) (σ : St) (H : Hp) (xs : List V) (us : List Value) (Q : VK), Inv X pins σ H s → Vals xs us → r xs H Q →
    wpAny (model X.prog X.w) X.A (call f us) (EP X pins σ Q) X.xe s
/-- a value's truth -/
def TruR (X : Cx) (r : V → Hp → (Bool → Hp → Prop) → Prop) : Prop :=
  ∀ (pins : List (Addr × Obj)) (s : Shared) (σ : St) (H : Hp) (x : V) (v : Value) (Q : Bool → Hp → Prop), Inv X pins σ H s → RelV x v → r x H Q →
    wpAny (model X.prog X.w) X.A (truthy v) (TP X pins σ Q) X.xe s

def tOp (r : R2) (ta tb : TE) : TE := fun σ H Q => ta σ H fun x H1 => tb σ H1 fun y H2 => r x y H2 Q
def tUn (r : V → Hp → VK → Prop) (ta : TE) : TE := fun σ H Q => ta σ H fun x H1 => r x H1 Q
/-- ints in, under C, and a value out -/
def rI (C : Int → Int → Prop) (g : Int → Int → V) : R2 := fun x y H Q => ∃ i j, x = .int i ∧ y = .int j ∧ C i j ∧ Q (g i j) H
def rI0 (g : Int → Int → V) : R2 := fun x y H Q => ∃ i j, x = .int i ∧ y = .int j ∧ Q (g i j) H
def rU (g : Int → V) : V → Hp → VK → Prop := fun x H Q => ∃ i, x = .int i ∧ Q (g i) H

section
variable {X : Cx} {a b c : Expr} {ta tb tc : TE} {pos : Pos}

theorem binT (ha : PE X a ta) (hb : PE X b tb) {pins : List (Addr × Obj)} {s : Shared} {σ : St} {H : Hp} {R : V → V → Hp → Prop} (I : Inv X pins σ H s)
    (h : ta σ H fun x H1 => tb σ H1 fun y H2 => R x y H2) {Q : Value → Shared → Prop} {f : Value → Value → Sem Value}
    (hf : ∀ v u s2 x y H2, Inv X pins σ H2 s2 → RelV x v → RelV y u → R x y H2 → wpAny (model X.prog X.w) X.A (f v u) Q X.xe s2) :
    wpAny (model X.prog X.w) X.A (eval a X.env) (fun v s₁ => wpAny (model X.prog X.w) X.A (eval b X.env) (fun u s₂ => wpAny (model X.prog X.w) X.A (f v u) Q X.xe s₂) X.xe s₁) X.xe s := by
  refine thn (ha pins s σ H _ I h) fun v s1 ⟨x, H1, I1, r1, q1⟩ => ?_
  refine thn (hb pins s1 σ H1 _ I1 q1) fun u s2 ⟨y, H2, I2, r2, q2⟩ => ?_
  exact hf v u s2 x y H2 I2 r1 r2 q2

theorem pe_op {op : Operator} {r : R2} (ho : OpR X (binaryOp op) r) (ha : PE X a ta) (hb : PE X b tb) : PE X (.BinOp a op b pos) (tOp r ta tb) := by
  intro pins s σ H Q I h
  exact wpAny_BinOp (binT ha hb I h fun v u s2 x y H2 I2 rx ry q => ho pins s2 σ H2 x y v u Q I2 rx ry q)
theorem pe_un {op : UnaryOp} {r : V → Hp → VK → Prop} (ho : UnR X (unaryOp op) r) (ha : PE X a ta) : PE X (.UnaryOp op a pos) (tUn r ta) := by
  intro pins s σ H Q I h
  exact UnaryOp_ (thn (ha pins s σ H _ I h) fun v s1 ⟨x, H1, I1, r1, q1⟩ => ho pins s1 σ H1 x v Q I1 r1 q1)
/-- a op= e at a name: the name's slot i -/
theorem augR {op : Operator} {r : R2} (ho : OpR X (inplaceOp op) r) {pins : List (Addr × Obj)} {s : Shared} {σ : St} {H : Hp} {x y : V} {v u : Value} {Q : VK} (I : Inv X pins σ H s)
    (rx : RelV x v) (ry : RelV y u) (q : r x y H Q) : wpAny (model X.prog X.w) X.A (inplaceOp op v u) (EP X pins σ Q) X.xe s := ho pins s σ H x y v u Q I rx ry q

/-! ### ints -/
theorem opI {f : Value → Value → Sem Value} {C : Int → Int → Prop} {g : Int → Int → Int}
    (rule : ∀ (i j : Int) (t u : Tok) (s : Shared) (Q : Value → Shared → Prop) (E : Value → Shared → Prop), C i j → Q (.int (g i j) s.toks) { s with toks := s.toks + 1 } → wpAny (model X.prog X.w) X.A (f (.int i t) (.int j u)) Q E s) :
    OpR X f (rI C fun i j => .int (g i j)) := by
  intro pins s σ H x y v u Q I rx ry h
  obtain ⟨i, j, rfl, rfl, hc, q⟩ := h
  obtain ⟨t, rfl⟩ := rx
  obtain ⟨t', rfl⟩ := ry
  exact rule i j t t' s _ _ hc ⟨.int (g i j), H, I.tok _, ⟨_, rfl⟩, q⟩
theorem opI0 {f : Value → Value → Sem Value} {g : Int → Int → Int}
    (rule : ∀ (i j : Int) (t u : Tok) (s : Shared) (Q : Value → Shared → Prop) (E : Value → Shared → Prop), Q (.int (g i j) s.toks) { s with toks := s.toks + 1 } → wpAny (model X.prog X.w) X.A (f (.int i t) (.int j u)) Q E s) :
    OpR X f (rI0 fun i j => .int (g i j)) := by
  intro pins s σ H x y v u Q I rx ry h
  obtain ⟨i, j, rfl, rfl, q⟩ := h
  obtain ⟨t, rfl⟩ := rx
  obtain ⟨t', rfl⟩ := ry
  exact rule i j t t' s _ _ ⟨.int (g i j), H, I.tok _, ⟨_, rfl⟩, q⟩
theorem opB0 {f : Value → Value → Sem Value} {g : Int → Int → Bool}
    (rule : ∀ (i j : Int) (t u : Tok) (s : Shared) (Q : Value → Shared → Prop) (E : Value → Shared → Prop), Q (.bool (g i j)) s → wpAny (model X.prog X.w) X.A (f (.int i t) (.int j u)) Q E s) :
    OpR X f (rI0 fun i j => .bl (g i j)) := by
  intro pins s σ H x y v u Q I rx ry h
  obtain ⟨i, j, rfl, rfl, q⟩ := h
  obtain ⟨t, rfl⟩ := rx
  obtain ⟨t', rfl⟩ := ry
  exact rule i j t t' s _ _ ⟨.bl (g i j), H, I, rfl, q⟩

def CDiv (i j : Int) : Prop := 0 < j ∧ j < 1073741824
def CDivN (i j : Int) : Prop := j ≠ 0 ∧ j.natAbs < 1073741824
def CPow (i j : Int) : Prop := 0 ≤ j ∧ j ≤ 1000000 ∧ i.natAbs < 2 ^ 64
def CMul (i j : Int) : Prop := (-(2 ^ 64) < i ∧ i < 2 ^ 64) ∨ (-(2 ^ 64) < j ∧ j < 2 ^ 64)
theorem CMul.ok {i j : Int} (h : CMul i j) : IntMulOk i j := by
  rcases h with ⟨h1, h2⟩ | ⟨h1, h2⟩
  · exact .of_left (intBits_le_64 h1 h2)
  · exact .of_right (intBits_le_64 h1 h2)
theorem two_pow_nn (k : Nat) : (0 : Int) ≤ 2 ^ k := by
  rw [two_pow_cast]
  exact Int.natCast_nonneg _

theorem op_add : OpR X (binaryOp .Add) (rI0 fun i j => .int (i + j)) := opI0 fun _ _ _ _ _ _ _ q => add_int q
theorem op_sub : OpR X (binaryOp .Sub) (rI0 fun i j => .int (i - j)) := opI0 fun _ _ _ _ _ _ _ q => sub_int q
theorem op_mul : OpR X (binaryOp .Mult) (rI CMul fun i j => .int (i * j)) := opI fun _ _ _ _ _ _ _ hc q => mul_int q hc.ok
/-- // by a positive divisor -/
theorem op_fdiv : OpR X (binaryOp .FloorDiv) (rI CDiv fun i j => .int (i / j)) := opI fun i j _ _ _ _ _ hc q => by
  have h1 : (0 : Int) < j := hc.1
  have h2 : j < 1073741824 := hc.2
  exact floordiv_int (by omega) (by rw [Int.fdiv_eq_ediv_of_nonneg i (by omega)]; exact q) (.inl (PyProof.noPylong_small (by omega)))
theorem op_fdivN : OpR X (binaryOp .FloorDiv) (rI CDivN fun i j => .int (i.fdiv j)) := opI fun _ _ _ _ _ _ _ hc q => floordiv_int hc.1 q (.inl (PyProof.noPylong_small hc.2))
/-- % by a positive divisor of any size -/
theorem op_mod : OpR X (binaryOp .Mod) (rI (fun _ j => 0 < j) fun i j => .int (i % j)) := opI fun i j _ _ _ _ _ hc q => by
  have h1 : (0 : Int) < j := hc
  exact mod_int' (by omega) (by rw [Int.fmod_eq_emod_of_nonneg i (by omega)]; exact q)
theorem op_modN : OpR X (binaryOp .Mod) (rI (fun _ j => j ≠ 0) fun i j => .int (i.fmod j)) := opI fun _ _ _ _ _ _ _ hc q => mod_int' hc q
theorem op_pow : OpR X (binaryOp .Pow) (rI CPow fun i j => .int (i ^ j.toNat)) := opI fun _ _ _ _ _ _ _ hc q => pow_int_small hc.1 hc.2.1 hc.2.2 q
theorem op_shl : OpR X (binaryOp .LShift) (rI CPow fun i j => .int (i * 2 ^ j.toNat)) := opI fun _ _ _ _ _ _ _ hc q => lshift_int_small hc.1 hc.2.1 hc.2.2 q
theorem op_shr : OpR X (binaryOp .RShift) (rI (fun _ j => 0 ≤ j) fun i j => .int (i / 2 ^ j.toNat)) := opI fun i j _ _ _ _ _ hc q =>
  rshift_int hc (by rw [Int.fdiv_eq_ediv_of_nonneg i (two_pow_nn _)]; exact q)
theorem op_and : OpR X (binaryOp .BitAnd) (rI0 fun i j => .int (Builtin.bitAnd i j)) := opI0 fun _ _ _ _ _ _ _ q => and_int q
theorem op_or : OpR X (binaryOp .BitOr) (rI0 fun i j => .int (Builtin.bitOr i j)) := opI0 fun _ _ _ _ _ _ _ q => or_int q
theorem op_xor : OpR X (binaryOp .BitXor) (rI0 fun i j => .int (Builtin.bitXor i j)) := opI0 fun _ _ _ _ _ _ _ q => xor_int q

theorem iop_add : OpR X (inplaceOp .Add) (rI0 fun i j => .int (i + j)) := opI0 fun _ _ _ _ _ _ _ q => iadd_int q
theorem iop_sub : OpR X (inplaceOp .Sub) (rI0 fun i j => .int (i - j)) := opI0 fun _ _ _ _ _ _ _ q => isub_int q
theorem iop_mul : OpR X (inplaceOp .Mult) (rI CMul fun i j => .int (i * j)) := opI fun _ _ _ _ _ _ _ hc q => imul_int q hc.ok
theorem iop_fdiv : OpR X (inplaceOp .FloorDiv) (rI CDiv fun i j => .int (i / j)) := opI fun i j _ _ _ _ _ hc q => by
  have h1 : (0 : Int) < j := hc.1
  have h2 : j < 1073741824 := hc.2
  exact ifloordiv_int (by omega) (by rw [Int.fdiv_eq_ediv_of_nonneg i (by omega)]; exact q) (.inl (PyProof.noPylong_small (by omega)))
theorem iop_mod : OpR X (inplaceOp .Mod) (rI (fun _ j => 0 < j) fun i j => .int (i % j)) := opI fun i j _ _ _ _ _ hc q => by
  have h1 : (0 : Int) < j := hc
  exact imod_int (by omega) (by rw [Int.fmod_eq_emod_of_nonneg i (by omega)]; exact q)
theorem iop_shl : OpR X (inplaceOp .LShift) (rI CPow fun i j => .int (i * 2 ^ j.toNat)) := opI fun _ _ _ _ _ _ _ hc q => ilshift_int_small hc.1 hc.2.1 hc.2.2 q
theorem iop_shr : OpR X (inplaceOp .RShift) (rI (fun _ j => 0 ≤ j) fun i j => .int (i / 2 ^ j.toNat)) := opI fun i j _ _ _ _ _ hc q =>
  irshift_int hc (by rw [Int.fdiv_eq_ediv_of_nonneg i (two_pow_nn _)]; exact q)
theorem iop_and : OpR X (inplaceOp .BitAnd) (rI0 fun i j => .int (Builtin.bitAnd i j)) := opI0 fun _ _ _ _ _ _ _ q => iand_int q
theorem iop_or : OpR X (inplaceOp .BitOr) (rI0 fun i j => .int (Builtin.bitOr i j)) := opI0 fun _ _ _ _ _ _ _ q => ior_int q
theorem iop_xor : OpR X (inplaceOp .BitXor) (rI0 fun i j => .int (Builtin.bitXor i j)) := opI0 fun _ _ _ _ _ _ _ q => ixor_int q

theorem unI {f : Value → Sem Value} {g : Int → Int}
    (rule : ∀ (i : Int) (t : Tok) (s : Shared) (Q : Value → Shared → Prop) (E : Value → Shared → Prop), Q (.int (g i) s.toks) { s with toks := s.toks + 1 } → wpAny (model X.prog X.w) X.A (f (.int i t)) Q E s) :
    UnR X f (rU fun i => .int (g i)) := by
  intro pins s σ H x v Q I rx h
  obtain ⟨i, rfl, q⟩ := h
  obtain ⟨t, rfl⟩ := rx
  exact rule i t s _ _ ⟨.int (g i), H, I.tok _, ⟨_, rfl⟩, q⟩
theorem un_neg : UnR X (unaryOp .USub) (rU fun i => .int (-i)) := unI fun _ _ _ _ _ q => neg_int q
theorem un_inv : UnR X (unaryOp .Invert) (rU fun i => .int (Builtin.bitNot i)) := unI fun _ _ _ _ _ q => invert_int q

/-! ### bools among ints: n += (a < b) -/
theorem op_add_ib : OpR X (binaryOp .Add) (fun x y H Q => ∃ i k, x = .int i ∧ y = .bl k ∧ Q (.int (i + b2i k)) H) := by
  intro pins s σ H x y v u Q I rx ry h
  obtain ⟨i, k, rfl, rfl, q⟩ := h
  obtain ⟨t, rfl⟩ := rx
  cases ry
  exact add_int_bool ⟨.int (i + b2i k), H, I.tok _, ⟨_, rfl⟩, q⟩
end

/-! ### comparisons -/
/-- the scalars that == tells apart as data does -/
def scal : V → V → Bool
  | .non, .non => true | .non, .int _ => true | .int _, .non => true | .non, .bl _ => true | .bl _, .non => true | .non, .str _ => true | .str _, .non => true
  | .int _, .int _ => true | .bl _, .bl _ => true | .str _, .str _ => true | .byt _, .byt _ => true
  | .int _, .str _ => true | .str _, .int _ => true | .bl _, .str _ => true | .str _, .bl _ => true
  | _, _ => false
def rEq : R2 := fun x y H Q => scal x y = true ∧ Q (.bl (decide (x = y))) H
def rNe : R2 := fun x y H Q => scal x y = true ∧ Q (.bl (!decide (x = y))) H

theorem dec_int {i j : Int} : decide (V.int i = V.int j) = (i == j) := by
  rw [Bool.eq_iff_iff]
  simp
theorem dec_bl {i j : Bool} : decide (V.bl i = V.bl j) = (i == j) := by
  rw [Bool.eq_iff_iff]
  simp
theorem dec_str {i j : Str} : decide (V.str i = V.str j) = (i == j) := by
  rw [Bool.eq_iff_iff]
  simp
theorem dec_byt {i j : Array UInt8} : decide (V.byt i = V.byt j) = (i.toList == j.toList) := by
  rw [Bool.eq_iff_iff]
  cases i
  cases j
  simp

section
variable {X : Cx} {a b c : Expr} {ta tb tc : TE} {pos : Pos}
theorem fin_bl {pins : List (Addr × Obj)} {σ : St} {H : Hp} {s : Shared} {Q : VK} {k k' : Bool} (I : Inv X pins σ H s) (q : Q (.bl k) H) (e : k = k') : EP X pins σ Q (.bool k') s := by
  subst e
  exact ⟨.bl k, H, I, rfl, q⟩
theorem op_eq : OpR X (compareOp .Eq) rEq := by
  intro pins s σ H x y v u Q I rx ry h
  obtain ⟨hs, q⟩ := h
  cases x with
  | non =>
    cases rx
    cases y with
    | non => cases ry; exact PySem.EqNone.eq_none_none (fin_bl I q (by simp))
    | bl j => cases ry; exact PySem.EqNone.eq_none_bool (fin_bl I q (by simp))
    | int j => obtain ⟨t', rfl⟩ := ry; exact PySem.EqNone.eq_none_int (fin_bl I q (by simp))
    | str j => obtain ⟨t', rfl⟩ := ry; exact PySem.EqNone.eq_none_str (fin_bl I q (by simp))
    | _ => exact absurd (show false = true from hs) Bool.false_ne_true
  | bl i =>
    cases rx
    cases y with
    | non => cases ry; exact PySem.EqNone.eq_bool_none (fin_bl I q (by simp))
    | bl j => cases ry; exact eq_bool (fin_bl I q dec_bl)
    | str j => obtain ⟨t', rfl⟩ := ry; exact PySem.EqMixed.eq_bool_str (fin_bl I q (by simp))
    | _ => exact absurd (show false = true from hs) Bool.false_ne_true
  | int i =>
    obtain ⟨t, rfl⟩ := rx
    cases y with
    | non => cases ry; exact PySem.EqNone.eq_int_none (fin_bl I q (by simp))
    | int j => obtain ⟨t', rfl⟩ := ry; exact eq_int (fin_bl I q dec_int)
    | str j => obtain ⟨t', rfl⟩ := ry; exact PySem.EqMixed.eq_int_str (fin_bl I q (by simp))
    | _ => exact absurd (show false = true from hs) Bool.false_ne_true
  | str i =>
    obtain ⟨t, rfl⟩ := rx
    cases y with
    | non => cases ry; exact PySem.EqNone.eq_str_none (fin_bl I q (by simp))
    | bl j => cases ry; exact PySem.EqMixed.eq_str_bool (fin_bl I q (by simp))
    | int j => obtain ⟨t', rfl⟩ := ry; exact PySem.EqMixed.eq_str_int (fin_bl I q (by simp))
    | str j => obtain ⟨t', rfl⟩ := ry; exact eq_str (fin_bl I q dec_str)
    | _ => exact absurd (show false = true from hs) Bool.false_ne_true
  | byt i =>
    obtain ⟨t, rfl⟩ := rx
    cases y with
    | byt j => obtain ⟨t', rfl⟩ := ry; exact PySem.W.eq_bytes (fin_bl I q dec_byt)
    | _ => exact absurd (show false = true from hs) Bool.false_ne_true
  | _ => cases y <;> exact absurd (show false = true from hs) Bool.false_ne_true
theorem op_ne : OpR X (compareOp .NotEq) rNe := by
  intro pins s σ H x y v u Q I rx ry h
  obtain ⟨hs, q⟩ := h
  cases x with
  | non =>
    cases rx
    cases y with
    | non => cases ry; exact PySem.EqNone.ne_none_none (fin_bl I q (by simp))
    | bl j => cases ry; exact PySem.EqNone.ne_none_bool (fin_bl I q (by simp))
    | int j => obtain ⟨t', rfl⟩ := ry; exact PySem.EqNone.ne_none_int (fin_bl I q (by simp))
    | str j => obtain ⟨t', rfl⟩ := ry; exact PySem.EqNone.ne_none_str (fin_bl I q (by simp))
    | _ => exact absurd (show false = true from hs) Bool.false_ne_true
  | bl i =>
    cases rx
    cases y with
    | non => cases ry; exact PySem.EqNone.ne_bool_none (fin_bl I q (by simp))
    | bl j => cases ry; exact ne_bool (fin_bl I q (congrArg not dec_bl))
    | str j => obtain ⟨t', rfl⟩ := ry; exact PySem.EqMixed.ne_bool_str (fin_bl I q (by simp))
    | _ => exact absurd (show false = true from hs) Bool.false_ne_true
  | int i =>
    obtain ⟨t, rfl⟩ := rx
    cases y with
    | non => cases ry; exact PySem.EqNone.ne_int_none (fin_bl I q (by simp))
    | int j => obtain ⟨t', rfl⟩ := ry; exact ne_int (fin_bl I q (congrArg not dec_int))
    | str j => obtain ⟨t', rfl⟩ := ry; exact PySem.EqMixed.ne_int_str (fin_bl I q (by simp))
    | _ => exact absurd (show false = true from hs) Bool.false_ne_true
  | str i =>
    obtain ⟨t, rfl⟩ := rx
    cases y with
    | non => cases ry; exact PySem.EqNone.ne_str_none (fin_bl I q (by simp))
    | bl j => cases ry; exact PySem.EqMixed.ne_str_bool (fin_bl I q (by simp))
    | int j => obtain ⟨t', rfl⟩ := ry; exact PySem.EqMixed.ne_str_int (fin_bl I q (by simp))
    | str j => obtain ⟨t', rfl⟩ := ry; exact ne_str (fin_bl I q (congrArg not dec_str))
    | _ => exact absurd (show false = true from hs) Bool.false_ne_true
  | byt i =>
    obtain ⟨t, rfl⟩ := rx
    cases y with
    | byt j => obtain ⟨t', rfl⟩ := ry; exact PySem.W.ne_bytes (fin_bl I q (congrArg not dec_byt))
    | _ => exact absurd (show false = true from hs) Bool.false_ne_true
  | _ => cases y <;> exact absurd (show false = true from hs) Bool.false_ne_true

theorem op_lt : OpR X (compareOp .Lt) (rI0 fun i j => .bl (decide (i < j))) := opB0 fun _ _ _ _ _ _ _ q => lt_int q
theorem op_le : OpR X (compareOp .LtE) (rI0 fun i j => .bl (decide (i ≤ j))) := opB0 fun _ _ _ _ _ _ _ q => le_int q
theorem op_gt : OpR X (compareOp .Gt) (rI0 fun i j => .bl (decide (j < i))) := opB0 fun _ _ _ _ _ _ _ q => gt_int q
theorem op_ge : OpR X (compareOp .GtE) (rI0 fun i j => .bl (decide (j ≤ i))) := opB0 fun _ _ _ _ _ _ _ q => ge_int q
theorem op_lt_str : OpR X (compareOp .Lt) (fun x y H Q => ∃ i j, x = .str i ∧ y = .str j ∧ Q (.bl (decide (i.cps.toList < j.cps.toList))) H) := by
  intro pins s σ H x y v u Q I rx ry h
  obtain ⟨i, j, rfl, rfl, q⟩ := h
  obtain ⟨t, rfl⟩ := rx
  obtain ⟨t', rfl⟩ := ry
  exact lt_str (fin_bl I q rfl)
/-- the one string within the other -/
theorem op_in_str : OpR X (compareOp .In) (fun x y H Q => ∃ i j, x = .str i ∧ y = .str j ∧ Q (.bl (!(Builtin.Str.occurrences j i 0 j.length 1).isEmpty)) H) := by
  intro pins s σ H x y v u Q I rx ry h
  obtain ⟨i, j, rfl, rfl, q⟩ := h
  obtain ⟨t, rfl⟩ := rx
  obtain ⟨t', rfl⟩ := ry
  exact in_str (fin_bl I q rfl)

/-- is None, is not None: the right side a value none -/
theorem op_isN : OpR X (compareOp .Is) (fun x y H Q => y = .non ∧ Q (.bl (decide (x = .non))) H) := by
  intro pins s σ H x y v u Q I rx ry h
  obtain ⟨rfl, q⟩ := h
  cases ry
  refine is_none_gen (fin_bl I q ?_)
  cases x <;> first
    | (cases rx; rfl)
    | (obtain ⟨t, rfl⟩ := rx; rfl)
theorem op_notN : OpR X (compareOp .IsNot) (fun x y H Q => y = .non ∧ Q (.bl (!decide (x = .non))) H) := by
  intro pins s σ H x y v u Q I rx ry h
  obtain ⟨rfl, q⟩ := h
  cases ry
  refine isnot_none_gen (fin_bl I q ?_)
  cases x <;> first
    | (cases rx; rfl)
    | (obtain ⟨t, rfl⟩ := rx; rfl)

theorem op_notin_str : OpR X (compareOp .NotIn) (fun x y H Q => ∃ i j, x = .str i ∧ y = .str j ∧ Q (.bl (!(!(Builtin.Str.occurrences j i 0 j.length 1).isEmpty))) H) := by
  intro pins s σ H x y v u Q I rx ry h
  obtain ⟨i, j, rfl, rfl, q⟩ := h
  obtain ⟨t, rfl⟩ := rx
  obtain ⟨t', rfl⟩ := ry
  exact notIn_str (fin_bl I q rfl)
/-- is, is not of two objects that are tracked lists or instances -/
def isObj : HO → Bool
  | .lst _ => true
  | .ins _ _ _ => true
  | _ => false
theorem obj_there {pins : List (Addr × Obj)} {s : Shared} {σ : St} {H : Hp} {a : Addr} {o : HO} (I : Inv X pins σ H s) (h : H a = some o) (p : isObj o = true) : ∃ ob, s.heap.get? a = some ob ∧ ob.cls ≠ .type "tuple" := by
  cases o with
  | lst xs =>
    obtain ⟨_, its, n, _, e⟩ : xs.length ≤ sizeLine ∧ ∃ (its : List Value) (n : Nat), Vals xs its ∧ s.heap.get? a = some { cls := .type "list", data := .seq its.toArray n } := I.hok a _ h
    exact ⟨_, e, (by show Value.type "list" ≠ .type "tuple"; decide +kernel)⟩
  | ins C dx fs =>
    have x := I.hok a _ h
    obtain ⟨_, _, _, e, _⟩ := x
    exact ⟨_, e, (by show Value.ref C ≠ .type "tuple"; exact fun z => by cases z)⟩
  | _ => exact absurd (show false = true from p) Bool.false_ne_true
theorem op_is_ref : OpR X (compareOp .Is) (fun x y H Q => ∃ a b oa ob, x = .ref a ∧ y = .ref b ∧ H a = some oa ∧ isObj oa = true ∧ H b = some ob ∧ isObj ob = true ∧ Q (.bl (decide (a = b))) H) := by
  intro pins s σ H x y v u Q I rx ry h
  obtain ⟨a, b, oa, ob, rfl, rfl, ha, pa, hb, pb, q⟩ := h
  cases rx
  cases ry
  obtain ⟨o1, e1, n1⟩ := obj_there I ha pa
  obtain ⟨o2, e2, _⟩ := obj_there I hb pb
  by_cases z : a = b
  · subst z
    exact wpAny_is_ref_self (fin_bl I q (by simp))
  · exact wpAny_is_ref_other z e1 e2 n1 (fin_bl I q (by simp [z]))
theorem op_isnot_ref : OpR X (compareOp .IsNot) (fun x y H Q => ∃ a b oa ob, x = .ref a ∧ y = .ref b ∧ H a = some oa ∧ isObj oa = true ∧ H b = some ob ∧ isObj ob = true ∧ Q (.bl (!decide (a = b))) H) := by
  intro pins s σ H x y v u Q I rx ry h
  obtain ⟨a, b, oa, ob, rfl, rfl, ha, pa, hb, pb, q⟩ := h
  cases rx
  cases ry
  obtain ⟨o1, e1, n1⟩ := obj_there I ha pa
  obtain ⟨o2, e2, _⟩ := obj_there I hb pb
  by_cases z : a = b
  · subst z
    exact wpAny_isNot_ref_self (fin_bl I q (by simp))
  · exact wpAny_isNot_ref_other z e1 e2 n1 (fin_bl I q (by simp [z]))

/-- two rules for one operation: by cases -/
theorem OpR.or {f : Value → Value → Sem Value} {r r' : R2} (h : OpR X f r) (h' : OpR X f r') : OpR X f (fun x y H Q => r x y H Q ∨ r' x y H Q) := by
  intro pins s σ H x y v u Q I rx ry q
  rcases q with q | q
  · exact h pins s σ H x y v u Q I rx ry q
  · exact h' pins s σ H x y v u Q I rx ry q

theorem nomark (b : Expr) {op : CmpOp} (h : op ≠ .In := by decide) (h2 : op ≠ .NotIn := by decide) : behindInMarks op b = false := by
  have e1 : (op == CmpOp.In) = false := by cases op <;> first | rfl | exact absurd rfl h
  have e2 : (op == CmpOp.NotIn) = false := by cases op <;> first | rfl | exact absurd rfl h2
  cases b <;> simp [behindInMarks, e1, e2]
/-- a comparison as a value; hm: nomark b, or (for in, not in) by with_unfolding_all rfl -/
theorem pe_cmpR {op : CmpOp} {r : R2} (ho : OpR X (compareOp op) r) (ha : PE X a ta) (hb : PE X b tb) (hm : behindInMarks op b = false) : PE X (.Compare a [op] [b] pos) (tOp r ta tb) := by
  intro pins s σ H Q I h
  exact wpAny_Compare1 (binT ha hb I h fun v u s2 x y H2 I2 rx ry q => ho pins s2 σ H2 x y v u Q I2 rx ry q) hm
/-- a reading of a value as a test -/
def tTest (t : TE) : TT := fun σ H Q => t σ H fun x H' => ∃ k, x = .bl k ∧ Q k H'
theorem pt_cmpR {op : CmpOp} {r : R2} (ho : OpR X (compareOp op) r) (ha : PE X a ta) (hb : PE X b tb) (hm : behindInMarks op b = false) : PT X (.Compare a [op] [b] pos) (tTest (tOp r ta tb)) := by
  intro pins s σ H Q I h
  refine wpAny_isTrue_Compare1 (thn (ha pins s σ H _ I h) fun v s1 ⟨x, H1, I1, r1, q1⟩ => thn (hb pins s1 σ H1 _ I1 q1) fun u s2 ⟨y, H2, I2, r2, q2⟩ =>
    thn (ho pins s2 σ H2 x y v u _ I2 r1 r2 q2) fun c s3 ⟨z, H3, I3, r3, k, e, q3⟩ => ?_) hm
  subst e
  cases r3
  exact wpAny_truthy_bool ⟨H3, I3, q3⟩
/-- a op1 b op2 c -/
def tChain (r r' : R2) (ta tb tc : TE) : TE := fun σ H Q => ta σ H fun x H1 => tb σ H1 fun y H2 => r x y H2 fun z H3 => ∃ k, z = .bl k ∧
  (if k = true then tc σ H3 fun w' H4 => r' y w' H4 Q else Q (.bl false) H3)
theorem pe_chain {op op' : CmpOp} {r r' : R2} (ho : OpR X (compareOp op) r) (ho' : OpR X (compareOp op') r') (ha : PE X a ta) (hb : PE X b tb) (hc : PE X c tc)
    (hm : lastMarks [op, op'] [b, c] = false := by with_unfolding_all rfl) : PE X (.Compare a [op, op'] [b, c] pos) (tChain r r' ta tb tc) := by
  intro pins s σ H Q I h
  refine Compare_chain (thn (ha pins s σ H _ I h) fun v s1 ⟨x, H1, I1, r1, q1⟩ => chain_link (thn (hb pins s1 σ H1 _ I1 q1) fun u s2 ⟨y, H2, I2, r2, q2⟩ =>
    thn (ho pins s2 σ H2 x y v u _ I2 r1 r2 q2) fun d s3 ⟨z, H3, I3, r3, k, e, q3⟩ => ?_)) hm
  subst e
  cases r3
  refine wpAny_truthy_bool ?_
  cases k with
  | false => exact ite_ff ⟨.bl false, H3, I3, rfl, q3⟩
  | true => exact ite_tt (chain_last (thn (hc pins s3 σ H3 _ I3 q3) fun w' s4 ⟨z', H4, I4, r4, q4⟩ => ho' pins s4 σ H4 y z' u w' Q I4 r2 r4 q4))
theorem pt_chain {op op' : CmpOp} {r r' : R2} (ho : OpR X (compareOp op) r) (ho' : OpR X (compareOp op') r') (ha : PE X a ta) (hb : PE X b tb) (hc : PE X c tc)
    (hm : lastMarks [op, op'] [b, c] = false := by with_unfolding_all rfl) : PT X (.Compare a [op, op'] [b, c] pos) (tTest (tChain r r' ta tb tc)) := by
  intro pins s σ H Q I h
  refine isTrue_chain (thn (ha pins s σ H _ I h) fun v s1 ⟨x, H1, I1, r1, q1⟩ => test_link (thn (hb pins s1 σ H1 _ I1 q1) fun u s2 ⟨y, H2, I2, r2, q2⟩ =>
    thn (ho pins s2 σ H2 x y v u _ I2 r1 r2 q2) fun d s3 ⟨z, H3, I3, r3, k, e, q3⟩ => ?_)) hm
  subst e
  cases r3
  refine wpAny_truthy_bool ?_
  cases k with
  | false =>
    obtain ⟨k', e', q'⟩ := q3
    cases e'
    exact ite_ff ⟨H3, I3, q'⟩
  | true =>
    refine ite_tt (test_last (thn (hc pins s3 σ H3 _ I3 q3) fun w' s4 ⟨z', H4, I4, r4, q4⟩ => thn (ho' pins s4 σ H4 y z' u w' _ I4 r2 r4 q4) fun d' s5 ⟨z2, H5, I5, r5, k2, e2, q5⟩ => ?_))
    subst e2
    cases r5
    exact wpAny_truthy_bool ⟨H5, I5, q5⟩

/-! ### truth -/
/-- a value's truth by the abstract heap -/
def TruV (K : PySem.W.Frag) (x : V) (H : Hp) (k : Bool) : Prop :=
  match x with
  | .non => k = false
  | .bl b => k = b
  | .int i => k = (i != 0)
  | .str y => y.length ≤ sizeLine ∧ k = ((y.length : Int) != 0)
  | .byt y => y.size ≤ sizeLine ∧ k = ((y.size : Int) != 0)
  | .ref p => (∃ xs, SqL K H p xs ∧ k = !xs.isEmpty) ∨ (∃ xs, SqT K H p xs ∧ k = !xs.isEmpty) ∨ ∃ kvs, H p = some (.dK kvs) ∧ k = !kvs.isEmpty
  | _ => False
theorem isEmpty_kv {κ : Type} {kvs : List (κ × V)} {vs : List (κ × Value)} (r : KV kvs vs) : (!vs.isEmpty) = !kvs.isEmpty := by
  cases r <;> rfl
theorem isEmpty_of {xs : List V} {its : List Value} (r : Vals xs its) : (!its.toArray.isEmpty) = !xs.isEmpty := by
  cases r <;> simp
theorem line63 : (sizeLine : Nat) < 2 ^ 63 := by rw [sizeLine_eq]; decide
theorem tru_ok : TruR X (fun x H Q => ∃ k, TruV X.K x H k ∧ Q k H) := by
  intro pins s σ H x v Q I rx h
  obtain ⟨k, e, q⟩ := h
  have hl := line63
  have hs : sizeLine = 16777216 := sizeLine_eq
  cases x with
  | non =>
    cases rx
    have e' : k = false := e
    subst e'
    exact truthy_none ⟨H, I, q⟩
  | bl b =>
    cases rx
    have e' : k = b := e
    subst e'
    exact wpAny_truthy_bool ⟨H, I, q⟩
  | int i =>
    obtain ⟨t, rfl⟩ := rx
    have e' : k = (i != 0) := e
    subst e'
    exact PySem.P.truthy_int ⟨H, I, q⟩
  | str y =>
    obtain ⟨t, rfl⟩ := rx
    obtain ⟨hy, e'⟩ : y.length ≤ sizeLine ∧ k = ((y.length : Int) != 0) := e
    subst e'
    exact PySem.P.truthy_str (by omega) ⟨H, I.tok _, q⟩
  | byt y =>
    obtain ⟨t, rfl⟩ := rx
    obtain ⟨hy, e'⟩ : y.size ≤ sizeLine ∧ k = ((y.size : Int) != 0) := e
    subst e'
    exact PySem.W.truthy_bytes (by omega) ⟨H, I.tok _, q⟩
  | ref p =>
    cases rx
    have e' : (∃ xs, SqL X.K H p xs ∧ k = !xs.isEmpty) ∨ (∃ xs, SqT X.K H p xs ∧ k = !xs.isEmpty) ∨ ∃ kvs, H p = some (.dK kvs) ∧ k = !kvs.isEmpty := e
    rcases e' with ⟨xs, hx, e'⟩ | ⟨xs, hx, e'⟩ | ⟨kvs, hx, e'⟩
    · subst e'
      obtain ⟨its, r, pl, hz⟩ := I.list hx
      have hlen := r.length
      exact wpAny_truthy_list pl.isList (by simp only [List.size_toArray]; omega) ⟨H, I.tok _, by rw [isEmpty_of r]; exact q⟩
    · subst e'
      obtain ⟨its, r, pl, hz⟩ := I.tuple hx
      have hlen := r.length
      exact truthy_tuple pl (by simp only [List.size_toArray]; omega) ⟨H, I.tok _, by rw [isEmpty_of r]; exact q⟩
    · subst e'
      obtain ⟨hz, hS, vs, r, m⟩ : kvs.length ≤ sizeLine ∧ (p == sysModules) = false ∧ ∃ vs, KV kvs vs ∧ s.heap.DictOf (mixKind X.prog X.w) p vs := I.hok p _ hx
      have hlen : kvs.length = vs.length := Paired.length r
      exact wpAny_truthy_dict hS m (by omega) ⟨H, I.tok _, by rw [isEmpty_kv r]; exact q⟩
  | _ => exact (show False from e).elim
/-- any expression whose test is its value's truth (a name, a call, a subscript, a field ..: he by fun _ => rfl) -/
theorem pt_truth (ha : PE X a ta) (he : ∀ whole, isTrue a X.env whole = (do let v ← whole; standAt a.pos; holding [v] (truthy v))) :
    PT X a (fun σ H Q => ta σ H fun x H' => ∃ k, TruV X.K x H' k ∧ Q k H') := by
  intro pins s σ H Q I h
  exact isTrue_plain (thn (ha pins s σ H _ I h) fun v s1 ⟨x, H1, I1, r1, q1⟩ => tru_ok pins s1 σ H1 x v Q I1 r1 q1) (he _)

/-! ### strs and bytes -/
theorem pe_byt {x : List UInt8} {k : Nat} : PE X (.Constant (.bytes x) k pos) (fun _ H Q => Q (.byt x.toArray) H) := fun _ _ _ H _ I h => PySem.W.Constant_bytes ⟨.byt x.toArray, H, I.tok _, ⟨_, rfl⟩, h⟩
theorem op_add_str : OpR X (binaryOp .Add) (fun x y H Q => ∃ i j, x = .str i ∧ y = .str j ∧ i.length + j.length ≤ sizeLine ∧ Q (.str (i ++ j)) H) := by
  intro pins s σ H x y v u Q I rx ry h
  obtain ⟨i, j, rfl, rfl, hz, q⟩ := h
  obtain ⟨t, rfl⟩ := rx
  obtain ⟨t', rfl⟩ := ry
  exact add_str (fun t' tk => ⟨.str (i ++ j), H, I.tok _, ⟨_, rfl⟩, q⟩) hz
theorem iop_add_str : OpR X (inplaceOp .Add) (fun x y H Q => ∃ i j, x = .str i ∧ y = .str j ∧ i.length + j.length ≤ sizeLine ∧ Q (.str (i ++ j)) H) := by
  intro pins s σ H x y v u Q I rx ry h
  obtain ⟨i, j, rfl, rfl, hz, q⟩ := h
  obtain ⟨t, rfl⟩ := rx
  obtain ⟨t', rfl⟩ := ry
  exact iadd_str (fun t' tk => ⟨.str (i ++ j), H, I.tok _, ⟨_, rfl⟩, q⟩) hz
theorem op_add_byt : OpR X (binaryOp .Add) (fun x y H Q => ∃ i j, x = .byt i ∧ y = .byt j ∧ i.size + j.size ≤ 16777216 ∧ Q (.byt (i ++ j)) H) := by
  intro pins s σ H x y v u Q I rx ry h
  obtain ⟨i, j, rfl, rfl, hz, q⟩ := h
  obtain ⟨t, rfl⟩ := rx
  obtain ⟨t', rfl⟩ := ry
  exact PySem.W.KBy.add_bytes hz (fun t' tk => ⟨.byt (i ++ j), H, I.tok _, ⟨_, rfl⟩, q⟩)

def PlainIxT (b : Expr) : Prop := ∀ o i, subscripted b false o i = operate [o, i] (getItem o i)
/-- s[i], 0 ≤ i < len -/
theorem pe_item_str (ha : PE X a ta) (hb : PE X b tb) (hs : PlainIxT b) :
    PE X (.Subscript a b pos) (tOp (fun x y H Q => ∃ z i c, x = .str z ∧ y = .int i ∧ 0 ≤ i ∧ i < 2 ^ 63 ∧ i < z.length ∧ z.cps[i.toNat]? = some c ∧ Q (.str ⟨#[c]⟩) H) ta tb) := by
  intro pins s σ H Q I h
  refine Subscript_ (binT ha hb I h fun v u s2 x y H2 I2 rx ry q => ?_)
  obtain ⟨z, i, c, rfl, rfl, h0, h63, h1, hc, q⟩ := q
  obtain ⟨t, rfl⟩ := rx
  obtain ⟨t', rfl⟩ := ry
  have e : seqIndex? i z.length = some i.toNat := PySem.StrLaws.seqIndex_nonneg h0 h1
  exact tail_any (typeIs_str s2 z t) slot_str_getitem.lookup (getItem_str (c := c) (by
    have e1 : decide (i < -(2 ^ 63 : Int)) = false := decide_eq_false (by omega)
    have e2 : decide (i ≥ 2 ^ 63) = false := decide_eq_false (by omega)
    rw [e1, e2] <;> rfl) (by rw [e]; exact hc) ⟨.str ⟨#[c]⟩, H2, I2.tok _, ⟨_, rfl⟩, q⟩) (hs _ _)
/-- b[i], 0 ≤ i < len -/
theorem pe_item_byt (ha : PE X a ta) (hb : PE X b tb) (hs : PlainIxT b) :
    PE X (.Subscript a b pos) (tOp (fun x y H Q => ∃ (z : List UInt8) (i : Int), x = .byt z.toArray ∧ y = .int i ∧ z.length ≤ sizeLine ∧ 0 ≤ i ∧ i < z.length ∧ Q (.int ((z.getD i.toNat 0).toNat : Nat)) H) ta tb) := by
  intro pins s σ H Q I h
  refine Subscript_ (binT ha hb I h fun v u s2 x y H2 I2 rx ry q => ?_)
  obtain ⟨z, i, rfl, rfl, hz, h0, h1, q⟩ := q
  obtain ⟨t, rfl⟩ := rx
  obtain ⟨t', rfl⟩ := ry
  have hl : sizeLine = 16777216 := sizeLine_eq
  exact tail_any (PySem.W.typeIs_bytes s2 z.toArray t) PySem.W.FB.slot_bytes_getitem.lookup (PySem.W.getItem_bytes (by omega) h0 h1 ⟨.int ((z.getD i.toNat 0).toNat : Nat), H2, I2.tok _, ⟨_, rfl⟩, q⟩) (hs _ _)

/-! ### scalar builtins, by CallR -/
theorem vals1 {x : V} {us : List Value} (r : Vals [x] us) : ∃ u, us = [u] ∧ RelV x u := by
  cases r with
  | cons r1 r2 => cases r2; exact ⟨_, rfl, r1⟩
theorem vals2 {x y : V} {us : List Value} (r : Vals [x, y] us) : ∃ u w', us = [u, w'] ∧ RelV x u ∧ RelV y w' := by
  cases r with
  | cons r1 r2 =>
    cases r2 with
    | cons r3 r4 => cases r4; exact ⟨_, _, rfl, r1, r3⟩
theorem call_abs : CallR X (.builtin "abs") (fun xs H Q => ∃ i, xs = [.int i] ∧ Q (.int (if i < 0 then -i else i)) H) := by
  intro pins s σ H xs us Q I r h
  obtain ⟨i, rfl, q⟩ := h
  obtain ⟨u, rfl, t, rfl⟩ := vals1 r
  exact call_abs_int fun u tk => ⟨.int (if i < 0 then -i else i), H, I.tok _, ⟨_, rfl⟩, q⟩
theorem call_max2 (hc : X.calm = true) : CallR X (.builtin "max") (fun xs H Q => ∃ i j, xs = [.int i, .int j] ∧ Q (.int (if j > i then j else i)) H) := by
  intro pins s σ H xs us Q I r h
  obtain ⟨i, j, rfl, q⟩ := h
  obtain ⟨u, w', rfl, ⟨t, rfl⟩, ⟨t', rfl⟩⟩ := vals2 r
  refine max_two_ints (I.ok.hd hc) fun h' tk k => ⟨_, H, I.kept k, ?_, q⟩
  by_cases hj : j > i
  · rw [if_pos hj, if_pos hj]; exact ⟨_, rfl⟩
  · rw [if_neg hj, if_neg hj]; exact ⟨_, rfl⟩
theorem call_min2 (hc : X.calm = true) : CallR X (.builtin "min") (fun xs H Q => ∃ i j, xs = [.int i, .int j] ∧ Q (.int (if j < i then j else i)) H) := by
  intro pins s σ H xs us Q I r h
  obtain ⟨i, j, rfl, q⟩ := h
  obtain ⟨u, w', rfl, ⟨t, rfl⟩, ⟨t', rfl⟩⟩ := vals2 r
  refine min_two_ints (I.ok.hd hc) fun h' tk k => ⟨_, H, I.kept k, ?_, q⟩
  by_cases hj : j < i
  · rw [if_pos hj, if_pos hj]; exact ⟨_, rfl⟩
  · rw [if_neg hj, if_neg hj]; exact ⟨_, rfl⟩
theorem call_int1 : CallR X (.type "int") (fun xs H Q => (∃ i, xs = [.int i] ∧ Q (.int i) H) ∨ ∃ k, xs = [.bl k] ∧ Q (.int (if k then 1 else 0)) H) := by
  intro pins s σ H xs us Q I r h
  rcases h with ⟨i, rfl, q⟩ | ⟨k, rfl, q⟩
  · obtain ⟨u, rfl, t, rfl⟩ := vals1 r
    exact call_int_int ⟨.int i, H, I, ⟨_, rfl⟩, q⟩
  · obtain ⟨u, rfl, r1⟩ := vals1 r
    cases r1
    exact call_int_bool ⟨.int (if k then 1 else 0), H, I.tok _, ⟨_, rfl⟩, q⟩
theorem call_bool1 : CallR X (.type "bool") (fun xs H Q => (∃ i, xs = [.int i] ∧ Q (.bl (i != 0)) H) ∨ ∃ k, xs = [.bl k] ∧ Q (.bl k) H) := by
  intro pins s σ H xs us Q I r h
  rcases h with ⟨i, rfl, q⟩ | ⟨k, rfl, q⟩
  · obtain ⟨u, rfl, t, rfl⟩ := vals1 r
    exact call_bool_int ⟨.bl (i != 0), H, I, rfl, q⟩
  · obtain ⟨u, rfl, r1⟩ := vals1 r
    cases r1
    exact call_bool_bool ⟨.bl k, H, I, rfl, q⟩
theorem call_str_int : CallR X (.type "str") (fun xs H Q => ∃ i, xs = [.int i] ∧ i.natAbs.log2 < 1920 ∧ Q (.str (toString i)) H) := by
  intro pins s σ H xs us Q I r h
  obtain ⟨i, rfl, hz, q⟩ := h
  obtain ⟨u, rfl, t, rfl⟩ := vals1 r
  exact PySem.P.str_of_int hz ⟨.str _, H, I.tok _, ⟨_, rfl⟩, q⟩
theorem call_ord : CallR X (.builtin "ord") (fun xs H Q => ∃ x, xs = [.str x] ∧ x.length = 1 ∧ Q (.int (x.cps.getD 0 0 : Nat)) H) := by
  intro pins s σ H xs us Q I r h
  obtain ⟨x, rfl, hz, q⟩ := h
  obtain ⟨u, rfl, t, rfl⟩ := vals1 r
  exact ord_of_one hz ⟨.int _, H, I.tok _, ⟨_, rfl⟩, q⟩
theorem call_chr : CallR X (.builtin "chr") (fun xs H Q => ∃ i, xs = [.int i] ∧ 0 ≤ i ∧ i ≤ 1114111 ∧ Q (.str ⟨#[i.toNat]⟩) H) := by
  intro pins s σ H xs us Q I r h
  obtain ⟨i, rfl, h0, h1, q⟩ := h
  obtain ⟨u, rfl, t, rfl⟩ := vals1 r
  exact chr_of_range h0 h1 ⟨.str _, H, I.tok _, ⟨_, rfl⟩, q⟩
/-- len of a str, a bytes, a list, a tuple -/
def LenV (K : PySem.W.Frag) (x : V) (H : Hp) (n : Nat) : Prop :=
  match x with
  | .str y => y.length ≤ sizeLine ∧ n = y.length
  | .byt y => y.size ≤ sizeLine ∧ n = y.size
  | .ref p => (∃ xs, SqL K H p xs ∧ n = xs.length) ∨ ∃ xs, SqT K H p xs ∧ n = xs.length
  | _ => False
theorem call_len : CallR X (.builtin "len") (fun xs H Q => ∃ x n, xs = [x] ∧ LenV X.K x H n ∧ Q (.int n) H) := by
  intro pins s σ H xs us Q I r h
  obtain ⟨x, n, rfl, e, q⟩ := h
  obtain ⟨u, rfl, rx⟩ := vals1 r
  have hl := line63
  have hs : sizeLine = 16777216 := sizeLine_eq
  cases x with
  | str y =>
    obtain ⟨t, rfl⟩ := rx
    obtain ⟨hy, e'⟩ : y.length ≤ sizeLine ∧ n = y.length := e
    subst e'
    exact len_str (by omega) ⟨.int _, H, I.tok _, ⟨_, rfl⟩, q⟩
  | byt y =>
    obtain ⟨t, rfl⟩ := rx
    obtain ⟨hy, e'⟩ : y.size ≤ sizeLine ∧ n = y.size := e
    subst e'
    exact PySem.W.len_bytes (by omega) ⟨.int _, H, I.tok _, ⟨_, rfl⟩, q⟩
  | ref p =>
    cases rx
    have e' : (∃ xs, SqL X.K H p xs ∧ n = xs.length) ∨ ∃ xs, SqT X.K H p xs ∧ n = xs.length := e
    rcases e' with ⟨xs, hx, e'⟩ | ⟨xs, hx, e'⟩
    · subst e'
      obtain ⟨its, r', pl, hz⟩ := I.list hx
      have hlen := r'.length
      exact Calls.call_len_list pl.isList (by simp only [List.size_toArray]; omega) ⟨.int xs.length, H, I.tok _, ⟨_, by simp only [List.size_toArray]; rw [hlen]⟩, q⟩
    · subst e'
      obtain ⟨its, r', pl, hz⟩ := I.tuple hx
      have hlen := r'.length
      exact len_tuple pl (by simp only [List.size_toArray]; omega) ⟨.int xs.length, H, I.tok _, ⟨_, by simp only [List.size_toArray]; rw [hlen]⟩, q⟩
  | _ => exact (show False from e).elim
/-- divmod: a new tuple -/
theorem call_divmod : CallR X (.builtin "divmod") (fun xs H Q => ∃ i j, xs = [.int i, .int j] ∧ CDiv i j ∧ ∀ p, H p = none → Q (.ref p) (upd H p (.tup [.int (i / j), .int (i % j)]))) := by
  intro pins s σ H xs us Q I r h
  obtain ⟨i, j, rfl, ⟨h1, h2⟩, q⟩ := h
  obtain ⟨u, w', rfl, ⟨t, rfl⟩, ⟨t', rfl⟩⟩ := vals2 r
  refine divmod_int (by omega) ?_ (.inl (PyProof.noPylong_small (by omega)))
  rw [Int.fdiv_eq_ediv_of_nonneg i (by omega), Int.fmod_eq_emod_of_nonneg i (by omega)]
  have hn : H s.heap.objs.size = none := I.hok.fresh (Nat.le_refl _)
  refine ⟨.ref s.heap.objs.size, _, ?_, rfl, q _ hn⟩
  refine I.laid (fun b o e => Heap.get?_push_of_some _ e) (Nat.le_refl _) ⟨by simp only [List.length_cons, List.length_nil]; rw [sizeLine_eq]; decide, [.int (i / j) s.toks, .int (i % j) (s.toks + 1)], .cons ⟨_, rfl⟩ (.cons ⟨_, rfl⟩ .nil), ?_⟩
  exact ⟨_, Heap.get?_push_size s.heap rfl, rfl, 0, rfl⟩
end
end L2

namespace L2
open PySem PySem.Spec PyProof.Rows

/-! ### an instance, its attributes a map -/
structure ObjM (h : Heap) (x dx C : Addr) (mA : Str → Option Value) : Prop where
  obj : h.get? x = some (PySem.W.instObj C dx)
  ns : h.Ns1 dx mA
  ne : dx ≠ x

theorem lookIn_ns {h : Heap} {dx : Addr} {mA : Str → Option Value} (n : h.Ns1 dx mA) : ∃ od, h.get? dx = some od ∧ ∀ name, PySem.W.lookIn name od = some (mA name) := by
  obtain ⟨o, es, ep, ho, hd, hk, _, hm⟩ := n
  refine ⟨o, ho, fun name => ?_⟩
  have e := hm name
  unfold nsFind findBy at e
  rw [← Array.find?_toList] at e
  unfold PySem.W.lookIn
  rw [hd]
  dsimp only
  split
  · rename_i y q
    rw [q] at e
    exact congrArg some e
  · rename_i q
    rw [q] at e
    have a : es.toList.any (·.refKey) = false := by
      rw [List.any_eq_false]
      intro y hy
      obtain ⟨z, t, hkey⟩ := hk y (Array.mem_toList_iff.mp hy)
      simp [DictEntry.refKey, hkey]
    have a' : ¬ es.toList.any (·.refKey) = true := by rw [a]; exact Bool.false_ne_true
    rw [if_neg a']
    exact congrArg some e

theorem ObjM.look {h : Heap} {x dx C : Addr} {mA : Str → Option Value} (I : ObjM h x dx C mA) : ∃ od, PySem.W.InstAt h x (PySem.W.instObj C dx) C (some od) ∧ ∀ name, PySem.W.lookIn name od = some (mA name) :=
  let ⟨od, ho, hl⟩ := lookIn_ns I.ns
  ⟨od, ⟨I.obj, rfl, rfl, ho⟩, hl⟩

section
variable {prog : Program} {w : World} {A : Around} {E : Value → Shared → Prop} {s : Shared} {K : PySem.W.Frag} {x dx C f : Addr} {mA : Str → Option Value} {name : Str} {v : Value}

theorem get_map {expr : Bool} {Q : Value → Shared → Prop} (X : K.In s.heap) (I : ObjM s.heap x dx C mA) (hg : PySem.W.plainGet K C name = true) (hh : PySem.W.hasDictIn K C = true)
    (ha : PySem.W.findIn K (.ref C) name = some none) (hv : mA name = some v) (hv' : PySem.W.handedIn v = true) (h : Q v { s with toks := s.toks + 1 }) :
    wpAny (model prog w) A (getAttr (.ref x) name expr) Q E s := by
  obtain ⟨od, J, hl⟩ := I.look
  exact PySem.W.get_value X J (PySem.W.plainGet_of hg).1 (PySem.W.findObj_own hh ha rfl (by rw [hl, hv])) hv' h

theorem get_const {expr : Bool} {a : Value} {Q : Value → Shared → Prop} (X : K.In s.heap) (I : ObjM s.heap x dx C mA) (hg : PySem.W.plainGet K C name = true) (hh : PySem.W.hasDictIn K C = true)
    (ha : PySem.W.findIn K (.ref C) name = some (some a)) (hn : PySem.W.specialIn K a "__get__" = some none) (hc : PySem.W.copiedNames.contains name = false) (hv : mA name = none) (hv' : PySem.W.handedIn a = true)
    (h : Q a { s with toks := s.toks + 1 }) : wpAny (model prog w) A (getAttr (.ref x) name expr) Q E s := by
  obtain ⟨od, J, hl⟩ := I.look
  exact PySem.W.get_value X J (PySem.W.plainGet_of hg).1 (PySem.W.findObj_cls hh ha hn hv' hc (by rw [hl, hv])) hv' h

theorem get_meth {pl : Sem Bool} {Q : Value × List Value → Shared → Prop} (X : K.In s.heap) (I : ObjM s.heap x dx C mA) (hg : PySem.W.plainGet K C name = true)
    (hf : PySem.W.findIn K (.ref C) name = some (some (.ref f))) (ht : PySem.W.isFn K (.ref f) = true) (hv : mA name = none) (h : Q (.ref f, [.ref x]) s) :
    wpAny (model prog w) A (getMethod (.ref x) name pl) Q E s := by
  obtain ⟨od, J, hl⟩ := I.look
  exact PySem.W.method_fn X J (PySem.W.plainGet_of hg).1 (PySem.W.plainGet_of hg).2 hf (beq_iff_eq.mp ht) (by show (PySem.W.lookIn name od).map (·.isSome) = some false; rw [hl, hv]; rfl) h

theorem set_map {ns : List Str} {Q : Unit → Shared → Prop} (X : K.In s.heap) (I : ObjM s.heap x dx C mA)
    (hs : PySem.W.findIn K (.ref C) "__setattr__" = some (some (.builtin "object.__setattr__"))) (hp : PySem.W.plainOver K C = true) (ht : PySem.W.takerIn K C name = some none) (hh : PySem.W.hasDictIn K C = true)
    (hw : PySem.Within mA ns) (hsz : ns.length ≤ sizeLine)
    (h : ∀ h', ObjM h' x dx C (fun y => if y = name then some v else mA y) → Heap.SameBut dx s.heap h' → Q () { s with heap := h', toks := s.toks + 2 }) :
    wpAny (model prog w) A (setAttr (.ref x) name v) Q E s := by
  obtain ⟨od, J, hl⟩ := I.look
  refine PySem.W.set_plain X J hs (PySem.W.osa_open (s := { s with toks := s.toks + 1 }) (r := none) X J hp ht fun b => ?_)
  obtain ⟨cd, hc, hd'⟩ := PySem.W.any_some hh
  have hx : s.heap.get? x = some ⟨.ref C, some dx, .plain, #[]⟩ := I.obj
  refine wpAny_bind (wpAny_pure (wpAny_bind (wpAny_bind (wpAny_loadPart hx (wpAny_bind (PySem.W.Looks.here (s := { s with toks := s.toks + 1 }) (PySem.W.looks_clsIn X hc) ?_))))))
  rw [hd']
  refine wpAny_pure (a := some dx) (wpAny_bind (wpAny_pure (wpAny_bind ?_)))
  refine wpAny_nsSet1 (s := { s with toks := s.toks + 1 }) I.ns fun h' hn2 hs2 => ?_
  obtain ⟨oD, esD, epD, hoD, hdD, hcD⟩ := hn2.count (PySem.Within.cons name v hw)
  refine wpAny_bind (wpAny_lookBehind hoD (by rw [hdD]; exact pastItsLine_dict (Nat.le_trans hcD (by rw [List.length_cons]; omega))) ?_)
  exact wpAny_pure (h _ ⟨(hs2.2 _ (Ne.symm I.ne)).trans I.obj, hn2, I.ne⟩ hs2)

/-- C(..): the dict at the heap's end, the instance behind it; then its __init__ -/
theorem make_map {R : Result → Shared → Prop} {vs : List Value} {kw : List (Str × Value)} (X : K.In s.heap) (hm : PySem.W.makesIn K C = true)
    (hi : PySem.W.findIn K (.ref C) "__init__" = some (some (.ref f))) (hf : PySem.W.typeIn K (.ref f) = some (.type "function"))
    (h : codeAny (model prog w) (A.under (.builtin "type.__call__" ⟨.ref C :: vs, kw⟩)) (.call (.ref f) ⟨.ref (s.heap.objs.size + 1) :: vs, kw⟩) (PySem.W.InitBack (s.heap.objs.size + 1) R)
      { s with heap := (s.heap.push PySem.W.emptyDict).push (PySem.W.instObj C s.heap.objs.size) }) :
    codeAny (model prog w) A (.call (.ref C) ⟨vs, kw⟩) R s := by
  obtain ⟨hh, g, d, t, os⟩ := s
  exact PySem.W.make_core (PySem.W.makes_of X hm) (PySem.W.looks_findIn X hi) (fun self => PySem.W.bind_fn X self hf) (.inl rfl) h
/-- C() where there is no __init__ but object's -/
theorem make_map0 {R : Result → Shared → Prop} (X : K.In s.heap) (hm : PySem.W.makesIn K C = true)
    (hi : PySem.W.findIn K (.ref C) "__init__" = some (some (.builtin "object.__init__")))
    (hb : ∀ self, PySem.W.Looks (model prog w) s.heap (bindSpecial (.builtin "object.__init__") self) (.builtin "object.__init__", [self]))
    (h : codeAny (model prog w) (A.under (.builtin "type.__call__" ⟨[.ref C], []⟩)) (.call (.builtin "object.__init__") ⟨[.ref (s.heap.objs.size + 1)], []⟩) (PySem.W.InitBack (s.heap.objs.size + 1) R)
      { s with heap := (s.heap.push PySem.W.emptyDict).push (PySem.W.instObj C s.heap.objs.size) }) :
    codeAny (model prog w) A (.call (.ref C) ⟨[], []⟩) R s := by
  obtain ⟨hh, g, d, t, os⟩ := s
  exact PySem.W.make_core (PySem.W.makes_of X hm) (PySem.W.looks_findIn X hi) hb (.inr ⟨rfl, rfl⟩) h
end

/-! ### the attributes as a list of pairs -/
def putF (f : Str) (v : V) : List (Str × V) → List (Str × V)
  | [] => [(f, v)]
  | (g, x) :: r => if g = f then (g, v) :: r else (g, x) :: putF f v r
theorem lookup_putF (f g : Str) (v : V) : ∀ fs : List (Str × V), (putF f v fs).lookup g = if g = f then some v else fs.lookup g
  | [] => by
    show List.lookup g [(f, v)] = _
    by_cases h : g = f
    · have hb : (g == f) = true := beq_iff_eq.mpr h
      simp only [List.lookup, hb, if_pos h]
    · have hb : (g == f) = false := beq_eq_false_iff_ne.mpr h
      simp only [List.lookup, hb, if_neg h]
  | (k, x) :: r => by
    have ih := lookup_putF f g v r
    rw [show putF f v ((k, x) :: r) = (if k = f then (k, v) :: r else (k, x) :: putF f v r) from rfl]
    by_cases hk : k = f
    · rw [if_pos hk]
      by_cases h : g = k
      · have hb : (g == k) = true := beq_iff_eq.mpr h
        simp only [List.lookup, hb, if_pos (h.trans hk)]
      · have hb : (g == k) = false := beq_eq_false_iff_ne.mpr h
        simp only [List.lookup, hb, if_neg (fun e : g = f => h (e.trans hk.symm))]
    · rw [if_neg hk]
      by_cases h : g = k
      · have hb : (g == k) = true := beq_iff_eq.mpr h
        simp only [List.lookup, hb, if_neg (fun e : g = f => hk (h.symm.trans e))]
      · have hb : (g == k) = false := beq_eq_false_iff_ne.mpr h
        simp only [List.lookup, hb]
        exact ih
theorem keys_putF (f : Str) (v : V) : ∀ fs : List (Str × V), f ∈ (putF f v fs).map (·.1) ∧ ∀ g, g ∈ fs.map (·.1) → g ∈ (putF f v fs).map (·.1)
  | [] => ⟨by simp [putF], fun g h => by simp at h⟩
  | (k, x) :: r => by
    obtain ⟨i1, i2⟩ := keys_putF f v r
    rw [show putF f v ((k, x) :: r) = (if k = f then (k, v) :: r else (k, x) :: putF f v r) from rfl]
    by_cases hk : k = f
    · rw [if_pos hk]
      subst hk
      exact ⟨by simp, fun g h => by simpa using h⟩
    · rw [if_neg hk]
      refine ⟨?_, fun g h => ?_⟩
      · rw [List.map_cons]
        exact List.mem_cons_of_mem _ i1
      · rw [List.map_cons] at h ⊢
        rcases List.mem_cons.mp h with e | e
        · exact List.mem_cons.mpr (.inl e)
        · exact List.mem_cons_of_mem _ (i2 g e)
theorem length_putF (f : Str) (v : V) : ∀ fs : List (Str × V), (putF f v fs).length ≤ fs.length + 1
  | [] => by simp [putF]
  | (k, x) :: r => by
    have ih := length_putF f v r
    rw [show putF f v ((k, x) :: r) = (if k = f then (k, v) :: r else (k, x) :: putF f v r) from rfl]
    by_cases hk : k = f
    · rw [if_pos hk, List.length_cons, List.length_cons]; omega
    · rw [if_neg hk, List.length_cons, List.length_cons]; omega

theorem RelO.some_of {v : V} {o : Option Value} (r : RelO (some v) o) : ∃ u, o = some u ∧ RelV v u := by
  cases o with
  | none => exact (show False from r).elim
  | some u => exact ⟨u, rfl, r⟩
theorem RelO.none_of {o : Option Value} (r : RelO none o) : o = none := by
  cases o with
  | none => rfl
  | some u => exact (show False from r).elim
theorem handed_of {v : V} {u : Value} (r : RelV v u) : PySem.W.handedIn u = true := by
  cases v with
  | non => cases (show u = Value.none from r); rfl
  | bl b => cases (show u = Value.bool b from r); rfl
  | int i => obtain ⟨t, e⟩ := (show ∃ t, u = Value.int i t from r); cases e; rfl
  | str x => obtain ⟨t, e⟩ := (show ∃ t, u = Value.str x t from r); cases e; rfl
  | byt b => obtain ⟨t, e⟩ := (show ∃ t, u = Value.bytes b t from r); cases e; rfl
  | flt b => obtain ⟨t, e⟩ := (show ∃ t, u = Value.float b t from r); cases e; rfl
  | ref a => cases (show u = Value.ref a from r); rfl
  | ty n => cases (show u = Value.type n from r); rfl

section
variable {P : Program} {w : World} {H H' : Hp} {h h' : Heap} {a C dx : Addr} {fs fs' : List (Str × V)}
theorem ins_get (hok : HOk P w H h) (e : H a = some (.ins C dx fs)) : ∃ mA, ObjM h a dx C mA ∧ (∀ f, RelO (fs.lookup f) (mA f)) ∧ PySem.Within mA (fs.map (·.1)) ∧ fs.length ≤ 1000 ∧ H dx = some (.own a) := by
  obtain ⟨d, z, ne, ob, mA, n, r, q⟩ := (show ObjOk P w H h a (.ins C dx fs) from hok a _ e)
  exact ⟨mA, ⟨ob, n, ne⟩, r, q, z, d⟩
end

/-! ### what of the text a class must have -/
structure Cls (K : PySem.W.Frag) (C : Addr) : Prop where
  pg : PySem.W.plainGet K C Str.empty = true
  hd : PySem.W.hasDictIn K C = true
  po : PySem.W.plainOver K C = true
  sa : PySem.W.findIn K (.ref C) "__setattr__" = some (some (.builtin "object.__setattr__"))
theorem Cls.get {K : PySem.W.Frag} {C : Addr} (c : Cls K C) (f : Str) : PySem.W.plainGet K C f = true := c.pg
/-- no class of it has the name -/
def NoAttr (K : PySem.W.Frag) (C : Addr) (f : Str) : Prop := PySem.W.findIn K (.ref C) f = some none
theorem NoAttr.taker {K : PySem.W.Frag} {C : Addr} {f : Str} (n : NoAttr K C f) : PySem.W.takerIn K C f = some none := by
  unfold PySem.W.takerIn
  rw [show PySem.W.findIn K (.ref C) f = some none from n]
  rfl
/-- a constant of the class -/
structure Con (K : PySem.W.Frag) (C : Addr) (f : Str) (v : V) (u : Value) : Prop where
  at_ : PySem.W.findIn K (.ref C) f = some (some u)
  rel : RelV v u
  get : PySem.W.specialIn K u "__get__" = some none
  cp : PySem.W.copiedNames.contains f = false
/-- a method: a plain def of the class or of one above it -/
structure Meth (K : PySem.W.Frag) (C : Addr) (m : Str) (f : Addr) : Prop where
  at_ : PySem.W.findIn K (.ref C) m = some (some (.ref f))
  fn : PySem.W.isFn K (.ref f) = true
  kp : PySem.W.keepIn K (.ref f) = true

section
variable {X : Cx} {pins : List (Addr × Obj)} {σ : St} {H : Hp} {s : Shared} {a C dx : Addr} {fs : List (Str × V)} {f : Str} {v : V} {A : Around} {E : Value → Shared → Prop}

theorem getattr_ok {b : Bool} {Q : Value → Shared → Prop} (I : Inv X pins σ H s) (e : H a = some (.ins C dx fs)) (c : Cls X.K C) (n : NoAttr X.K C f) (l : fs.lookup f = some v)
    (h : ∀ u s', Inv X pins σ H s' → RelV v u → Q u s') : wpAny (model X.prog X.w) A (getAttr (.ref a) f b) Q E s := by
  obtain ⟨mA, O, r, _, _, _⟩ := ins_get I.hok e
  obtain ⟨u, hu, ru⟩ := RelO.some_of (v := v) (o := mA f) (by rw [← l]; exact r f)
  exact get_map I.kIn O (c.get f) c.hd n hu (handed_of ru) (h u _ (I.tok _) ru)

theorem getcon_ok {b : Bool} {u : Value} {Q : Value → Shared → Prop} (I : Inv X pins σ H s) (e : H a = some (.ins C dx fs)) (c : Cls X.K C) (k : Con X.K C f v u) (l : fs.lookup f = none)
    (h : ∀ s', Inv X pins σ H s' → Q u s') : wpAny (model X.prog X.w) A (getAttr (.ref a) f b) Q E s := by
  obtain ⟨mA, O, r, _, _, _⟩ := ins_get I.hok e
  have hn : mA f = none := RelO.none_of (by rw [← l]; exact r f)
  exact get_const I.kIn O (c.get f) c.hd k.at_ k.get k.cp hn (handed_of k.rel) (h _ (I.tok _))

theorem getmeth_ok {m : Str} {g : Addr} {pl : Sem Bool} {Q : Value × List Value → Shared → Prop} (I : Inv X pins σ H s) (e : H a = some (.ins C dx fs)) (c : Cls X.K C) (k : Meth X.K C m g) (l : fs.lookup m = none)
    (h : Q (.ref g, [.ref a]) s) : wpAny (model X.prog X.w) A (getMethod (.ref a) m pl) Q E s := by
  obtain ⟨mA, O, r, _, _, _⟩ := ins_get I.hok e
  have hn : mA m = none := RelO.none_of (by rw [← l]; exact r m)
  exact get_meth I.kIn O (c.get m) k.at_ k.fn hn h

theorem setattr_ok {y : V} {u : Value} {Q : Unit → Shared → Prop} (I : Inv X pins σ H s) (e : H a = some (.ins C dx fs)) (c : Cls X.K C) (n : NoAttr X.K C f) (hl : fs.length < 1000) (ry : RelV y u)
    (h : ∀ s', Inv X pins σ (upd H a (.ins C dx (putF f y fs))) s' → Q () s') : wpAny (model X.prog X.w) A (setAttr (.ref a) f u) Q E s := by
  obtain ⟨mA, O, r, wi, _, ho⟩ := ins_get I.hok e
  have hz : (fs.map (·.1)).length ≤ sizeLine := by rw [List.length_map, sizeLine_eq]; omega
  refine set_map I.kIn O c.sa c.po n.taker c.hd wi hz fun h' O' sb => h _ ?_
  have hd : ∃ o, h'.get? dx = some o := let ⟨o, _, _, e', _⟩ := O'.ns; ⟨o, e'⟩
  refine I.write (x := a) (e := dx) (by rw [e]; exact True.intro) (.inr ho) (fun b q hb z => (sb.2 b hb).trans z) hd ?_
  refine ⟨by rw [upd_ne O.ne]; exact ho, ?_, O.ne, O'.obj, _, O'.ns, fun g => ?_, fun g hg => ?_⟩
  · have := length_putF f y fs; omega
  · show RelO ((putF f y fs).lookup g) (if g = f then some u else mA g)
    rw [lookup_putF]
    by_cases q : g = f
    · rw [if_pos q, if_pos q]; exact ry
    · rw [if_neg q, if_neg q]; exact r g
  · by_cases q : g = f
    · rw [q]; exact (keys_putF f y fs).1
    · refine (keys_putF f y fs).2 g (wi g fun z => hg ?_)
      show (if g = f then some u else mA g) = none
      rw [if_neg q]; exact z

/-- a new instance, tracked, without attributes -/
theorem Inv.made (I : Inv X pins σ H s) : Inv X pins σ (upd (upd H s.heap.objs.size (.own (s.heap.objs.size + 1))) (s.heap.objs.size + 1) (.ins C s.heap.objs.size []))
    { s with heap := (s.heap.push PySem.W.emptyDict).push (PySem.W.instObj C s.heap.objs.size) } := by
  have e1 : (s.heap.push PySem.W.emptyDict).get? s.heap.objs.size = some PySem.W.emptyDict := Heap.get?_push_size s.heap rfl
  have e2 : ((s.heap.push PySem.W.emptyDict).push (PySem.W.instObj C s.heap.objs.size)).get? (s.heap.objs.size + 1) = some (PySem.W.instObj C s.heap.objs.size) := by
    have := Heap.get?_push_size (s.heap.push PySem.W.emptyDict) (o := PySem.W.instObj C s.heap.objs.size) rfl
    rwa [Heap.size_push] at this
  have e3 : (s.heap.push PySem.W.emptyDict).Ns s.heap.objs.size (fun _ => none) := ⟨PySem.W.emptyDict, #[], _, e1, rfl, (fun e he => absurd he (by simp)), fun _ => rfl⟩
  have I1 := I.laid (a := s.heap.objs.size) (o := .own (s.heap.objs.size + 1)) (h' := s.heap.push PySem.W.emptyDict) (t' := s.toks) (fun b u q => Heap.get?_push_of_some _ q) (Nat.le_refl _) ⟨_, e1⟩
  refine I1.laid (a := s.heap.objs.size + 1) (o := .ins C s.heap.objs.size []) (t' := s.toks) (fun b u q => Heap.get?_push_of_some _ q) (Nat.le_of_eq (Heap.size_push _ _)) ?_
  have ne : s.heap.objs.size ≠ s.heap.objs.size + 1 := Nat.ne_of_lt (Nat.lt_succ_self _)
  refine ⟨by rw [upd_ne ne, upd_same], Nat.zero_le _, ne, e2, fun _ => none, (Heap.Ns1.of_empty e3).at fun o q => Heap.get?_push_of_some _ q, fun _ => True.intro, fun y hy => absurd rfl hy⟩

/-- e.f where nothing but the object is asked: through attributeBase (super) and the last hold -/
theorem attr_of {prog : Program} {w : World} {env : Env} {e : Expr} {f : Str} {pos : Pos} {s : Shared} {Q : Value → Shared → Prop} (hb : attributeBase e f env (eval e env) = eval e env)
    (h : wpAny (model prog w) A (eval e env) (fun o s₁ => wpAny (model prog w) A (getAttr o f true) Q E s₁) E s) : wpAny (model prog w) A (eval (.Attribute e f pos) env) Q E s :=
  Attribute_any_ h (by rw [arm_eval_Attribute, hb])
end

/-! ### readings and rules -/
/-- e.f, an attribute of the instance -/
def tFld (K : PySem.W.Frag) (ta : TE) (f : Str) : TE := fun σ H Q => ta σ H fun x H1 => ∃ a C dx fs v, x = .ref a ∧ H1 a = some (.ins C dx fs) ∧ Cls K C ∧ NoAttr K C f ∧ fs.lookup f = some v ∧ Q v H1
/-- e.f, a constant of the class -/
def tCon (K : PySem.W.Frag) (ta : TE) (f : Str) : TE := fun σ H Q => ta σ H fun x H1 => ∃ a C dx fs v u, x = .ref a ∧ H1 a = some (.ins C dx fs) ∧ Cls K C ∧ Con K C f v u ∧ fs.lookup f = none ∧ Q v H1
/-- e.f = value -/
def sFld (K : PySem.W.Frag) (ta tv : TE) (f : Str) : TS := fun D σ H => tv σ H fun y H1 => ta σ H1 fun x H2 => ∃ a C dx fs, x = .ref a ∧ H2 a = some (.ins C dx fs) ∧ Cls K C ∧ NoAttr K C f ∧ fs.length < 1000 ∧
  D.nx σ (upd H2 a (.ins C dx (putF f y fs)))
/-- an augmented operator on two values -/
def InOp (X : Cx) (op : Operator) (rd : V → V → Hp → VK → Prop) : Prop :=
  ∀ (pins : List (Addr × Obj)) (s : Shared) (σ : St) (H : Hp) (x y : V) (u v : Value) (Q : VK), Inv X pins σ H s → RelV x u → RelV y v → rd x y H Q → wpAny (model X.prog X.w) X.A (inplaceOp op u v) (EP X pins σ Q) X.xe s
/-- e.f op= value -/
def sFldAug (K : PySem.W.Frag) (ta tv : TE) (rd : V → V → Hp → VK → Prop) (f : Str) : TS := fun D σ H => ta σ H fun x H1 => ∃ a C dx fs v, x = .ref a ∧ H1 a = some (.ins C dx fs) ∧ Cls K C ∧ NoAttr K C f ∧ fs.lookup f = some v ∧
  tv σ H1 fun y H2 => rd v y H2 fun z H3 => ∃ dx' fs', H3 a = some (.ins C dx' fs') ∧ fs'.length < 1000 ∧ D.nx σ (upd H3 a (.ins C dx' (putF f z fs')))

section
variable {X : Cx} {o e value : Expr} {f : Str} {pos pos' tpos : Pos} {ta tv : TE}
theorem pe_fld (he : PE X e ta) (hb : attributeBase e f X.env (eval e X.env) = eval e X.env) : PE X (.Attribute e f pos) (tFld X.K ta f) := by
  intro pins s σ H Q I h
  refine attr_of hb (thn (he pins s σ H _ I h) fun u s1 ⟨x, H1, I1, rx, a, C, dx, fs, v, ex, ea, c, n, l, q⟩ => ?_)
  subst ex
  obtain rfl : u = Value.ref a := rx
  exact getattr_ok I1 ea c n l fun u' s2 I2 ru => ⟨v, H1, I2, ru, q⟩
theorem pe_con (he : PE X e ta) (hb : attributeBase e f X.env (eval e X.env) = eval e X.env) : PE X (.Attribute e f pos) (tCon X.K ta f) := by
  intro pins s σ H Q I h
  refine attr_of hb (thn (he pins s σ H _ I h) fun u s1 ⟨x, H1, I1, rx, a, C, dx, fs, v, u0, ex, ea, c, k, l, q⟩ => ?_)
  subst ex
  obtain rfl : u = Value.ref a := rx
  exact getcon_ok I1 ea c k l fun s2 I2 => ⟨v, H1, I2, k.rel, q⟩
theorem ps_fld (ha : PE X o ta) (hv : PE X value tv) (hs : swapsWith value (some (.Attribute o f pos')) pos.line X.env = pure false) : PS X (.Assign [.Attribute o f pos'] value pos) (sFld X.K ta tv f) := by
  intro pins s σ H D I h
  refine plainObj_wpAny_Assign_Attribute (thn (hv pins s σ H _ I h) fun u s1 ⟨y, H1, I1, ry, q⟩ => thn (ha pins s1 σ H1 _ I1 q) fun ov s2 ⟨x, H2, I2, rx, a, C, dx, fs, ex, ea, c, n, l, q2⟩ => ?_) hs
  subst ex
  obtain rfl : ov = Value.ref a := rx
  exact setattr_ok I2 ea c n l ry fun s3 I3 => ⟨σ, _, I3, q2⟩
theorem ps_fldaug {op : Operator} {rd : V → V → Hp → VK → Prop} (ha : PE X o ta) (hv : PE X value tv) (hop : InOp X op rd) : PS X (.AugAssign (.Attribute o f tpos) op value pos) (sFldAug X.K ta tv rd f) := by
  intro pins s σ H D I h
  refine wpAny_AugAssign_AttributeAny (thn (ha pins s σ H _ I h) fun ov s1 ⟨x, H1, I1, rx, a, C, dx, fs, v, ex, ea, c, n, l, q⟩ => ?_)
  subst ex
  obtain rfl : ov = Value.ref a := rx
  refine getattr_ok I1 ea c n l fun u s2 I2 ru => thn (hv pins s2 σ H1 _ I2 q) fun w3 s3 ⟨y, H2, I3, ry, q3⟩ => thn (hop pins s3 σ H2 v y u w3 _ I3 ru ry q3) fun w4 s4 ⟨z, H3, I4, rz, dx', fs', ea', l', q4⟩ => ?_
  exact setattr_ok I4 ea' c n l' rz fun s5 I5 => ⟨σ, _, I5, q4⟩
def rAdd : V → V → Hp → VK → Prop := fun x y H Q => ∃ i j, x = .int i ∧ y = .int j ∧ Q (.int (i + j)) H
def rSub : V → V → Hp → VK → Prop := fun x y H Q => ∃ i j, x = .int i ∧ y = .int j ∧ Q (.int (i - j)) H
theorem in_add : InOp X .Add rAdd := by
  rintro pins s σ H x y u v Q I rx ry ⟨i, j, rfl, rfl, q⟩
  obtain ⟨t, rfl⟩ := (show ∃ t, u = Value.int i t from rx)
  obtain ⟨t', rfl⟩ := (show ∃ t', v = Value.int j t' from ry)
  exact PyProof.Rows.iadd_int ⟨.int (i + j), H, I.tok _, ⟨_, rfl⟩, q⟩
theorem in_sub : InOp X .Sub rSub := by
  rintro pins s σ H x y u v Q I rx ry ⟨i, j, rfl, rfl, q⟩
  obtain ⟨t, rfl⟩ := (show ∃ t, u = Value.int i t from rx)
  obtain ⟨t', rfl⟩ := (show ∃ t', v = Value.int j t' from ry)
  exact PyProof.Rows.isub_int ⟨.int (i - j), H, I.tok _, ⟨_, rfl⟩, q⟩

/-- what is between an instance and its method: the tree of a method call -/
theorem methcall_of {pl : Sem Bool} {m : Str} {apos : Pos} {args : List Expr} {pins : List (Addr × Obj)} {s : Shared} {σ : St} {H : Hp} {Q : Value → Shared → Prop} {te : TE} (he : PE X e te) (I : Inv X pins σ H s)
    (h : te σ H fun x H1 => ∃ a C dx fs g, x = .ref a ∧ H1 a = some (.ins C dx fs) ∧ Cls X.K C ∧ Meth X.K C m g ∧ fs.lookup m = none ∧
      ∀ s1, Inv X pins σ H1 s1 → wpAny (model X.prog X.w) X.A (callWith pos (.ref g) [.ref a] (backTo pos (starEach args X.env)) (backToKw pos (keywordEach [] X.env))) Q X.xe s1)
    (ht : eval (.Call (.Attribute e m apos) args [] pos) X.env = (do
      let ov ← eval e X.env
      standAt apos.atName
      let (f, first) ← holding [ov] (getMethod ov m pl)
      callWith pos f first (backTo pos (starEach args X.env)) (backToKw pos (keywordEach [] X.env)))) :
    wpAny (model X.prog X.w) X.A (eval (.Call (.Attribute e m apos) args [] pos) X.env) Q X.xe s := by
  refine PySem.W.methodCall_KW (pl := pl) (thn (he pins s σ H _ I h) fun u s1 ⟨x, H1, I1, rx, a, C, dx, fs, g, ex, ea, c, k, l, q⟩ => ?_) ht
  subst ex
  obtain rfl : u = Value.ref a := rx
  exact getmeth_ok I1 ea c k l (q s1 I1)
end

/-! ### isinstance -/
section
variable {X : Cx} {pins : List (Addr × Obj)} {σ : St} {H : Hp} {s : Shared} {A : Around} {E : Value → Shared → Prop} {Q : Value → Shared → Prop} {c : Value} {b : Bool}
/-- the type of a value, as the fragment's deciders take it; for an instance its class -/
inductive TyOf (K : PySem.W.Frag) (H : Hp) : V → Value → Prop where
  | non : TyOf K H .non (.type "NoneType")
  | bl (x : Bool) : TyOf K H (.bl x) (.type "bool")
  | int (i : Int) : TyOf K H (.int i) (.type "int")
  | str (x : Str) : TyOf K H (.str x) (.type "str")
  | flt (x : UInt64) : TyOf K H (.flt x) (.type "float")
  | lst {a : Addr} {xs : List V} (e : H a = some (.lst xs)) : TyOf K H (.ref a) (.type "list")
  | frz {a : Addr} {o : Obj} {xs : List V} (e : H a = some (.frz o (.lst xs))) : TyOf K H (.ref a) (.type "list")
  | tup {a : Addr} {xs : List V} (e : H a = some (.tup xs)) : TyOf K H (.ref a) (.type "tuple")
  | dK {a : Addr} {kvs : List (Key × V)} (e : H a = some (.dK kvs)) : TyOf K H (.ref a) (.type "dict")
  | dT {a : Addr} {kvs : List (List Key × V)} (e : H a = some (.dT kvs)) : TyOf K H (.ref a) (.type "dict")
  | ins {a C dx : Addr} {fs : List (Str × V)} (e : H a = some (.ins C dx fs)) (cl : Cls K C) (ha : PySem.W.findIn K (.ref C) "__class__" = some (some (.builtin "object.__class__")))
      (hn : PySem.W.specialIn K (.builtin "object.__class__") "__get__" = some (some (.builtin "getset_descriptor.__get__"))) (htk : PySem.W.takesIn K (.builtin "object.__class__") = some true)
      (hm : PySem.W.mroIn K C (.type "object") = some true) : TyOf K H (.ref a) (.ref C)
/-- isinstance(x, c) for one class c, a built-in or an own one: kitOne's answer -/
theorem isinst_ok {x : V} {u t : Value} (I : Inv X pins σ H s) (rx : RelV x u) (ty : TyOf X.K H x t) (e : PySem.W.kitOne X.K t c = some b) (h : ∀ tk, Q (.bool b) { s with toks := tk }) :
    wpAny (model X.prog X.w) A (call (.builtin "isinstance") [u, c]) Q E s := by
  cases ty with
  | non => cases (show u = Value.none from rx); exact PySem.W.kia_one PySem.W.kitx_none I.kIn True.intro e (fun z => nomatch z) h
  | bl y => cases (show u = Value.bool y from rx); exact PySem.W.kia_one PySem.W.kitx_bool I.kIn True.intro e (fun z => nomatch z) h
  | int i => obtain ⟨t, q⟩ := (show ∃ t, u = Value.int i t from rx); cases q; exact PySem.W.kia_one PySem.W.kitx_int I.kIn True.intro e (fun z => nomatch z) h
  | str y => obtain ⟨t, q⟩ := (show ∃ t, u = Value.str y t from rx); cases q; exact PySem.W.kia_one PySem.W.kitx_str I.kIn True.intro e (fun z => nomatch z) h
  | flt y => obtain ⟨t, q⟩ := (show ∃ t, u = Value.float y t from rx); cases q; exact PySem.W.kia_one PySem.W.kitx_float I.kIn True.intro e (fun z => nomatch z) h
  | @lst a xs ea =>
    cases (show u = Value.ref a from rx)
    obtain ⟨_, _, n, _, h1⟩ := (show ObjOk X.prog X.w H s.heap a (.lst xs) from I.hok a _ ea)
    exact PySem.W.kia_one PySem.W.kitx_list I.kIn ⟨_, h1, rfl⟩ e (fun z => nomatch z) h
  | @frz a ob xs ea =>
    cases (show u = Value.ref a from rx)
    obtain ⟨_, _, _, n, _, h1⟩ := (show ObjOk X.prog X.w H s.heap a (.frz ob (.lst xs)) from I.hok a _ ea)
    exact PySem.W.kia_one PySem.W.kitx_list I.kIn ⟨_, h1, rfl⟩ e (fun z => nomatch z) h
  | @tup a xs ea =>
    cases (show u = Value.ref a from rx)
    obtain ⟨_, _, _, p⟩ := (show ObjOk X.prog X.w H s.heap a (.tup xs) from I.hok a _ ea)
    obtain ⟨o, h1, h2, _⟩ := p
    exact PySem.W.kia_one PySem.W.kitx_tuple I.kIn ⟨o, h1, h2⟩ e (fun z => nomatch z) h
  | @dK a kvs ea =>
    cases (show u = Value.ref a from rx)
    obtain ⟨_, _, vs, _, p⟩ := (show ObjOk X.prog X.w H s.heap a (.dK kvs) from I.hok a _ ea)
    obtain ⟨o, es, ep, h1, h2, _⟩ := p
    exact PySem.W.kia_one PySem.W.kitx_dict I.kIn ⟨o, h1, h2.1⟩ e (fun z => nomatch z) h
  | @dT a kvs ea =>
    cases (show u = Value.ref a from rx)
    obtain ⟨_, _, xs, _, o, es, ep, h1, h2, _⟩ := (show ObjOk X.prog X.w H s.heap a (.dT kvs) from I.hok a _ ea)
    exact PySem.W.kia_one PySem.W.kitx_dict I.kIn ⟨o, h1, h2.1⟩ e (fun z => nomatch z) h
  | @ins a C dx fs ea cl ha hn htk hm =>
    cases (show u = Value.ref a from rx)
    obtain ⟨mA, O, _⟩ := ins_get I.hok ea
    obtain ⟨od, J, _⟩ := O.look
    exact PySem.W.kia_one (PySem.W.kitx_own (cl.get _) cl.hd ha hn htk hm) I.kIn J e (fun z => nomatch z) h
end
end L2

namespace L2
open PySem PySem.Spec PyProof.Rows

/-! ### room -/
structure Room (k : Nat) (A : Around) : Prop where
  hd : A.handled = none
  dp : A.depth + 3 * k + 5 < recursionLimit
  un : A.units + 16 * k + 200 < cLine
theorem Room.mono {j k : Nat} {A : Around} (r : Room k A) (h : j ≤ k) : Room j A := ⟨r.hd, by have := r.dp; omega, by have := r.un; omega⟩
theorem Room.deeper {k : Nat} {A : Around} (r : Room (k + 1) A) (env : Env) : Room k (A.deeper env) :=
  ⟨r.hd, by have := r.dp; show A.depth + 1 + 3 * k + 5 < _; omega, by have := r.un; show A.units + 3 + 16 * k + 200 < _; omega⟩
theorem Room.in1 {k : Nat} {A : Around} (r : Room (k + 1) A) : Room k A.in1 :=
  ⟨r.hd, by have := r.dp; show A.depth + 3 * k + 5 < _; omega, by have := r.un; show A.units + 1 + 16 * k + 200 < _; omega⟩
theorem make_depth {A : Around} {C : Addr} {us : List Value} {kw : List (Str × Value)} : (A.under (.builtin "type.__call__" ⟨.ref C :: us, kw⟩)).depth = A.depth + 1 := by
  first | rfl | simp [Around.under, Code.weight, Code.isCreation, Code.isGuard, Code.isCaller, Code.frames, Code.isFrame, guardIds]
theorem make_units {A : Around} {C : Addr} {us : List Value} {kw : List (Str × Value)} : (A.under (.builtin "type.__call__" ⟨.ref C :: us, kw⟩)).units = A.units + 1 := by
  first | rfl | simp [Around.under, Code.cUnits, Code.frames, Code.isFrame]
theorem Room.make {k : Nat} {A : Around} (r : Room (k + 1) A) (C : Addr) (us : List Value) (kw : List (Str × Value)) : Room k (A.under (.builtin "type.__call__" ⟨.ref C :: us, kw⟩)) :=
  ⟨r.hd, by have := r.dp; rw [make_depth]; omega, by have := r.un; rw [make_units]; omega⟩
theorem Room.depth {k : Nat} {A : Around} (r : Room k A) : A.depth < recursionLimit := by have := r.dp; omega
theorem Room.units {k : Nat} {A : Around} (r : Room k A) : A.units + 64 < cLine := by have := r.un; omega
theorem Room.units0 {k : Nat} {A : Around} (r : Room k A) : A.units < cLine := by have := r.un; omega

/-! ### argument lists and displays -/
def tNil : TA := fun _ H Q => Q [] H
def tCons (ta : TE) (tr : TA) : TA := fun σ H Q => ta σ H fun x H1 => tr σ H1 fun xs H2 => Q (x :: xs) H2
section
variable {X : Cx} {e : Expr} {es : List Expr} {te : TE} {t : TA} {pos : Pos}
theorem pa_nil : PA X [] tNil := fun _ _ _ _ H Q I h => Calls.spliced_nil ⟨[], H, I, .nil, h⟩
theorem pa_cons (ha : PE X e te) (hr : PA X es t) (hs : starEach (e :: es) X.env = (false, eval e X.env) :: starEach es X.env := by rfl) : PA X (e :: es) (tCons te t) := by
  intro pos pins s σ H Q I h
  rw [hs]
  show wpAny _ _ (spliced ((false, eval e X.env) :: backTo pos (starEach es X.env))) _ _ s
  refine Calls.spliced_cons (thn (ha pins s σ H _ I h) fun u s1 ⟨x, H1, I1, r1, q1⟩ => ?_)
  exact thn (hr pos pins s1 σ H1 _ I1 q1) fun us s2 ⟨xs, H2, I2, r2, q2⟩ => ⟨x :: xs, H2, I2, .cons r1 r2, q2⟩

/-- a tuple, a list of written items -/
def tTup (t : TA) : TE := fun σ H Q => t σ H fun xs H1 => xs.length ≤ sizeLine ∧ ∀ p, H1 p = none → Q (.ref p) (upd H1 p (.tup xs))
def tLst (t : TA) : TE := fun σ H Q => t σ H fun xs H1 => xs.length ≤ sizeLine ∧ ∀ p, H1 p = none → Q (.ref p) (upd H1 p (.lst xs))
theorem pe_tup {x1} (h : PA X es t) : PE X (.Tuple es x1 pos) (tTup t) := by
  intro pins s σ H Q I hq
  refine wpAny_Tuple_spliced (thn (h pos pins s σ H _ I hq) fun us s1 ⟨xs, H1, I1, r, z, q⟩ => ⟨by rw [← r.length]; exact z, ?_⟩)
  have hf : H1 s1.heap.objs.size = none := I1.hok.fresh (Nat.le_refl _)
  refine ⟨.ref s1.heap.objs.size, upd H1 s1.heap.objs.size (.tup xs), I1.laid (t' := s1.toks) (fun b u e => Heap.get?_push_of_some _ e) (Nat.le_refl _) ?_, rfl, q _ hf⟩
  exact ⟨z, us, r, ⟨_, Heap.get?_push_size _ rfl, rfl, _, rfl⟩⟩
theorem pe_lst (h : PA X es t) : PE X (.List es pos) (tLst t) := by
  intro pins s σ H Q I hq
  refine wpAny_List_spliced (thn (h pos pins s σ H _ I hq) fun us s1 ⟨xs, H1, I1, r, z, q⟩ => ⟨by rw [← r.length]; exact z, ?_⟩)
  have hf : H1 s1.heap.objs.size = none := I1.hok.fresh (Nat.le_refl _)
  refine ⟨.ref s1.heap.objs.size, upd H1 s1.heap.objs.size (.lst xs), I1.laid (t' := s1.toks) (fun b u e => Heap.get?_push_of_some _ e) (Nat.le_refl _) ?_, rfl, q _ hf⟩
  exact ⟨z, us, 0, r, Heap.get?_push_size _ rfl⟩
end

/-! ### what a def promises -/
/-- a def's promise: the bound arguments in the parameters' order, the heap, the wanted end, the wanted exception -/
abbrev Sp := List V → Hp → VK → XK → Prop
/-- how an exception lies behind a call (file 08 gives it): the callers' frames, abstract heap and state ahead of the call, the wish, the exception, the state -/
abbrev CXT := List Env → Hp → Shared → XK → Value → Shared → Prop

/-- the state at a call -/
structure Env0 (P : Program) (w : World) (K : PySem.W.Frag) (mg : Str → Option Value) (base : Heap) (A : Around) (outer : List Env) (s : Shared) (H : Hp) : Prop where
  frames : A.frames = some outer
  mod : Mod K mg base
  bs : ∀ b o, base.get? b = some o → s.heap.get? b = some o ∧ H b = none
  bsz : base.objs.size ≤ s.heap.objs.size
  funs : s.heap.FunFrames base outer
  frf : ∀ b ∈ frs outer, H b = none
  hok : HOk P w H s.heap
  bare : AllBare s.gens
/-- a call's end -/
def CE (outer : List Env) (P : Program) (w : World) (H : Hp) (s : Shared) (Q : VK) (u : Value) (s' : Shared) : Prop :=
  ∃ v H', s'.os = s.os ∧ AllBare s'.gens ∧ Un (frs outer) [] H H' s.heap s'.heap ∧ HOk P w H' s'.heap ∧ RelV v u ∧ Q v H'
def CR (CX : CXT) (outer : List Env) (P : Program) (w : World) (H : Hp) (s : Shared) (Q : VK) (E : XK) (r : Result) (s' : Shared) : Prop :=
  match r with
  | .ok (.ret u) => CE outer P w H s Q u s'
  | .ok _ => False
  | .error e => CX outer H s E e s'
structure FnOk (P : Program) (w : World) (K : PySem.W.Frag) (mg : Str → Option Value) (base : Heap) (CX : CXT) (k : Nat) (f : Addr) (fd : FuncData) (ps : List Str) (sp : Sp) : Prop where
  len : ∀ vs H Q E, sp vs H Q E → vs.length = ps.length
  run : ∀ (A : Around) (outer : List Env) (s : Shared) (H : Hp) (args : Args) (us : List Value) (vs : List V) (Q : VK) (E : XK), Room k A → Env0 P w K mg base A outer s H → BindsTo s fd args (ps.zip us) → Vals vs us → sp vs H Q E →
    codeAny (model P w) A (.call (.ref f) args) (CR CX outer P w H s Q E) s
theorem FnOk.mono {P : Program} {w : World} {K : PySem.W.Frag} {mg : Str → Option Value} {base : Heap} {CX : CXT} {j k : Nat} {f : Addr} {fd : FuncData} {ps : List Str} {sp : Sp} (F : FnOk P w K mg base CX j f fd ps sp) (h : j ≤ k) :
    FnOk P w K mg base CX k f fd ps sp := ⟨F.len, fun A outer s H args us vs Q E hr => F.run A outer s H args us vs Q E (hr.mono h)⟩
/-- a weaker promise -/
theorem FnOk.imp {P : Program} {w : World} {K : PySem.W.Frag} {mg : Str → Option Value} {base : Heap} {CX : CXT} {k : Nat} {f : Addr} {fd : FuncData} {ps : List Str} {sp sp' : Sp} (F : FnOk P w K mg base CX k f fd ps sp)
    (h : ∀ vs H Q E, sp' vs H Q E → sp vs H Q E) : FnOk P w K mg base CX k f fd ps sp' :=
  ⟨fun vs H Q E q => F.len vs H Q E (h _ _ _ _ q), fun A outer s H args us vs Q E hr he hb hv hs => F.run A outer s H args us vs Q E hr he hb hv (h _ _ _ _ hs)⟩

theorem Env0.make {P : Program} {w : World} {K : PySem.W.Frag} {mg : Str → Option Value} {base : Heap} {A : Around} {outer : List Env} {s : Shared} {H : Hp} (e : Env0 P w K mg base A outer s H) (C : Addr) (us : List Value) (kw : List (Str × Value)) :
    Env0 P w K mg base (A.under (.builtin "type.__call__" ⟨.ref C :: us, kw⟩)) outer s H := ⟨by first | exact e.frames | (simpa [Around.under, Code.envs, Code.isFrame, pushEnvs] using e.frames), e.mod, e.bs, e.bsz, e.funs, e.frf, e.hok, e.bare⟩
theorem Env0.in1 {P : Program} {w : World} {K : PySem.W.Frag} {mg : Str → Option Value} {base : Heap} {A : Around} {outer : List Env} {s : Shared} {H : Hp} (e : Env0 P w K mg base A outer s H) :
    Env0 P w K mg base A.in1 outer s H := ⟨e.frames, e.mod, e.bs, e.bsz, e.funs, e.frf, e.hok, e.bare⟩

section
variable {X : Cx} {pins : List (Addr × Obj)} {σ : St} {H : Hp} {s s' : Shared}
/-- from a body: what a callee wants -/
theorem Inv.env0 (I : Inv X pins σ H s) : Env0 X.prog X.w X.K X.mg X.base X.A X.stack s H :=
  ⟨I.ok.frames, I.ok.mod, I.bs, Nat.le_trans I.ok.bsz I.sz, I.stack, I.stkFree, I.hok, I.bare⟩
/-- behind a call -/
theorem Inv.after {Q : VK} {u : Value} (I : Inv X pins σ H s) (h : CE X.stack X.prog X.w H s Q u s') : EP X pins σ Q u s' := by
  obtain ⟨v, H', os, bare, un, hok, r, q⟩ := h
  obtain ⟨hh, g, d, t, os'⟩ := s'
  obtain rfl : os' = s.os := os
  exact ⟨v, H', I.call (h' := hh) (g' := g) (d' := d) (t' := t) (ch := []) un hok bare (fun b z => absurd z (by simp)), r, q⟩
end

/-! ### calls -/
/-- f(..): the written arguments, then the defaults dvs; E: what is wanted of an exception -/
def tCall (sp : Sp) (dvs : List V) (E : XK) (t : TA) : TE := fun σ H Q => t σ H fun vs H1 => sp (vs ++ dvs) H1 Q E
/-- o.m(..) of an instance of the class at C -/
def tMeth (C : Addr) (m : Str) (sp : Sp) (dvs : List V) (E : XK) (ta : TE) (t : TA) : TE := fun σ H Q => ta σ H fun x H1 => ∃ a dx fs, x = .ref a ∧ H1 a = some (.ins C dx fs) ∧ fs.lookup m = none ∧
  t σ H1 fun vs H2 => sp (x :: (vs ++ dvs)) H2 Q E
/-- C(..): a new instance and its dict, then __init__ -/
def tMake (C : Addr) (sp : Sp) (dvs : List V) (E : XK) (t : TA) : TE := fun σ H Q => t σ H fun vs H1 => ∀ x dx, H1 x = none → H1 dx = none → dx ≠ x →
  sp (.ref x :: (vs ++ dvs)) (upd (upd H1 dx (.own x)) x (.ins C dx [])) (fun v H2 => v = .non ∧ Q (.ref x) H2) E

/-- how the parameters are bound: us the positional arguments, kw the keywords' values by name, ds the defaults that fill up -/
def Binds (K : PySem.W.Frag) (fd : FuncData) (ps : List Str) (ds : List Value) : Prop :=
  ∀ (s : Shared) (us : List Value), K.In s.heap → (us ++ ds).length = ps.length → BindsTo s fd ⟨us, []⟩ (ps.zip (us ++ ds))
/-- every parameter is given -/
theorem Binds.all {K : PySem.W.Frag} {fd : FuncData} {ps : List Str} (h : ∀ us : List Value, us.length = ps.length → bindArgs fd ⟨us, []⟩ = pure (ps.zip us)) : Binds K fd ps [] := fun s us _ hl => by
  rw [List.append_nil] at hl ⊢
  exact .of_eq (h us hl)

/-- an exception of a callee reaches what this body wants of exceptions -/
def Passes (CX : CXT) (X : Cx) (E : XK) : Prop := ∀ (pins : List (Addr × Obj)) (σ : St) (H : Hp) (s : Shared) (e : Value) (s' : Shared), Inv X pins σ H s → CX X.stack H s E e s' → X.xe e s'

section
variable {X : Cx} {CX : CXT} {k : Nat} {f C : Addr} {fd : FuncData} {ps : List Str} {sp : Sp} {dvs : List V} {ds : List Value} {E : XK} {x m : Str} {p pos apos : Pos} {e o : Expr} {es : List Expr} {ta : TE} {t : TA}

/-- the callee runs -/
theorem run_fn {pins : List (Addr × Obj)} {σ : St} {H : Hp} {s : Shared} {Q : VK} {us : List Value} {vs : List V} (F : FnOk X.prog X.w X.K X.mg X.base CX k f fd ps sp) (hr : Room k X.A) (hb : Binds X.K fd ps ds) (hd : Vals dvs ds) (hx : Passes CX X E)
    (I : Inv X pins σ H s) (r : Vals vs us) (h : sp (vs ++ dvs) H Q E) : wpAny (model X.prog X.w) X.A (call (.ref f) us) (EP X pins σ Q) X.xe s := by
  have r2 : Vals (vs ++ dvs) (us ++ ds) := r.append hd
  have hl : (us ++ ds).length = ps.length := by rw [← r2.length]; exact F.len _ _ _ _ h
  refine wpAny_call (codeAny_mono (F.run X.A X.stack s H ⟨us, []⟩ (us ++ ds) (vs ++ dvs) Q E hr I.env0 (hb s us I.kIn hl) r2 h) fun r s' hq => ?_)
  cases r with
  | error e => exact hx pins σ H s e s' I hq
  | ok fl =>
    cases fl with
    | ret u => exact I.after hq
    | next => exact False.elim hq
    | brk => exact False.elim hq
    | cont => exact False.elim hq

theorem pe_call (F : FnOk X.prog X.w X.K X.mg X.base CX k f fd ps sp) (hr : Room k X.A) (hg : Gl X x) (hm : X.mg x = some (.ref f)) (hk : PySem.W.keepIn X.K (.ref f) = true) (hb : Binds X.K fd ps ds) (hd : Vals dvs ds) (hx : Passes CX X E)
    (ha : PA X (e :: es) t) (hdb : (x == ("__debug__" : Str)) = false := by decide) (he : starEach (e :: es) X.env = (false, eval e X.env) :: starEach es X.env := by rfl) (hpl : (backTo pos (starEach es X.env)).any (·.1) = false := by rfl) :
    PE X (.Call (.Name x p) (e :: es) [] pos) (tCall sp dvs E t) := by
  intro pins s σ H Q I h
  refine wpAny_Call_Name_kw (ld_glob I hg hm ?_ hdb)
  refine PySem.W.callWith_K (h₀ := X.base) I.ok.mod.kin hk (thn (ha pos pins s σ H _ I h) fun us s1 ⟨vs, H1, I1, r, q⟩ => ⟨I1.kIn, ?_⟩) he hpl
  exact run_fn F hr hb hd hx I1 r q
theorem pe_call0 (F : FnOk X.prog X.w X.K X.mg X.base CX k f fd ps sp) (hr : Room k X.A) (hg : Gl X x) (hm : X.mg x = some (.ref f)) (hk : PySem.W.keepIn X.K (.ref f) = true) (hb : Binds X.K fd ps ds) (hd : Vals dvs ds) (hx : Passes CX X E)
    (hdb : (x == ("__debug__" : Str)) = false := by decide) : PE X (.Call (.Name x p) [] [] pos) (tCall sp dvs E tNil) := by
  intro pins s σ H Q I h
  refine wpAny_Call_Name_kw (ld_glob I hg hm ?_ hdb)
  exact PySem.W.callWith_K0 I.kIn hk (run_fn (us := []) F hr hb hd hx I .nil h)

/-- o.m(e, ..) -/
theorem pe_meth {pl : Sem Bool} (he : PE X o ta) (c : Cls X.K C) (hm : Meth X.K C m f) (F : FnOk X.prog X.w X.K X.mg X.base CX k f fd ps sp) (hr : Room k X.A) (hb : Binds X.K fd ps ds) (hd : Vals dvs ds) (hx : Passes CX X E) (ha : PA X (e :: es) t)
    (hst : starEach (e :: es) X.env = (false, eval e X.env) :: starEach es X.env := by rfl) (hpl : (backTo pos (starEach es X.env)).any (·.1) = false := by rfl)
    (ht : eval (.Call (.Attribute o m apos) (e :: es) [] pos) X.env = (do
      let ov ← eval o X.env
      standAt apos.atName
      let (f, first) ← holding [ov] (getMethod ov m pl)
      callWith pos f first (backTo pos (starEach (e :: es) X.env)) (backToKw pos (keywordEach [] X.env))) := by rfl) :
    PE X (.Call (.Attribute o m apos) (e :: es) [] pos) (tMeth C m sp dvs E ta t) := by
  intro pins s σ H Q I h
  refine PySem.W.methodCall_KW (pl := pl) (thn (he pins s σ H _ I h) fun u s1 ⟨x, H1, I1, rx, a, dx, fs, ex, ea, l, q⟩ => ?_) ht
  subst ex
  obtain rfl : u = Value.ref a := rx
  refine getmeth_ok I1 ea c hm l ?_
  refine PySem.W.callWith_K (first := [.ref a]) (h₀ := X.base) I.ok.mod.kin hm.kp (thn (ha pos pins s1 σ H1 _ I1 q) fun us s2 ⟨vs, H2, I2, r, q2⟩ => ⟨I2.kIn, ?_⟩) hst hpl
  exact run_fn (us := .ref a :: us) (vs := .ref a :: vs) F hr hb hd hx I2 (.cons rfl r) q2
/-- o.m() -/
theorem pe_meth0 {pl : Sem Bool} (he : PE X o ta) (c : Cls X.K C) (hm : Meth X.K C m f) (F : FnOk X.prog X.w X.K X.mg X.base CX k f fd ps sp) (hr : Room k X.A) (hb : Binds X.K fd ps ds) (hd : Vals dvs ds) (hx : Passes CX X E)
    (ht : eval (.Call (.Attribute o m apos) [] [] pos) X.env = (do
      let ov ← eval o X.env
      standAt apos.atName
      let (f, first) ← holding [ov] (getMethod ov m pl)
      callWith pos f first (backTo pos (starEach [] X.env)) (backToKw pos (keywordEach [] X.env))) := by rfl) :
    PE X (.Call (.Attribute o m apos) [] [] pos) (tMeth C m sp dvs E ta tNil) := by
  intro pins s σ H Q I h
  refine PySem.W.methodCall_KW (pl := pl) (thn (he pins s σ H _ I h) fun u s1 ⟨x, H1, I1, rx, a, dx, fs, ex, ea, l, q⟩ => ?_) ht
  subst ex
  obtain rfl : u = Value.ref a := rx
  refine getmeth_ok I1 ea c hm l ?_
  exact PySem.W.callWith_K0 (first := [.ref a]) I1.kIn hm.kp (run_fn (us := [.ref a]) (vs := [.ref a]) F hr hb hd hx I1 (.cons rfl .nil) q)

/-- what a class must have to be made -/
structure Mk (K : PySem.W.Frag) (C f : Addr) : Prop where
  makes : PySem.W.makesIn K C = true
  init : PySem.W.findIn K (.ref C) "__init__" = some (some (.ref f))
  fn : PySem.W.isFn K (.ref f) = true
  kp : PySem.W.keepIn K (.ref C) = true

theorem run_make {pins : List (Addr × Obj)} {σ : St} {H : Hp} {s : Shared} {Q : VK} {us : List Value} {vs : List V} (M : Mk X.K C f) (F : FnOk X.prog X.w X.K X.mg X.base CX k f fd ps sp) (hr : Room (k + 1) X.A) (hb : Binds X.K fd ps ds) (hd : Vals dvs ds)
    (hx : Passes CX X E) (I : Inv X pins σ H s) (r : Vals vs us)
    (h : ∀ x dx, H x = none → H dx = none → dx ≠ x → sp (.ref x :: (vs ++ dvs)) (upd (upd H dx (.own x)) x (.ins C dx [])) (fun v H2 => v = .non ∧ Q (.ref x) H2) E) :
    wpAny (model X.prog X.w) X.A (call (.ref C) us) (EP X pins σ Q) X.xe s := by
  have hq := h (s.heap.objs.size + 1) s.heap.objs.size (I.hok.fresh (Nat.le_succ _)) (I.hok.fresh (Nat.le_refl _)) (Nat.ne_of_lt (Nat.lt_succ_self _))
  have I2 := Inv.made (C := C) I
  have r2 : Vals (V.ref (s.heap.objs.size + 1) :: (vs ++ dvs)) (Value.ref (s.heap.objs.size + 1) :: (us ++ ds)) := .cons rfl (r.append hd)
  have hl : (Value.ref (s.heap.objs.size + 1) :: us ++ ds).length = ps.length := by
    have e := r2.length
    rw [F.len _ _ _ _ hq] at e
    exact e.symm
  refine wpAny_call (make_map (f := f) I.kIn M.makes M.init (beq_iff_eq.mp M.fn) (codeAny_mono (F.run _ X.stack _ _ ⟨Value.ref (s.heap.objs.size + 1) :: us, []⟩ (Value.ref (s.heap.objs.size + 1) :: (us ++ ds)) _ _ E (hr.make C us [])
    (I2.env0.make C us []) (hb _ (Value.ref (s.heap.objs.size + 1) :: us) I2.kIn hl) r2 hq) fun r s' hq' => ?_))
  cases r with
  | error e => exact hx pins σ _ _ e s' I2 hq'
  | ok fl =>
    cases fl with
    | ret u =>
      obtain ⟨v, H', I3, rv, ev, q3⟩ := I2.after hq'
      subst ev
      exact ⟨rv, ⟨V.ref (s.heap.objs.size + 1), H', I3, rfl, q3⟩⟩
    | next => exact False.elim hq'
    | brk => exact False.elim hq'
    | cont => exact False.elim hq'
theorem pe_make (M : Mk X.K C f) (F : FnOk X.prog X.w X.K X.mg X.base CX k f fd ps sp) (hr : Room (k + 1) X.A) (hg : Gl X x) (hm : X.mg x = some (.ref C)) (hb : Binds X.K fd ps ds) (hd : Vals dvs ds) (hx : Passes CX X E)
    (ha : PA X (e :: es) t) (hdb : (x == ("__debug__" : Str)) = false := by decide) (he : starEach (e :: es) X.env = (false, eval e X.env) :: starEach es X.env := by rfl) (hpl : (backTo pos (starEach es X.env)).any (·.1) = false := by rfl) :
    PE X (.Call (.Name x p) (e :: es) [] pos) (tMake C sp dvs E t) := by
  intro pins s σ H Q I h
  refine wpAny_Call_Name_kw (ld_glob I hg hm ?_ hdb)
  refine PySem.W.callWith_K (h₀ := X.base) I.ok.mod.kin M.kp (thn (ha pos pins s σ H _ I h) fun us s1 ⟨vs, H1, I1, r, q⟩ => ⟨I1.kIn, ?_⟩) he hpl
  exact run_make M F hr hb hd hx I1 r q
theorem pe_make0 (M : Mk X.K C f) (F : FnOk X.prog X.w X.K X.mg X.base CX k f fd ps sp) (hr : Room (k + 1) X.A) (hg : Gl X x) (hm : X.mg x = some (.ref C)) (hb : Binds X.K fd ps ds) (hd : Vals dvs ds) (hx : Passes CX X E)
    (hdb : (x == ("__debug__" : Str)) = false := by decide) : PE X (.Call (.Name x p) [] [] pos) (tMake C sp dvs E tNil) := by
  intro pins s σ H Q I h
  refine wpAny_Call_Name_kw (ld_glob I hg hm ?_ hdb)
  exact PySem.W.callWith_K0 I.kIn M.kp (run_make (us := []) M F hr hb hd hx I .nil h)
end

/-! ### keywords -/
/-- the values of the keywords, from the left -/
def PK (X : Cx) (kws : List Keyword) (t : TA) : Prop :=
  ∀ (pos : Pos) (pins : List (Addr × Obj)) (s : Shared) (σ : St) (H : Hp) (Q : List V → Hp → Prop), Inv X pins σ H s → t σ H Q → wpAny (model X.prog X.w) X.A (evalAll ((backToKw pos (keywordEach kws X.env)).map (·.2))) (AP X pins σ Q) X.xe s
section
variable {X : Cx} {CX : CXT} {k : Nat} {f C : Addr} {fd : FuncData} {ps ks : List Str} {sp : Sp} {E : XK} {x m : Str} {p pos apos kpos : Pos} {e o : Expr} {es : List Expr} {kws : List Keyword} {te ta : TE} {t tk : TA} {nm : Option Str}
theorem pk_nil : PK X [] tNil := fun _ _ _ _ H Q I h => wpAny_evalAll_nil ⟨[], H, I, .nil, h⟩
theorem pk_cons (ha : PE X e te) (hr : PK X kws t) : PK X (⟨nm, e, kpos⟩ :: kws) (tCons te t) := by
  intro pos pins s σ H Q I h
  show wpAny _ _ (evalAll ((do let v ← eval e X.env; standAt pos; pure v) :: (backToKw pos (keywordEach kws X.env)).map (·.2))) _ _ s
  refine wpAny_evalAll_cons (wpAny_bind (thn (ha pins s σ H _ I h) fun u s1 ⟨x, H1, I1, r1, q1⟩ => wpAny_bind (wpAny_standAt (wpAny_pure ?_))))
  exact thn (hr pos pins s1 σ H1 _ I1 q1) fun us s2 ⟨xs, H2, I2, r2, q2⟩ => ⟨x :: xs, H2, I2, .cons r1 r2, q2⟩

/-- how a call with keywords binds: g puts the positional values us and the keywords' values ws (names ks) in the parameters' order, defaults among them -/
structure KBinds (K : PySem.W.Frag) (fd : FuncData) (ps ks : List Str) (g : List Value → List Value → List Value) (gV : List V → List V → List V) : Prop where
  to : ∀ (s : Shared) (us ws : List Value), K.In s.heap → (g us ws).length = ps.length → BindsTo s fd ⟨us, ks.zip ws⟩ (ps.zip (g us ws))
  rel : ∀ {vs : List V} {us : List Value} {zs : List V} {ws : List Value}, Vals vs us → Vals zs ws → Vals (gV vs zs) (g us ws)
def tCallK (sp : Sp) (gV : List V → List V → List V) (E : XK) (t tk : TA) : TE := fun σ H Q => t σ H fun vs H1 => tk σ H1 fun zs H2 => sp (gV vs zs) H2 Q E
variable {g : List Value → List Value → List Value} {gV : List V → List V → List V}
theorem run_fnk {pins : List (Addr × Obj)} {σ : St} {H : Hp} {s : Shared} {Q : VK} {us ws : List Value} {vs zs : List V} (F : FnOk X.prog X.w X.K X.mg X.base CX k f fd ps sp) (hr : Room k X.A) (hb : KBinds X.K fd ps ks g gV) (hx : Passes CX X E)
    (I : Inv X pins σ H s) (r : Vals vs us) (rz : Vals zs ws) (h : sp (gV vs zs) H Q E) : wpAny (model X.prog X.w) X.A (call (.ref f) us (ks.zip ws)) (EP X pins σ Q) X.xe s := by
  have r2 := hb.rel r rz
  have hl : (g us ws).length = ps.length := by rw [← r2.length]; exact F.len _ _ _ _ h
  refine wpAny_call (codeAny_mono (F.run X.A X.stack s H ⟨us, ks.zip ws⟩ (g us ws) (gV vs zs) Q E hr I.env0 (hb.to s us ws I.kIn hl) r2 h) fun r s' hq => ?_)
  cases r with
  | error e => exact hx pins σ H s e s' I hq
  | ok fl =>
    cases fl with
    | ret u => exact I.after hq
    | next => exact False.elim hq
    | brk => exact False.elim hq
    | cont => exact False.elim hq
/-- f(e, .., k = v, ..) -/
theorem pe_callK (F : FnOk X.prog X.w X.K X.mg X.base CX k f fd ps sp) (hr : Room k X.A) (hg : Gl X x) (hm : X.mg x = some (.ref f)) (hk : PySem.W.keepIn X.K (.ref f) = true) (hb : KBinds X.K fd ps ks g gV) (hx : Passes CX X E)
    (ha : PA X (e :: es) t) (hkw : PK X kws tk) (hall : (backToKw pos (keywordEach kws X.env)).all (·.1.isSome) = true := by rfl) (hks : (backToKw pos (keywordEach kws X.env)).filterMap (·.1) = ks := by rfl)
    (hdb : (x == ("__debug__" : Str)) = false := by decide) (he : starEach (e :: es) X.env = (false, eval e X.env) :: starEach es X.env := by rfl)
    (hpl : ((backTo pos (starEach (e :: es) X.env)).any (·.1) || (backToKw pos (keywordEach kws X.env)).any (·.1.isNone)) = false := by rfl) :
    PE X (.Call (.Name x p) (e :: es) kws pos) (tCallK sp gV E t tk) := by
  intro pins s σ H Q I h
  refine wpAny_Call_Name_kw (ld_glob I hg hm ?_ hdb)
  refine PySem.W.callWith_KW (h₀ := X.base) I.ok.mod.kin hk hall (thn (ha pos pins s σ H _ I h) fun us s1 ⟨vs, H1, I1, r, q⟩ => ?_) hpl he
  refine thn (hkw pos pins s1 σ H1 _ I1 q) fun ws s2 ⟨zs, H2, I2, rz, q2⟩ => ⟨I2.kIn, ?_⟩
  rw [hks]
  exact run_fnk F hr hb hx I2 r rz q2
end

/-! ### a def's body keeps its promise -/
/-- names: the parameters first -/
structure FnScope (N P : List Str) (sc : Scope) : Prop where
  kind : sc.kind = .function
  co : sc.isCoroutine = false
  gen : sc.isGenerator = false
  nd : N.Nodup
  pre : N.take P.length = P
  par : ∀ x ∈ P, sc.names.lookup x = some .local ∨ sc.names.lookup x = some .cell
  nofree : ∀ y ∈ sc.names, y.2 ≠ .free

theorem bindL_out {kindOf : Str → Option NameKind} {x : Str} : ∀ {binds : List (Str × Value)} {m : Str → Option Value}, (∀ v, (x, v) ∉ binds) → bindL kindOf binds m x = m x
  | [], _, _ => rfl
  | (n, v) :: r, m, h => by
    unfold bindL
    rw [bindL_out fun w hw => h w (List.mem_cons_of_mem _ hw)]
    split
    · have : x ≠ n := by rintro rfl; exact h v List.mem_cons_self
      simp [this]
    · rfl
theorem bindC_out {kindOf : Str → Option NameKind} {x : Str} : ∀ {binds : List (Str × Value)} {m : Str → Option Value}, (∀ v, (x, v) ∉ binds) → bindC kindOf binds m x = m x
  | [], _, _ => rfl
  | (n, v) :: r, m, h => by
    unfold bindC
    rw [bindC_out fun w hw => h w (List.mem_cons_of_mem _ hw)]
    split
    · rfl
    · have : x ≠ n := by rintro rfl; exact h v List.mem_cons_self
      simp [this]
theorem bindL_get {kindOf : Str → Option NameKind} {x : Str} {v : Value} : ∀ {P : List Str} {vs : List Value} {i : Nat} {m : Str → Option Value}, P.Nodup → P[i]? = some x → vs[i]? = some v → kindOf x = some .local →
    bindL kindOf (P.zip vs) m x = some v
  | [], _, _, _, _, h, _, _ => by simp at h
  | _ :: _, [], _, _, _, _, h, _ => by simp at h
  | p :: P, w :: vs, 0, m, nd, h1, h2, hk => by
    simp at h1 h2; subst h1; subst h2
    show bindL kindOf ((p, w) :: P.zip vs) m p = _
    unfold bindL
    rw [bindL_out fun v hv => (List.nodup_cons.mp nd).1 (List.of_mem_zip hv).1, if_pos hk]
    simp
  | p :: P, w :: vs, i + 1, m, nd, h1, h2, hk => by
    show bindL kindOf ((p, w) :: P.zip vs) m x = _
    unfold bindL
    exact bindL_get (i := i) (List.nodup_cons.mp nd).2 (by simpa using h1) (by simpa using h2) hk
theorem bindC_get {kindOf : Str → Option NameKind} {x : Str} {v : Value} : ∀ {P : List Str} {vs : List Value} {i : Nat} {m : Str → Option Value}, P.Nodup → P[i]? = some x → vs[i]? = some v → kindOf x ≠ some .local →
    bindC kindOf (P.zip vs) m x = some v
  | [], _, _, _, _, h, _, _ => by simp at h
  | _ :: _, [], _, _, _, _, h, _ => by simp at h
  | p :: P, w :: vs, 0, m, nd, h1, h2, hk => by
    simp at h1 h2; subst h1; subst h2
    show bindC kindOf ((p, w) :: P.zip vs) m p = _
    unfold bindC
    rw [bindC_out fun v hv => (List.nodup_cons.mp nd).1 (List.of_mem_zip hv).1, if_neg hk]
    simp
  | p :: P, w :: vs, i + 1, m, nd, h1, h2, hk => by
    show bindC kindOf ((p, w) :: P.zip vs) m x = _
    unfold bindC
    exact bindC_get (i := i) (List.nodup_cons.mp nd).2 (by simpa using h1) (by simpa using h2) hk

/-- the names' values at the entry -/
def start (N : List Str) (vs : List V) : St := vs.map some ++ List.replicate (N.length - vs.length) none

/-- the context of a def's body, at its entry; an exception leaves the frame, then lies as CX says -/
def cxOf (CX : CXT) (P : Program) (w : World) (K : PySem.W.Frag) (mg : Str → Option Value) (base : Heap) (N : List Str) (qual : Str) (scope : Scope) (f : Addr) (cd : Value) (A : Around) (outer : List Env) (s : Shared) (H : Hp) (E : XK) : Cx where
  prog := P
  w := w
  K := K
  mg := mg
  base := base
  A := A.deeper (envOfC qual scope s.heap.objs.size f cd)
  N := N
  s₀ := s
  H₀ := H
  env := envOfC qual scope s.heap.objs.size f cd
  outer := outer
  stack := envOfC qual scope s.heap.objs.size f cd :: outer
  ex := []
  calm := true
  fn := fun _ => true
  pn := []
  xe := fun e s' => wpAny (model P w) (A.deeper (envOfC qual scope s.heap.objs.size f cd)) (leaving (envOfC qual scope s.heap.objs.size f cd) e) (fun _ s'' => CX outer H s E e s'') (fun e' s'' => CX outer H s E e' s'') s'

theorem cell_has {sc : Scope} {n : Nat} {x : Str} (h : sc.names.lookup x = some .cell) : ∃ c, (cellsFrom n sc.names []).lookup x = some c := by
  have q := PySem.W.cellsFrom_some sc.names n [] (.inl h)
  exact Option.isSome_iff_exists.mp q

theorem inv_start {CX : CXT} {P : Program} {w : World} {K : PySem.W.Frag} {mg : Str → Option Value} {base : Heap} {N ps : List Str} {qual : Str} {scope : Scope} {f : Addr} {cd : Value} {A : Around} {outer : List Env} {s s1 : Shared} {H : Hp} {E : XK} {us : List Value} {vs : List V}
    (S : FnScope N ps scope) (hd : A.handled = none) (e0 : Env0 P w K mg base A outer s H) (hl : vs.length = ps.length) (r : Vals vs us)
    (x : InCallC s s.heap.objs.size (bindL (envOfC qual scope s.heap.objs.size f cd).kindOf (ps.zip us) fun _ => none) (cellsFrom (s.heap.objs.size + 1) scope.names []) (bindC (envOfC qual scope s.heap.objs.size f cd).kindOf (ps.zip us) fun _ => none) s1) :
    Inv (cxOf CX P w K mg base N qual scope f cd A outer s H E) [] (start N vs) H s1 := by
  have hpl : ps.length ≤ N.length := by have := congrArg List.length S.pre; rw [List.length_take] at this; omega
  obtain ⟨h1, tk, rfl, hk⟩ := x.done
  have noA : ∀ b : Addr, b ∉ (cxOf CX P w K mg base N qual scope f cd A outer s H E).ex := fun b z => absurd (show b ∈ ([] : List Addr) from z) (by simp)
  refine ⟨⟨e0.mod, S.kind, rfl, rfl, Nat.le_refl _, fun y z c h1 h2 => ?_, fun y hy => ?_, fun y c _ h => ?_, fun _ => hd, Around.frames_deeper e0.frames, .inr ⟨rfl, rfl⟩, fun b z => absurd z (noA b), e0.bs, e0.bsz, fun b _ _ => noA b, fun b z => absurd z (noA b), e0.funs, e0.frf⟩,
    rfl, e0.bare, Un.kept hk, ⟨_, x.toInCall.ns, fun i y v h1 h2 h3 => ?_⟩, fun y c h => ⟨_, x.cell y c h⟩, e0.hok.fresh (Nat.le_refl _), fun y c h => ?_, fun p hp => absurd (show p ∈ ([] : List (Addr × Obj)) from hp) (by simp), e0.hok.kept hk, ?_⟩
  · exact name_of_addr x.apart (PySem.mem_of_lookup h1) (PySem.mem_of_lookup h2)
  · have hy : scope.names.lookup y = some .cell ∨ scope.names.lookup y = some .free := hy
    rcases hy with hy | hy
    · exact cell_has hy
    · exact absurd rfl (S.nofree _ (PySem.mem_of_lookup hy))
  · exact Nat.le_of_lt (x.above y c (PySem.mem_of_lookup h))
  · have hi : i < vs.length := by
      unfold start at h2
      by_cases hi : i < vs.length
      · exact hi
      · rw [List.getElem?_append_right (by simpa using hi)] at h2
        rw [List.getElem?_replicate] at h2
        split at h2 <;> cases h2
    have ha : vs[i]? = some v := by
      unfold start at h2
      rw [List.getElem?_append_left (by simpa using hi), List.getElem?_map] at h2
      cases e : vs[i]? with
      | none => rw [e] at h2; cases h2
      | some a => rw [e] at h2; cases h2; rfl
    obtain ⟨u, hu, rv⟩ := r.get ha
    have hp : ps[i]? = some y := by
      rw [← S.pre, List.getElem?_take_of_lt (by omega)]; exact h1
    have ndP : ps.Nodup := by rw [← S.pre]; exact S.nd.sublist (List.take_sublist _ _)
    refine ⟨u, rv, ?_⟩
    rcases S.par y (List.mem_of_getElem? hp) with k | k
    · exact .inl ⟨k, bindL_get ndP hp hu k⟩
    · obtain ⟨c, e⟩ := cell_has (n := s.heap.objs.size + 1) k
      refine .inr ⟨.inl k, c, e, ?_⟩
      have q := x.cell y c e
      rw [bindC_get ndP hp hu (by show scope.names.lookup y ≠ _; rw [k]; decide)] at q
      exact q
  · exact e0.hok.fresh (Nat.le_of_lt (x.above y c (PySem.mem_of_lookup h)))
  · unfold start
    show _ = N.length
    rw [List.length_append, List.length_map, List.length_replicate]
    omega

/-- THE RULE: a def (or a method) of the text, by its body. The body's reading t is chosen for each entry; it is run at the parameters' values -/
theorem fn_of {CX : CXT} {P : Program} {w : World} {K : PySem.W.Frag} {mg : Str → Option Value} {base : Heap} {k : Nat} {f : Addr} {name qual : Str} {params : Arguments} {body : List Stmt} {scope : Scope} {dV kV doc pm cdv ct oc : Value} {an od : Option Addr}
    {osl : Array (Option Value)} {N ps : List Str} {sp : Sp} (lk : K.lookup f = some ⟨oc, od, .func (PySem.W.fnOf name qual params body scope dV kV doc pm an cdv ct), osl⟩) (hcd : PySem.W.codeIn K cdv qual = true) (S : FnScope N ps scope)
    (len : ∀ vs H Q E, sp vs H Q E → vs.length = ps.length)
    (hbody : ∀ (A : Around) (outer : List Env) (s : Shared) (H : Hp) (vs : List V) (Q : VK) (E : XK), Room k (A.deeper (envOfC qual scope s.heap.objs.size f cdv)) → sp vs H Q E →
      ∃ t, PSs (cxOf CX P w K mg base N qual scope f cdv A outer s H E) body t ∧ t { nx := fun _ H' => Q .non H', rt := Q } (start N vs) H) :
    FnOk P w K mg base CX (k + 1) f (PySem.W.fnOf name qual params body scope dV kV doc pm an cdv ct) ps sp := by
  refine ⟨len, fun A outer s H args us vs Q E hr e0 hb r hsp => ?_⟩
  have hl := len _ _ _ _ hsp
  have KX : K.In s.heap := e0.mod.kin.keeps fun b o e => (e0.bs b o e).1
  have lim : s.heap.NoLimit := e0.mod.nolimit.keeps fun b o e => (e0.bs b o e).1
  have hkind : ∀ y ∈ ps.zip us, scope.names.lookup y.1 = some .local ∨ (scope.names.lookup y.1 = some .cell ∧ ((cellsFrom (s.heap.objs.size + 1) scope.names []).lookup y.1).isSome = true) := fun ⟨n, v⟩ hy => by
    rcases S.par n (List.of_mem_zip hy).1 with q | q
    · exact .inl q
    · exact .inr ⟨q, PySem.W.cellsFrom_some _ _ _ (.inl q)⟩
  refine codeAny_call_function hr.depth (KX _ _ lk) rfl S.co S.gen rfl (PySem.W.codeRec_of KX hcd) (hb _ _ _ _ ?_)
  refine wpAny_newFunctionEnv_cells S.kind hkind fun env he s1 x => ?_
  subst he
  refine ⟨lim.keeps x.toInCall.keep, codeAny_func ?_⟩
  obtain ⟨t, ht, hq⟩ := hbody A outer s H vs Q E (hr.deeper _) hsp
  have I : Inv (cxOf CX P w K mg base N qual scope f cdv A outer s H E) [] (start N vs) H s1 := inv_start S hr.hd e0 hl r x
  refine wpAny_mono (ht [] s1 (start N vs) H _ I hq) (fun fl s' hs => ?_) fun e s' hs => hs
  have fin : ∀ {σ' : St} {H' : Hp} {v : V} {u : Value}, Inv (cxOf CX P w K mg base N qual scope f cdv A outer s H E) [] σ' H' s' → RelV v u → Q v H' → CE outer P w H s Q u s' :=
    fun {σ' H' v u} J rv q => ⟨v, H', J.os, J.bare, J.base, J.hok, rv, q⟩
  cases fl with
  | ret u =>
    obtain ⟨v, σ', H', J, rv, q⟩ := hs
    exact fin J rv q
  | next =>
    obtain ⟨σ', H', J, q⟩ := hs
    exact fin (v := V.non) (u := Value.none) J rfl q
  | brk =>
    obtain ⟨_, _, _, q⟩ := hs
    exact False.elim q
  | cont =>
    obtain ⟨_, _, _, q⟩ := hs
    exact False.elim q
end L2

namespace L2
open PySem PySem.Spec PyProof.Rows
section
variable {X : Cx} {x : Str} {p pos : Pos} {e : Expr} {es : List Expr} {t : TA} {id T : String} {r : List V → Hp → VK → Prop}

def tCB (r : List V → Hp → VK → Prop) (t : TA) : TE := fun σ H Q => t σ H fun vs H1 => r vs H1 Q
/-- f(e, ..), f a built-in function -/
theorem pe_callB (hc : CallR X (.builtin id) r) (hg : Gl X x) (hm : X.mg x = none) (hv : bootBuiltins x = some (.builtin id)) (ha : PA X (e :: es) t) (hn : x ≠ "__name__" := by decide) (hdb : (x == ("__debug__" : Str)) = false := by decide)
    (he : starEach (e :: es) X.env = (false, eval e X.env) :: starEach es X.env := by rfl) (hpl : (backTo pos (starEach es X.env)).any (·.1) = false := by rfl) : PE X (.Call (.Name x p) (e :: es) [] pos) (tCB r t) := by
  intro pins s σ H Q I h
  refine wpAny_Call_Name_kw (ld_blt I hg hm hv ?_ hn hdb)
  exact PyProof.Rows.callWith_builtin1 (thn (ha pos pins s σ H _ I h) fun us s1 ⟨vs, H1, I1, r1, q1⟩ => hc pins s1 σ H1 vs us Q I1 r1 q1) he hpl
/-- T(e, ..), T a built-in type -/
theorem pe_callTy (hc : CallR X (.type T) r) (hg : Gl X x) (hm : X.mg x = none) (hv : bootBuiltins x = some (.type T)) (ha : PA X (e :: es) t) (hn : x ≠ "__name__" := by decide) (hdb : (x == ("__debug__" : Str)) = false := by decide)
    (he : starEach (e :: es) X.env = (false, eval e X.env) :: starEach es X.env := by rfl) (hpl : (backTo pos (starEach es X.env)).any (·.1) = false := by rfl) : PE X (.Call (.Name x p) (e :: es) [] pos) (tCB r t) := by
  intro pins s σ H Q I h
  refine wpAny_Call_Name_kw (ld_blt I hg hm hv ?_ hn hdb)
  exact PyProof.Rows.callWith_type1 (thn (ha pos pins s σ H _ I h) fun us s1 ⟨vs, H1, I1, r1, q1⟩ => hc pins s1 σ H1 vs us Q I1 r1 q1) he hpl
/-- T() -/
theorem pe_callTy0 (hc : CallR X (.type T) r) (hg : Gl X x) (hm : X.mg x = none) (hv : bootBuiltins x = some (.type T)) (hn : x ≠ "__name__" := by decide) (hdb : (x == ("__debug__" : Str)) = false := by decide) :
    PE X (.Call (.Name x p) [] [] pos) (tCB r tNil) := by
  intro pins s σ H Q I h
  refine wpAny_Call_Name_kw (ld_blt I hg hm hv ?_ hn hdb)
  exact PyProof.Rows.callWith_type0 (hc pins s σ H [] [] Q I .nil h)
end
end L2

namespace HT
open PySem PyProof.Rows

/-- t < u of tuples of ints -/
def lexLt : List Int → List Int → Bool
  | [], [] => false
  | [], _ :: _ => true
  | _ :: _, [] => false
  | x :: xs, y :: ys => if x = y then lexLt xs ys else decide (x < y)
theorem lexLt_cons (x y : Int) (xs ys : List Int) : lexLt (x :: xs) (y :: ys) = if x = y then lexLt xs ys else decide (x < y) := rfl
theorem lexLt_nil_nil : lexLt [] [] = false := rfl
theorem lexLt_nil_cons (y : Int) (ys : List Int) : lexLt [] (y :: ys) = true := rfl
theorem lexLt_cons_nil (x : Int) (xs : List Int) : lexLt (x :: xs) [] = false := rfl

theorem eqAt_int (A : Around) (s : Shared) (a : Int) (t : Tok) (c : Int) (u : Tok) : ∃ e, SeqAt.EqAt A s (.int a t) (.int c u) e ∧ (e = true ↔ a = c) :=
  ⟨(a == c), SeqAt.EqAt.int_int a t c u, by simp⟩
theorem rcLt_int (A : Around) (s : Shared) (a : Int) (t : Tok) (c : Int) (u : Tok) (prog : Program) (w : World) (E : Value → Shared → Prop) (Q : Value → Shared → Prop) (h : Q (.bool (decide (a < c))) s) :
    wpAny (model prog w) A (richCompare .Lt (.int a t) (.int c u)) Q E s :=
  (PyProof.Rows.lt_int h : wpAny (model prog w) A (compareOp .Lt (.int a t) (.int c u)) Q E s)

section
open PySem.SeqAt
open PySem.AutoSeq1 (wpAny_loadPart')
open PySem.MeetsSeq PySem.MeetsSeq2 PySem.MeetsSeq3

theorem tuple_lt_ints (l b : Addr) (items items2 : Array Value) (n n2 : Nat) (dd dd2 : Option Addr) (sl sl2 : Array (Option Value)) (ns ms : List Int) (hi : IntsAre items.toList ns) (hj : IntsAre items2.toList ms) :
    Meets (Builtin.«tuple.__lt__» ⟨[.ref l, .ref b], []⟩)
      (fun _ R s => s.heap.get? l = some { cls := .type "tuple", dict := dd, data := .seq items n, slots := sl } ∧ s.heap.get? b = some { cls := .type "tuple", dict := dd2, data := .seq items2 n2, slots := sl2 } ∧
        R (.ok (.ret (.bool (lexLt ns ms)))) s) :=
  .of_wp fun prog w A R s h => by
    obtain ⟨hp, g, d, tk, os⟩ := s; obtain ⟨hl, hb, h⟩ := h
    have f2 := AutoSeq1.sub_tuple_tuple
    have z1 : items.size = ns.length := by rw [← hi.length]; simp
    have z2 : items2.size = ms.length := by rw [← hj.length]; simp
    wp_walk using wpAny_loadPart' hl, wpAny_loadPart' hb, wpAny_forIn_list _ (fun rest b s' => b.1 = none ∧ s' = ⟨hp, g, d, tk, os⟩ ∧ ∃ (vs ws : List Value) (ns' ms' : List Int), rest = vs.zip ws ∧
      IntsAre vs ns' ∧ IntsAre ws ms' ∧ ns'.length + items2.size = ms'.length + items.size ∧ R (.ok (.ret (.bool (lexLt ns' ms')))) ⟨hp, g, d, tk, os⟩) _
    case turn =>
      rintro ⟨y, x⟩ rest b s' ⟨hb', rfl, vs, ws, ns', ms', hz, hvi, hwi, hlen, hR⟩
      cases hvi with
      | nil => rw [List.zip_nil_left] at hz; cases hz
      | cons a t hvi' =>
        cases hwi with
        | nil => rw [List.zip_nil_right] at hz; cases hz
        | cons c u hwi' =>
          rw [List.zip_cons_cons] at hz
          injection hz with hyx hrest
          injection hyx with hy hx
          subst hy hx
          rw [lexLt_cons] at hR
          simp only [List.length_cons] at hlen
          obtain ⟨e, he, hiff⟩ := eqAt_int A.in1 ⟨hp, g, d, tk, os⟩ a t c u
          refine wpAny_bind (he prog w _ _ ?_)
          cases e with
          | true =>
            rw [if_pos (hiff.mp rfl)] at hR
            wp_walk
            exact ⟨rfl, rfl, _, _, _, _, hrest, hvi', hwi', by omega, hR⟩
          | false =>
            rw [if_neg (fun q => absurd (hiff.mpr q) Bool.false_ne_true)] at hR
            have hri := rcLt_int A.in1 ⟨hp, g, d, tk, os⟩ a t c u prog w
            wp_walk using hri
            exact ⟨_, rfl, by simpa using hR⟩
    case fin =>
      rintro ⟨b1, b2⟩ s' ⟨hb', rfl, vs, ws, ns', ms', hz, hvi, hwi, hlen, hR⟩
      simp only at hb'
      subst hb'
      have hv : lexLt ns' ms' = decide (items.size < items2.size) := by
        cases hvi with
        | nil =>
          cases hwi with
          | nil =>
            simp only [List.length_nil] at hlen
            rw [lexLt_nil_nil]
            exact (decide_eq_false (by omega)).symm
          | cons c u hw =>
            simp only [List.length_nil, List.length_cons] at hlen
            rw [lexLt_nil_cons]
            exact (decide_eq_true (by omega)).symm
        | cons a t hv =>
          cases hwi with
          | nil =>
            simp only [List.length_nil, List.length_cons] at hlen
            rw [lexLt_cons_nil]
            exact (decide_eq_false (by omega)).symm
          | cons c u hw =>
            rw [List.zip_cons_cons] at hz
            cases hz
      rw [hv] at hR
      wp_walk
      exact ⟨_, rfl, by simpa [Builtin.Tuple.tupleCompareSizes] using hR⟩
    case h =>
      exact ⟨rfl, rfl, items.toList, items2.toList, ns, ms, rfl, hi, hj, by omega, h⟩
end

section
variable {prog : Program} {w : World} {A : Around} {E : Value → Shared → Prop} {s : Shared}

theorem lt_tupInts {l b : Addr} {items items2 : Array Value} {ns ms : List Int} {Q : Value → Shared → Prop} (hl : IsTup s.heap l items) (hb : IsTup s.heap b items2) (hi : IntsAre items.toList ns) (hj : IntsAre items2.toList ms)
    (hu : A.units < cLine) (h : Q (.bool (lexLt ns ms)) s) : wpAny (model prog w) A (compareOp .Lt (.ref l) (.ref b)) Q E s := by
  obtain ⟨⟨cls, dd, data, sl⟩, ho, hc, n, hd⟩ := id hl
  obtain ⟨⟨cls2, dd2, data2, sl2⟩, ho2, hc2, n2, hd2⟩ := id hb
  simp only at hc hd hc2 hd2
  subst hc hd hc2 hd2
  exact richCompare_meets_room (op := .Lt) ⟨_, ho, rfl⟩ ⟨_, ho2, rfl⟩ PySem.F.slot_tuple_lt PySem.F.entry_tuple_lt (PySem.F.args_tuple_lt_2 _ _) (tuple_lt_ints l b items items2 n n2 dd dd2 sl sl2 ns ms hi hj)
    ⟨ho, ho2, show Value.bool (lexLt ns ms) ≠ Value.notImplemented ∧ Q (.bool (lexLt ns ms)) s from ⟨(fun x => nomatch x), h⟩⟩ hu

/-- t + u, t not empty -/
theorem cat_tup {t b : Addr} {vs ws : List Value} {Q : Value → Shared → Prop} (ht : IsTup s.heap t vs.toArray) (hb : IsTup s.heap b ws.toArray) (hv : vs ≠ [])
    (h1 : ws = [] → Q (.ref t) s) (h2 : ws ≠ [] → Q (.ref s.heap.objs.size) { s with heap := s.heap.push { cls := .type "tuple", data := .seq (vs ++ ws).toArray } })
    (hsz : vs.length + ws.length ≤ sizeLine) : wpAny (model prog w) A (binaryOp .Add (.ref t) (.ref b)) Q E s := by
  obtain ⟨⟨cls, dd, data, sl⟩, ho, hc, n, hd⟩ := id ht
  obtain ⟨⟨cls2, dd2, data2, sl2⟩, ho2, hc2, n2, hd2⟩ := id hb
  simp only at hc hd hc2 hd2
  subst hc hd hc2 hd2
  have e : vs.toArray ++ ws.toArray = (vs ++ ws).toArray := by simp
  by_cases hw : ws = []
  · exact concat_meets ⟨_, ho, rfl⟩ ⟨_, ho2, rfl⟩ noFill_tuple_add seq_tuple_add PySem.F.slot_tuple_add PySem.F.entry_tuple_add (PySem.F.args_tuple_add_2 _ _)
      (tuple_addW1 t b vs.toArray ws.toArray n n2 dd dd2 sl sl2 (by simpa using hv) (by simp [hw])) ⟨ho, ho2, h1 hw⟩
  · refine concat_meets ⟨_, ho, rfl⟩ ⟨_, ho2, rfl⟩ noFill_tuple_add seq_tuple_add PySem.F.slot_tuple_add PySem.F.entry_tuple_add (PySem.F.args_tuple_add_2 _ _)
      (tuple_addW2 t b vs.toArray ws.toArray n n2 dd dd2 sl sl2 (by simpa using hv) (by simpa using hw) (by rw [List.size_toArray, List.size_toArray]; exact hsz)) ⟨ho, ho2, ?_⟩
    rw [e]
    exact h2 hw

/-! ### t[a:b], not the whole -/
/-- a slice's bound as a place among n (d where it is left out) -/
def sIx (n d : Nat) : Option Int → Nat
  | none => d
  | some v => if v < 0 then (v + (n : Int)).toNat else min v.toNat n
theorem sIx_none (n d : Nat) : sIx n d none = d := rfl
theorem sIx_nat (n d k : Nat) : sIx n d (some (k : Int)) = min k n := by
  show (if (k : Int) < 0 then ((k : Int) + (n : Int)).toNat else min (k : Int).toNat n) = min k n
  rw [if_neg (by omega), Int.toNat_natCast]
theorem sIx_le (n d : Nat) (hd : d ≤ n) (o : Option Int) : sIx n d o ≤ n := by
  cases o with
  | none => exact hd
  | some v =>
    show (if v < 0 then (v + (n : Int)).toNat else min v.toNat n) ≤ n
    by_cases hv : v < 0
    · rw [if_pos hv]; omega
    · rw [if_neg hv]; exact Nat.min_le_right _ _
theorem clip_eq (v : Int) (n d : Nat) : (if v < 0 then max (v + (n : Int)) 0 else min v (n : Int)) = ((sIx n d (some v) : Nat) : Int) := by
  show (if v < 0 then max (v + (n : Int)) 0 else min v (n : Int)) = (((if v < 0 then (v + (n : Int)).toNat else min v.toNat n) : Nat) : Int)
  by_cases hv : v < 0
  · simp only [if_pos hv]; omega
  · simp only [if_neg hv]; omega
theorem adjust_gen (lo hi : Option Int) (n : Nat) : Builtin.Slice.sliceAdjust lo hi 1 (n : Int) = (((sIx n 0 lo : Nat) : Int), ((sIx n n hi : Nat) : Int)) := by
  have h1 : ¬ ((1 : Int) < 0) := by omega
  unfold Builtin.Slice.sliceAdjust
  simp only [h1, if_false]
  refine Prod.ext ?_ ?_
  · cases lo with
    | none => rfl
    | some v => exact clip_eq v n 0
  · cases hi with
    | none => rfl
    | some v => exact clip_eq v n n
theorem places_gen (i j : Nat) : Builtin.Slice.slicePlaces (i : Int) (j : Int) 1 = j - i := by
  unfold Builtin.Slice.slicePlaces
  have h1 : (1 : Int) > 0 := by omega
  simp only [h1, if_true, Int.ediv_one]
  split <;> omega
theorem slicePart_ {v : Value} {o : Option Int} {Q : Option Int → Shared → Prop} (p : IsPart v o) (h : Q o s) : wpAny (model prog w) A (Builtin.Slice.slicePartIndex v) Q E s := by
  cases p with
  | none => exact slicePart_none h
  | int i t => exact slicePart_int h
theorem sliceApplied_gen {sl : Addr} {vl vu : Value} {lo hi : Option Int} {n : Nat} {Q : Int × Int × Nat → Shared → Prop} (hs : s.heap.IsSliceOf sl vl vu .none) (pl : IsPart vl lo) (pu : IsPart vu hi)
    (h : Q (((sIx n 0 lo : Nat) : Int), 1, sIx n n hi - sIx n 0 lo) s) : wpAny (model prog w) A (Builtin.Slice.sliceApplied (.ref sl) (pure (n : Int))) Q E s := by
  obtain ⟨os, hos, hcs, hds⟩ := id hs
  unfold Builtin.Slice.sliceApplied Builtin.Slice.sliceFields
  refine wpAny_bind (wpAny_bind (wpAny_field hos hds (x := vl) rfl (wpAny_bind (wpAny_field hos hds (x := vu) rfl (wpAny_bind (wpAny_field hos hds (x := .none) rfl (wpAny_pure ?_)))))))
  refine wpAny_bind (slicePart_none ?_)
  show wpAny _ _ (if ((1 : Int) == 0) = true then _ else _) _ _ s
  rw [if_neg (by decide)]
  refine wpAny_bind (slicePart_ pl (wpAny_bind (slicePart_ pu (wpAny_bind (wpAny_pure ?_)))))
  show wpAny _ _ (match Builtin.Slice.sliceAdjust lo hi 1 (n : Int) with | (lo, hi) => pure (lo, (1 : Int), Builtin.Slice.slicePlaces lo hi 1)) _ _ s
  rw [adjust_gen lo hi n]
  show wpAny _ _ (pure (((sIx n 0 lo : Nat) : Int), (1 : Int), Builtin.Slice.slicePlaces ((sIx n 0 lo : Nat) : Int) ((sIx n n hi : Nat) : Int) 1)) _ _ s
  rw [places_gen]
  exact wpAny_pure h
theorem pick_gen (xs : Array Value) (i k : Nat) : ((List.range k).filterMap fun (m : Nat) => xs[((i : Int) + (m : Int) * 1).toNat]?).toArray = ((xs.toList.drop i).take k).toArray := by
  have e : (fun (m : Nat) => xs[((i : Int) + (m : Int) * 1).toNat]?) = fun m => xs[i + m]? := by
    funext m
    have : ((i : Int) + (m : Int) * 1).toNat = i + m := by omega
    rw [this]
  rw [e]
  have := pick_run xs i k
  rw [List.filterMap_map] at this
  have e2 : ((fun x => xs[x]?) ∘ fun x => i + x) = fun m => xs[i + m]? := rfl
  rw [e2] at this
  rw [this]

theorem getItem_tuple_cut {t sl : Addr} {items : Array Value} {vl vu : Value} {lo hi : Option Int} {Q : Value → Shared → Prop} (ht : IsTup s.heap t items) (hs : s.heap.IsSliceOf sl vl vu .none) (pl : IsPart vl lo) (pu : IsPart vu hi)
    (hw : ¬ (sIx items.size 0 lo = 0 ∧ sIx items.size items.size hi = items.size))
    (h : Q (.ref s.heap.objs.size) { s with heap := s.heap.push { cls := .type "tuple", data := .seq ((items.toList.drop (sIx items.size 0 lo)).take (sIx items.size items.size hi - sIx items.size 0 lo)).toArray } })
    (hsz : items.size ≤ sizeLine) : wpAny (model prog w) A (getItem (.ref t) (.ref sl)) Q E s := by
  have htake : sizeOk (.seq ((items.toList.drop (sIx items.size 0 lo)).take (sIx items.size items.size hi - sIx items.size 0 lo)).toArray) := by
    show ((items.toList.drop (sIx items.size 0 lo)).take (sIx items.size items.size hi - sIx items.size 0 lo)).toArray.size ≤ sizeLine
    rw [List.size_toArray, List.length_take, List.length_drop, Array.length_toList]
    omega
  have hj : sIx items.size items.size hi ≤ items.size := sIx_le _ _ (Nat.le_refl _) hi
  obtain ⟨os, hos, hcs, hds⟩ := id hs
  have hTs : s.TypeIs (.ref sl) "slice" := ⟨os, hos, hcs⟩
  unfold getItem
  try with_reducible refine wpAny_holding ?_
  first | refine wpAny_bind (wpAny_pure ?_) | skip
  refine wpAny_bind (wpAny_sequenceKey ht.typeIs (by decide) ?_)
  refine wpAny_bind (wpAny_callSpecial?_slot (name := Str.ofString "__getitem__") ht.typeIs PyProof.Rows.slot_tuple_getitem
    (wpAny_call_entry PyProof.Rows.slot_tuple_getitem ht.typeIs entry_tuple_getitem ?_ (args_tuple_getitem _ _)))
  show wpAny _ _ (Builtin.Tuple.tupleItemsOf (.ref t) >>= _) _ _ s
  refine wpAny_bind (tupleItemsOf_ ht ?_)
  refine wpAny_bind (wpAny_typeOf hTs ?_)
  rw [if_pos (by decide)]
  refine wpAny_bind (sliceApplied_gen hs pl pu ?_)
  have hno : ¬ ((((sIx items.size 0 lo : Nat) : Int) == 0 && (1 : Int) == 1 && (sIx items.size items.size hi - sIx items.size 0 lo) == items.size) = true) := by
    intro q
    rw [Bool.and_eq_true, Bool.and_eq_true] at q
    have q1 : ((sIx items.size 0 lo : Nat) : Int) = 0 := eq_of_beq q.1.1
    have q2 : sIx items.size items.size hi - sIx items.size 0 lo = items.size := eq_of_beq q.2
    exact hw ⟨by omega, by omega⟩
  show wpAny _ _ (if (((sIx items.size 0 lo : Nat) : Int) == 0 && (1 : Int) == 1 && (sIx items.size items.size hi - sIx items.size 0 lo) == items.size) = true then _ else _) _ _ s
  rw [if_neg hno, pick_gen]
  first
    | exact wpAny_bind (m := Builtin.Tuple.tupleExact _) (wpAny_newObj_type (wpAny_pure ⟨_, rfl, wpAny_pure h⟩) htake)
    | exact wpAny_bind (m := Builtin.Tuple.tupleExact _) (wpAny_newObj_type (wpAny_bind (wpAny_pure (wpAny_pure ⟨_, rfl, wpAny_pure h⟩))) htake)
    | exact wpAny_bind (wpAny_bind (m := Builtin.Tuple.tupleExact _) (wpAny_newObj_type (wpAny_pure (wpAny_pure ⟨_, rfl, wpAny_pure h⟩)) htake))
    | exact wpAny_bind (wpAny_bind (m := Builtin.Tuple.tupleExact _) (wpAny_newObj_type (wpAny_pure ⟨_, rfl, wpAny_pure h⟩) htake))
end
end HT

namespace L2
open PySem PySem.Spec PyProof.Rows

/-! ### the parts of a slice -/
abbrev TO := St → Hp → (Option Int → Hp → Prop) → Prop
/-- a slice's part (left out, or an int) -/
def PO (X : Cx) (e : Option Expr) (t : TO) : Prop :=
  ∀ (pins : List (Addr × Obj)) (s : Shared) (σ : St) (H : Hp) (Q : Option Int → Hp → Prop), Inv X pins σ H s → t σ H Q →
    wpAny (model X.prog X.w) X.A (evalPart e X.env) (fun u s' => ∃ o H', Inv X pins σ H' s' ∧ IsPart u o ∧ Q o H') X.xe s
def tNoPart : TO := fun _ H Q => Q none H
def tPart (t : TE) : TO := fun σ H Q => t σ H fun x H1 => ∃ i, x = .int i ∧ Q (some i) H1

theorem intsAre_of {ns : List Int} : ∀ {us : List Value}, Vals (ns.map V.int) us → IntsAre us ns := by
  induction ns with
  | nil => intro us r; rw [List.map_nil] at r; cases r; exact .nil
  | cons n ns ih =>
    intro us r
    rw [List.map_cons] at r
    cases r with
    | cons r1 r2 =>
      obtain ⟨t, e⟩ := r1
      subst e
      exact .cons n t (ih r2)

section
variable {X : Cx} {e : Expr} {te : TE} {lo hi : Option Expr} {tl th : TO} {pos p2 : Pos}

theorem po_none : PO X none tNoPart := by
  intro pins s σ H Q I h
  rw [evalPart_none]
  exact wpAny_pure ⟨none, H, I, .none, h⟩
theorem po_some (h : PE X e te) : PO X (some e) (tPart te) := by
  intro pins s σ H Q I hw
  rw [evalPart_some]
  refine thn (h pins s σ H _ I hw) fun u s1 ⟨x, H1, I1, r1, q1⟩ => ?_
  obtain ⟨i, rfl, q⟩ := q1
  obtain ⟨t, rfl⟩ := r1
  exact ⟨some i, H1, I1, .int i t, q⟩

/-- what a slice of a value is, by values: the slice object stands at sl -/
def SlR (X : Cx) (r : V → Option Int → Option Int → Hp → VK → Prop) : Prop :=
  ∀ (pins : List (Addr × Obj)) (s : Shared) (σ : St) (H : Hp) (x : V) (v vl vu : Value) (lo hi : Option Int) (sl : Addr) (Q : VK), Inv X pins σ H s → RelV x v → s.heap.IsSliceOf sl vl vu .none → IsPart vl lo → IsPart vu hi → r x lo hi H Q →
    ∃ T id, typeLookup (.type T) "__getitem__" = pure (some (.builtin id)) ∧ s.TypeIs v T ∧ wpAny (model X.prog X.w) X.A (getItem v (.ref sl)) (EP X pins σ Q) X.xe s
theorem SlR.or {r r' : V → Option Int → Option Int → Hp → VK → Prop} (h : SlR X r) (h' : SlR X r') : SlR X (fun x lo hi H Q => r x lo hi H Q ∨ r' x lo hi H Q) := by
  intro pins s σ H x v vl vu lo hi sl Q I rx hs pl pu q
  rcases q with q | q
  · exact h pins s σ H x v vl vu lo hi sl Q I rx hs pl pu q
  · exact h' pins s σ H x v vl vu lo hi sl Q I rx hs pl pu q
def tSl (r : V → Option Int → Option Int → Hp → VK → Prop) (te : TE) (tl th : TO) : TE := fun σ H Q => te σ H fun x H1 => tl σ H1 fun l H2 => th σ H2 fun u H3 => r x l u H3 Q
/-- a[lo:hi], any a -/
theorem pe_slice {r : V → Option Int → Option Int → Hp → VK → Prop} (hr : SlR X r) (he : PE X e te) (hl : PO X lo tl) (hu : PO X hi th) : PE X (.Subscript e (.Slice lo hi none p2) pos) (tSl r te tl th) := by
  intro pins s σ H Q I h
  refine Subscript_ (thn (he pins s σ H _ I h) fun v s1 ⟨x, H1, I1, r1, q1⟩ => ?_)
  refine wpAny_Slice (thn (hl pins s1 σ H1 _ I1 q1) fun vl s2 ⟨l, H2, I2, pl, q2⟩ => thn (hu pins s2 σ H2 _ I2 q2) fun vu s3 ⟨u, H3, I3, pu, q3⟩ => ?_)
  rw [evalPart_none]
  refine wpAny_pure ?_
  have I4 : Inv X pins σ H3 { s3 with heap := s3.heap.push { cls := .type "slice", data := .fields #[vl, vu, .none] } } := I3.kept (t' := s3.toks) fun b ob q => Heap.get?_push_of_some _ q
  obtain ⟨T, id, hT, ht, hg⟩ := hr pins { s3 with heap := s3.heap.push { cls := .type "slice", data := .fields #[vl, vu, .none] } } σ H3 x v vl vu l u s3.heap.objs.size Q I4 r1 (Heap.IsSliceOf.new ..) pl pu q3
  show wpAny (model X.prog X.w) X.A (subscriptTail e (.Slice lo hi none p2) v (.ref s3.heap.objs.size)) (EP X pins σ Q) X.xe { s3 with heap := s3.heap.push { cls := .type "slice", data := .fields #[vl, vu, .none] } }
  exact tail_any (ops := [.ref s3.heap.objs.size, v]) ht hT hg (by with_unfolding_all rfl)

/-- the items of xs[lo:hi] -/
def cutV (xs : List V) (lo hi : Option Int) : List V := (xs.drop (HT.sIx xs.length 0 lo)).take (HT.sIx xs.length xs.length hi - HT.sIx xs.length 0 lo)
theorem cutV_length (xs : List V) (lo hi : Option Int) : (cutV xs lo hi).length ≤ xs.length := by
  unfold cutV
  rw [List.length_take, List.length_drop]
  omega
/-- t[lo:hi], not the whole of it (the whole would be t itself) -/
def rSlT (K : PySem.W.Frag) : V → Option Int → Option Int → Hp → VK → Prop := fun x lo hi H Q => ∃ a xs, x = .ref a ∧ SqT K H a xs ∧
  ¬ (HT.sIx xs.length 0 lo = 0 ∧ HT.sIx xs.length xs.length hi = xs.length) ∧ ∀ p, H p = none → Q (.ref p) (upd H p (.tup (cutV xs lo hi)))
theorem sl_tup : SlR X (rSlT X.K) := by
  intro pins s σ H x v vl vu lo hi sl Q I rx hs pl pu h
  obtain ⟨a, xs, rfl, hx, hw, q⟩ := h
  cases rx
  obtain ⟨its, r, ht, hz⟩ := I.tuple hx
  have hlen : its.toArray.size = xs.length := by rw [List.size_toArray]; exact r.length.symm
  refine ⟨"tuple", _, PyProof.Rows.slot_tuple_getitem.lookup, ht.typeIs, ?_⟩
  refine HT.getItem_tuple_cut ht hs pl pu (by rw [hlen]; exact hw) ?_ (by rw [hlen]; exact hz)
  rw [hlen]
  refine ⟨.ref s.heap.objs.size, _, I.laid (t' := s.toks) (o := .tup (cutV xs lo hi)) (fun b ob q => Heap.get?_push_of_some _ q) (Nat.le_refl _) ?_, rfl, q _ (I.hok.fresh (Nat.le_refl _))⟩
  exact ⟨Nat.le_trans (cutV_length xs lo hi) hz, _, (r.drop (HT.sIx xs.length 0 lo)).take (HT.sIx xs.length xs.length hi - HT.sIx xs.length 0 lo), IsTup.new _ _⟩

/-! ### t < u, t + u -/
def rLtT (K : PySem.W.Frag) : R2 := fun x y H Q => ∃ a b ns ms, x = .ref a ∧ y = .ref b ∧ SqT K H a (ns.map V.int) ∧ SqT K H b (ms.map V.int) ∧ Q (.bl (HT.lexLt ns ms)) H
theorem op_ltT (hu : X.A.units < cLine) : OpR X (compareOp .Lt) (rLtT X.K) := by
  intro pins s σ H x y v u Q I rx ry h
  obtain ⟨a, b, ns, ms, rfl, rfl, ha, hb, q⟩ := h
  cases rx
  cases ry
  obtain ⟨its, r1, p1, _⟩ := I.tuple ha
  obtain ⟨its2, r2, p2, _⟩ := I.tuple hb
  have i1 : IntsAre its.toArray.toList ns := intsAre_of r1
  have i2 : IntsAre its2.toArray.toList ms := intsAre_of r2
  exact HT.lt_tupInts p1 p2 i1 i2 hu ⟨.bl (HT.lexLt ns ms), H, I, rfl, q⟩
/-- t + u, t not empty: u empty gives t itself -/
def rCatT (K : PySem.W.Frag) : R2 := fun x y H Q => ∃ a b xs ys, x = .ref a ∧ y = .ref b ∧ SqT K H a xs ∧ SqT K H b ys ∧ xs ≠ [] ∧ xs.length + ys.length ≤ sizeLine ∧
  (ys = [] → Q (.ref a) H) ∧ (ys ≠ [] → ∀ p, H p = none → Q (.ref p) (upd H p (.tup (xs ++ ys))))
theorem Vals.nil_iff {xs : List V} {us : List Value} (r : Vals xs us) : us = [] ↔ xs = [] := by
  cases r with
  | nil => simp
  | cons _ _ => simp
theorem op_catT : OpR X (binaryOp .Add) (rCatT X.K) := by
  intro pins s σ H x y v u Q I rx ry h
  obtain ⟨a, b, xs, ys, rfl, rfl, ha, hb, hx, hz, q1, q2⟩ := h
  cases rx
  cases ry
  obtain ⟨its, r1, p1, _⟩ := I.tuple ha
  obtain ⟨its2, r2, p2, _⟩ := I.tuple hb
  refine HT.cat_tup p1 p2 (fun z => hx (r1.nil_iff.mp z)) (fun z => ⟨.ref a, H, I, rfl, q1 (r2.nil_iff.mp z)⟩) (fun z => ?_) (by rw [← r1.length, ← r2.length]; exact hz)
  refine ⟨.ref s.heap.objs.size, _, I.laid (t' := s.toks) (o := .tup (xs ++ ys)) (fun b ob q => Heap.get?_push_of_some _ q) (Nat.le_refl _) ?_, rfl, q2 (fun w => z (r2.nil_iff.mpr w)) _ (I.hok.fresh (Nat.le_refl _))⟩
  exact ⟨by rw [List.length_append]; exact hz, _, r1.append r2, IsTup.new _ _⟩
/-- tuple(t) -/
theorem call_tupleT : CallR X (.type "tuple") (fun xs H Q => ∃ a ys, xs = [.ref a] ∧ SqT X.K H a ys ∧ Q (.ref a) H) := by
  intro pins s σ H xs us Q I r h
  obtain ⟨a, ys, rfl, ha, q⟩ := h
  obtain ⟨u, rfl, ru⟩ := vals1 r
  cases ru
  obtain ⟨its, _, p1, _⟩ := I.tuple ha
  exact call_tuple_same (items := its.toArray) p1 ⟨.ref a, H, I, rfl, q⟩
end
end L2

namespace L2
open PySem PySem.Spec PyProof.Rows

/-! ### places -/
/-- the place that an index of any sign means -/
def ixN (n : Nat) (i : Int) : Option Nat := if 0 ≤ i then (if i < n then some i.toNat else none) else if -(n : Int) ≤ i then some (i + n).toNat else none
def atI {α : Type} (xs : List α) (i : Int) : Option α := (ixN xs.length i).bind fun j => xs[j]?
theorem ixN_seq {n : Nat} {i : Int} {j : Nat} (h : ixN n i = some j) : seqIndex? i n = some j ∧ j < n ∧ -(n : Int) ≤ i ∧ i < n := by
  unfold ixN at h
  by_cases h0 : 0 ≤ i
  · rw [if_pos h0] at h
    by_cases h1 : i < n
    · rw [if_pos h1] at h
      have e : i.toNat = j := Option.some.inj h
      exact ⟨by rw [seqIndex_of h0 h1, e], by omega, by omega, h1⟩
    · rw [if_neg h1] at h; cases h
  · rw [if_neg h0] at h
    by_cases h1 : -(n : Int) ≤ i
    · rw [if_pos h1] at h
      have e : (i + n).toNat = j := Option.some.inj h
      exact ⟨by rw [seqIndex_neg (by omega) h1, e], by omega, h1, by omega⟩
    · rw [if_neg h1] at h; cases h
theorem atI_get {α : Type} {xs : List α} {i : Int} {v : α} (h : atI xs i = some v) : ∃ j, seqIndex? i xs.length = some j ∧ xs[j]? = some v ∧ j < xs.length ∧ -(xs.length : Int) ≤ i ∧ i < xs.length := by
  unfold atI at h
  cases e : ixN xs.length i with
  | none => rw [e] at h; cases h
  | some j =>
    rw [e] at h
    obtain ⟨h1, h2, h3, h4⟩ := ixN_seq e
    exact ⟨j, h1, h, h2, h3, h4⟩
theorem atI_nat {α : Type} {xs : List α} {j : Nat} {v : α} (h : xs[j]? = some v) : atI xs (j : Int) = some v := by
  have hj : j < xs.length := (List.getElem?_eq_some_iff.mp h).1
  have e : ixN xs.length (j : Int) = some j := by
    unfold ixN
    rw [if_pos (by omega), if_pos (by omega)]; simp
  unfold atI; rw [e]; exact h
theorem atI_last {α : Type} (xs : List α) (v : α) : atI (xs ++ [v]) (-1) = some v := by
  have hl : (xs ++ [v]).length = xs.length + 1 := by simp
  have e : ixN (xs ++ [v]).length (-1) = some xs.length := by
    unfold ixN
    rw [hl, if_neg (by decide), if_pos (by omega)]
    congr 1
    omega
  unfold atI
  rw [e]
  show (xs ++ [v])[xs.length]? = some v
  simp

/-! ### what may be subscripted -/
/-- what stands as an index of a plain subscript -/
def PlainIx (b : Expr) : Prop := ∀ o i, subscripted b false o i = operate [o, i] (getItem o i)
/-- a subscript by values -/
def IxR (X : Cx) (r : R2) : Prop :=
  ∀ (value slice : Expr) (pins : List (Addr × Obj)) (s : Shared) (σ : St) (H : Hp) (x y : V) (v u : Value) (Q : VK), Inv X pins σ H s → RelV x v → RelV y u → r x y H Q →
    subscripted slice false v u = operate [v, u] (getItem v u) → wpAny (model X.prog X.w) X.A (subscriptTail value slice v u) (EP X pins σ Q) X.xe s
/-- a call of a builtin's method by values: the receiver, the arguments -/
def MtR (X : Cx) (id : String) (r : V → List V → Hp → VK → Prop) : Prop :=
  ∀ (pins : List (Addr × Obj)) (s : Shared) (σ : St) (H : Hp) (x : V) (xs : List V) (v : Value) (us : List Value) (Q : VK), Inv X pins σ H s → RelV x v → Vals xs us → r x xs H Q →
    wpAny (model X.prog X.w) X.A (call (.builtin id) (v :: us)) (EP X pins σ Q) X.xe s
section
variable {X : Cx} {a b : Expr} {ta tb : TE} {pos : Pos}
theorem IxR.or {r r' : R2} (h : IxR X r) (h' : IxR X r') : IxR X (fun x y H Q => r x y H Q ∨ r' x y H Q) := by
  intro value slice pins s σ H x y v u Q I rx ry q hs
  rcases q with q | q
  · exact h value slice pins s σ H x y v u Q I rx ry q hs
  · exact h' value slice pins s σ H x y v u Q I rx ry q hs
theorem MtR.or {id : String} {r r' : V → List V → Hp → VK → Prop} (h : MtR X id r) (h' : MtR X id r') : MtR X id (fun x xs H Q => r x xs H Q ∨ r' x xs H Q) := by
  intro pins s σ H x xs v us Q I rx rs q
  rcases q with q | q
  · exact h pins s σ H x xs v us Q I rx rs q
  · exact h' pins s σ H x xs v us Q I rx rs q
/-- a[b] -/
theorem pe_ix {r : R2} (hr : IxR X r) (ha : PE X a ta) (hb : PE X b tb) (hs : PlainIx b) : PE X (.Subscript a b pos) (tOp r ta tb) := by
  intro pins s σ H Q I h
  exact Subscript_ (binT ha hb I h fun v u s2 x y H2 I2 rx ry q => hr a b pins s2 σ H2 x y v u Q I2 rx ry q (hs _ _))

def rIxL (K : PySem.W.Frag) : R2 := fun x y H Q => ∃ p xs i v, x = .ref p ∧ y = .int i ∧ SqL K H p xs ∧ atI xs i = some v ∧ Q v H
def rIxT (K : PySem.W.Frag) : R2 := fun x y H Q => ∃ p xs i v, x = .ref p ∧ y = .int i ∧ SqT K H p xs ∧ atI xs i = some v ∧ Q v H
def rIxS : R2 := fun x y H Q => ∃ z i c, x = .str z ∧ y = .int i ∧ z.length ≤ sizeLine ∧ atI z.cps.toList i = some c ∧ Q (.str ⟨#[c]⟩) H
theorem ix_list : IxR X (rIxL X.K) := by
  intro value slice pins s σ H x y v u Q I rx ry h hs
  obtain ⟨p, xs, i, z, rfl, rfl, hq, he, q⟩ := h
  cases rx
  obtain ⟨t, rfl⟩ := ry
  obtain ⟨its, r, pl, hz⟩ := I.list hq
  obtain ⟨j, h1, h2, h3, h4, h5⟩ := atI_get he
  obtain ⟨w, ew, rw'⟩ := r.get h2
  have hl := r.length
  have hn := line63
  have fin : EP X pins σ Q w s := ⟨z, H, I, rw', q⟩
  by_cases h0 : 0 ≤ i
  · have hj : i.toNat = j := by
      rw [seqIndex_of h0 h5] at h1
      exact Option.some.inj h1
    exact item_listR pl.isList h0 (by omega) (by rw [hj]; simpa using ew) fin hs
  · have hj : (i + (its.toArray.size : Int)).toNat = j := by
      rw [seqIndex_neg (by omega) h4] at h1
      rw [List.size_toArray, ← hl]
      exact Option.some.inj h1
    exact subscriptTail_builtinR (x := w) pl.isList.typeIs slot_list_getitem.lookup
      (wpAny_getItem_list_neg (Q := fun r s' => r = w ∧ EP X pins σ Q r s') pl.isList (by omega) (by rw [List.size_toArray] <;> omega) (by omega) (by rw [hj]; simpa using ew) ⟨rfl, fin⟩) hs
theorem ix_tup : IxR X (rIxT X.K) := by
  intro value slice pins s σ H x y v u Q I rx ry h hs
  obtain ⟨p, xs, i, z, rfl, rfl, hq, he, q⟩ := h
  cases rx
  obtain ⟨t, rfl⟩ := ry
  obtain ⟨its, r, pl, hz⟩ := I.tuple hq
  obtain ⟨j, h1, h2, h3, h4, h5⟩ := atI_get he
  obtain ⟨w, ew, rw'⟩ := r.get h2
  have hl := r.length
  have hn := line63
  have fin : EP X pins σ Q w s := ⟨z, H, I, rw', q⟩
  exact subscriptTail_builtinR (x := w) pl.typeIs slot_tuple_getitem.lookup
    (getItem_tuple (j := j) (Q := fun r s' => r = w ∧ EP X pins σ Q r s') pl (by omega) (by omega) (by rw [List.size_toArray, ← hl]; exact h1) (by simpa using ew) ⟨rfl, fin⟩) hs
theorem ix_str : IxR X rIxS := by
  intro value slice pins s σ H x y v u Q I rx ry h hs
  obtain ⟨z, i, c, rfl, rfl, hz, he, q⟩ := h
  obtain ⟨t, rfl⟩ := rx
  obtain ⟨t', rfl⟩ := ry
  obtain ⟨j, h1, h2, h3, h4, h5⟩ := atI_get he
  have hl : z.cps.toList.length = z.length := by simp [Str.length]
  rw [hl] at h1 h4 h5
  have hn := line63
  exact tail_any (typeIs_str s z t) slot_str_getitem.lookup (getItem_str (c := c) (by
    have e1 : decide (i < -(2 ^ 63 : Int)) = false := decide_eq_false (by omega)
    have e2 : decide (i ≥ 2 ^ 63) = false := decide_eq_false (by omega)
    rw [e1, e2, Bool.or_false]) (by rw [h1]; simpa using h2) ⟨.str ⟨#[c]⟩, H, I.tok _, ⟨_, rfl⟩, q⟩) hs
/-- list, tuple or str -/
def rIx (K : PySem.W.Frag) : R2 := fun x y H Q => rIxL K x y H Q ∨ rIxT K x y H Q ∨ rIxS x y H Q
theorem ix_seq : IxR X (rIx X.K) := ix_list.or (ix_tup.or ix_str)

/-! ### xs[i] = v, any sign -/
/-- the list's object behind a store -/
theorem mapSeq_set (its : List Value) (n j : Nat) (u : Value) : Obj.mapSeq (·.setIfInBounds j u) { cls := .type "list", data := .seq its.toArray n } = { cls := .type "list", data := .seq (its.set j u).toArray n } := by
  simp [Obj.mapSeq]
theorem Inv.lst {pins : List (Addr × Obj)} {σ : St} {H : Hp} {s : Shared} {p : Addr} {xs : List V} (I : Inv X pins σ H s) (h : H p = some (.lst xs)) :
    ∃ (its : List Value) (n : Nat), Vals xs its ∧ s.heap.get? p = some { cls := .type "list", data := .seq its.toArray n } ∧ xs.length ≤ sizeLine := by
  obtain ⟨z, its, n, r, e⟩ := I.hok p _ h
  exact ⟨its, n, r, e, z⟩
/-- the list at p is written by an update of its object -/
theorem Inv.lstUpd {pins : List (Addr × Obj)} {σ : St} {H : Hp} {s : Shared} {p : Addr} {xs ys : List V} {its its' : List Value} {n n' : Nat} {f : Obj → Obj} (I : Inv X pins σ H s) (h : H p = some (.lst xs))
    (ho : s.heap.get? p = some { cls := .type "list", data := .seq its.toArray n }) (hf : f { cls := .type "list", data := .seq its.toArray n } = { cls := .type "list", data := .seq its'.toArray n' }) (r : Vals ys its') (hz : ys.length ≤ sizeLine) (t : Nat) :
    Inv X pins σ (upd H p (.lst ys)) { s with heap := s.heap.update p f, toks := t } := by
  have e : (s.heap.update p f).get? p = some { cls := .type "list", data := .seq its'.toArray n' } := by
    rw [Heap.get?_update_self f ho (by rw [hf] <;> rfl), hf]
  refine I.write (x := p) (e := p) (by rw [h]; trivial) (.inl rfl) (fun b u hb q => (Heap.get?_update_other _ _ (Ne.symm hb)).trans q) ⟨_, e⟩ ?_
  exact ⟨hz, its', n', r, e⟩
def rSetL : V → V → V → Hp → (Hp → Prop) → Prop := fun o i v H Q => ∃ p xs k j, o = .ref p ∧ i = .int k ∧ H p = some (.lst xs) ∧ ixN xs.length k = some j ∧ Q (upd H p (.lst (xs.set j v)))
theorem set_list : PSet X rSetL := by
  intro pins s σ H o i v ov iv u Q I ro ri rv h
  obtain ⟨p, xs, k, j, rfl, rfl, hp, hj, q⟩ := h
  cases ro
  obtain ⟨t, rfl⟩ := ri
  obtain ⟨its, n, r, ho, hz⟩ := I.lst hp
  obtain ⟨h1, h2, h3, h4⟩ := ixN_seq hj
  have hl := r.length
  have hn := line63
  have I' : Inv X pins σ (upd H p (.lst (xs.set j v))) { s with heap := s.heap.update p (Obj.mapSeq (·.setIfInBounds j u)) } :=
    I.lstUpd hp ho (mapSeq_set its n j u) (r.set rv j) (by rw [List.length_set]; exact hz) s.toks
  by_cases h0 : 0 ≤ k
  · have hk : k.toNat = j := by
      rw [seqIndex_of h0 h4] at h1
      exact Option.some.inj h1
    exact PySem.W.ki_setAt ho h0 (by omega) (by rw [List.size_toArray, ← hl]; exact h4) (by rw [hk]; exact ⟨_, I', q⟩)
  · have hk : (k + (its.toArray.size : Int)).toNat = j := by
      rw [seqIndex_neg (by omega) h3] at h1
      rw [List.size_toArray, ← hl]
      exact Option.some.inj h1
    exact PySem.W.ki_setBack ho (by omega) (by rw [List.size_toArray, ← hl]; exact h3) (by omega) (by rw [hk]; exact ⟨_, I', q⟩)

/-! ### slices -/
theorem slice_bounds (lo hi : Option Int) (n : Nat) : (sliceBounds lo hi none n).1 = ((HT.sIx n 0 lo : Nat) : Int) ∧ (sliceBounds lo hi none n).2.1 = ((HT.sIx n n hi : Nat) : Int) ∧ (sliceBounds lo hi none n).2.2 = 1 := by
  refine ⟨?_, ?_, rfl⟩
  · cases lo with
    | none => simp [sliceBounds, HT.sIx]
    | some i =>
      simp only [sliceBounds, HT.sIx, Option.getD_none, show (1 : Int) > 0 by decide, if_true]
      by_cases h : i < 0
      · simp only [h, if_true] <;> omega
      · simp only [h, if_false] <;> omega
  · cases hi with
    | none => simp [sliceBounds, HT.sIx]
    | some i =>
      simp only [sliceBounds, HT.sIx, Option.getD_none, show (1 : Int) > 0 by decide, if_true]
      by_cases h : i < 0
      · simp only [h, if_true] <;> omega
      · simp only [h, if_false] <;> omega
theorem slicePick_cut (its : List Value) (lo hi : Option Int) : slicePick its.toArray lo hi none = ((its.drop (HT.sIx its.length 0 lo)).take (HT.sIx its.length its.length hi - HT.sIx its.length 0 lo)).toArray := by
  obtain ⟨h1, h2, h3⟩ := slice_bounds lo hi its.toArray.size
  unfold slicePick
  rw [h1, h2, h3]
  simp only [sliceRange_one, pick_run, List.size_toArray] <;> rfl
/-- xs[lo:hi] of a list: a new list -/
def rSlL (K : PySem.W.Frag) : V → Option Int → Option Int → Hp → VK → Prop := fun x lo hi H Q => ∃ a xs, x = .ref a ∧ SqL K H a xs ∧ ∀ p, H p = none → Q (.ref p) (upd H p (.lst (cutV xs lo hi)))
theorem sl_list : SlR X (rSlL X.K) := by
  intro pins s σ H x v vl vu lo hi sl Q I rx hs pl pu h
  obtain ⟨a, xs, rfl, hx, q⟩ := h
  cases rx
  obtain ⟨its, r, ht, hz⟩ := I.list hx
  have hlen := r.length
  refine ⟨"list", _, slot_list_getitem.lookup, ht.isList.typeIs, ?_⟩
  refine wpAny_getItem_list_slice ht.isList hs pl pu .none (by simp) ?_ (by rw [List.size_toArray] <;> omega)
  rw [slicePick_cut, ← hlen]
  refine ⟨.ref s.heap.objs.size, _, I.laid (t' := s.toks) (o := .lst (cutV xs lo hi)) (fun b ob q => Heap.get?_push_of_some _ q) (Nat.le_refl _) ?_, rfl, q _ (I.hok.fresh (Nat.le_refl _))⟩
  exact ⟨Nat.le_trans (cutV_length xs lo hi) hz, _, 0, (r.drop (HT.sIx xs.length 0 lo)).take (HT.sIx xs.length xs.length hi - HT.sIx xs.length 0 lo), Heap.get?_push_size _ rfl⟩

/-! ### in, not in: flat items -/
def flatV : V → Bool
  | .non => true
  | .bl _ => true
  | .int _ => true
  | .str _ => true
  | _ => false
/-- == of flat values -/
def eqV : V → V → Bool
  | .non, .non => true
  | .bl a, .bl b => a == b
  | .bl a, .int b => (if a then 1 else 0) == b
  | .int a, .bl b => a == (if b then 1 else 0)
  | .int a, .int b => a == b
  | .str a, .str b => a == b
  | _, _ => false
theorem eqAt_V {A : Around} {s : Shared} {y x : V} {u v : Value} (ry : RelV y u) (rx : RelV x v) (fy : flatV y = true) (fx : flatV x = true) : SeqAt.EqAt A s u v (eqV y x) := by
  cases y with
  | non =>
    cases ry
    cases x with
    | non => cases rx; exact SeqAt.EqAt.same _
    | bl b => cases rx; exact SeqAt.EqAt.none_bool b
    | int b => obtain ⟨t, rfl⟩ := rx; exact SeqAt.EqAt.none_int b t
    | str b => obtain ⟨t, rfl⟩ := rx; exact SeqAt.EqAt.none_str b t
    | _ => exact absurd (show false = true from fx) Bool.false_ne_true
  | bl a =>
    cases ry
    cases x with
    | non => cases rx; exact SeqAt.EqAt.bool_none a
    | bl b => cases rx; exact SeqAt.EqAt.bool_bool a b
    | int b => obtain ⟨t, rfl⟩ := rx; exact SeqAt.EqAt.bool_int a b t
    | str b => obtain ⟨t, rfl⟩ := rx; exact SeqAt.EqAt.bool_str a b t
    | _ => exact absurd (show false = true from fx) Bool.false_ne_true
  | int a =>
    obtain ⟨t', rfl⟩ := ry
    cases x with
    | non => cases rx; exact SeqAt.EqAt.int_none a t'
    | bl b => cases rx; exact SeqAt.EqAt.int_bool a t' b
    | int b => obtain ⟨t, rfl⟩ := rx; exact SeqAt.EqAt.int_int a t' b t
    | str b => obtain ⟨t, rfl⟩ := rx; exact SeqAt.EqAt.int_str a t' b t
    | _ => exact absurd (show false = true from fx) Bool.false_ne_true
  | str a =>
    obtain ⟨t', rfl⟩ := ry
    cases x with
    | non => cases rx; exact SeqAt.EqAt.str_none a t'
    | bl b => cases rx; exact SeqAt.EqAt.str_bool a t' b
    | int b => obtain ⟨t, rfl⟩ := rx; exact SeqAt.EqAt.str_int a t' b t
    | str b => obtain ⟨t, rfl⟩ := rx; exact SeqAt.EqAt.str_str a t' b t
    | _ => exact absurd (show false = true from fx) Bool.false_ne_true
  | _ => exact absurd (show false = true from fy) Bool.false_ne_true
/-- the items' answers, read off the values (a value's own answer does not lean on its token) -/
def eqU (x : V) (u : Value) : Bool := match u with
  | .none => eqV .non x
  | .bool b => eqV (.bl b) x
  | .int i _ => eqV (.int i) x
  | .str z _ => eqV (.str z) x
  | _ => false
theorem eqU_of {x y : V} {u : Value} (r : RelV y u) (f : flatV y = true) : eqU x u = eqV y x := by
  cases y with
  | non => cases r; rfl
  | bl b => cases r; rfl
  | int i => obtain ⟨t, rfl⟩ := r; rfl
  | str z => obtain ⟨t, rfl⟩ := r; rfl
  | _ => exact absurd (show false = true from f) Bool.false_ne_true
theorem any_eqU {x : V} : ∀ {xs : List V} {us : List Value}, Vals xs us → xs.all flatV = true → us.any (eqU x) = xs.any fun y => eqV y x
  | _, _, .nil, _ => rfl
  | y :: xs, u :: us, .cons r t, f => by
    rw [List.all_cons, Bool.and_eq_true] at f
    rw [List.any_cons, List.any_cons, eqU_of r f.1, any_eqU t f.2]
theorem mem_eqAt {A : Around} {s : Shared} {x : V} {v : Value} (rx : RelV x v) (fx : flatV x = true) : ∀ {xs : List V} {us : List Value}, Vals xs us → xs.all flatV = true → ∀ u ∈ us, SeqAt.EqAt A s u v (eqU x u)
  | _, _, .nil, _ => fun u hu => by cases hu
  | y :: xs, u :: us, .cons r t, f => fun u' hu => by
    rw [List.all_cons, Bool.and_eq_true] at f
    rcases List.mem_cons.mp hu with rfl | hu
    · rw [eqU_of r f.1]; exact eqAt_V r rx f.1 fx
    · exact mem_eqAt rx fx t f.2 u' hu
def inV (x : V) (xs : List V) : Bool := xs.any fun y => eqV y x
/-- x in a list or tuple of flat items -/
def rIn (K : PySem.W.Frag) (neg : Bool) : R2 := fun x y H Q => ∃ p xs, y = .ref p ∧ (SqL K H p xs ∨ SqT K H p xs) ∧ flatV x = true ∧ xs.all flatV = true ∧ Q (.bl (if neg then !inV x xs else inV x xs)) H
theorem op_in_seq : OpR X (compareOp .In) (rIn X.K false) := by
  intro pins s σ H x y v u Q I rx ry h
  obtain ⟨p, xs, rfl, hq, fx, fs, q⟩ := h
  cases ry
  rcases hq with hq | hq
  · obtain ⟨its, r, pl, hz⟩ := I.list hq
    refine SeqAt.in_listAt (eqU x) pl.isList (fun w hw => mem_eqAt rx fx r fs w (by simpa using hw)) ⟨.bl _, H, I, rfl, ?_⟩
    rw [show its.toArray.any (eqU x) = its.any (eqU x) by simp, any_eqU r fs]
    exact q
  · obtain ⟨its, r, pl, hz⟩ := I.tuple hq
    refine SeqAt.in_tupleAt (eqU x) pl (fun w hw => mem_eqAt rx fx r fs w (by simpa using hw)) ⟨.bl _, H, I, rfl, ?_⟩
    rw [show its.toArray.any (eqU x) = its.any (eqU x) by simp, any_eqU r fs]
    exact q
theorem op_notIn_seq : OpR X (compareOp .NotIn) (rIn X.K true) := by
  intro pins s σ H x y v u Q I rx ry h
  obtain ⟨p, xs, rfl, hq, fx, fs, q⟩ := h
  cases ry
  rcases hq with hq | hq
  · obtain ⟨its, r, pl, hz⟩ := I.list hq
    refine SeqAt.notIn_listAt (eqU x) pl.isList (fun w hw => mem_eqAt rx fx r fs w (by simpa using hw)) ⟨.bl _, H, I, rfl, ?_⟩
    rw [show its.toArray.any (eqU x) = its.any (eqU x) by simp, any_eqU r fs]
    exact q
  · obtain ⟨its, r, pl, hz⟩ := I.tuple hq
    refine SeqAt.notIn_tupleAt (eqU x) pl (fun w hw => mem_eqAt rx fx r fs w (by simpa using hw)) ⟨.bl _, H, I, rfl, ?_⟩
    rw [show its.toArray.any (eqU x) = its.any (eqU x) by simp, any_eqU r fs]
    exact q
theorem op_notIn_str : OpR X (compareOp .NotIn) (fun x y H Q => ∃ i j, x = .str i ∧ y = .str j ∧ Q (.bl (!(!(Builtin.Str.occurrences j i 0 j.length 1).isEmpty))) H) := by
  intro pins s σ H x y v u Q I rx ry h
  obtain ⟨i, j, rfl, rfl, q⟩ := h
  obtain ⟨t, rfl⟩ := rx
  obtain ⟨t', rfl⟩ := ry
  exact notIn_str ⟨.bl _, H, I, rfl, q⟩

/-! ### len, list(x), tuple(x) of any list or tuple that is read -/
theorem call_len_seq : CallR X (.builtin "len") (fun xs H Q => ∃ p ys, xs = [.ref p] ∧ (SqL X.K H p ys ∨ SqT X.K H p ys) ∧ Q (.int ys.length) H) := by
  intro pins s σ H xs us Q I r h
  obtain ⟨p, ys, rfl, hq, q⟩ := h
  obtain ⟨u, rfl, rx⟩ := vals1 r
  cases rx
  have hn := line63
  rcases hq with hq | hq
  · obtain ⟨its, r', pl, hz⟩ := I.list hq
    have hlen := r'.length
    exact Calls.call_len_list pl.isList (by simp only [List.size_toArray] <;> omega) ⟨.int ys.length, H, I.tok _, ⟨s.toks + 1, by rw [List.size_toArray, hlen]⟩, q⟩
  · obtain ⟨its, r', pl, hz⟩ := I.tuple hq
    have hlen := r'.length
    exact len_tuple pl (by simp only [List.size_toArray] <;> omega) ⟨.int ys.length, H, I.tok _, ⟨s.toks + 1, by rw [List.size_toArray, hlen]⟩, q⟩
theorem call_len_str : CallR X (.builtin "len") (fun xs H Q => ∃ z, xs = [.str z] ∧ z.length ≤ sizeLine ∧ Q (.int z.length) H) := by
  intro pins s σ H xs us Q I r h
  obtain ⟨z, rfl, hz, q⟩ := h
  obtain ⟨u, rfl, t, rfl⟩ := vals1 r
  have hn := line63
  exact len_str (by omega) ⟨.int z.length, H, I.tok _, ⟨_, rfl⟩, q⟩
theorem CallR.or {f : Value} {r r' : List V → Hp → VK → Prop} (h : CallR X f r) (h' : CallR X f r') : CallR X f (fun xs H Q => r xs H Q ∨ r' xs H Q) := by
  intro pins s σ H xs us Q I rs q
  rcases q with q | q
  · exact h pins s σ H xs us Q I rs q
  · exact h' pins s σ H xs us Q I rs q
theorem call_list_of : CallR X (.type "list") (fun xs H Q => ∃ p ys, xs = [.ref p] ∧ (SqL X.K H p ys ∨ SqT X.K H p ys) ∧ ∀ l, H l = none → Q (.ref l) (upd H l (.lst ys))) := by
  intro pins s σ H xs us Q I r h
  obtain ⟨p, ys, rfl, hq, q⟩ := h
  obtain ⟨u, rfl, rx⟩ := vals1 r
  cases rx
  have fin : ∀ (its : List Value), Vals ys its → ys.length ≤ sizeLine → ∀ (h' : Heap) (c' : Nat), (∀ b o', s.heap.get? b = some o' → h'.get? b = some o') →
      h'.get? s.heap.objs.size = some { cls := .type "list", dict := none, data := .seq its.toArray c', slots := #[] } → EP X pins σ Q (.ref s.heap.objs.size) { s with heap := h' } := fun its r' hz h' c' kp e =>
    ⟨.ref s.heap.objs.size, _, I.laid (t' := s.toks) kp (Nat.le_refl _) (show ObjOk X.prog X.w _ h' _ (.lst ys) from ⟨hz, its, c', r', e⟩), rfl, q _ (I.hok.fresh (Nat.le_refl _))⟩
  rcases hq with hq | hq
  · obtain ⟨its, r', pl, hz⟩ := I.list hq
    have hlen := r'.length
    obtain ⟨o, ho, hc, n, hd⟩ := pl.isList
    exact call_list_seq p (.inl rfl) ho hc hd (fun h' c' kp e => fin its r' hz h' c' kp e) (by simp only [List.size_toArray] <;> omega)
  · obtain ⟨its, r', pl, hz⟩ := I.tuple hq
    have hlen := r'.length
    obtain ⟨o, ho, hc, n, hd⟩ := pl
    exact call_list_seq p (.inr rfl) ho hc hd (fun h' c' kp e => fin its r' hz h' c' kp e) (by simp only [List.size_toArray] <;> omega)
theorem call_tuple_of : CallR X (.type "tuple") (fun xs H Q => ∃ p ys, xs = [.ref p] ∧ ((SqL X.K H p ys ∧ ∀ l, H l = none → Q (.ref l) (upd H l (.tup ys))) ∨ (SqT X.K H p ys ∧ Q (.ref p) H))) := by
  intro pins s σ H xs us Q I r h
  obtain ⟨p, ys, rfl, h⟩ := h
  obtain ⟨u, rfl, rx⟩ := vals1 r
  cases rx
  rcases h with ⟨hq, q⟩ | ⟨hq, q⟩
  · obtain ⟨its, r', pl, hz⟩ := I.list hq
    have hlen := r'.length
    refine call_tuple_list pl.isList (fun h' kp => ?_) (by simp only [List.size_toArray] <;> omega)
    have I1 : Inv X pins σ H { s with heap := h' } := I.kept (t' := s.toks) kp
    have I2 : Inv X pins σ (upd H h'.objs.size (.tup ys)) { s with heap := h'.push { cls := .type "tuple", data := .seq its.toArray } } :=
      I1.laid (t' := s.toks) (fun b o e => Heap.get?_push_of_some _ e) (Nat.le_refl _) (show ObjOk X.prog X.w _ _ _ (.tup ys) from ⟨hz, its, r', IsTup.new _ _⟩)
    exact ⟨.ref h'.objs.size, _, I2, rfl, q _ (I1.hok.fresh (Nat.le_refl _))⟩
  · obtain ⟨its, r', pl, hz⟩ := I.tuple hq
    exact call_tuple_same pl ⟨.ref p, H, I, rfl, q⟩

/-! ### the call of a builtin's method: o.m(..) -/
/-- the value is of that builtin type -/
def tyV (K : PySem.W.Frag) (T : String) (x : V) (H : Hp) : Prop := match x with
  | .str _ => T = "str"
  | .int _ => T = "int"
  | .ref p => (T = "list" ∧ ∃ xs, SqL K H p xs) ∨ (T = "tuple" ∧ ∃ o, K.lookup p = some o ∧ o.cls = .type "tuple" ∧ o.dict = none) ∨
      (T = "dict" ∧ ((∃ kvs, H p = some (.dK kvs)) ∨ ∃ kvs, H p = some (.dT kvs))) ∨ (T = "set" ∧ ∃ S n, H p = some (.set S n))
  | _ => False
theorem tyV_is {pins : List (Addr × Obj)} {σ : St} {H : Hp} {s : Shared} {T : String} {x : V} {v : Value} (I : Inv X pins σ H s) (r : RelV x v) (ty : tyV X.K T x H) :
    s.TypeIs v T ∧ ∀ a, v = .ref a → ∃ ob, s.heap.get? a = some ob ∧ ob.dict = none := by
  cases x with
  | str z =>
    obtain ⟨t, rfl⟩ := r
    cases (show T = "str" from ty)
    exact ⟨typeIs_str s z t, fun _ e => nomatch e⟩
  | int i =>
    obtain ⟨t, rfl⟩ := r
    cases (show T = "int" from ty)
    exact ⟨typeIs_int s i t, fun _ e => nomatch e⟩
  | ref p =>
    cases r
    rcases ty with ⟨rfl, xs, hq⟩ | ⟨rfl, o, hk, hc, hd⟩ | ⟨rfl, hk⟩ | ⟨rfl, S, n, hk⟩
    · obtain ⟨its, _, pl, _⟩ := I.list hq
      refine ⟨pl.isList.typeIs, fun a e => ?_⟩
      cases e
      obtain ⟨o, n, e, c, hd, _⟩ := pl
      exact ⟨o, e, hd⟩
    · refine ⟨⟨o, I.kIn p o hk, hc⟩, fun a e => ?_⟩
      cases e
      exact ⟨o, I.kIn _ o hk, hd⟩
    · have z : ∃ o, s.heap.get? p = some o ∧ o.ExactDict := by
        rcases hk with ⟨kvs, hk⟩ | ⟨kvs, hk⟩
        · obtain ⟨_, _, _, _, o, _, _, e, ex, _⟩ := I.hok p _ hk
          exact ⟨o, e, ex⟩
        · obtain ⟨_, _, _, _, o, _, _, e, ex, _⟩ := I.hok p _ hk
          exact ⟨o, e, ex⟩
      obtain ⟨o, e, ex⟩ := z
      refine ⟨⟨o, e, ex.1⟩, fun a e2 => ?_⟩
      cases e2
      exact ⟨o, e, ex.2.1⟩
    · obtain ⟨o, _, _, _, e, ex, _⟩ := I.hok p _ hk
      refine ⟨⟨o, e, ex.1⟩, fun a e2 => ?_⟩
      cases e2
      exact ⟨o, e, ex.2.1⟩
  | _ => exact False.elim ty
def tBM0 (K : PySem.W.Frag) (T : String) (r : V → List V → Hp → VK → Prop) (to : TE) : TE := fun σ H Q => to σ H fun x H1 => tyV K T x H1 ∧ r x [] H1 Q
def tBM (K : PySem.W.Frag) (T : String) (r : V → List V → Hp → VK → Prop) (to : TE) (t : TA) : TE := fun σ H Q => to σ H fun x H1 => tyV K T x H1 ∧ t σ H1 fun xs H2 => r x xs H2 Q
variable {o e : Expr} {es : List Expr} {to : TE} {t : TA} {name : Str} {apos cpos : Pos} {T id : String} {r : V → List V → Hp → VK → Prop}
theorem pe_bm0 (pa : PlainAttrs T) (slot : Slot T name id) (hty : typeOf (.builtin id) = pure (.type "method_descriptor")) (hm : MtR X id r) (ho : PE X o to)
    (hbase : attributeBase o name X.env (eval o X.env) = eval o X.env := by rfl) (hline : (apos.endLine == cpos.line) = true := by rfl) : PE X (.Call (.Attribute o name apos) [] [] cpos) (tBM0 X.K T r to) := by
  intro pins s σ H Q I h
  refine wpAny_Call_method0_late hbase hline (thn (ho pins s σ H _ I h) fun v s1 ⟨x, H1, I1, r1, ty, q1⟩ => ?_)
  obtain ⟨h1, h2⟩ := tyV_is I1 r1 ty
  exact ⟨T, id, pa, slot, hty, h1, h2, Calls.callWith_builtin rfl (PySem.evalArgs_none (hm pins s1 σ H1 x [] v [] Q I1 r1 .nil q1))⟩
theorem pe_bm (pa : PlainAttrs T) (slot : Slot T name id) (hty : typeOf (.builtin id) = pure (.type "method_descriptor")) (hm : MtR X id r) (ho : PE X o to) (ha : PA X (e :: es) t)
    (hbase : attributeBase o name X.env (eval o X.env) = eval o X.env := by rfl)
    (hfew : ((backTo cpos (starEach (e :: es) X.env)).all (fun x => !x.1) && (backToKw cpos (keywordEach [] X.env)).all (fun x => x.1.isSome)
      && decide ((e :: es).length + ([] : List Keyword).length + (if ([] : List Keyword).isEmpty then 0 else 1) < 30)) = true := by rfl)
    (hline : (apos.endLine == cpos.line) = true := by rfl) (hs : starEach (e :: es) X.env = (false, eval e X.env) :: starEach es X.env := by rfl) (hplain : (backTo cpos (starEach es X.env)).any (·.1) = false := by rfl) :
    PE X (.Call (.Attribute o name apos) (e :: es) [] cpos) (tBM X.K T r to t) := by
  intro pins s σ H Q I h
  refine wpAny_Call_method_late hbase hfew hline rfl (thn (ho pins s σ H _ I h) fun v s1 ⟨x, H1, I1, r1, ty, q1⟩ => ?_)
  obtain ⟨h1, h2⟩ := tyV_is I1 r1 ty
  refine ⟨T, id, pa, slot, hty, h1, h2, ?_⟩
  have hA := ha cpos pins s1 σ H1 _ I1 q1
  rw [hs] at hA ⊢
  refine Calls.callWith_builtin (by show (false || (backTo cpos (starEach es X.env)).any (·.1)) = false; rw [hplain] <;> rfl) (Calls.evalArgs_plain ?_)
  exact thn hA fun us s2 ⟨vs, H2, I2, r2, q2⟩ => hm pins s2 σ H2 x vs v us Q I2 r1 r2 q2
/- xs.append(e), list.index on a module's tuple .. are MtR facts of 06m -/
end
end L2

namespace L2
open PySem PySem.Spec PyProof.Rows

def MtM (X : Cx) (id : String) (r : V → List V → Hp → VK → Prop) : Prop :=
  ∀ (pins : List (Addr × Obj)) (s : Shared) (σ : St) (H : Hp) (x : V) (xs : List V) (v : Value) (us : List Value) (Q : VK), Inv X pins σ H s → RelV x v → Vals xs us → r x xs H Q →
    wpAny (model X.prog X.w) X.A (call (.builtin id) (v :: us)) (EP X pins σ Q) X.xe s

/-! ### lists of values -/
theorem Vals.one : ∀ {x : V} {us : List Value}, Vals [x] us → ∃ u, us = [u] ∧ RelV x u
  | _, _, .cons r .nil => ⟨_, rfl, r⟩
theorem Vals.two : ∀ {x y : V} {us : List Value}, Vals [x, y] us → ∃ u v, us = [u, v] ∧ RelV x u ∧ RelV y v
  | _, _, _, .cons r (.cons q .nil) => ⟨_, _, rfl, r, q⟩
theorem Vals.zero : ∀ {us : List Value}, Vals [] us → us = []
  | _, .nil => rfl
theorem Vals.dropLast {xs : List V} {us : List Value} (h : Vals xs us) : Vals xs.dropLast us.dropLast := by
  induction h with
  | nil => exact .nil
  | cons r t ih =>
    cases t with
    | nil => exact .nil
    | cons q t' => exact .cons r ih
theorem Vals.eraseIdx : ∀ {xs : List V} {us : List Value} (i : Nat), Vals xs us → Vals (xs.eraseIdx i) (us.eraseIdx i)
  | _, _, _, .nil => .nil
  | _, _, 0, .cons _ t => t
  | _, _, i + 1, .cons r t => .cons r (Vals.eraseIdx i t)
theorem Vals.reverse {xs : List V} {us : List Value} (h : Vals xs us) : Vals xs.reverse us.reverse := by
  induction h with
  | nil => exact .nil
  | cons r t ih => rw [List.reverse_cons, List.reverse_cons]; exact Vals.append ih (.cons r .nil)
theorem Vals.rep {xs : List V} {us : List Value} (h : Vals xs us) : ∀ k : Nat, Vals (List.replicate k xs).flatten (List.replicate k us).flatten
  | 0 => .nil
  | k + 1 => by
    rw [List.replicate_succ, List.replicate_succ, List.flatten_cons, List.flatten_cons]
    exact Vals.append h (Vals.rep h k)
theorem erase_last {α : Type} (l : List α) : l.eraseIdx (l.length - 1) = l.dropLast := by
  induction l with
  | nil => rfl
  | cons a r ih =>
    cases r with
    | nil => rfl
    | cons b r =>
      have e : (a :: b :: r).length - 1 = ((b :: r).length - 1) + 1 := by
        have h1 : (a :: b :: r).length = r.length + 2 := rfl
        have h2 : (b :: r).length = r.length + 1 := rfl
        omega
      rw [e, List.eraseIdx_cons_succ, ih]
      all_goals rfl
theorem len_erase {α : Type} : ∀ (l : List α) (i : Nat), (l.eraseIdx i).length ≤ l.length
  | [], _ => Nat.le_refl _
  | _ :: _, 0 => Nat.le_succ _
  | _ :: r, i + 1 => Nat.succ_le_succ (len_erase r i)
theorem foldl_rep (its : List Value) : ∀ (k : Nat) (acc : List Value),
    List.foldl (fun x1 x2 => x1 ++ x2) acc.toArray (List.replicate k its.toArray) = (acc ++ (List.replicate k its).flatten).toArray
  | 0, acc => by simp
  | k + 1, acc => by
    have e : acc.toArray ++ its.toArray = (acc ++ its).toArray := by simp
    have e2 : (acc ++ its) ++ (List.replicate k its).flatten = acc ++ (List.replicate (k + 1) its).flatten := by
      rw [List.replicate_succ, List.flatten_cons, List.append_assoc]
    rw [← e2, ← foldl_rep its k (acc ++ its), ← e, List.replicate_succ, List.foldl_cons]

section
variable {X : Cx} {pins : List (Addr × Obj)} {σ : St} {H : Hp} {s : Shared} {l b : Addr} {xs ys zs : List V}

/-! ### the two steps: a tracked list is rewritten, a new list is laid -/
theorem Inv.lset {its its' : List Value} {n : Nat} {f : Array Value → Array Value} {t' : Nat} (I : Inv X pins σ H s) (hH : H l = some (.lst xs))
    (e : s.heap.get? l = some { cls := .type "list", data := .seq its.toArray n }) (hf : f its.toArray = its'.toArray) (hv : Vals ys its') (hz : ys.length ≤ sizeLine) :
    Inv X pins σ (upd H l (.lst ys)) { s with heap := s.heap.update l (Obj.mapSeq f), toks := t' } := by
  have q := PySem.IsL.update e f
  rw [hf] at q
  refine I.write (x := l) (e := l) (by rw [hH]; exact trivial) (.inl rfl) (fun b' u hb hu => (Heap.get?_update_other s.heap (Obj.mapSeq f) (Ne.symm hb)).trans hu) ⟨_, q⟩ ?_
  exact ⟨hz, its', _, hv, q⟩
theorem Inv.lnew {its : List Value} {t' : Nat} (I : Inv X pins σ H s) (hv : Vals ys its) (hz : ys.length ≤ sizeLine) :
    Inv X pins σ (upd H s.heap.objs.size (.lst ys)) { s with heap := s.heap.push { cls := .type "list", data := .seq its.toArray }, toks := t' } :=
  I.laid (fun _ _ q => Heap.get?_push_of_some _ q) (Nat.le_refl _) ⟨hz, its, 0, hv, Heap.get?_push_size _ rfl⟩
theorem Inv.fresh (I : Inv X pins σ H s) : H s.heap.objs.size = none := I.hok.fresh (Nat.le_refl _)
theorem Inv.lstM (I : Inv X pins σ H s) (hH : H l = some (.lst xs)) : xs.length ≤ sizeLine ∧ ∃ (its : List Value) (n : Nat), Vals xs its ∧ xs.length = its.length ∧ s.heap.get? l = some { cls := .type "list", data := .seq its.toArray n } := by
  obtain ⟨z, its, n, r, e⟩ := I.hok l _ hH
  exact ⟨z, its, n, r, r.length, e⟩

theorem notLongL {n : Nat} (h : n ≤ sizeLine) : Builtin.List.listTooLong n = false := by
  unfold Builtin.List.listTooLong
  exact decide_eq_false (by omega)
end

section
variable {X : Cx}

/-! ### methods -/
def rAppend : V → List V → Hp → VK → Prop := fun x vs H Q => ∃ l xs y, x = .ref l ∧ vs = [y] ∧ H l = some (.lst xs) ∧ xs.length < sizeLine ∧ Q .non (upd H l (.lst (xs ++ [y])))
theorem mt_append : MtM X "list.append" rAppend := by
  intro pins s σ H x vs v us Q I rx rv h
  obtain ⟨l, xs, y, rfl, rfl, hH, hz, q⟩ := h
  cases rx
  obtain ⟨u, rfl, ru⟩ := rv.one
  obtain ⟨z, its, n, r, hl, e⟩ := I.lstM hH
  refine call_meets F.slot_list_append ⟨_, e, rfl⟩ F.entry_list_append (F.args_list_append_2 _ _) (PySem.list_append l its.toArray n u (by rw [List.size_toArray]; omega)) ⟨e, ?_⟩
  refine ⟨.non, _, I.lset (its' := its ++ [u]) hH e (by simp) (r.append (.cons ru .nil)) ?_, rfl, q⟩
  rw [List.length_append, List.length_singleton]
  omega

def rExtend : V → List V → Hp → VK → Prop := fun x vs H Q => ∃ l b xs zs, x = .ref l ∧ vs = [.ref b] ∧ H l = some (.lst xs) ∧ H b = some (.lst zs) ∧ xs.length + zs.length ≤ sizeLine ∧ Q .non (upd H l (.lst (xs ++ zs)))
theorem mt_extend : MtM X "list.extend" rExtend := by
  intro pins s σ H x vs v us Q I rx rv h
  obtain ⟨l, b, xs, zs, rfl, rfl, hH, hB, hz, q⟩ := h
  cases rx
  obtain ⟨u, rfl, ru⟩ := rv.one
  cases ru
  obtain ⟨z, its, n, r, hl, e⟩ := I.lstM hH
  obtain ⟨z2, its2, n2, r2, hl2, e2⟩ := I.lstM hB
  have hsz : its.toArray.size + its2.toArray.size ≤ sizeLine := by rw [List.size_toArray, List.size_toArray]; omega
  have hlong : ¬ (!its.toArray.isEmpty && Builtin.List.listTooLong (its.toArray.size + its2.toArray.size)) = true := by
    rw [notLongL hsz, Bool.and_false]
    exact Bool.false_ne_true
  refine call_meets F.slot_list_extend ⟨_, e, rfl⟩ F.entry_list_extend (F.args_list_extend_2 _ _)
    (AutoSeq1.list_extend_list_list_0 l its.toArray n b its2.toArray n2 hlong (by rw [List.size_toArray]; omega) (by omega)) ⟨e, e2, ?_⟩
  refine ⟨.non, _, I.lset (its' := its ++ its2) hH e (by simp) (r.append r2) ?_, rfl, q⟩
  rw [List.length_append]
  omega

def rPop : V → List V → Hp → VK → Prop := fun x vs H Q => ∃ l xs y, x = .ref l ∧ vs = [] ∧ H l = some (.lst xs) ∧ xs[xs.length - 1]? = some y ∧ Q y (upd H l (.lst xs.dropLast))
theorem mt_pop : MtM X "list.pop" rPop := by
  intro pins s σ H x vs v us Q I rx rv h
  obtain ⟨l, xs, y, rfl, rfl, hH, hy, q⟩ := h
  cases rx
  have hus := rv.zero
  subst hus
  obtain ⟨z, its, n, r, hl, e⟩ := I.lstM hH
  obtain ⟨u, hu, ru⟩ := r.get hy
  have hy' : its.toArray[its.toArray.size - 1]? = some u := by
    show its.toArray[its.length - 1]? = some u
    rw [← Array.getElem?_toList, ← hl]
    exact hu
  refine call_meets F.slot_list_pop ⟨_, e, rfl⟩ F.entry_list_pop (F.args_list_pop_1 _) (MeetsSeq.list_pop_last l its.toArray n u hy' (by rw [List.size_toArray]; omega)) ⟨e, ?_⟩
  refine ⟨y, _, I.lset (its' := its.dropLast) hH e ?_ r.dropLast ?_, ru, q⟩
  · show its.toArray.eraseIdxIfInBounds (its.toArray.size - 1) = its.dropLast.toArray
    rw [List.size_toArray, List.eraseIdxIfInBounds_toArray, erase_last]
  · rw [List.length_dropLast]
    omega

def rPopAt : V → List V → Hp → VK → Prop := fun x vs H Q => ∃ l xs i k y, x = .ref l ∧ vs = [.int i] ∧ H l = some (.lst xs) ∧ -(2 ^ 63) ≤ i ∧ i < 2 ^ 63 ∧ seqIndex? i xs.length = some k ∧ xs[k]? = some y ∧ Q y (upd H l (.lst (xs.eraseIdx k)))
theorem mt_popAt : MtM X "list.pop" rPopAt := by
  intro pins s σ H x vs v us Q I rx rv h
  obtain ⟨l, xs, i, k, y, rfl, rfl, hH, h1, h2, hk, hy, q⟩ := h
  cases rx
  obtain ⟨u, rfl, ru⟩ := rv.one
  obtain ⟨t, rfl⟩ := ru
  obtain ⟨z, its, n, r, hl, e⟩ := I.lstM hH
  obtain ⟨w, hw, rw'⟩ := r.get hy
  refine call_meets F.slot_list_pop ⟨_, e, rfl⟩ F.entry_list_pop (F.args_list_pop_2 _ _)
    (MeetsSeq.list_pop_at l its.toArray n i t k w (fitsIndex_both h1 h2) (by rw [List.size_toArray, ← hl]; exact hk) (by rw [← Array.getElem?_toList]; exact hw) (by rw [List.size_toArray]; omega)) ⟨e, ?_⟩
  refine ⟨y, _, I.lset (its' := its.eraseIdx k) hH e ?_ (r.eraseIdx k) ?_, rw', q⟩
  · show its.toArray.eraseIdxIfInBounds k = (its.eraseIdx k).toArray
    rw [List.eraseIdxIfInBounds_toArray]
  · have := len_erase xs k
    omega

def rReverse : V → List V → Hp → VK → Prop := fun x vs H Q => ∃ l xs, x = .ref l ∧ vs = [] ∧ H l = some (.lst xs) ∧ Q .non (upd H l (.lst xs.reverse))
theorem mt_reverse : MtM X "list.reverse" rReverse := by
  intro pins s σ H x vs v us Q I rx rv h
  obtain ⟨l, xs, rfl, rfl, hH, q⟩ := h
  cases rx
  have hus := rv.zero
  subst hus
  obtain ⟨z, its, n, r, hl, e⟩ := I.lstM hH
  refine call_meets F.slot_list_reverse ⟨_, e, rfl⟩ F.entry_list_reverse (F.args_list_reverse_1 _) (AutoSeq1.list_reverse_list_0 l its.toArray n (by rw [List.size_toArray]; omega)) ⟨e, ?_⟩
  refine ⟨.non, _, I.lset (its' := its.reverse) hH e (by simp) r.reverse ?_, rfl, q⟩
  rw [List.length_reverse]
  omega

def rClear : V → List V → Hp → VK → Prop := fun x vs H Q => ∃ l xs, x = .ref l ∧ vs = [] ∧ H l = some (.lst xs) ∧ Q .non (upd H l (.lst []))
theorem mt_clear : MtM X "list.clear" rClear := by
  intro pins s σ H x vs v us Q I rx rv h
  obtain ⟨l, xs, rfl, rfl, hH, q⟩ := h
  cases rx
  have hus := rv.zero
  subst hus
  obtain ⟨z, its, n, r, hl, e⟩ := I.lstM hH
  refine call_meets F.slot_list_clear ⟨_, e, rfl⟩ F.entry_list_clear (F.args_list_clear_1 _) (AutoSeq1.list_clear_list_0 l its.toArray n (by rw [List.size_toArray]; omega)) ⟨e, ?_⟩
  exact ⟨.non, _, I.lset (its' := []) (ys := []) hH e rfl .nil (Nat.zero_le _), rfl, q⟩

/-! ### list + list, list += list, list * int -/
def rCat : R2 := fun x y H Q => ∃ l b xs zs, x = .ref l ∧ y = .ref b ∧ H l = some (.lst xs) ∧ H b = some (.lst zs) ∧ xs.length + zs.length ≤ sizeLine ∧ ∀ p, H p = none → Q (.ref p) (upd H p (.lst (xs ++ zs)))
theorem op_cat : OpR X (binaryOp .Add) rCat := by
  intro pins s σ H x y v u Q I rx ry h
  obtain ⟨l, b, xs, zs, rfl, rfl, hH, hB, hz, q⟩ := h
  cases rx
  cases ry
  obtain ⟨z, its, n, r, hl, e⟩ := I.lstM hH
  obtain ⟨z2, its2, n2, r2, hl2, e2⟩ := I.lstM hB
  refine PySem.P.add_list e e2 ?_ (by rw [List.size_toArray, List.size_toArray]; omega)
  have ea : its.toArray ++ its2.toArray = (its ++ its2).toArray := by simp
  rw [ea]
  exact ⟨.ref _, _, I.lnew (t' := s.toks) (r.append r2) (by rw [List.length_append]; omega), rfl, q _ I.fresh⟩
/-- a list times an int (a negative one is nothing) -/
def rRep : R2 := fun x y H Q => ∃ l k xs, x = .ref l ∧ y = .int k ∧ H l = some (.lst xs) ∧ -(2 ^ 63) ≤ k ∧ k < 2 ^ 63 ∧ xs.length * k.toNat ≤ sizeLine ∧
  ∀ p, H p = none → Q (.ref p) (upd H p (.lst (List.replicate k.toNat xs).flatten))
theorem len_rep {α : Type} (xs : List α) (k : Nat) : (List.replicate k xs).flatten.length = k * xs.length := by
  induction k with
  | zero => simp
  | succ k ih => rw [List.replicate_succ, List.flatten_cons, List.length_append, ih, Nat.succ_mul, Nat.add_comm]
theorem op_rep : OpR X (binaryOp .Mult) rRep := by
  intro pins s σ H x y v u Q I rx ry h
  obtain ⟨l, k, xs, rfl, rfl, hH, h1, h2, hz, q⟩ := h
  cases rx
  obtain ⟨t, rfl⟩ := ry
  obtain ⟨z, its, n, r, hl, e⟩ := I.lstM hH
  have hlen : its.toArray.size * k.toNat ≤ sizeLine := by rw [List.size_toArray, ← hl]; exact hz
  have hcap : ¬ its.toArray.size * k.toNat > (2 ^ 63 - 1) / 8 := by
    have : (sizeLine : Nat) ≤ (2 ^ 63 - 1) / 8 := by decide
    omega
  have hfit : ¬ (!Builtin.List.listFitsIndex k) = true := by
    rw [fitsIndex_both h1 h2]
    exact Bool.false_ne_true
  have hlong : ¬ Builtin.List.listTooLong (its.toArray.size * k.toNat) = true := by
    rw [notLongL hlen]
    exact Bool.false_ne_true
  have hnew : List.foldl (fun x1 x2 => x1 ++ x2) #[] (List.replicate (if its.toArray.isEmpty = true then 0 else k.toNat) its.toArray) = (List.replicate k.toNat its).flatten.toArray := by
    have f0 : ∀ m : Nat, List.foldl (fun x1 x2 => x1 ++ x2) #[] (List.replicate m its.toArray) = (List.replicate m its).flatten.toArray := fun m => by
      have := foldl_rep its m []
      rw [List.nil_append] at this
      exact this
    rw [f0]
    cases its with
    | nil => simp
    | cons a r' => rw [if_neg (by simp)]
  refine wpAny_binaryOp_repeat_ref (T := "list") (U := "int") (by decide) ⟨_, e, rfl⟩ (fun s' => typeIs_int s' k t) noFill_list_mul F.fills_int_mul F.slot_int_rmul repeat_list F.slot_int_index.lookup
    (call_meets F.slot_int_rmul (typeIs_int s k t) F.entry_int_rmul (F.args_int_rmul_2 _ _) (int___rmul___int_list k t l its.toArray n)
      ⟨e, rfl, ⟨_, e, rfl⟩, call_meets F.slot_list_mul ⟨_, e, rfl⟩ F.entry_list_mul (F.args_list_mul_2 _ _) (AutoListH.list___mul___list_int_3 l its.toArray n k t hfit hcap hlong) ⟨e, ?_⟩⟩)
  rw [hnew]
  exact ⟨.ref _, _, I.lnew (t' := s.toks) (r.rep k.toNat) (by rw [len_rep, Nat.mul_comm]; exact hz), rfl, q _ I.fresh⟩

/-! ### del xs[i] -/
theorem del_list {pins : List (Addr × Obj)} {s : Shared} {σ : St} {H : Hp} {l : Addr} {xs : List V} {i : Int} {t : Tok} {k : Nat} {Q : Unit → Shared → Prop} (I : Inv X pins σ H s) (hH : H l = some (.lst xs))
    (h1 : -(2 ^ 63) ≤ i) (h2 : i < 2 ^ 63) (hk : seqIndex? i xs.length = some k) (h : ∀ s', Inv X pins σ (upd H l (.lst (xs.eraseIdx k))) s' → Q () s') :
    wpAny (model X.prog X.w) X.A (delItem (.ref l) (.int i t)) Q X.xe s := by
  obtain ⟨z, its, n, r, hl, e⟩ := I.lstM hH
  refine PySem.P.delItem_list (k := k) e (fitsIndex_both h1 h2) (by rw [List.size_toArray, ← hl]; exact hk) (h _ ?_) (by rw [List.size_toArray]; omega)
  refine I.lset (its' := its.eraseIdx k) (t' := s.toks) hH e ?_ (r.eraseIdx k) ?_
  · show its.toArray.eraseIdxIfInBounds k = (its.eraseIdx k).toArray
    rw [List.eraseIdxIfInBounds_toArray]
  · have := len_erase xs k
    omega
end

/-! ### xs[a:b] = ys -/
section
variable {prog : Program} {w : World} {A : Around} {E : Value → Shared → Prop} {s : Shared}
theorem splice_eq (its its2 : List Value) (a c : Nat) : its.toArray.extract 0 a ++ its2.toArray ++ its.toArray.extract c its.toArray.size = (its.take a ++ its2 ++ its.drop c).toArray := by
  apply Array.toList_inj.mp
  first
    | (simp
       exact List.take_of_length_le (by simp))
    | simp [List.take_of_length_le]
    | simp
theorem bounds_run {a c n : Nat} (hac : a ≤ c) (hc : c ≤ n) : sliceBounds (some (a : Int)) (some (c : Int)) none n = ((a : Int), (c : Int), 1) := by
  simp only [sliceBounds, Option.getD_none]
  have h1 : ¬ ((a : Int) < 0) := by omega
  have h2 : ¬ ((c : Int) < 0) := by omega
  simp only [h1, h2, if_false, show (1 : Int) > 0 by decide, if_true]
  congr 1
  · omega
  · congr 1; omega
set_option maxRecDepth 100000 in
/-- list.__setitem__ with a slice of step one and another list -/
theorem setItem_slice {l b sl : Addr} {items new : Array Value} {n n2 : Nat} {vl vu : Value} {a c : Nat} {Q : Unit → Shared → Prop}
    (e : s.heap.get? l = some { cls := .type "list", data := .seq items n }) (e2 : s.heap.get? b = some { cls := .type "list", data := .seq new n2 }) (hne : l ≠ b)
    (hs : s.heap.IsSliceOf sl vl vu .none) (pl : IsPart vl (some (a : Int))) (pu : IsPart vu (some (c : Int))) (hac : a ≤ c) (hc : c ≤ items.size)
    (hsz : items.size + new.size ≤ sizeLine) (h : Q () { s with heap := s.heap.update l (Obj.mapSeq fun xs => xs.extract 0 a ++ new ++ xs.extract c xs.size) }) :
    wpAny (model prog w) A (setItem (.ref l) (.ref sl) (.ref b)) Q E s := by
  have hl : s.heap.IsList l items := PySem.IsL.isList e
  have hb : s.heap.IsList b new := PySem.IsL.isList e2
  obtain ⟨os, hos, hcs, hds⟩ := id hs
  have hTs : s.TypeIs (.ref sl) "slice" := ⟨os, hos, hcs⟩
  have hstep : ¬ ((rawPart none == rawInt 0) = true) := Bool.false_ne_true
  have hsame : Builtin.List.listSameRef (.ref l) (.ref b) = false := by
    unfold Builtin.List.listSameRef
    exact beq_eq_false_iff_ne.mpr hne
  have hmax : (max (a : Int) (c : Int)).toNat = c := by omega
  have hz' : ((fun xs : Array Value => xs.extract 0 a ++ new ++ xs.extract c xs.size) items).size ≤ sizeLine + 1 := by
    simp only [Array.size_append, Array.size_extract]
    omega
  unfold setItem
  try with_reducible refine wpAny_holding ?_
  first | refine wpAny_bind (wpAny_pure ?_) | skip
  refine wpAny_bind (wpAny_sequenceKey hl.typeIs (by decide) ?_)
  refine wpAny_bind (wpAny_callSpecial?_slot (name := Str.ofString "__setitem__") hl.typeIs slot_list_setitem
    (wpAny_call_entry slot_list_setitem hl.typeIs entry_list_setitem ?_ (args_list_setitem _ _ _)))
  show wpAny _ _ (Builtin.List.listSubscript? (.ref sl) >>= _) _ _ s
  refine wpAny_bind ?_
  unfold Builtin.List.listSubscript?
  refine wpAny_bind (wpAny_specialOf hTs slice_no_index ?_)
  simp only [Option.isNone_none, if_true]
  refine wpAny_pure ?_
  show wpAny _ _ (typeOf (.ref sl) >>= _) _ _ s
  refine wpAny_bind (wpAny_typeOf hTs ?_)
  first
    | rw [if_neg (by decide)]
    | refine PySem.W.KFB.if_not (by decide) ?_
  rw [listSliceParts_eq]
  refine wpAny_bind (wpAny_bind (wpAny_field hos hds (x := .none) rfl (wpAny_bind (wpAny_listPart .none ?_))))
  rw [if_neg hstep]
  refine wpAny_bind (wpAny_field hos hds (x := vl) rfl (wpAny_bind (wpAny_listPart pl ?_)))
  refine wpAny_bind (wpAny_field hos hds (x := vu) rfl (wpAny_bind (wpAny_listPart pu (wpAny_pure ?_))))
  first
    | simp only [hsame, Bool.false_eq_true, if_false]
    | refine PySem.W.KFB.if_not hsame ?_
    | (dsimp only
       rw [if_neg (by rw [hsame]; exact Bool.false_ne_true)])
  refine wpAny_bind (m := Builtin.List.listAllItems (.ref b) "must assign iterable to extended slice") ?_
  unfold Builtin.List.listAllItems
  refine wpAny_bind (wpAny_typeOf hb.typeIs ?_)
  first
    | refine PySem.W.KFB.if_so (by decide) ?_
    | rw [if_pos (by decide)]
    | simp only [beq_self_eq_true, Bool.true_or, if_true]
  unfold Builtin.List.listItems
  refine wpAny_bind (wpAny_seqItems e2 rfl (wpAny_pure ?_))
  refine wpAny_bind (wpAny_bind (wpAny_seqItems e rfl (wpAny_pure ?_)))
  refine wpAny_bind (wpAny_of_eq ((sliceIndices_raw (some (a : Int)) (some (c : Int)) none items.size (by simp)).trans (congrArg (pure : Int × Int × Int → Sem (Int × Int × Int)) (bounds_run hac hc))) ?_)
  show wpAny _ _ (if ((1 : Int) == 1) = true then _ else _) _ _ s
  rw [if_pos (by decide)]
  refine wpAny_bind (wpAny_rule ?_)
  first
    | simp only [notLongL hsz, Bool.false_eq_true, if_false]
    | refine PySem.W.KFB.if_not (notLongL hsz) ?_
  first | refine wpAny_bind (wpAny_pure ?_) | skip
  show wpAny _ _ (updateSeq l (fun xs => xs.extract 0 ((a : Int)).toNat ++ new ++ xs.extract (max (a : Int) (c : Int)).toNat xs.size) >>= _) _ _ s
  rw [hmax, Int.toNat_natCast]
  refine wpAny_bind (wpAny_updateSeq (hz := Nat.le_trans (Nat.le_add_right _ _) hsz) (_hz' := hz') e rfl ?_)
  refine wpAny_bind (wpAny_letGo ?_)
  first
    | exact wpAny_bind (wpAny_pure (wpAny_pure ⟨.none, rfl, wpAny_pure h⟩))
    | exact wpAny_pure ⟨.none, rfl, wpAny_pure h⟩
end

section
variable {X : Cx}
/-- xs[a:c] = ys of another list, at the value level: sl is the slice object that was just made -/
theorem set_slice {pins : List (Addr × Obj)} {s : Shared} {σ : St} {H : Hp} {l b sl : Addr} {xs ys : List V} {a c : Int} {vl vu : Value} {Q : Unit → Shared → Prop} (I : Inv X pins σ H s)
    (hH : H l = some (.lst xs)) (hB : H b = some (.lst ys)) (hne : l ≠ b) (hs : s.heap.IsSliceOf sl vl vu .none) (ra : RelV (.int a) vl) (rc : RelV (.int c) vu) (h0 : 0 ≤ a) (hac : a ≤ c) (hc : c ≤ xs.length)
    (hz : xs.length + ys.length ≤ sizeLine) (h : ∀ s', Inv X pins σ (upd H l (.lst (xs.take a.toNat ++ ys ++ xs.drop c.toNat))) s' → Q () s') :
    wpAny (model X.prog X.w) X.A (setItem (.ref l) (.ref sl) (.ref b)) Q X.xe s := by
  obtain ⟨ta, rfl⟩ := ra
  obtain ⟨tc, rfl⟩ := rc
  obtain ⟨z, its, n, r, hl, e⟩ := I.lstM hH
  obtain ⟨z2, its2, n2, r2, hl2, e2⟩ := I.lstM hB
  obtain ⟨a', rfl⟩ := Int.eq_ofNat_of_zero_le h0
  obtain ⟨c', rfl⟩ := Int.eq_ofNat_of_zero_le (Int.le_trans h0 hac)
  simp only [Int.toNat_natCast] at h
  refine setItem_slice (a := a') (c := c') e e2 hne hs (.int _ _) (.int _ _) (by omega) (by rw [List.size_toArray]; omega) (by rw [List.size_toArray, List.size_toArray]; omega) (h _ ?_)
  refine I.lset (its' := its.take a' ++ its2 ++ its.drop c') (t' := s.toks) hH e ?_ (Vals.append (Vals.append (r.take _) r2) (r.drop _)) ?_
  · exact splice_eq its its2 a' c'
  · rw [List.length_append, List.length_append, List.length_take, List.length_drop]
    omega
end
end L2

namespace Att
open PySem PySem.W PySem.Calls PyProof.Rows

/-! ### the script -/
theorem ints_of_wellAll {P : Params} {h : Heap} : ∀ (ns : List Int) (vs : List Value), WellAll P h vs (ns.map WData.int) → IntsAre vs ns := by
  intro ns
  induction ns with
  | nil =>
    intro vs w
    rw [List.map_nil] at w
    cases w
    exact .nil
  | cons n ns ih =>
    intro vs w
    rw [List.map_cons] at w
    cases w with
    | cons a b =>
      cases a
      exact .cons _ _ (ih _ b)

theorem script_of {l : OpenLaw} {n : Nat} (hn : l.most = some n) {P : Params} {h : Heap} {args : List WData} {vals : List Value}
    (hpre : l.row.toRowW.claim.pre args = true) (hwl : WellAll P h vals args) :
    ∃ a vs ns, vals = [Value.ref a] ∧ args = [WData.list (ns.map WData.int)] ∧ h.get? a = some { cls := .type "list", data := .seq vs.toArray } ∧ IntsAre vs ns ∧ ns.length ≤ n := by
  have hsh : WShape.hasAll [] args [.list .int] = true := (pre_splitW hpre).1
  have hc : l.pre.holds [] { args := args } = true := (pre_splitW hpre).2
  obtain ⟨d, r, rfl, h1, h2⟩ := hasAllW_cons hsh
  obtain rfl := hasAllW_nil h2
  obtain ⟨xs, rfl, h3⟩ := hasW_list h1
  obtain ⟨ns, rfl⟩ := items_int h3
  have hlen : ns.length ≤ n := by
    unfold OpenLaw.pre at hc
    have h4 : (WTm.not (.lt (.lit (.int (n : Int))) (.len (.arg 0)))).holds [] { args := [.list (ns.map .int)] } = true := by
      have h4 := (holds_andW hc).1
      rw [hn] at h4
      exact h4
    have h5 := condW_of h4 (w_not (w_lt w_lit (w_len_list (w_arg rfl))))
    rw [List.length_map] at h5
    refine Nat.le_of_not_lt fun q => ?_
    have q' : (n : Int) < ((ns.length : Nat) : Int) := by omega
    first
      | (rw [decide_eq_true q'] at h5; exact absurd h5 (by decide))
      | (simp at h5; omega)
  cases hwl with
  | cons w1 w2 =>
    cases w2
    cases w1 with
    | list ho hall => exact ⟨_, _, ns, rfl, rfl, ho, ints_of_wellAll ns _ hall, hlen⟩

theorem post_true (l : OpenLaw) (args : List WData) : l.row.toRowW.claim.post args (.bool true) args = true :=
  postW_of (r := l.row.toRowW) (X := (true == true))
    (show WShape.has [] (.bool true) .bool = true by first | rfl | decide | simp [WShape.has, WShape.arms, WShape.armsAll])
    (show (WTm.eq .res (.lit (.bool true))).value [] { args := args, res := some (.bool true), after := args } = some (.bool (true == true)) from w_eq_bool (w_res rfl) w_lit) rfl

/-! ### the attachment: holds_open's last premise (the goal 'hc' behind k_head) from a wpAny of the law's body -/
theorem attach {l : OpenLaw} {n : Nat} {q : Program} {loose : List Str} {XP : (Str → Option Value) → Heap → Prop} {YP : World → Heap → Prop} {d : DefRec} {x : Str}
    (hn : l.most = some n) (hdf : d.params.defaults = [])
    (hbind : ∀ pm cd doc v : Value, bindArgs (docDef d.name d.params d.body d.scope pm cd doc) ⟨[v], []⟩ = pure [(x, v)])
    (hx : d.scope.names.lookup x = some .local ∨ d.scope.names.lookup x = some .cell)
    (hk : d.scope.kind = .function) (hco : d.scope.isCoroutine = false) (hgen : d.scope.isGenerator = false)
    (body : ∀ (w : World) (s₀ s₁ s : Shared) (mg mb : Str → Option Value) (fa : Addr) (o : Obj) (pm cd doc : Value) (a : Addr) (vs : List Value) (ns : List Int),
      Ground q loose [] XP w s₀ mg mb s₁.heap → YP w s₁.heap →
      s₁.heap.get? fa = some o → o.data = .func (docDef d.name d.params d.body d.scope pm cd doc) → s₁.heap.CodeRec cd d.name → mg d.name = some (.ref fa) →
      s₁.heap.get? a = some { cls := .type "list", data := .seq vs.toArray } → IntsAre vs ns → ns.length ≤ n →
      s.gens = #[] → s.os = s₁.os →
      Fr s₁.heap s₁.heap.objs.size s.heap (bindL (envOfC d.name d.scope s₁.heap.objs.size fa cd).kindOf [(x, .ref a)] fun _ => none) →
      Cl s₁.heap.objs.size (cellsFrom (s₁.heap.objs.size + 1) d.scope.names []) s.heap (bindC (envOfC d.name d.scope s₁.heap.objs.size fa cd).kindOf [(x, .ref a)] fun _ => none) →
      wpAny (model l.prog w) (callerA.deeper (envOfC d.name d.scope s₁.heap.objs.size fa cd)) (execs d.body (envOfC d.name d.scope s₁.heap.objs.size fa cd))
        (fun f s' => f = .ret (.bool true) ∧ OldK s₁.heap s'.heap ∧ s'.os = s₁.os ∧ AllBare s'.gens) (fun _ _ => False) s) :
    WalkO q loose XP YP l.row.toRowW d [] (fun f vs => PySem.call f vs) := by
  intro w s₀ s₁ mg mb G Y fa o pm cd doc dV kV ho hd hcd hD hmg hg args vals as hpre hlay hrd hwl hlo
  obtain rfl : dV = .none := Dflts.none hD hdf
  obtain rfl : kV = .none := Dflts.noKw hD
  obtain ⟨a, vs, ns, rfl, rfl, hobj, hints, hlen⟩ := script_of hn hpre hwl
  refine enter_call ?_
  refine call_cells_ret (o := o) (by rw [depth_caller]; decide) ho (fd_plain hd) G.T.nolimit hcd (hbind pm cd doc (.ref a)) (fun y hy => ?_) (fun h₁ tk F X => ?_) hco hgen hk
  · obtain rfl : y = (x, Value.ref a) := List.mem_singleton.mp hy
    rcases hx with e | e
    · exact .inl e
    · exact .inr ⟨e, cellsFrom_some _ _ _ (.inl e)⟩
  · refine wpAny_mono (body w s₀ s₁ { s₁ with heap := h₁, toks := tk } mg mb fa o pm cd doc a vs ns G Y ho (fd_plain hd) hcd hmg hobj hints hlen hg rfl F X) (fun f s' hq => ?_) (fun _ _ hq => hq)
    obtain ⟨rfl, h2, h3, h4⟩ := hq
    exact ⟨.inl ⟨.bool true, .bool true, [], rfl, fun _ => rfl, .bool true, post_true l _, fun _ => ⟨List.Pairwise.nil, fun _ hm => (nomatch hm)⟩⟩, h2, h3, h4⟩

/-- the same from a codeAny of the CALL (for a layer whose function contracts speak of calls) -/
theorem attach_call {l : OpenLaw} {n : Nat} {q : Program} {loose : List Str} {XP : (Str → Option Value) → Heap → Prop} {YP : World → Heap → Prop} {d : DefRec}
    (hn : l.most = some n) (hdf : d.params.defaults = [])
    (call : ∀ (w : World) (s₀ s₁ : Shared) (mg mb : Str → Option Value) (fa : Addr) (o : Obj) (pm cd doc : Value) (a : Addr) (vs : List Value) (ns : List Int),
      Ground q loose [] XP w s₀ mg mb s₁.heap → YP w s₁.heap →
      s₁.heap.get? fa = some o → o.data = .func (docDef d.name d.params d.body d.scope pm cd doc) → s₁.heap.CodeRec cd d.name → mg d.name = some (.ref fa) →
      s₁.heap.get? a = some { cls := .type "list", data := .seq vs.toArray } → IntsAre vs ns → ns.length ≤ n → s₁.gens = #[] →
      codeAny (model l.prog w) callerA (.call (.ref fa) ⟨[.ref a], []⟩) (fun r s' => r = .ok (.ret (.bool true)) ∧ OldK s₁.heap s'.heap ∧ s'.os = s₁.os ∧ AllBare s'.gens) s₁) :
    WalkO q loose XP YP l.row.toRowW d [] (fun f vs => PySem.call f vs) := by
  intro w s₀ s₁ mg mb G Y fa o pm cd doc dV kV ho hd hcd hD hmg hg args vals as hpre hlay hrd hwl hlo
  obtain rfl : dV = .none := Dflts.none hD hdf
  obtain rfl : kV = .none := Dflts.noKw hD
  obtain ⟨a, vs, ns, rfl, rfl, hobj, hints, hlen⟩ := script_of hn hpre hwl
  refine enter_call (codeAny_mono (call w s₀ s₁ mg mb fa o pm cd doc a vs ns G Y ho (fd_plain hd) hcd hmg hobj hints hlen hg) fun r s' hq => ?_)
  obtain ⟨rfl, h2, h3, h4⟩ := hq
  exact ⟨.inl ⟨.bool true, .bool true, [], rfl, fun _ => rfl, .bool true, post_true l _, fun _ => ⟨List.Pairwise.nil, fun _ hm => (nomatch hm)⟩⟩, h2, h3, h4⟩

/-- the same where the top left finished generators (o_head chose holds_openN): nothing may have changed at all and no generator may be left -/
theorem attachN {l : OpenLaw} {n : Nat} {q : Program} {loose : List Str} {XP : (Str → Option Value) → Heap → Prop} {YP : World → Heap → Prop} {d : DefRec} {x : Str}
    (hn : l.most = some n) (hdf : d.params.defaults = [])
    (hbind : ∀ pm cd doc v : Value, bindArgs (docDef d.name d.params d.body d.scope pm cd doc) ⟨[v], []⟩ = pure [(x, v)])
    (hx : d.scope.names.lookup x = some .local ∨ d.scope.names.lookup x = some .cell)
    (hk : d.scope.kind = .function) (hco : d.scope.isCoroutine = false) (hgen : d.scope.isGenerator = false)
    (body : ∀ (w : World) (s₀ s₁ s : Shared) (mg mb : Str → Option Value) (fa : Addr) (o : Obj) (pm cd doc : Value) (a : Addr) (vs : List Value) (ns : List Int),
      Ground q loose [] XP w s₀ mg mb s₁.heap → YP w s₁.heap →
      s₁.heap.get? fa = some o → o.data = .func (docDef d.name d.params d.body d.scope pm cd doc) → s₁.heap.CodeRec cd d.name → mg d.name = some (.ref fa) →
      s₁.heap.get? a = some { cls := .type "list", data := .seq vs.toArray } → IntsAre vs ns → ns.length ≤ n →
      s.gens = #[] → s.os = s₁.os →
      Fr s₁.heap s₁.heap.objs.size s.heap (bindL (envOfC d.name d.scope s₁.heap.objs.size fa cd).kindOf [(x, .ref a)] fun _ => none) →
      Cl s₁.heap.objs.size (cellsFrom (s₁.heap.objs.size + 1) d.scope.names []) s.heap (bindC (envOfC d.name d.scope s₁.heap.objs.size fa cd).kindOf [(x, .ref a)] fun _ => none) →
      wpAny (model l.prog w) (callerA.deeper (envOfC d.name d.scope s₁.heap.objs.size fa cd)) (execs d.body (envOfC d.name d.scope s₁.heap.objs.size fa cd))
        (fun f s' => f = .ret (.bool true) ∧ (∀ b o, s₁.heap.get? b = some o → s'.heap.get? b = some o) ∧ s'.os = s₁.os ∧ s'.gens = #[]) (fun _ _ => False) s) :
    WalkN q loose XP YP l.row.toRowW d [] (fun f vs => PySem.call f vs) := by
  intro w s₀ s₁ mg mb G Y fa o pm cd doc dV kV ho hd hcd hD hmg hg args vals as hpre hlay hrd hwl hlo
  obtain rfl : dV = .none := Dflts.none hD hdf
  obtain rfl : kV = .none := Dflts.noKw hD
  obtain ⟨a, vs, ns, rfl, rfl, hobj, hints, hlen⟩ := script_of hn hpre hwl
  refine enter_callW ?_
  refine call_cells_ret (o := o) (by rw [depth_caller]; decide) ho (fd_plain hd) G.T.nolimit hcd (hbind pm cd doc (.ref a)) (fun y hy => ?_) (fun h₁ tk F X => ?_) hco hgen hk
  · obtain rfl : y = (x, Value.ref a) := List.mem_singleton.mp hy
    rcases hx with e | e
    · exact .inl e
    · exact .inr ⟨e, cellsFrom_some _ _ _ (.inl e)⟩
  · refine wpAny_mono (body w s₀ s₁ { s₁ with heap := h₁, toks := tk } mg mb fa o pm cd doc a vs ns G Y ho (fd_plain hd) hcd hmg hobj hints hlen hg rfl F X) (fun f s' hq => ?_) (fun _ _ hq => hq)
    obtain ⟨rfl, h2, h3, h4⟩ := hq
    exact ⟨.inl ⟨.bool true, .bool true, [], rfl, fun _ => rfl, .bool true, post_true l _, fun _ => ⟨List.Pairwise.nil, fun _ hm => (nomatch hm)⟩⟩, h2, h3, h4⟩

/-! ### rules over ANY heap (no ledger) from facts about the written part K: the library's own take a ledger (News) for what they write -/
section
variable {prog : Program} {w : World} {A : Around} {E : Value → Shared → Prop} {s : Shared} {K : Frag}

/-- a def of the module, or a method (qual 'C.m'), entered: the frame is the next address; cells behind it -/
theorem call_fn {R : Result → Shared → Prop} {name qual : Str} {params : Arguments} {body : List Stmt} {scope : Scope} {dV kV doc pm cdv ct oc : Value} {an od : Option Addr} {osl : Array (Option Value)} {f : Addr} {args : Args} {binds : List (Str × Value)}
    (X : K.In s.heap) (hlim : s.heap.NoLimit) (ho : K.lookup f = some ⟨oc, od, .func (fnOf name qual params body scope dV kV doc pm an cdv ct), osl⟩) (hcd : codeIn K cdv qual = true) (hroom : A.depth < recursionLimit)
    (hbind : BindsTo s (fnOf name qual params body scope dV kV doc pm an cdv ct) args binds)
    (hkind : (binds.all fun y => scope.names.lookup y.1 == some .local || scope.names.lookup y.1 == some .cell) = true)
    (h : ∀ s₁, InCallC s s.heap.objs.size (bindL (envOfC qual scope s.heap.objs.size f cdv).kindOf binds fun _ => none) (cellsFrom (s.heap.objs.size + 1) scope.names [])
        (bindC (envOfC qual scope s.heap.objs.size f cdv).kindOf binds fun _ => none) s₁ →
      wpAny (model prog w) (A.deeper (envOfC qual scope s.heap.objs.size f cdv)) (execs body (envOfC qual scope s.heap.objs.size f cdv))
        (fun fl s' => R (.ok (.ret (match fl with | .ret v => v | _ => .none))) s')
        (fun e s' => wpAny (model prog w) (A.deeper (envOfC qual scope s.heap.objs.size f cdv)) (leaving (envOfC qual scope s.heap.objs.size f cdv) e) (fun _ s'' => R (.error e) s'') (fun e' s'' => R (.error e') s'') s') s₁)
    (hco : scope.isCoroutine = false) (hgen : scope.isGenerator = false) (hk : scope.kind = .function) : codeAny (model prog w) A (.call (.ref f) args) R s := by
  refine codeAny_call_function hroom (X _ _ ho) rfl hco hgen rfl (codeRec_of X hcd) (hbind _ _ _ _ ?_)
  refine wpAny_newFunctionEnv_cells hk (kindsX hkind _) fun env he s₁ x => ?_
  subst he
  exact ⟨hlim.keeps x.toInCall.keep, codeAny_func (h s₁ x)⟩

/-- C(..): dict at size, instance at size + 1, then __init__ -/
theorem make_obj {R : Result → Shared → Prop} {C fI : Addr} {rest : List Value} {kw : List (Str × Value)}
    (X : K.In s.heap) (hm : makesIn K C = true) (hi : findIn K (.ref C) "__init__" = some (some (.ref fI))) (hf : isFn K (.ref fI) = true)
    (h : codeAny (model prog w) (A.under (.builtin "type.__call__" ⟨.ref C :: rest, kw⟩)) (.call (.ref fI) ⟨.ref (s.heap.objs.size + 1) :: rest, kw⟩) (InitBack (s.heap.objs.size + 1) R)
      { s with heap := (s.heap.push emptyDict).push (instObj C s.heap.objs.size) }) : codeAny (model prog w) A (.call (.ref C) ⟨rest, kw⟩) R s := by
  obtain ⟨hh, g, d, t, os⟩ := s
  exact make_core (makes_of X hm) (looks_findIn X hi) (fun self => bind_fn X self (beq_iff_eq.mp hf)) (.inl rfl) h

/-- x.name where the instance's dict holds the name and the class does not -/
theorem get_field {x C : Addr} {ox : Obj} {es : List DictEntry} {n : Nat} {name : Str} {expr : Bool} {v : Value} {Q : Value → Shared → Prop}
    (X : K.In s.heap) (I : PySem.W.InstAt s.heap x ox C (some (dictOf es n))) (hg : plainGet K C name = true) (hh : hasDictIn K C = true) (ha : findIn K (.ref C) name = some none)
    (hl : getL name es = some (some v)) (hv : handedIn v = true) (h : Q v { s with toks := s.toks + 1 }) : wpAny (model prog w) A (getAttr (.ref x) name expr) Q E s :=
  get_value X I (plainGet_of hg).1 (findObj_own hh ha rfl hl) hv h

/-- x.m(..): the method found in the class -/
theorem get_method {x C f : Addr} {ox : Obj} {es : List DictEntry} {n : Nat} {name : Str} {pl : Sem Bool} {Q : Value × List Value → Shared → Prop}
    (X : K.In s.heap) (I : PySem.W.InstAt s.heap x ox C (some (dictOf es n))) (hg : plainGet K C name = true) (hf : findIn K (.ref C) name = some (some (.ref f))) (ht : isFn K (.ref f) = true)
    (hl : getL name es = some none) (h : Q (.ref f, [.ref x]) s) : wpAny (model prog w) A (getMethod (.ref x) name pl) Q E s :=
  method_fn X I (plainGet_of hg).1 (plainGet_of hg).2 hf (beq_iff_eq.mp ht) (by show (lookIn name (dictOf es n)).map _ = _; rw [lookIn_dict, hl]; rfl) h

/-! the whole heap as the ledger: makes every rule that writes through a ledger a rule over any heap -/
def noObjs (h : Heap) : Heap := { h with objs := #[] }
theorem noObjs_get (h : Heap) (b : Addr) : (noObjs h).get? b = none := by
  cases e : (noObjs h).get? b with
  | none => rfl
  | some o => exact absurd (Heap.lt_size e) (Nat.not_lt_zero _)
def ledger (h : Heap) (L d : Addr) : List (Addr × Obj) := (List.range h.objs.size).filterMap fun a => if a = L ∨ a = d then none else (h.get? a).map fun o => (a, o)
theorem mem_ledger {h : Heap} {L d a : Addr} {o : Obj} : (a, o) ∈ ledger h L d ↔ a ≠ L ∧ a ≠ d ∧ h.get? a = some o := by
  unfold ledger
  rw [List.mem_filterMap]
  constructor
  · rintro ⟨b, _, e⟩
    split at e
    · cases e
    · rename_i hb
      obtain ⟨o', ho, e'⟩ := Option.map_eq_some_iff.mp e
      cases e'
      exact ⟨fun q => hb (.inl q), fun q => hb (.inr q), ho⟩
  · rintro ⟨n1, n2, ho⟩
    refine ⟨a, List.mem_range.mpr (Heap.lt_size ho), ?_⟩
    rw [if_neg (show ¬ (a = L ∨ a = d) from fun q => q.elim n1 n2), ho] <;> rfl
theorem news_ledger {h : Heap} {L d : Addr} {od : Obj} (hne : d ≠ L) (ho : h.get? d = some od) : News (noObjs h) L h ([] ++ (d, od) :: ledger h L d) := by
  rintro ⟨a, o⟩ hp
  rcases List.mem_cons.mp hp with e | hp
  · cases e
    exact ⟨ho, hne, noObjs_get _ _⟩
  · obtain ⟨n1, n2, e⟩ := mem_ledger.mp hp
    exact ⟨e, n1, noObjs_get _ _⟩
theorem fr_all {h : Heap} {L : Addr} {m : Str → Option Value} (n : h.Ns L m) : Fr (noObjs h) L h m :=
  ⟨n, fun b o e => (by rw [noObjs_get] at e; cases e), Nat.zero_le _⟩
/-- Upd of the head entry (for append_K, setItem_K ..) -/
theorem upd_ledger {h : Heap} {L d : Addr} {o o' : Obj} : Upd d o o' ((d, o) :: ledger h L d) ((d, o') :: ledger h L d) :=
  .head fun ⟨_, _⟩ hp => (mem_ledger.mp hp).2.1

/-- x.name = v over any heap: L is any namespace of the heap (the frame's, say): its map stays, its object is not told; all else but the dict stays -/
theorem set_field {x C dx L : Addr} {ox : Obj} {m : Str → Option Value} {es es' : List DictEntry} {n n' : Nat} {name : Str} {v : Value} {Q : Unit → Shared → Prop}
    (X : K.In s.heap) (I : PySem.W.InstAt s.heap x ox C (some (dictOf es n))) (hd : ox.dict = some dx) (hL : s.heap.Ns L m) (hne : dx ≠ L)
    (hs : findIn K (.ref C) "__setattr__" = some (some (.builtin "object.__setattr__"))) (hp : plainOver K C = true) (ht : takerIn K C name = some none) (hh : hasDictIn K C = true) (hl : (getL name es).isSome = true)
    (e : (putL name (PyData.keyHash w.params name) (.str name (s.toks + 1)) v es, putN name es n) = (es', n')) (hz : es'.length ≤ 1000)
    (h : ∀ h' : Heap, h'.Ns L m → h'.get? dx = some (dictOf es' n') → (∀ b o, b ≠ dx → b ≠ L → s.heap.get? b = some o → h'.get? b = some o) → Q () { s with heap := h', toks := s.toks + 2 }) :
    wpAny (model prog w) A (setAttr (.ref x) name v) Q E s := by
  obtain ⟨e1, e2⟩ := Prod.mk.inj e
  have hdx : s.heap.get? dx = some (dictOf es n) := by
    have := I.dict
    rw [hd] at this
    exact this
  refine set_plain X I hs (osa_dict (s := { s with toks := s.toks + 1 }) (h₀ := noObjs s.heap) (L := L) (m := m) (od := dictOf es n) (od' := dictOf es' n') (es := es') (n := n') (pre := []) (post := ledger s.heap L dx)
    (fr_all hL) (news_ledger hne hdx) X I hd hp ht hh hl (fun _ q => nomatch q) (fun ⟨_, _⟩ q => (mem_ledger.mp q).2.1) (by rw [putName_dict, e1, e2]) rfl hz fun h' F' N' => ?_)
  exact h h' F'.ns (N'.get (List.Mem.head _)) fun b o n1 n2 ho => N'.get (List.Mem.tail _ (mem_ledger.mpr ⟨n2, n1, ho⟩))
end
end Att

namespace L2
open PySem PySem.Spec PyProof.Rows

theorem vals_ints : ∀ {vs : List Value} {ns : List Int}, IntsAre vs ns → Vals (ns.map V.int) vs
  | _, _, .nil => .nil
  | _, _, .cons n t h => .cons ⟨t, rfl⟩ (vals_ints h)

/-- nothing is tracked but the script, known to the object (or it is an object of the module) -/
def Only (H : Hp) : Prop := ∀ b, H b = none ∨ ∃ o xs, H b = some (.frz o (.lst xs))

/-- THE HEAD: the law's promise, at the heap behind the top. F, the promise of the law's def, may use that base is part of the heap (so K.In base, base.Ns mainGlobals mg stand in Mod) -/
theorem law_call {P : Program} {w : World} {K : PySem.W.Frag} {mg mb : Str → Option Value} {CX : CXT} {k : Nat} {fa a : Addr} {fd : FuncData} {x : Str} {sp : Sp} {s₁ : Shared} {vs : List Value} {ns : List Int}
    (KX : K.In s₁.heap) (hns : s₁.heap.Ns mainGlobals mg) (hb : s₁.heap.Ns builtinsNs mb) (hbb : ∀ x : Str, x ≠ "__name__" → mb x = bootBuiltins x) (hlim : s₁.heap.NoLimit) (hg : s₁.gens = #[])
    (ha : s₁.heap.get? a = some { cls := .type "list", data := .seq vs.toArray }) (hi : IntsAre vs ns) (hl : ns.length ≤ sizeLine) (hr : Room k callerA)
    (F : ∀ base : Heap, K.In base → base.Ns mainGlobals mg → FnOk P w K mg base CX k fa fd [x] sp) (hbind : ∀ (s : Shared) (u : Value), BindsTo s fd ⟨[u], []⟩ [(x, u)])
    (hsp : ∀ H : Hp, Only H → SqL K H a (ns.map V.int) → sp [.ref a] H (fun v _ => v = .bl true) fun _ _ _ => False)
    (hCX : ∀ H e s', CX [] H s₁ (fun _ _ _ => False) e s' → False) :
    codeAny (model P w) callerA (.call (.ref fa) ⟨[.ref a], []⟩) (fun r s' => r = .ok (.ret (.bool true)) ∧ OldK s₁.heap s'.heap ∧ s'.os = s₁.os ∧ AllBare s'.gens) s₁ := by
  have rv := vals_ints hi
  have lenV := hi.length
  -- from an abstract heap in which nothing but the script may be tracked
  have core : ∀ H : Hp, Only H → SqL K H a (ns.map V.int) → HOk P w H s₁.heap → (∀ b, H b ≠ none → b = a) → (H a ≠ none → K.lookup a = none) →
      codeAny (model P w) callerA (.call (.ref fa) ⟨[.ref a], []⟩) (fun r s' => r = .ok (.ret (.bool true)) ∧ OldK s₁.heap s'.heap ∧ s'.os = s₁.os ∧ AllBare s'.gens) s₁ := by
    intro H hO hS hok hA hK
    have base_of : ∀ {b : Addr} {o : Obj}, s₁.heap.get? b = some o → H b = none → (hidT s₁.heap H).get? b = some o := fun e n => hidT_get e n
    have noA : ∀ {b : Addr} {o : Obj} {es : Array DictEntry} {ep : Nat}, s₁.heap.get? b = some o → o.data = .dict es ep → H b = none := fun {b o es ep} e d => by
      cases q : H b with
      | none => rfl
      | some u =>
        have e' : b = a := hA b (by rw [q]; simp)
        subst e'
        rw [ha] at e; cases e
        have d' : Data.seq vs.toArray _ = Data.dict es ep := d
        cases d'
    have nsK : ∀ {b : Addr} {m : Str → Option Value}, s₁.heap.Ns b m → (hidT s₁.heap H).Ns b m := fun {b m} ⟨o, es, ep, e, d, r⟩ => ⟨o, es, ep, base_of e (noA e d), d, r⟩
    have hKb : K.In (hidT s₁.heap H) := fun b o e => base_of (KX b o e) (by
      cases q : H b with
      | none => rfl
      | some u =>
        have e' : b = a := hA b (by rw [q]; simp)
        subst e'
        rw [hK (by rw [q]; simp)] at e; cases e)
    have hM : Mod K mg (hidT s₁.heap H) := ⟨hKb, nsK hns, ⟨mb, nsK hb, hbb⟩, let ⟨mc, h1, h2⟩ := hlim; ⟨mc, nsK h1, h2⟩⟩
    have e0 : Env0 P w K mg (hidT s₁.heap H) callerA [] s₁ H := ⟨rfl, hM, fun b o e => of_hidT e, Nat.le_of_eq (hidT_size _ _), trivial, fun b hb => absurd (show b ∈ ([] : List Addr) from hb) (by simp), hok, .of_eq hg⟩
    refine codeAny_mono ((F _ hKb (nsK hns)).run callerA [] s₁ H ⟨[.ref a], []⟩ [.ref a] [.ref a] _ _ hr e0 (hbind s₁ (.ref a)) (.cons rfl .nil) (hsp H hO hS)) fun r s' h => ?_
    cases r with
    | error e => exact (hCX H e s' h).elim
    | ok fl =>
      cases fl with
      | next => exact False.elim h
      | brk => exact False.elim h
      | cont => exact False.elim h
      | ret u =>
        obtain ⟨v, H', os, bare, un, hok', r', q⟩ := h
        have q' : v = .bl true := q
        subst q'
        obtain rfl : u = Value.bool true := r'
        refine ⟨rfl, OldK.of_keep fun b o e => ?_, os, bare⟩
        cases q : H b with
        | none => exact un.keep b o e q (by intro z; exact absurd (show b ∈ ([] : List Addr) from z) (by simp)) (by simp)
        | some u =>
          rcases hO b with z | ⟨ob, xs, z⟩
          · rw [q] at z; cases z
          · have z2 := un.frzs b ob _ z
            obtain ⟨e1, _⟩ := hok b _ z
            obtain ⟨e2, _⟩ := hok' b _ z2
            rw [e] at e1; cases e1
            exact e2
  cases hk : K.lookup a with
  | some o =>
    -- the script is one of the module's own objects
    have e := KX a o hk
    rw [ha] at e
    cases e
    refine core (fun _ => none) (fun _ => .inl rfl) (.inr ⟨_, vs.toArray, _, hk, rfl, rfl, rfl, by rw [List.size_toArray, lenV]; exact hl, by simpa using rv⟩) (fun b u z => by have z' : (none : Option HO) = some u := z; cases z') (fun b z => absurd rfl z) fun z => absurd rfl z
  | none =>
    refine core (fun b => if b = a then some (.frz { cls := .type "list", data := .seq vs.toArray } (.lst (ns.map V.int))) else none) (fun b => ?_) (.inl (.inr ⟨{ cls := .type "list", data := .seq vs.toArray }, if_pos rfl⟩)) (fun b u z => ?_) (fun b z => ?_) fun _ => hk
    · by_cases hb : b = a
      · exact .inr ⟨_, _, if_pos hb⟩
      · exact .inl (if_neg hb)
    · by_cases hb : b = a
      · have z' := (if_pos hb).symm.trans z
        cases z'
        subst hb
        exact ⟨ha, by rw [List.length_map]; exact hl, vs, _, rv, ha⟩
      · have z' := (if_neg hb).symm.trans z
        cases z'
    · by_cases hb : b = a
      · exact hb
      · exact absurd (if_neg hb) z
end L2

namespace L2
open PySem PySem.Spec PyProof.Rows

abbrev KOf {K : PySem.W.Frag} {h : Heap} (_ : K.In h) : PySem.W.Frag := K

/-- the goal that k_head leaves (case hc), from the law's promise. F gives the function object fd (K's own) once, then the promise over every base -/
theorem walk_of {l : PySem.W.OpenLaw} {n k : Nat} {q : Program} {loose : List Str} {XP : (Str → Option Value) → Heap → Prop} {YP : World → Heap → Prop} {d : DefRec} {K : Params → PySem.W.Frag} {CX : World → CXT} {sp : World → Sp} {x : Str}
    (hn : l.most = some n) (hn2 : n ≤ sizeLine) (hdf : d.params.defaults = []) (hr : Room k callerA)
    (hY : ∀ (w : World) (h : Heap), YP w h → (K w.params).In h)
    (F : ∀ (w : World) (mg : Str → Option Value) (fa : Addr) (h : Heap), (K w.params).In h → h.Ns mainGlobals mg → mg d.name = some (.ref fa) →
      ∃ fd : FuncData, (∀ (s : Shared) (u : Value), BindsTo s fd ⟨[u], []⟩ [(x, u)]) ∧
        ∀ base : Heap, (K w.params).In base → base.Ns mainGlobals mg → FnOk l.prog w (K w.params) mg base (CX w) k fa fd [x] (sp w))
    (hsp : ∀ (w : World) (H : Hp) (a : Addr) (ns : List Int), ns.length ≤ n → Only H → SqL (K w.params) H a (ns.map V.int) → sp w [.ref a] H (fun v _ => v = .bl true) fun _ _ _ => False)
    (hCX : ∀ (w : World) (H : Hp) (s : Shared) (e : Value) (s' : Shared), CX w [] H s (fun _ _ _ => False) e s' → False) :
    PySem.W.WalkO q loose XP YP l.row.toRowW d [] (fun f vs => PySem.call f vs) := by
  refine Att.attach_call hn hdf fun w s₀ s₁ mg mb fa o pm cd doc a vs ns G Y ho hd hcd hmg hobj hints hlen hg => ?_
  have KX := hY w _ Y
  obtain ⟨fd, hb, hF⟩ := F w mg fa _ KX G.T.g hmg
  exact law_call KX G.T.g G.T.b G.T.builtins G.T.nolimit hg hobj hints (Nat.le_trans hlen hn2) hr hF hb (fun H hO hS => hsp w H a ns hlen hO hS) fun H e s' => hCX w H s₁ e s'
/-- the same where the promise hangs on the written part alone: (sp := My.sp_law), no hole under a binder -/
theorem walk_ofK {l : PySem.W.OpenLaw} {n k : Nat} {q : Program} {loose : List Str} {XP : (Str → Option Value) → Heap → Prop} {YP : World → Heap → Prop} {d : DefRec} {K : Params → PySem.W.Frag} {CX : CXT} {sp : PySem.W.Frag → Sp} {x : Str}
    (hn : l.most = some n) (hn2 : n ≤ sizeLine) (hdf : d.params.defaults = []) (hr : Room k callerA)
    (hY : ∀ (w : World) (h : Heap), YP w h → (K w.params).In h)
    (F : ∀ (w : World) (mg : Str → Option Value) (fa : Addr) (h : Heap), (K w.params).In h → h.Ns mainGlobals mg → mg d.name = some (.ref fa) →
      ∃ fd : FuncData, (∀ (s : Shared) (u : Value), BindsTo s fd ⟨[u], []⟩ [(x, u)]) ∧
        ∀ base : Heap, (K w.params).In base → base.Ns mainGlobals mg → FnOk l.prog w (K w.params) mg base CX k fa fd [x] (sp (K w.params)))
    (hsp : ∀ (K : PySem.W.Frag) (H : Hp) (a : Addr) (ns : List Int), ns.length ≤ n → Only H → SqL K H a (ns.map V.int) → sp K [.ref a] H (fun v _ => v = .bl true) fun _ _ _ => False)
    (hCX : ∀ (H : Hp) (s : Shared) (e : Value) (s' : Shared), CX [] H s (fun _ _ _ => False) e s' → False) :
    PySem.W.WalkO q loose XP YP l.row.toRowW d [] (fun f vs => PySem.call f vs) :=
  walk_of (K := K) (CX := fun _ => CX) (sp := fun w => sp (K w.params)) hn hn2 hdf hr hY F (fun w H a ns h1 h2 h3 => hsp (K w.params) H a ns h1 h2 h3) fun _ H s e s' => hCX H s e s'
end L2

/-! SHORT WORDS over the layer: a def of the text, its body, what a loop and a test want. -/
namespace L2
open PySem PySem.Spec PyProof.Rows

/-! ### the text by places -/
/-- the j-th statement of a class's body -/
def inClass (s : Stmt) (j : Nat) : Stmt := match s with
  | .ClassDef _ _ _ body _ _ _ _ _ _ _ => body.getD j (.Pass ⟨0, 0, 0, 0⟩)
  | _ => .Pass ⟨0, 0, 0, 0⟩
def defArgs (s : Stmt) : Arguments := match s with
  | .FunctionDef _ a _ _ _ _ _ _ _ _ => a
  | _ => { posonlyargs := [], args := [], vararg := none, kwonlyargs := [], kw_defaults := [], kwarg := none, defaults := [] }
def defBody (s : Stmt) : List Stmt := match s with
  | .FunctionDef _ _ b _ _ _ _ _ _ _ => b
  | _ => []
def defScope (s : Stmt) : Scope := match s with
  | .FunctionDef _ _ _ _ _ _ sc _ _ _ => sc
  | _ => { kind := .function, names := [], isGenerator := false, isCoroutine := false }

/-! ### no exception leaves a def -/
abbrev CX0 : CXT := fun _ _ _ _ _ _ => False
abbrev E0 : XK := fun _ _ _ => False
theorem pass0 {X : Cx} : Passes CX0 X E0 := fun _ _ _ _ _ _ _ h => h.elim

/-! ### a def (or method) of the text as it stands behind the top -/
structure Fun (K : PySem.W.Frag) (x qual : Str) (st : Stmt) (f : Addr) (fd : FuncData) : Prop where
  ex : ∃ (oc : Value) (od : Option Addr) (kV doc pm : Value) (an : Option Addr) (cdv ct : Value) (osl : Array (Option Value)),
    fd = PySem.W.fnOf x qual (defArgs st) (defBody st) (defScope st) .none kV doc pm an cdv ct ∧ K.lookup f = some ⟨oc, od, .func fd, osl⟩ ∧ PySem.W.codeIn K cdv qual = true
  kp : PySem.W.keepIn K (.ref f) = true
section
variable {P : Program} {w : World} {K : PySem.W.Frag} {mg : Str → Option Value} {base : Heap}
/-- THE RULE for a def: its body as a term of rules, and the reading of that term -/
theorem Fun.ok {x qual : Str} {st : Stmt} {f : Addr} {fd : FuncData} {N ps : List Str} {k : Nat} {sp : Sp} (F : Fun K x qual st f fd) (S : FnScope N ps (defScope st)) (len : ∀ vs H Q E, sp vs H Q E → vs.length = ps.length)
    (hbody : ∀ (cdv : Value) (A : Around) (outer : List Env) (s : Shared) (H : Hp) (vs : List V) (Q : VK) (E : XK), Room k (A.deeper (envOfC qual (defScope st) s.heap.objs.size f cdv)) → sp vs H Q E →
      ∃ t, PSs (cxOf CX0 P w K mg base N qual (defScope st) f cdv A outer s H E).nox (defBody st) t ∧ t { nx := fun _ H' => Q .non H', rt := Q } (start N vs) H) : FnOk P w K mg base CX0 (k + 1) f fd ps sp := by
  obtain ⟨oc, od, kV, doc, pm, an, cdv, ct, osl, rfl, lk, hcd⟩ := F.ex
  refine fn_of lk hcd S len fun A outer s H vs Q E hr hsp => ?_
  obtain ⟨t, h, q⟩ := hbody cdv A outer s H vs Q E hr hsp
  exact ⟨t, h.nox, q⟩
/-- how its arguments bind (no defaults): h is «fun _ _ _ _ _ _ us hl => match us, hl with | [_, _], _ => rfl», one _ a parameter -/
theorem Fun.binds {x qual : Str} {st : Stmt} {f : Addr} {fd : FuncData} {ps : List Str} (F : Fun K x qual st f fd)
    (h : ∀ (kV doc pm : Value) (an : Option Addr) (cdv ct : Value) (us : List Value), us.length = ps.length → bindArgs (PySem.W.fnOf x qual (defArgs st) (defBody st) (defScope st) .none kV doc pm an cdv ct) ⟨us, []⟩ = pure (ps.zip us)) : Binds K fd ps [] := by
  obtain ⟨oc, od, kV, doc, pm, an, cdv, ct, osl, rfl, lk, hcd⟩ := F.ex
  exact .all (h kV doc pm an cdv ct)
theorem fun_mk {x qual : Str} {st : Stmt} {f : Addr} {oc : Value} {od an : Option Addr} {osl : Array (Option Value)} {kV doc pm cdv ct : Value} (l : K.lookup f = some ⟨oc, od, .func (PySem.W.fnOf x qual (defArgs st) (defBody st) (defScope st) .none kV doc pm an cdv ct), osl⟩)
    (c : PySem.W.codeIn K cdv qual = true) (k : PySem.W.keepIn K (.ref f) = true) : Fun K x qual st f (PySem.W.fnOf x qual (defArgs st) (defBody st) (defScope st) .none kV doc pm an cdv ct) := ⟨⟨oc, od, kV, doc, pm, an, cdv, ct, osl, rfl, l, c⟩, k⟩
end
theorem hu_of {A : Around} {k : Nat} (hr : Room k A) : A.units + 1 < cLine := Nat.lt_of_le_of_lt (Nat.add_le_add_left (by decide : 1 ≤ 64) _) hr.units
theorem small1000 {n : Nat} (h : n ≤ 1000) : n < sizeLine := Nat.lt_of_le_of_lt h (by decide)

/-! ### expressions in short: the name that stands in the i-th slot -/
section
variable {X : Cx}
theorem pv (i : Nat) {x : Str} {pos : Pos} (hN : X.N[i]? = some x := by rfl) (hv : Vis X.env.scope x := by first | exact Or.inl rfl | exact Or.inr (Or.inl rfl) | exact Or.inr (Or.inr rfl)) (hd : (x == ("__debug__" : Str)) = false := by decide)
    (hcd : (x == ("__classdict__" : Str)) = false := by decide) : PE X (.Name x pos) (tVar i) := pe_var hN hv hd hcd
end

/-! ### tests -/
theorem iteF {A B : Prop} (h : B) : if false = true then A else B := by
  rw [if_neg Bool.false_ne_true]
  exact h
theorem iteT {A B : Prop} (h : A) : if true = true then A else B := by
  rw [if_pos rfl]
  exact h
theorem ite2 {c A B : Prop} [Decidable c] (h1 : c → A) (h2 : ¬ c → B) : if c then A else B := by
  by_cases h : c
  · rw [if_pos h]
    exact h1 h
  · rw [if_neg h]
    exact h2 h
theorem iteNS {c A B : Prop} [Decidable c] (hc : c) (h : B) : if (!decide c) = true then A else B := by
  rw [decide_eq_true hc]
  exact iteF h

/-! ### heaps -/
/-- all that was tracked is as it was -/
def Same (H H' : Hp) : Prop := ∀ b o, H b = some o → H' b = some o
theorem Same.refl (H : Hp) : Same H H := fun _ _ h => h
theorem Same.trans {H H1 H2 : Hp} (a : Same H H1) (b : Same H1 H2) : Same H H2 := fun c o h => b c o (a c o h)
theorem Same.free {H H' : Hp} (e : Same H H') {l : Addr} (h : H' l = Option.none) : H l = Option.none := by
  cases q : H l with
  | none => rfl
  | some o =>
    rw [e l o q] at h
    cases h
theorem Same.seq {K : PySem.W.Frag} {H H' : Hp} {a : Addr} {xs : List V} (e : Same H H') (h : SqL K H a xs) : SqL K H' a xs := by
  rcases h with (h | ⟨o, h⟩) | h
  · exact .inl (.inl (e _ _ h))
  · exact .inl (.inr ⟨o, e _ _ h⟩)
  · exact .inr h

end L2

set_option maxHeartbeats 4000000
namespace L2
open PySem PySem.Spec PyProof.Rows

/-! ### wide ints -/
section
variable {X : Cx}
/-- both below 2 ^ 4000 -/
def CMulW (i j : Int) : Prop := i.natAbs < 2 ^ 4000 ∧ j.natAbs < 2 ^ 4000
theorem CMulW.ok {i j : Int} (h : CMulW i j) : IntMulOk i j :=
  IntMulOk.of_le (m := 4000) (n := 4000) (intBits_le_iff.mpr h.1) (intBits_le_iff.mpr h.2) (by decide)
theorem op_mulW : OpR X (binaryOp .Mult) (rI CMulW fun i j => .int (i * j)) := opI fun _ _ _ _ _ _ _ hc q => mul_int q hc.ok
def CDivW (i j : Int) : Prop := j ≠ 0 ∧ j.natAbs < 2 ^ 4000
theorem noPy {i j : Int} (h : CDivW i j) : Builtin.divisionGoesByPylong i j = false := by
  refine PyProof.noPylong_of_log2 ?_
  have h0 : j.natAbs ≠ 0 := by have := h.1; omega
  have := (Nat.log2_lt h0).mpr h.2
  omega
theorem op_fdivW : OpR X (binaryOp .FloorDiv) (rI CDivW fun i j => .int (i.fdiv j)) := opI fun _ _ _ _ _ _ _ hc q => floordiv_int hc.1 q (.inl (noPy hc))
def CDivP (i j : Int) : Prop := 0 < j ∧ j.natAbs < 2 ^ 4000
theorem op_fdivP : OpR X (binaryOp .FloorDiv) (rI CDivP fun i j => .int (i / j)) := opI fun i j _ _ _ _ _ hc q => by
  refine floordiv_int (by have := hc.1; omega) ?_ (.inl (noPy ⟨by have := hc.1; omega, hc.2⟩))
  rw [Int.fdiv_eq_ediv_of_nonneg i (by have := hc.1; omega)]
  exact q

/-! ### sum, isinstance -/
theorem call_sum (hc : X.calm = true) : CallR X (.builtin "sum") (fun xs H Q => ∃ (p : Addr) (ns : List Int), xs = [.ref p] ∧ SqL X.K H p (ns.map V.int) ∧ Q (.int ns.sum) H) := by
  intro pins s σ H xs us Q I r h
  obtain ⟨p, ns, rfl, hq, q⟩ := h
  obtain ⟨u, rfl, r1⟩ := vals1 r
  cases r1
  obtain ⟨its, rv, pl, hz⟩ := I.list hq
  have hi : IntsAre its ns := intsAre_of rv
  have hl : s.heap.IsList p its.toArray := by
    obtain ⟨o, n, e, c, _, d⟩ := pl
    exact ⟨o, e, c, n, d⟩
  obtain ⟨xs, hx⟩ := hi.allInts.items
  have hl' : s.heap.IsList p (intItems xs) := hx ▸ hl
  refine sum_intListG (I.ok.hd hc) hl' fun h' tk t' hk => ?_
  have e1 : ns = xs.toList.map (·.1) := by
    rw [← nums_intItems, ← hx]
    exact (show numsOf its.toArray.toList = ns from hi.numsOf).symm
  have e2 : preSum (numAt xs) xs.size = ns.sum := by
    rw [preSum_eq, List.take_of_length_le (by simp), e1]
  rw [e2]
  exact ⟨.int ns.sum, H, I.kept hk, ⟨_, rfl⟩, q⟩
theorem call_isinst : CallR X (.builtin "isinstance") (fun xs H Q => ∃ x n t b, xs = [x, .ty n] ∧ TyOf X.K H x t ∧ PySem.W.kitOne X.K t (.type n) = some b ∧ Q (.bl b) H) := by
  intro pins s σ H xs us Q I r h
  obtain ⟨x, n, t, b, rfl, ty, e, q⟩ := h
  obtain ⟨u, w', rfl, rx, ry⟩ := vals2 r
  cases (show w' = Value.type n from ry)
  exact isinst_ok I rx ty e fun tk => ⟨.bl b, H, I.tok _, rfl, q⟩

def rIsi (K : PySem.W.Frag) : List V → Hp → VK → Prop := fun xs H Q => ∃ x n t b, xs = [x, .ty n] ∧ TyOf K H x t ∧ PySem.W.kitOne K t (.type n) = some b ∧ Q (.bl b) H
theorem call_isinstK {K : PySem.W.Frag} (e : X.K = K) : CallR X (.builtin "isinstance") (rIsi K) := by
  subst e
  exact call_isinst

/-! ### equality of tuples of ints -/
theorem shapedT (ns : List Int) : SeqAt.shaped (.tuple (ns.map PyData.int)) = true := by
  have h1 := PySem.W.depthAll_ints ns
  have h2 : PyData.depth (.tuple (ns.map PyData.int)) ≤ 64 := by simp only [PyData.depth]; omega
  show (PyData.canLay0 (.tuple (ns.map PyData.int)) && decide (PyData.depth (.tuple (ns.map PyData.int)) ≤ 64)) = true
  rw [Bool.and_eq_true]
  exact ⟨by simp only [PyData.canLay0]; exact PySem.W.canLayAll0_ints ns, decide_eq_true h2⟩
theorem readsT {h : Heap} {a : Addr} {vs : List Value} {ns : List Int} (hl : IsTup h a vs.toArray) (hi : IntsAre vs ns) : Reads h (.ref a) (.tuple (ns.map PyData.int)) [] := by
  obtain ⟨o, ho, hc, n, hd⟩ := hl
  exact Reads.tuple ho hc hd (by simpa using PySem.W.readsAll_of_ints hi)
def rEqT (K : PySem.W.Frag) (g : Bool → Bool) : R2 := fun x y H Q => ∃ (a b : Addr) (ns ms : List Int), x = .ref a ∧ y = .ref b ∧ SqT K H a (ns.map V.int) ∧ SqT K H b (ms.map V.int) ∧ Q (.bl (g (decide (ns = ms)))) H
theorem op_eqT (hu : X.A.units + 64 < cLine) : OpR X (compareOp .Eq) (rEqT X.K fun b => b) := by
  intro pins s σ H x y v u Q I rx ry h
  obtain ⟨a, b, ns, ms, rfl, rfl, ha, hb, q⟩ := h
  cases rx; cases ry
  obtain ⟨its, rv, pl, _⟩ := I.tuple ha
  obtain ⟨its2, rv2, pl2, _⟩ := I.tuple hb
  refine eq_dataH_same (readsT pl (intsAre_of rv)) (readsT pl2 (intsAre_of rv2)) (shapedT ns) (shapedT ms) hu (by simp only [SeqAt.noMix]; exact PySem.W.noMix_ints ns ms) ?_
  have e : PySem.Spec.same (.tuple (ns.map PyData.int)) (.tuple (ms.map PyData.int)) = decide (ns = ms) := by simp only [PySem.Spec.same]; exact PySem.W.same_ints ns ms
  rw [e]
  exact ⟨.bl (decide (ns = ms)), H, I, rfl, q⟩
theorem op_neT (hu : X.A.units + 64 < cLine) : OpR X (compareOp .NotEq) (rEqT X.K fun b => !b) := by
  intro pins s σ H x y v u Q I rx ry h
  obtain ⟨a, b, ns, ms, rfl, rfl, ha, hb, q⟩ := h
  cases rx; cases ry
  obtain ⟨its, rv, pl, _⟩ := I.tuple ha
  obtain ⟨its2, rv2, pl2, _⟩ := I.tuple hb
  refine ne_dataH_same (readsT pl (intsAre_of rv)) (readsT pl2 (intsAre_of rv2)) (shapedT ns) (shapedT ms) hu (by simp only [SeqAt.noMix]; exact PySem.W.noMix_ints ns ms) ?_
  have e : PySem.Spec.same (.tuple (ns.map PyData.int)) (.tuple (ms.map PyData.int)) = decide (ns = ms) := by simp only [PySem.Spec.same]; exact PySem.W.same_ints ns ms
  rw [e]
  exact ⟨.bl (!decide (ns = ms)), H, I, rfl, q⟩
/-- lists of ints -/
def rEqLi (K : PySem.W.Frag) (g : Bool → Bool) : R2 := fun x y H Q => ∃ (a b : Addr) (ns ms : List Int), x = .ref a ∧ y = .ref b ∧ SqL K H a (ns.map V.int) ∧ SqL K H b (ms.map V.int) ∧ Q (.bl (g (decide (ns = ms)))) H
theorem plainIs {h : Heap} {p : Addr} {its : Array Value} (pl : PlainL h p its) : h.IsList p its := by
  obtain ⟨o, n, e, c, _, d⟩ := pl
  exact ⟨o, e, c, n, d⟩
theorem op_neL (hu : X.A.units + 64 < cLine) : OpR X (compareOp .NotEq) (rEqLi X.K fun b => !b) := by
  intro pins s σ H x y v u Q I rx ry h
  obtain ⟨a, b, ns, ms, rfl, rfl, ha, hb, q⟩ := h
  cases rx; cases ry
  obtain ⟨its, rv, pl, _⟩ := I.list ha
  obtain ⟨its2, rv2, pl2, _⟩ := I.list hb
  exact PySem.W.ne_intsK (plainIs pl) (intsAre_of rv) (plainIs pl2) (intsAre_of rv2) hu ⟨.bl (!decide (ns = ms)), H, I, rfl, q⟩
theorem op_eqL (hu : X.A.units + 64 < cLine) : OpR X (compareOp .Eq) (rEqLi X.K fun b => b) := by
  intro pins s σ H x y v u Q I rx ry h
  obtain ⟨a, b, ns, ms, rfl, rfl, ha, hb, q⟩ := h
  cases rx; cases ry
  obtain ⟨its, rv, pl, _⟩ := I.list ha
  obtain ⟨its2, rv2, pl2, _⟩ := I.list hb
  exact PySem.W.eq_intsK (plainIs pl) (intsAre_of rv) (plainIs pl2) (intsAre_of rv2) hu ⟨.bl (decide (ns = ms)), H, I, rfl, q⟩
end
end L2

set_option maxHeartbeats 4000000
namespace L2
open PySem PySem.Spec PyProof.Rows

/-! ### a comprehension's block -/
/-- the cells that the block takes along -/
def clOf (env : Env) : List (Str × NameKind) → List (Str × Addr) → List (Str × Addr)
  | [], acc => acc
  | (n, k) :: r, acc => clOf env r (if (k == NameKind.free) = true then (n, (env.cells.lookup n).getD 0) :: acc else acc)
theorem closure_eq {env : Env} : ∀ (names : List (Str × NameKind)) (acc : List (Str × Addr)), (∀ p ∈ names, p.2 = .free → ∃ c, env.cells.lookup p.1 = some c) →
    (forIn names acc fun (x : Str × NameKind) (cs : List (Str × Addr)) => (match x with
      | (name, kind) => if (kind == NameKind.free) = true then (do let __do_lift ← cellOf env name; pure (ForInStep.yield ((name, __do_lift) :: cs))) else pure (ForInStep.yield cs) : Sem (ForInStep (List (Str × Addr))))) = pure (clOf env names acc) := by
  intro names
  induction names with
  | nil => intro acc _; rfl
  | cons p r ih =>
    intro acc h
    obtain ⟨n, k⟩ := p
    rw [List.forIn_cons]
    have hr := fun acc => ih acc fun q hq => h q (List.mem_cons_of_mem _ hq)
    by_cases hk : k = .free
    · subst hk
      obtain ⟨c, hc⟩ := h (n, .free) List.mem_cons_self rfl
      have e : cellOf env n = pure c := by unfold cellOf; rw [hc]
      simp only [beq_self_eq_true, if_true, e, pure_bind]
      rw [hr]
      simp only [clOf, beq_self_eq_true, if_true, hc, Option.getD_some]
    · have hb : (k == NameKind.free) = false := by simpa using hk
      simp only [hb, Bool.false_eq_true, if_false, pure_bind]
      rw [hr]
      simp only [clOf, hb, Bool.false_eq_true, if_false]
theorem closureFor_eq {env : Env} {scope : Scope} (h : ∀ p ∈ scope.names, p.2 = .free → ∃ c, env.cells.lookup p.1 = some c) : closureFor scope env = pure (clOf env scope.names []) := by
  unfold closureFor
  have e := closure_eq (env := env) scope.names [] h
  simp only [e, pure_bind]
theorem clOf_mem {env : Env} {y : Str} {c : Addr} : ∀ {names : List (Str × NameKind)} {acc : List (Str × Addr)}, (∀ p ∈ names, p.2 = .free → ∃ c, env.cells.lookup p.1 = some c) → (∀ y c, acc.lookup y = some c → env.cells.lookup y = some c) →
    (clOf env names acc).lookup y = some c → env.cells.lookup y = some c
  | [], _, _, ha, e => ha _ _ e
  | (n, k) :: r, acc, h, ha, e => by
    refine clOf_mem (names := r) (fun p hp => h p (List.mem_cons_of_mem _ hp)) (fun y c q => ?_) e
    by_cases hk : (k == NameKind.free) = true
    · rw [if_pos hk] at q
      obtain ⟨c', hc'⟩ := h (n, k) List.mem_cons_self (by simpa using hk)
      rw [List.lookup_cons] at q
      cases hy : y == n with
      | true =>
        rw [hy] at q
        have hy' : y = n := by simpa using hy
        subst hy'
        rw [hc'] at q
        cases q
        exact hc'
      | false =>
        rw [hy] at q
        exact ha y c q
    · rw [if_neg hk] at q
      exact ha y c q
theorem clOf_acc {env : Env} {y : Str} : ∀ {names : List (Str × NameKind)} {acc : List (Str × Addr)}, (acc.lookup y).isSome = true → ((clOf env names acc).lookup y).isSome = true
  | [], _, h => h
  | (n, k) :: r, acc, h => by
    refine clOf_acc (names := r) ?_
    split
    · rw [List.lookup_cons]
      split
      · rfl
      · exact h
    · exact h
theorem clOf_has {env : Env} {y : Str} : ∀ {names : List (Str × NameKind)} {acc : List (Str × Addr)}, (y, NameKind.free) ∈ names → ((clOf env names acc).lookup y).isSome = true
  | (n, k) :: r, acc, h => by
    rcases List.mem_cons.mp h with e | h
    · cases e
      refine clOf_acc (names := r) ?_
      rw [if_pos (by simp), List.lookup_cons]
      simp
    · exact clOf_has (names := r) h

/-- the block's context -/
abbrev compCx (X : Cx) (scope : Scope) (Nc : List Str) (C : Addr) (s0 : Shared) (H0 : Hp) (ex : List Addr) : Cx :=
  { X with N := Nc, s₀ := s0, H₀ := H0, env := compEnvC scope (clOf X.env scope.names []) C X.env, outer := X.stack, ex := ex, fn := fun _ => false, pn := [], xe := fun _ _ => False }
/-- what is static: the block's scope sc in a frame's scope; cap: the names that it takes along -/
structure CompScope (fr sc : Scope) (x : Str) (cap : List Str) : Prop where
  kind : sc.kind = .function
  cell : ∀ p ∈ sc.names, p.2 ≠ .cell
  names : ∀ p ∈ sc.names, p.2 = .local → sc.names.lookup p.1 = some .local
  tgt : sc.names.lookup x = some .local
  free : ∀ p ∈ sc.names, p.2 = .free → fr.names.lookup p.1 = some .cell
  caps : ∀ y ∈ cap, (y, NameKind.free) ∈ sc.names
  nd : (x :: cap).Nodup
  noboth : ∀ y ∈ cap, sc.names.lookup y ≠ some .local

theorem relabel_mem {sc : Scope} {env : Env} {y : Str} {k : NameKind} (h : (y, k) ∈ (relabel sc env).names) : ∃ k', (y, k') ∈ sc.names ∧ (k = k' ∨ (k' = .free ∧ k = .cell)) := by
  unfold relabel at h
  obtain ⟨⟨n, k'⟩, hm, e⟩ := List.mem_map.mp h
  by_cases hc : (k' == NameKind.free && env.scope.kind == .function && env.kindOf n == some .cell) = true
  · have e : (n, NameKind.cell) = (y, k) := by simpa [hc] using e
    cases e
    refine ⟨k', hm, .inr ⟨?_, rfl⟩⟩
    rw [Bool.and_eq_true, Bool.and_eq_true] at hc
    simpa using hc.1.1
  · have e : (n, k') = (y, k) := by simpa [hc] using e
    cases e
    exact ⟨k, hm, .inl rfl⟩

section
variable {X : Cx} {pins : List (Addr × Obj)} {σ : St} {H : Hp} {s : Shared} {sc : Scope} {x : Str} {cap : List Str}
theorem CompScope.cells (S : CompScope X.env.scope sc x cap) (ok : X.Ok) : ∀ p ∈ sc.names, p.2 = .free → ∃ c, X.env.cells.lookup p.1 = some c :=
  fun p hp e => ok.has p.1 (.inl (S.free p hp e))
theorem CompScope.sub (S : CompScope X.env.scope sc x cap) (ok : X.Ok) {y : Str} {c : Addr} (h : (clOf X.env sc.names []).lookup y = some c) : X.env.cells.lookup y = some c :=
  clOf_mem (S.cells ok) (fun _ _ z => by simp at z) h

theorem neLt {a b : Addr} (h : a < b) : a ≠ b := Nat.ne_of_lt h
theorem neGt {a b : Addr} (h : b < a) : a ≠ b := Nat.ne_of_gt h
/-- the values that are taken along: js, their slots in the frame -/
def capV (σ : St) (js : List Nat) : St := js.map fun j => (σ[j]?).join

/-- entering the block -/
theorem comp_inv (S : CompScope X.env.scope sc x cap) {js : List Nat} (hjs : js.map (fun j => X.N[j]?) = cap.map some) (I : Inv X pins σ H s) {fp : List Addr} (hf : ∀ b ∈ fp, FpOk X pins H b) (hlt : ∀ b ∈ fp, b < s.heap.objs.size)
    {h1 : Heap} {tk : Nat} {D C : Addr} {oD : Obj} {m : Str → Option Value} (hD : D = s.heap.objs.size) (hC : C = s.heap.objs.size + 1) (keep : ∀ b o, s.heap.get? b = some o → h1.get? b = some o) (hoD : h1.get? D = some oD) (hnc : ∀ v, oD.data ≠ .cell v) (hns : h1.Ns C m) :
    Inv (compCx X sc (x :: cap) C s H fp) [(D, oD)] (none :: capV σ js) H { s with heap := h1, toks := tk } := by
  subst hD hC
  have lenJ : js.length = cap.length := by have := congrArg List.length hjs; simpa using this
  have ok := I.ok
  refine ⟨⟨ok.mod, S.kind, ok.glob, ok.blt, ?_, fun y z c h1 h2 => ok.inj y z c (S.sub ok h1) (S.sub ok h2), fun y hy => ?_, (fun y c h => Bool.noConfusion h), ok.hd, ok.frames, .inl rfl, fun b hb => ⟨?_, fun y c e => (hf b hb).2.2.2.2.1 y c (S.sub ok e)⟩, I.bs, Nat.le_trans ok.bsz I.sz, fun b o e hb => ?_, fun b hb hb' => ?_, I.stack, I.stkFree⟩,
    rfl, I.bare, Un.kept keep, ⟨m, hns, fun i y v e1 e2 e3 => ?_⟩, fun y c e => ?_, I.hok.fresh (Nat.le_succ _), fun y c e => I.freeC y c (S.sub ok e), fun p hp => ?_, I.hok.kept keep, ?_⟩
  · exact Nat.le_succ _
  · have hy' : ∃ k, (y, k) ∈ (relabel sc X.env).names ∧ (k = .cell ∨ k = .free) := by
      rcases hy with hy | hy
      · exact ⟨_, PySem.mem_of_lookup hy, .inl rfl⟩
      · exact ⟨_, PySem.mem_of_lookup hy, .inr rfl⟩
    obtain ⟨k, hm, hk⟩ := hy'
    obtain ⟨k', hm', hk'⟩ := relabel_mem hm
    have hfree : k' = .free := by
      rcases hk' with e | ⟨e, _⟩
      · subst e
        rcases hk with e | e
        · exact absurd e (S.cell _ hm')
        · exact e
      · exact e
    subst hfree
    exact Option.isSome_iff_exists.mp (clOf_has hm')
  · exact neLt (Nat.lt_succ_of_lt (hlt b hb))
  · obtain ⟨_, _, _, z, _⟩ := hf b hb
    rcases z with z | z
    · exact ok.noex b o e z
    · have := Heap.lt_size (ok.bs b o e).1
      exact absurd (Nat.lt_of_lt_of_le this z) (Nat.lt_irrefl _)
  · obtain ⟨_, z1, z2, _⟩ := hf b hb
    rcases List.mem_cons.mp (I.stkSub b hb') with z | z
    · exact z1 z
    · exact z2 z
  · cases i with
    | zero =>
      have e2' : (none : Option V) = some v := by simpa using e2
      cases e2'
    | succ i =>
      have e1' : cap[i]? = some y := by simpa using e1
      have e2' : (capV σ js)[i]? = some (some v) := by simpa using e2
      have hy : y ∈ cap := List.mem_of_getElem? e1'
      unfold capV at e2'
      rw [List.getElem?_map] at e2'
      cases ej : js[i]? with
      | none => rw [ej] at e2'; cases e2'
      | some j =>
        rw [ej] at e2'
        have e2'' : (σ[j]?).join = some v := Option.some.inj e2'
        have eN : X.N[j]? = some y := by
          have := congrArg (fun l => l[i]?) hjs
          simp only [List.getElem?_map, ej, e1', Option.map_some] at this
          exact Option.some.inj this
        have eσ : σ[j]? = some (some v) := by
          cases q : σ[j]? with
          | none => rw [q] at e2''; cases e2''
          | some w' =>
            rw [q] at e2''
            have : w' = some v := by simpa using e2''
            rw [this]
        have kc : X.env.scope.names.lookup y = some .cell := S.free (y, .free) (S.caps y hy) rfl
        obtain ⟨m0, hn0, hl0⟩ := I.loc
        obtain ⟨u, ru, lk⟩ := hl0 j y v eN eσ (.inr (.inl kc))
        refine ⟨u, ru, ?_⟩
        rcases lk with ⟨k, _⟩ | ⟨_, c, ec, hc⟩
        · have k' : X.env.scope.names.lookup y = some .local := k
          rw [kc] at k'; cases k'
        · obtain ⟨c', hc'⟩ := Option.isSome_iff_exists.mp (clOf_has (env := X.env) (acc := []) (S.caps y hy))
          have hcc : c' = c := Option.some.inj ((S.sub ok hc').symm.trans ec)
          subst hcc
          refine .inr ⟨?_, c', hc', ?_⟩
          · rcases e3 with e3 | e3 | e3
            · exfalso
              have hm := PySem.mem_of_lookup e3
              obtain ⟨k', hm', hk'⟩ := relabel_mem hm
              rcases hk' with e | ⟨_, e⟩
              · subst e
                exact S.noboth y hy (S.names _ hm' rfl)
              · cases e
            · exact .inl e3
            · exact .inr e3
          · obtain ⟨o, ho, hd⟩ := hc
            exact ⟨o, keep _ o ho, hd⟩
  · obtain ⟨v, o, ho, hd⟩ := I.cell y c (S.sub ok e)
    exact ⟨v, o, keep _ o ho, hd⟩
  · have hp' : p = (s.heap.objs.size, oD) := by simpa using hp
    subst hp'
    refine ⟨hoD, I.hok.fresh (Nat.le_refl _), neLt (Nat.lt_succ_self _), fun hb => ?_, hnc⟩
    obtain ⟨_, o, ho, _⟩ := I.stack.mem hb
    exact Nat.lt_irrefl _ (Heap.lt_size ho)
  · show (none :: capV σ js).length = (x :: cap).length
    unfold capV
    simp [lenJ]

/-- behind the block -/
theorem comp_end (S : CompScope X.env.scope sc x cap) (I : Inv X pins σ H s) {fp : List Addr} (hf : ∀ b ∈ fp, FpOk X pins H b) {D C : Addr} {pn' : List (Addr × Obj)} {σ' : St} {H' : Hp} {s' : Shared} {ys : List V} {its : List Value} {k : Nat} {h' : Heap}
    (hD : D = s.heap.objs.size) (hC : C = s.heap.objs.size + 1) (J : Inv (compCx X sc (x :: cap) C s H fp) pn' σ' H' s') (hnD : H' D = none) (hoD : s'.heap.get? D = some { cls := .type "list", data := .seq its.toArray k }) (rv : Vals ys its) (hz : ys.length ≤ sizeLine)
    (hs : Heap.SameBut C s'.heap h') : Inv X pins σ (upd H' D (.lst ys)) { s' with heap := h' } := by
  subst hD hC
  have base : Un (frs X.stack) fp H H' s.heap s'.heap := J.base
  have hnC : H' (s.heap.objs.size + 1) = none := J.free
  have neC : ∀ {b : Addr} {o : Obj}, s.heap.get? b = some o → b ≠ s.heap.objs.size + 1 := fun e => neLt (Nat.lt_succ_of_lt (Heap.lt_size e))
  have neD : ∀ {b : Addr} {o : Obj}, s.heap.get? b = some o → b ≠ s.heap.objs.size := fun e => neLt (Heap.lt_size e)
  have neDH : ∀ {b : Addr} {o : HO}, H b = some o → b ≠ s.heap.objs.size := fun e => neLt (I.hok.lt e)
  refine I.call' (s' := { s' with heap := h' }) (ch := fp) J.os ⟨fun b o e n hb hx => ?_, fun b o e n hb hx => ?_, fun b o e n hx => ?_, fun b o e hx => ?_, fun b xs e => ?_, fun b o u e => ?_, fun b ps e => ?_⟩ (fun b u e => ?_) J.bare fun b hb => ?_
  · exact (hs.2 b (neC e)).trans (base.keep b o e n hb hx)
  · obtain ⟨sl, q⟩ := base.slot b o e n hb hx
    exact ⟨sl, (hs.2 b (neC e)).trans q⟩
  · rw [upd_ne (neD e)]; exact base.free b o e n hx
  · obtain ⟨o', q⟩ := base.there b o e hx
    exact ⟨o', (hs.2 b (neC e)).trans q⟩
  · rw [upd_ne (neDH e)]; exact base.tups b xs e
  · rw [upd_ne (neDH e)]; exact base.frzs b o u e
  · rw [upd_ne (neDH e)]; exact base.tbls b ps e
  · by_cases hb : b = s.heap.objs.size
    · subst hb
      rw [upd_same] at e
      cases e
      exact ⟨hz, its, k, rv, (hs.2 _ (neLt (Nat.lt_succ_self _))).trans hoD⟩
    · rw [upd_ne hb] at e
      have J' : ObjOk X.prog X.w H' s'.heap b u := J.hok b u e
      refine J'.stay (fun c v hc q => (hs.2 c ?_).trans q) (fun c q => ?_) (fun c xs q => ?_) fun c o u q => ?_
      · rintro rfl
        rcases hc with rfl | hc
        · rw [hnC] at e; cases e
        · rw [hnC] at hc; cases hc
      · rw [upd_ne (ne_of_none q hnD)]; exact q
      · rw [upd_ne (ne_of_none q hnD)]; exact q
      · rw [upd_ne (ne_of_none q hnD)]; exact q
  · obtain ⟨_, z1, _, z3, z4, z5⟩ := hf b hb
    exact ⟨z3, z1, z4, z5⟩

/-- the tests of a clause -/
def PIf (X : Cx) (ifs : List Expr) (t : TT) : Prop :=
  ∀ (pins : List (Addr × Obj)) (s : Shared) (σ : St) (H : Hp) (Q : Bool → Hp → Prop), Inv X pins σ H s → t σ H Q →
    wpAny (model X.prog X.w) X.A (forIn ifs true fun c r => if r = true then do let ok ← isTrue c X.env (eval c X.env); pure (ForInStep.yield ok) else pure (ForInStep.yield r)) (TP X pins σ Q) X.xe s
def tNoIf : TT := fun _ H Q => Q true H
theorem tNoIf_of {σ : St} {H : Hp} {A B : Hp → Prop} (h : A H) : tNoIf σ H (fun b H2 => if b = true then A H2 else B H2) := by
  unfold tNoIf
  exact iteT h
theorem pif_nil {X : Cx} : PIf X [] tNoIf := fun _ _ _ H _ I h => wpAny_tests_nil ⟨H, I, h⟩
theorem pif_one {X : Cx} {c : Expr} {t : TT} (h : PT X c t) : PIf X [c] t := fun pins s σ H Q I q => wpAny_tests_one (h pins s σ H Q I q)
end

section
variable {prog : Program} {w : World} {A : Around} {R : Result → Shared → Prop} {s : Shared}
theorem comp_turns {elt target iter : Expr} {ifs : List Expr} {scope : Scope} {pos : Pos} {it acc : Value} {env : Env} (J : Nat → Shared → Prop)
    (turn : ∀ n s, J n s → wpAny (model prog w) A (pyNext it) (fun r s₁ => match r with
      | none => R (.ok .next) s₁
      | some v => wpAny (model prog w) A (letOwnedTupleGo target it v) (fun _ s₂ => wpAny (model prog w) A (assign target env v) (fun _ s₃ =>
          wpAny (model prog w) A (forIn ifs true fun c r => if r = true then do let ok ← isTrue c env (eval c env); pure (ForInStep.yield ok) else pure (ForInStep.yield r)) (fun ok s₄ =>
            if ok = true then wpAny (model prog w) A (eval elt env) (fun x s₅ =>
              wpAny (model prog w) A (call (.builtin "list.append") [acc, x]) (fun _ s₆ => ∃ m, m < n ∧ J m s₆) (fun _ _ => False) s₅) (fun _ _ => False) s₄
            else ∃ m, m < n ∧ J m s₄) (fun _ _ => False) s₃) (fun _ _ => False) s₂) (fun _ _ => False) s₁) (fun _ _ => False) s)
    (n : Nat) (h : J n s) : codeAny (model prog w) A (.compLoop (.ListComp elt [⟨target, iter, ifs, 0⟩] scope pos) 0 it acc env) R s := by
  refine codeAny_loop rfl J (fun n s hJ => ?_) n h
  show wpAny _ A ((compTurn (.ListComp elt [⟨target, iter, ifs, 0⟩] scope pos) 0 it acc env).onRaise (fun x => do noteFrame x env; theTreesLotGoes x)) _ _ s
  refine wpAny_noted ?_
  rw [compTurn_list]
  refine wpAny_bind (wpAny_standAt (wpAny_bind (wpAny_mono (turn n s hJ) (fun r s₁ h₁ => ?_) fun _ _ z => z.elim)))
  cases r with
  | none => exact wpAny_pure h₁
  | some v =>
    refine wpAny_bind (wpAny_mono h₁ (fun _ s₂ h₂ => ?_) fun _ _ z => z.elim)
    refine wpAny_bind (wpAny_mono h₂ (fun _ s₃ h₃ => wpAny_bind (wpAny_mono h₃ (fun ok s₄ h₄ => ?_) fun _ _ z => z.elim)) fun _ _ z => z.elim)
    cases ok with
    | false => exact wpAny_pure ⟨rfl, h₄⟩
    | true =>
      exact wpAny_bind (wpAny_bind (wpAny_mono h₄ (fun x s₅ h₅ => wpAny_bind (wpAny_mono h₅ (fun _ s₆ h₆ => wpAny_pure (wpAny_pure ⟨rfl, h₆⟩)) fun _ _ z => z.elim)) fun _ _ z => z.elim))
end

section
variable {X : Cx} {pins : List (Addr × Obj)} {σ : St} {H : Hp} {s : Shared} {sc : Scope} {x : Str} {cap : List Str}
/-- one turn of the block, and its end -/
def LCw (J : It) (js : List Nat) (σ : St) (tt : TT) (te : TE) (Q : VK) (W : Nat → Nat → List V → Hp → Prop) : Prop :=
  ∀ i m ys H, W i m ys H → ys.length < sizeLine ∧
    ((J.stop i H ∧ ∀ p, H p = none → Q (.ref p) (upd H p (.lst ys))) ∨
     (J.go i H ∧ ∀ x H', J.yld i H x H' → tt (some x :: capV σ js) H' fun b H2 => if b = true then te (some x :: capV σ js) H2 fun v H3 => ∃ m', m' < m ∧ W (i + 1) m' (ys ++ [v]) H3 else ∃ m', m' < m ∧ W (i + 1) m' ys H2))
/-- the reading of a comprehension: js, the slots of the names that it takes along -/
def tLC (wi : TI) (js : List Nat) (tt : TT) (te : TE) : TE := fun σ H Q => wi σ H fun J H1 => ∃ W : Nat → Nat → List V → Hp → Prop, (∃ m, W 0 m [] H1) ∧ LCw J js σ tt te Q W

theorem comp_run (S : CompScope X.env.scope sc x cap) {js : List Nat} (hjs : js.map (fun j => X.N[j]?) = cap.map some) (hc : X.calm = true) {elt iter : Expr} {ifs : List Expr} {pos px : Pos} {tt : TT} {te : TE}
    (hb : ∀ C s0 H0 ex, PIf (compCx X sc (x :: cap) C s0 H0 ex) ifs tt ∧ PE (compCx X sc (x :: cap) C s0 H0 ex) elt te)
    (I : Inv X pins σ H s) {J : It} {fp : List Addr} {it : Addr} {tn : Nat → Heap → Prop} (T : Turn X.prog X.w X.K (.Name x px) J fp it tn) (st : tn 0 s.heap) (hf : ∀ b ∈ fp, FpOk X pins H b)
    {Q : VK} {W : Nat → Nat → List V → Hp → Prop} (w0 : ∃ m, W 0 m [] H) (turn : LCw J js σ tt te Q W) {RR : Value → Addr → Result → Shared → Prop} {E : Value → Shared → Prop}
    (hR : ∀ D C s' σ' H' ys its k, D = s.heap.objs.size → C = s.heap.objs.size + 1 → Inv (compCx X sc (x :: cap) C s H fp) [(D, { cls := .type "list", data := .seq its.toArray k })] σ' H' s' → Vals ys its → ys.length ≤ sizeLine → (∀ p, H' p = none → Q (.ref p) (upd H' p (.lst ys))) → RR (.ref D) C (.ok .next) s') :
    wpAny (model X.prog X.w) X.A (newList []) (fun acc s₃ => wpAny (model X.prog X.w) X.A (newFunctionEnv sc X.env.globals (clOf X.env sc.names []) [] X.env.qual none .none (some X.env)) (fun cenv s₄ =>
      codeAny (model X.prog X.w) X.A (.compStart (.ListComp elt [⟨.Name x px, iter, ifs, 0⟩] sc pos) 0 (.ref it) acc { cenv with scope := relabel sc X.env }) (RR acc cenv.locals) s₄) E s₃) E s := by
  refine wpAny_newObj_type (wpAny_newFunctionEnv S.cell (by intro y hy; simp at hy) (fun h₁ hns₁ hsb₁ => ?_) S.kind)
  dsimp only at hns₁ hsb₁ ⊢
  have hlt : ∀ b ∈ fp, b < s.heap.objs.size := fun b hb' => by
    obtain ⟨o, e, _⟩ := T.obj 0 _ st b hb'
    exact Heap.lt_size e
  generalize hH2 : s.heap.push { cls := .type "list", dict := none, data := .seq ([] : List Value).toArray } = H2 at hns₁ hsb₁ ⊢
  have hC : H2.objs.size = s.heap.objs.size + 1 := by rw [← hH2, Heap.size_push]
  have old : ∀ b o, s.heap.get? b = some o → h₁.get? b = some o := fun b o e =>
    hsb₁.extBut b o (by rw [hC]; exact neLt (Nat.lt_succ_of_lt (Heap.lt_size e))) (Heap.get?_push_of_some _ (hH2 ▸ Heap.get?_push_of_some _ e))
  have hacc : h₁.get? s.heap.objs.size = some { cls := .type "list", data := .seq ([] : List Value).toArray } :=
    hsb₁.extBut _ _ (by rw [hC]; exact neLt (Nat.lt_succ_self _)) (Heap.get?_push_of_some _ (hH2 ▸ Heap.get?_push_size _ rfl))
  have st₁ : tn 0 h₁ := T.keep _ _ _ st fun b _ o e => old b o e
  obtain ⟨m0, w0⟩ := w0
  rw [hC] at hns₁ hsb₁ ⊢
  generalize hCe : s.heap.objs.size + 1 = C at hns₁ hsb₁ hR ⊢
  generalize hDe : s.heap.objs.size = D at hacc hR ⊢
  have hDe' := hDe.symm
  have hC' : C = s.heap.objs.size + 1 := hCe.symm
  have ltD : ∀ {b : Addr}, b < s.heap.objs.size → b ≠ D := fun h => by rw [← hDe]; exact neLt h
  -- the loop
  have loop : ∀ s₃ : Shared, s₃ = { s with heap := h₁, toks := s.toks + ([] : List (Str × Value)).length } →
      codeAny (model X.prog X.w) X.A (.compLoop (.ListComp elt [⟨.Name x px, iter, ifs, 0⟩] sc pos) 0 (.ref it) (.ref D) (compEnvC sc (clOf X.env sc.names []) C X.env)) (RR (.ref D) C) s₃ := by
    rintro s₃ rfl
    have I0 : Inv (compCx X sc (x :: cap) C s H fp) [(D, { cls := .type "list", data := .seq ([] : List Value).toArray })] (none :: capV σ js) H { s with heap := h₁, toks := s.toks + ([] : List (Str × Value)).length } :=
      comp_inv S hjs I hf hlt hDe' hC' old hacc (fun v z => by cases z) hns₁
    have ndN : (compCx X sc (x :: cap) C s H fp).N.Nodup := S.nd
    have hxl : (compCx X sc (x :: cap) C s H fp).env.scope.names.lookup x = some .local := lookup_relabel_local S.tgt
    have fpD : ∀ b ∈ fp, b ≠ D := fun b hb' => ltD (hlt b hb')
    refine comp_turns (fun n s' => ∃ i v0 H' ys its k, Inv (compCx X sc (x :: cap) C s H fp) [(D, { cls := .type "list", data := .seq its.toArray k })] (v0 :: capV σ js) H' s' ∧ tn i s'.heap ∧ (∀ b ∈ fp, H' b = none) ∧ Vals ys its ∧ W i n ys H')
      ?_ m0 ⟨0, none, H, [], [], 0, I0, st₁, fun b hb' => (hf b hb').1, .nil, w0⟩
    rintro n s3 ⟨i, v0, H3, ys, its, k, I3, st3, fr3, rv, w3⟩
    obtain ⟨hlen, hor⟩ := turn i n ys H3 w3
    have stat : ∀ {H' : Hp} {o : Obj}, (∀ b ∈ fp, H' b = none) → ∀ b ∈ fp, FpOk (compCx X sc (x :: cap) C s H fp) [(D, o)] H' b := fun {H' o} hn b hb' =>
      ⟨hn b hb', (I3.ok.exf b hb').1, I3.ok.exfs b hb', .inl hb', (I3.ok.exf b hb').2, fun p hp => by
        have hp' : p = (D, o) := by simpa using hp
        rw [hp']
        exact Ne.symm (fpD b hb')⟩
    rcases hor with ⟨stop, qn⟩ | ⟨go, step⟩
    · refine thn (T.done (compCx X sc (x :: cap) C s H fp) rfl rfl rfl hc i _ s3 _ H3 _ I3 (stat fr3) st3 stop) fun r s4 ⟨hr, I4⟩ => ?_
      subst hr
      exact hR D C s4 _ H3 ys its k rfl rfl I4 rv (Nat.le_of_lt hlen) qn
    · refine thn (T.item (compCx X sc (x :: cap) C s H fp) rfl rfl rfl hc i _ s3 _ H3 _ I3 (stat fr3) st3 go) fun r s4 ⟨u, hr, h4⟩ => ?_
      subst hr
      refine thn h4 fun _ s5 ⟨xv, H5, I5, r5, y5, st5, fr5⟩ => ?_
      have I5' := I5.pinned (stat fr5) (T.obj _ _ st5)
      have hg : PG (compCx X sc (x :: cap) C s H fp) (.Name x px) (gName 0) := pg_name ndN rfl (.inl hxl) (.inr hxl)
      refine thn (hg _ s5 _ H5 xv u (fun σ2 H2 => σ2 = some xv :: capV σ js ∧ H2 = H5) I5' r5 ⟨rfl, rfl⟩) fun _ s6 ⟨σ6, H6, I6, e6, e6'⟩ => ?_
      subst e6 e6'
      refine thn ((hb C s H fp).1 _ s6 _ H6 _ I6 (step xv H6 y5)) fun ok s7 ⟨H7, I7, q7⟩ => ?_
      -- what the turn leaves of the iterator and of the list
      have fin : ∀ {s8 : Shared} {H8 : Hp} {v8 : Option V}, Inv (compCx X sc (x :: cap) C s H fp) ([(D, { cls := .type "list", data := .seq its.toArray k })] ++ pinsAt fp s5.heap) (v8 :: capV σ js) H8 s8 → tn (i + 1) s8.heap ∧ (∀ b ∈ fp, H8 b = none) ∧ s8.heap.get? D = some { cls := .type "list", data := .seq its.toArray k } ∧ H8 D = none ∧ D ≠ C := fun {s8 H8 v8} I8 => by
        have pinD := I8.pin (D, { cls := .type "list", data := .seq its.toArray k }) (List.mem_append_right _ (List.mem_append_left _ (List.mem_singleton.mpr rfl)))
        have pinF : ∀ b ∈ fp, ∀ o, s5.heap.get? b = some o → s8.heap.get? b = some o ∧ H8 b = none := fun b hb' o e =>
          have z := I8.pin (b, o) (List.mem_append_right _ (List.mem_append_right _ (mem_pinsAt hb' e)))
          ⟨z.1, z.2.1⟩
        refine ⟨T.keep _ _ _ st5 fun b hb' o e => (pinF b hb' o e).1, fun b hb' => ?_, pinD.1, pinD.2.1, pinD.2.2.1⟩
        obtain ⟨o, e, _⟩ := T.obj _ _ st5 b hb'
        exact (pinF b hb' o e).2
      cases ok with
      | false =>
        rw [if_neg Bool.false_ne_true] at q7 ⊢
        obtain ⟨m', hm, w7⟩ := q7
        obtain ⟨f1, f2, _⟩ := fin I7
        exact ⟨m', hm, i + 1, some xv, H7, ys, its, k, I7.unpinned, f1, f2, rv, w7⟩
      | true =>
        rw [if_pos rfl] at q7 ⊢
        refine thn ((hb C s H fp).2 _ s7 _ H7 _ I7 q7) fun u8 s8 ⟨v, H8, I8, r8, q8⟩ => ?_
        obtain ⟨f1, f2, f3, f4, f5⟩ := fin I8
        obtain ⟨m', hm, w8⟩ := q8
        have rv' : Vals (ys ++ [v]) (its ++ [u8]) := rv.append (.cons r8 .nil)
        refine wpAny_list_append_plain ⟨k, f3⟩ (fun h9 hl9 hs9 => ?_) (by rw [List.size_toArray, ← rv.length]; exact Nat.le_of_lt hlen)
        obtain ⟨k9, e9⟩ := hl9
        have e9' : h9.get? D = some { cls := .type "list", data := .seq (its ++ [u8]).toArray k9 } := by rw [e9]; simp
        have In : Inv (compCx X sc (x :: cap) C s H fp) (pinsAt fp s5.heap) (some xv :: capV σ js) H8 s8 := I8.pins_of fun p hp => I8.pin p (List.mem_append_right _ (List.mem_append_right _ hp))
        have It' : Inv (compCx X sc (x :: cap) C s H fp) (pinsAt fp s5.heap) (some xv :: capV σ js) H8 { s8 with heap := h9 } :=
          In.turned (it := D) (h' := h9) (t' := s8.toks) (fun b o hb' e => hs9.extBut b o hb' e) f4 f5 (.inr (Nat.le_of_eq hDe)) (fun y c e z => by
            obtain ⟨v', o, ho, _⟩ := I.cell y c (S.sub I.ok e)
            exact ltD (Heap.lt_size ho) z) fun p hp z => by
            have hp' : p ∈ pinsAt fp s5.heap := by simpa using hp
            exact fpD p.1 (of_pinsAt hp').1 z
        refine ⟨m', hm, i + 1, some xv, H8, ys ++ [v], its ++ [u8], k9, It'.pins_of fun p hp => ?_, T.keep _ _ _ f1 fun b hb' o e => hs9.extBut b o (fpD b hb') e, f2, rv', w8⟩
        have hp' : p = (D, { cls := .type "list", data := .seq (its ++ [u8]).toArray k9 }) := by simpa using hp
        subst hp'
        refine ⟨e9', f4, f5, fun hb' => ?_, fun v z => by cases z⟩
        obtain ⟨_, o, ho, _⟩ := I.stack.mem hb'
        exact ltD (Heap.lt_size ho) rfl
  exact codeAny_compStart_list (loop _ rfl) (T.self X.A 0 _ _ _ st₁ (loop _ rfl))

/-- [elt for x in iter if ..] -/
theorem pe_lc (S : CompScope X.env.scope sc x cap) {js : List Nat} (hjs : js.map (fun j => X.N[j]?) = cap.map some) (hc : X.calm = true) (hxe : ∀ e s, ¬ X.xe e s) {elt iter : Expr} {ifs : List Expr} {pos px : Pos} {wi : TI} {tt : TT} {te : TE}
    (hi : PI X (.Name x px) iter wi) (hb : ∀ C s0 H0 ex, PIf (compCx X sc (x :: cap) C s0 H0 ex) ifs tt ∧ PE (compCx X sc (x :: cap) C s0 H0 ex) elt te)
    (hs : ∀ x, foldedSetIterable iter X.env x = pure x := by intro _; rfl) : PE X (.ListComp elt [⟨.Name x px, iter, ifs, 0⟩] sc pos) (tLC wi js tt te) := by
  intro pins s σ H Q I h
  rw [eval_ListComp]
  refine wpAny_comprehension_free (use := none) rfl hs (closureFor_eq (S.cells I.ok)) S.kind S.names (thn (hi pins s σ H _ I h) fun xv s₁ h₁ => thn h₁ fun itv s₂ h₂ => ?_)
  obtain ⟨it, fp, tn, J, H2, e, I2, T, st2, f2, W, w0, turn⟩ := h₂
  subst e
  refine comp_run (Q := Q) (RR := fun acc C => compPost (model X.prog X.w) X.A X.xe none (EP X pins σ Q) acc C) S hjs hc hb I2 T st2 f2 w0 turn ?_
  intro D C s' σ' H' ys its k hD hC J' rv hz q
  obtain ⟨m, hn, _⟩ := J'.loc
  have pinD := J'.pin (D, { cls := .type "list", data := .seq its.toArray k }) (List.mem_append_right _ (List.mem_singleton.mpr rfl))
  exact ⟨m, hn, fun h' hs' => ⟨.ref D, _, comp_end S I2 f2 hD hC J' pinD.2.1 pinD.1 rv hz hs', rfl, q D pinD.2.1⟩⟩
end
end L2

set_option maxHeartbeats 4000000
namespace L2
open PySem PySem.Spec PyProof.Rows
section
variable {X : Cx} {pins : List (Addr × Obj)} {σ : St} {H : Hp} {s : Shared} {sc : Scope} {x : Str} {cap : List Str}
/-- y = [elt for x in iter if ..], y a plain name on the same row: the name is stored ahead of the block's end -/
def tLCs (i : Nat) (wi : TI) (js : List Nat) (tt : TT) (te : TE) : TS := fun D σ H => tLC wi js tt te σ H fun v H' => D.nx (σ.set i (some v)) H'
theorem ps_lc (S : CompScope X.env.scope sc x cap) {js : List Nat} (hjs : js.map (fun j => X.N[j]?) = cap.map some) (hc : X.calm = true) (hxe : ∀ e s, ¬ X.xe e s) {elt iter : Expr} {ifs : List Expr} {pos px py spos : Pos} {wi : TI} {tt : TT} {te : TE} {i : Nat} {y : Str}
    (hN : X.N.Nodup) (hi' : X.N[i]? = some y) (hy : X.env.scope.names.lookup y = some .local)
    (hi : PI X (.Name x px) iter wi) (hb : ∀ C s0 H0 ex, PIf (compCx X sc (x :: cap) C s0 H0 ex) ifs tt ∧ PE (compCx X sc (x :: cap) C s0 H0 ex) elt te)
    (hsw : swapsWith (.ListComp elt [⟨.Name x px, iter, ifs, 0⟩] sc pos) (some (.Name y py)) spos.line X.env = pure true := by rfl)
    (hs : ∀ x, foldedSetIterable iter X.env x = pure x := by intro _; rfl) : PS X (.Assign [.Name y py] (.ListComp elt [⟨.Name x px, iter, ifs, 0⟩] sc pos) spos) (tLCs i wi js tt te) := by
  intro pins s σ H D0 I h
  rw [exec_Assign_Name_used _ _ _ _ hsw]
  refine wpAny_bind (wpAny_standAt (wpAny_bind ?_))
  show wpAny _ X.A (do let _ ← comprehension (.ListComp elt [⟨.Name x px, iter, ifs, 0⟩] sc pos) sc X.env _ (newList []) false (eval iter X.env) (some (assign (.Name y py) X.env))) _ _ s
  refine wpAny_bind (wpAny_mono (wpAny_comprehension_free (use := some (assign (.Name y py) X.env)) (Q := fun _ s' => SP X pins D0 .next s') rfl hs (closureFor_eq (S.cells I.ok)) S.kind S.names
    (thn (hi pins s σ H _ I h) fun xv s₁ h₁ => thn h₁ fun itv s₂ h₂ => ?_)) (fun _ s' hq => wpAny_pure (wpAny_pure hq)) fun _ _ e => e)
  obtain ⟨it, fp, tn, J, H2, e, I2, T, st2, f2, W, w0, turn⟩ := h₂
  subst e
  refine comp_run (Q := fun v H' => D0.nx (σ.set i (some v)) H') (RR := fun acc C => compPost (model X.prog X.w) X.A X.xe (some (assign (.Name y py) X.env)) (fun _ s' => SP X pins D0 .next s') acc C) S hjs hc hb I2 T st2 f2 w0 turn ?_
  intro D C s' σ' H' ys its k hD hC J' rv hz q
  have gtC : ∀ {b : Addr}, b < s₂.heap.objs.size → b ≠ C := fun h => by rw [hC]; exact neLt (Nat.lt_succ_of_lt h)
  have pinD := J'.pin (D, { cls := .type "list", data := .seq its.toArray k }) (List.mem_append_right _ (List.mem_singleton.mpr rfl))
  obtain ⟨m, hn, _⟩ := id J'.loc
  have hn : s'.heap.Ns C m := hn
  obtain ⟨oC, es, ep, hoC, hdC, rest⟩ := id hn
  have hCn : C ∉ X.fs ∧ C ≠ X.env.locals := by
    constructor
    · intro hb'
      obtain ⟨_, o, ho, _⟩ := I2.funs.mem hb'
      exact gtC (Heap.lt_size ho) rfl
    · exact fun z => gtC I2.lt z.symm
  have I3 : Inv X pins σ (upd H' D (.lst ys)) s' := comp_end (h' := s'.heap) S I2 f2 hD hC J' pinD.2.1 pinD.1 rv hz (.refl ..)
  have hDC : C ≠ D := by rw [hC, hD]; exact neGt (Nat.lt_succ_self _)
  have hH'C : H' C = none := J'.free
  have I4 : Inv X [(C, oC)] σ (upd H' D (.lst ys)) s' := I3.pins_of fun p hp => by
    have hp' : p = (C, oC) := by simpa using hp
    subst hp'
    exact ⟨hoC, by rw [upd_ne hDC]; exact hH'C, hCn.2, hCn.1, fun v z => by rw [hdC] at z; cases z⟩
  have I5 : Inv X (pins ++ [(C, oC)]) σ (upd H' D (.lst ys)) s' := I3.pins_of fun p hp => by
    rcases List.mem_append.mp hp with hp | hp
    · exact I3.pin p (List.mem_append_right _ hp)
    · exact I4.pin p (List.mem_append_right _ hp)
  show wpAny _ X.A (assign (.Name y py) X.env (.ref D)) _ _ _
  refine wpAny_assign_Name (store_ok I5 hN hi' (.inl hy) (v := .ref D) rfl (fun s6 I6 => ?_) (.inr hy))
  have pinC := I6.pin (C, oC) (List.mem_append_right _ (List.mem_append_right _ (List.mem_singleton.mpr rfl)))
  refine ⟨m, ⟨oC, es, ep, pinC.1, hdC, rest⟩, fun h' hs' => ⟨_, _, ?_, q D pinD.2.1⟩⟩
  refine I6.unpinned.turned (it := C) (h' := h') (t' := s6.toks) (fun b o hb' e => hs'.extBut b o hb' e) pinC.2.1 hCn.2 (.inr ?_) (fun y' c e z => ?_) fun p hp z => ?_
  · rw [hC]; exact Nat.le_succ_of_le I2.sz
  · obtain ⟨v', o, ho, _⟩ := I2.cell y' c e
    exact gtC (Heap.lt_size ho) z
  · exact gtC (Heap.lt_size (I2.pin p hp).1) z
end
section
variable {X : Cx}
theorem call_all (hc : X.calm = true) : CallR X (.builtin "all") (fun xs H Q => ∃ (p : Addr) (bs : List Bool), xs = [.ref p] ∧ SqL X.K H p (bs.map V.bl) ∧ Q (.bl (bs.all id)) H) := by
  intro pins s σ H xs us Q I r h
  obtain ⟨p, bs, rfl, hq, q⟩ := h
  obtain ⟨u, rfl, r1⟩ := vals1 r
  cases r1
  obtain ⟨its, rv, pl, hz⟩ := I.list hq
  have hl := plainIs pl
  have hlt : p < s.heap.objs.size := by obtain ⟨_, e, _⟩ := hl; exact Heap.lt_size e
  have hlen : its.length = bs.length := by rw [← rv.length, List.length_map]
  refine call_all_walk (wpAny_pyIter_list hl ?_)
  refine ⟨s.heap.objs.size, [s.heap.objs.size, p], [s.heap.objs.size], its.toArray.size, _, _, fun i => (bs[i]?).getD true, rfl, Walks.list (A := X.A.in1) (I.ok.hd hc) _ p (Nat.ne_of_lt hlt) its.toArray,
    ⟨⟨_, Heap.get?_push_size _ rfl, rfl, rfl⟩, hl.push _⟩, fun i v s' Q' E' hP hQ => ?_, fun h' tk hk => ?_⟩
  · have hP' : its[i]? = some v := by simpa using hP
    have hi : i < bs.length := by rw [← hlen]; exact (List.getElem?_eq_some_iff.mp hP').1
    obtain ⟨u, hu, ru⟩ := rv.get (i := i) (x := V.bl bs[i]) (by rw [List.getElem?_map, List.getElem?_eq_getElem hi]; rfl)
    rw [hP'] at hu
    cases hu
    cases (show v = Value.bool bs[i] from ru)
    simp only [List.getElem?_eq_getElem hi, Option.getD_some] at hQ
    exact wpAny_truthy_bool hQ
  · have e : ((List.range its.toArray.size).all fun i => (bs[i]?).getD true) = bs.all id := by
      rw [List.size_toArray, hlen]; exact PyProof.Rows.LSm.range_all bs
    rw [e]
    exact ⟨.bl (bs.all id), H, I.kept fun b o e => hk b o (fun hm => by rw [List.mem_singleton.mp hm] at e; exact Nat.lt_irrefl _ (Heap.lt_size e)) (Heap.get?_push_of_some _ e), rfl, q⟩
end
end L2

namespace Frac
/-- the loop of both divisors: from (a, b) on -/
theorem gcd_step (a b : Int) (hb : 0 < b) : Int.gcd b (a % b) = Int.gcd a b := by
  rw [Int.gcd_comm a b]
  have h : a % b = a - b * (a / b) := by
    have := Int.emod_add_mul_ediv a b
    omega
  rw [h, show a - b * (a / b) = a + b * (-(a / b)) by rw [Int.mul_neg]; omega]
  exact Int.gcd_add_mul_left_right b a (-(a / b))
theorem gcd_zero (a : Int) (ha : 0 ≤ a) : (Int.gcd a 0 : Int) = a := by
  rw [Int.gcd_zero_right]; omega
/-- a fraction in least numbers -/
def norm (a b : Int) : Int × Int := if b < 0 then ((-a) / (Int.gcd a b : Int), (-b) / (Int.gcd a b : Int)) else (a / (Int.gcd a b : Int), b / (Int.gcd a b : Int))
theorem gpos {a b : Int} (hb : b ≠ 0) : (0 : Int) < (Int.gcd a b : Int) := by
  have := Int.gcd_pos_of_ne_zero_right a hb
  omega
theorem dvd_l (a b : Int) : (Int.gcd a b : Int) ∣ a := Int.gcd_dvd_left a b
theorem dvd_r (a b : Int) : (Int.gcd a b : Int) ∣ b := Int.gcd_dvd_right a b
/-- the program's own way -/
theorem norm_prog (a b : Int) (hb : b ≠ 0) : norm a b = if b < 0 then (a.fdiv (-(Int.gcd a b : Int)), b.fdiv (-(Int.gcd a b : Int))) else (a.fdiv (Int.gcd a b : Int), b.fdiv (Int.gcd a b : Int)) := by
  have hg := gpos (a := a) hb
  unfold norm
  have key : ∀ x : Int, (Int.gcd a b : Int) ∣ x → x.fdiv (-(Int.gcd a b : Int)) = (-x) / (Int.gcd a b : Int) := fun x hx => by
    obtain ⟨k, rfl⟩ := hx
    generalize (Int.gcd a b : Int) = g at hg
    rw [show g * k = (-g) * (-k) by rw [Int.neg_mul_neg], Int.mul_fdiv_cancel_left _ (by omega : -g ≠ 0), show -(-g * -k) = g * (-k) by rw [Int.neg_mul, Int.neg_neg]]
    rw [Int.mul_ediv_cancel_left _ (by omega : g ≠ 0)]
  split
  · rw [key a (dvd_l a b), key b (dvd_r a b)]
  · rw [Int.fdiv_eq_ediv_of_nonneg _ (by omega), Int.fdiv_eq_ediv_of_nonneg _ (by omega)]
theorem norm_flip (a b : Int) (hb : b < 0) : norm a b = norm (-a) (-b) := by
  unfold norm
  rw [if_pos hb, if_neg (by omega), Int.gcd_neg, Int.neg_gcd]
theorem norm_pos (a b : Int) (hb : 0 < b) : norm a b = (a / (Int.gcd a b : Int), b / (Int.gcd a b : Int)) := by
  unfold norm; rw [if_neg (by omega)]
/-- what is told of it -/
theorem norm_ok (a b : Int) (hb : b ≠ 0) : 1 ≤ (norm a b).2 ∧ (norm a b).1 * b = a * (norm a b).2 ∧ Int.gcd (norm a b).1 (norm a b).2 = 1 := by
  have main : ∀ a b : Int, 0 < b → 1 ≤ (norm a b).2 ∧ (norm a b).1 * b = a * (norm a b).2 ∧ Int.gcd (norm a b).1 (norm a b).2 = 1 := fun a b hb => by
    have hg := gpos (a := a) (show b ≠ 0 by omega)
    rw [norm_pos a b hb]
    obtain ⟨x, hx⟩ := dvd_l a b
    obtain ⟨y, hy⟩ := dvd_r a b
    have e1 : a / (Int.gcd a b : Int) = x := by
      conv => lhs; lhs; rw [hx]
      exact Int.mul_ediv_cancel_left _ (by omega)
    have e2 : b / (Int.gcd a b : Int) = y := by
      conv => lhs; lhs; rw [hy]
      exact Int.mul_ediv_cancel_left _ (by omega)
    have hy0 : 0 < y := by
      rw [hy] at hb
      exact Int.pos_of_mul_pos_right hb (by omega) |> fun h => h
    refine ⟨?_, ?_, ?_⟩
    · show 1 ≤ b / _
      rw [e2]; omega
    · show a / _ * b = a * (b / _)
      rw [e1, e2]
      conv => lhs; rw [hy]
      conv => rhs; rw [hx]
      rw [← Int.mul_assoc, Int.mul_comm x, Int.mul_assoc]
    · show Int.gcd (a / _) (b / _) = 1
      exact Int.gcd_ediv_gcd_ediv_gcd (by omega)
  by_cases h : 0 < b
  · exact main a b h
  · have h' : b < 0 := by omega
    obtain ⟨h1, h2, h3⟩ := main (-a) (-b) (by omega)
    rw [norm_flip a b h']
    refine ⟨h1, ?_, h3⟩
    rw [Int.mul_neg, Int.neg_mul] at h2
    omega
theorem norm_scale (a b k : Int) (hb : b ≠ 0) (hk : k ≠ 0) : norm (a * k) (b * k) = norm a b := by
  have pos : ∀ a b k : Int, 0 < b → 0 < k → norm (a * k) (b * k) = norm a b := fun a b k hb hk => by
    have hg := gpos (a := a) (show b ≠ 0 by omega)
    rw [norm_pos _ _ hb, norm_pos _ _ (Int.mul_pos hb hk), Int.gcd_mul_right]
    have e : ((Int.gcd a b * k.natAbs : Nat) : Int) = (Int.gcd a b : Int) * k := by
      rw [Int.natCast_mul]; congr 1; omega
    rw [e, Int.mul_ediv_mul_of_pos_left _ _ hk, Int.mul_ediv_mul_of_pos_left _ _ hk]
  have b' : ∀ a b k : Int, 0 < b → k ≠ 0 → norm (a * k) (b * k) = norm a b := fun a b k hb hk => by
    by_cases h : 0 < k
    · exact pos a b k hb h
    · have h1 : b * k < 0 := by
        have := Int.mul_pos hb (show 0 < -k by omega)
        rw [Int.mul_neg] at this; omega
      rw [norm_flip _ _ h1, ← Int.mul_neg, ← Int.mul_neg]
      exact pos a b (-k) hb (by omega)
  by_cases h : 0 < b
  · exact b' a b k h hk
  · rw [norm_flip a b (by omega)]
    have e := b' (-a) (-b) (-k) (by omega) (by omega)
    rw [Int.neg_mul_neg, Int.neg_mul_neg] at e
    exact e
theorem norm_zero (b : Int) (hb : b ≠ 0) : norm 0 b = (0, 1) := by
  have pos : ∀ b : Int, 0 < b → norm 0 b = (0, 1) := fun b hb => by
    rw [norm_pos 0 b hb, Int.zero_ediv, Int.gcd_zero_left]
    have : ((b.natAbs : Nat) : Int) = b := by omega
    rw [this, Int.ediv_self (by omega)]
  by_cases h : 0 < b
  · exact pos b h
  · rw [norm_flip 0 b (by omega)]; exact pos (-b) (by omega)
theorem norm_self (b : Int) (hb : b ≠ 0) : norm b b = (1, 1) := by
  have pos : ∀ b : Int, 0 < b → norm b b = (1, 1) := fun b hb => by
    rw [norm_pos b b hb, Int.gcd_self]
    have : ((b.natAbs : Nat) : Int) = b := by omega
    rw [this, Int.ediv_self (by omega)]
  by_cases h : 0 < b
  · exact pos b h
  · rw [norm_flip b b (by omega)]; exact pos (-b) (by omega)
/-- sizes -/
theorem norm_size (a b : Int) (hb : b ≠ 0) : (norm a b).1.natAbs ≤ a.natAbs ∧ (norm a b).2.natAbs ≤ b.natAbs := by
  have hg := gpos (a := a) hb
  have key : ∀ x : Int, (x / (Int.gcd a b : Int)).natAbs ≤ x.natAbs := fun x => by
    have h := Int.natAbs_ediv_le_natAbs x (Int.gcd a b : Int)
    exact h
  unfold norm
  split
  · exact ⟨by have := key (-a); rw [Int.natAbs_neg] at this; exact this, by have := key (-b); rw [Int.natAbs_neg] at this; exact this⟩
  · exact ⟨key a, key b⟩
end Frac

set_option maxHeartbeats 4000000
namespace Lw
open PySem L2 Frac
theorem bAbs : bootBuiltins "abs" = some (.builtin "abs") := by decide +kernel
theorem bIsi : bootBuiltins "isinstance" = some (.builtin "isinstance") := by decide +kernel
theorem bTup : bootBuiltins "tuple" = some (.type "tuple") := by decide +kernel
theorem bBool : bootBuiltins "bool" = some (.type "bool") := by decide +kernel
theorem bInt : bootBuiltins "int" = some (.type "int") := by decide +kernel
theorem bMax : bootBuiltins "max" = some (.builtin "max") := by decide +kernel
theorem bSum : bootBuiltins "sum" = some (.builtin "sum") := by decide +kernel
theorem bAll : bootBuiltins "all" = some (.builtin "all") := by decide +kernel
/-! ### sizes -/
theorem w0 {i : Int} (h : i.natAbs < 10 ^ 100) : i.natAbs < 2 ^ 4000 := Nat.lt_of_lt_of_le h (by decide +kernel)
theorem mw {i j : Int} (h : i.natAbs < 10 ^ 100) (h' : j.natAbs < 10 ^ 100) : CMulW i j := ⟨w0 h, w0 h'⟩
theorem mulb {i j : Int} {a b : Nat} (h : i.natAbs ≤ a) (h' : j.natAbs ≤ b) : (i * j).natAbs ≤ a * b := by
  rw [Int.natAbs_mul]; exact Nat.mul_le_mul h h'
/-! ### the deck: a list of the cells and a count -/
structure DeckAt (H : Hp) (d c : Addr) : Prop where
  ex : ∃ (k : Int) (ns : List Int), H d = some (.lst [.ref c, .int k]) ∧ H c = some (.lst (ns.map V.int)) ∧ 1 ≤ ns.length ∧ ns.length ≤ 64 ∧ 0 ≤ k
def KeptBut (d c : Addr) (H H' : Hp) : Prop := ∀ b o, H b = some o → b ≠ d → b ≠ c → H' b = some o
theorem KeptBut.refl (d c : Addr) (H : Hp) : KeptBut d c H H := fun _ _ e _ _ => e
theorem KeptBut.trans {d c : Addr} {H H1 H2 : Hp} (a : KeptBut d c H H1) (b : KeptBut d c H1 H2) : KeptBut d c H H2 := fun x o e h1 h2 => b x o (a x o e h1 h2) h1 h2
theorem Same.but {d c : Addr} {H H' : Hp} (h : Same H H') : KeptBut d c H H' := fun b o e _ _ => h b o e
theorem DeckAt.same {H H' : Hp} {d c : Addr} (D : DeckAt H d c) (h : Same H H') : DeckAt H' d c := by
  obtain ⟨k, ns, h1, h2, r⟩ := D.ex
  exact ⟨k, ns, h _ _ h1, h _ _ h2, r⟩
theorem DeckAt.new {H : Hp} {d c p : Addr} {o : HO} (D : DeckAt H d c) (hp : H p = none) : DeckAt (upd H p o) d c := by
  refine D.same fun b u e => ?_
  rw [upd_ne (ne_of_none e hp)]; exact e
theorem same_new {H : Hp} {p : Addr} {o : HO} (hp : H p = none) : Same H (upd H p o) := fun b u e => by
  rw [upd_ne (ne_of_none e hp)]; exact e
theorem DeckAt.ne {H : Hp} {d c : Addr} (D : DeckAt H d c) : d ≠ c := by
  obtain ⟨k, ns, h1, h2, r⟩ := D.ex
  refine ne_of h1 h2 fun z => ?_
  have z' : [V.ref c, V.int k] = ns.map V.int := by injection z
  cases ns with
  | nil => cases z'
  | cons n r => injection z' with z1 _; cases z1
theorem DeckAt.free {H : Hp} {d c p : Addr} (D : DeckAt H d c) (hp : H p = none) : p ≠ d ∧ p ≠ c := by
  obtain ⟨k, ns, h1, h2, r⟩ := D.ex
  exact ⟨Ne.symm (ne_of_none h1 hp), Ne.symm (ne_of_none h2 hp)⟩
theorem atI_ints {ns : List Int} {i : Int} (h0 : 0 ≤ i) (h1 : i < ns.length) : ∃ z j, atI (ns.map V.int) i = some (V.int z) ∧ ixN (ns.map V.int).length i = some j ∧ j < ns.length := by
  have hj : i.toNat < ns.length := by omega
  have e : i = (i.toNat : Int) := by omega
  refine ⟨ns[i.toNat], i.toNat, ?_, ?_, hj⟩
  · have q := atI_nat (xs := ns.map V.int) (j := i.toNat) (v := V.int ns[i.toNat]) (by rw [List.getElem?_map, List.getElem?_eq_getElem hj]; rfl)
    rw [← e] at q
    exact q
  · unfold ixN
    rw [if_pos h0, if_pos (by rw [List.length_map]; exact h1)]
theorem at0 {x : V} {xs : List V} : atI (x :: xs) 0 = some x := atI_nat (xs := x :: xs) (j := 0) rfl
theorem set_ints (ns : List Int) (j : Nat) (z : Int) : (ns.map V.int).set j (V.int z) = (ns.set j z).map V.int := by rw [List.map_set]
theorem cut63 {ns : List Int} (h : ns.length ≤ 63) : cutV (ns.map V.int) none (some 63) = ns.map V.int := by
  unfold cutV
  have e1 : HT.sIx (ns.map V.int).length 0 none = 0 := rfl
  have e2 : HT.sIx (ns.map V.int).length (ns.map V.int).length (some (63 : Int)) = ns.length := by
    have := HT.sIx_nat (ns.map V.int).length (ns.map V.int).length 63
    rw [List.length_map] at this ⊢
    rw [show ((63 : Nat) : Int) = 63 from rfl] at this
    rw [this]; omega
  rw [e1, e2, List.drop_zero, Nat.sub_zero]
  exact List.take_of_length_le (by rw [List.length_map]; exact Nat.le_refl _)
/-! ### the promises -/
def spTake : Sp := fun vs H Q _ => ∃ (d c : Addr) (many : Int), vs = [.ref d, .int many] ∧ DeckAt H d c ∧ (1 ≤ many ∧ many.natAbs < 10 ^ 100) ∧
  ∀ (r : Int) (H' : Hp), 0 ≤ r → r < many → DeckAt H' d c → KeptBut d c H H' → Q (.int r) H'
def spDeck (K : PySem.W.Frag) : Sp := fun vs H Q _ => ∃ (a : Addr) (ns : List Int), vs = [.ref a] ∧ SqL K H a (ns.map V.int) ∧ ns.length ≤ 63 ∧
  ∀ (d c : Addr) (H' : Hp), DeckAt H' d c → H d = none → H c = none → Same H H' → Q (.ref d) H'
def spCommon : Sp := fun vs H Q _ => ∃ a b : Int, vs = [.int a, .int b] ∧ 0 ≤ a ∧ 0 ≤ b ∧ Q (.int (Int.gcd a b)) H
def spCD : Sp := fun vs H Q _ => ∃ a b : Int, vs = [.int a, .int b] ∧ Q (.int (Int.gcd a b)) H
def spLeast : Sp := fun vs H Q _ => ∃ a b : Int, vs = [.int a, .int b] ∧ b ≠ 0 ∧ (a.natAbs < 10 ^ 100 ∧ b.natAbs < 10 ^ 100) ∧
  ∀ p, H p = none → Q (.ref p) (upd H p (.tup [.int (norm a b).1, .int (norm a b).2]))
def spWhole : Sp := fun vs H Q _ => ∃ (d c : Addr), vs = [.ref d] ∧ DeckAt H d c ∧
  ∀ (r : Int) (H' : Hp), 0 ≤ r → r < 10 ^ 20 → DeckAt H' d c → KeptBut d c H H' → Q (.int r) H'
def spNumber : Sp := fun vs H Q _ => ∃ (d c : Addr), vs = [.ref d] ∧ DeckAt H d c ∧
  ∀ (x y : Int) (p : Addr) (H' : Hp), 1 ≤ y → Int.gcd x y = 1 → x.natAbs < 10 ^ 20 → y.natAbs ≤ 10 ^ 20 → H p = none → H' p = some (.tup [.int x, .int y]) → DeckAt H' d c → KeptBut d c H H' → Q (.ref p) H'
def spGood : Sp := fun vs H Q _ => ∃ (p : Addr) (x y a b : Int), vs = [.ref p, .int a, .int b] ∧ H p = some (.tup [.int x, .int y]) ∧ (1 ≤ y ∧ x * b = a * y ∧ Int.gcd x y = 1) ∧ (x.natAbs < 10 ^ 30 ∧ y.natAbs < 10 ^ 30 ∧ a.natAbs < 10 ^ 30 ∧ b.natAbs < 10 ^ 30) ∧
  ∀ H', Same H H' → Q (.bl true) H'
def spLaw (K : PySem.W.Frag) : Sp := fun vs H Q _ => ∃ (a : Addr) (ns : List Int), vs = [.ref a] ∧ SqL K H a (ns.map V.int) ∧ ns.length ≤ 63 ∧ ∀ H', Q (.bl true) H'
end Lw

set_option maxHeartbeats 4000000
namespace L2
open PySem PySem.Spec PyProof.Rows

/-! ### texts: slices, split, startswith, zfill, join, int(text) -/
section
variable {X : Cx}
def rSlS : V → Option Int → Option Int → Hp → VK → Prop := fun x lo hi H Q => ∃ a, x = .str a ∧ a.length ≤ sizeLine ∧ Q (.str (Txt.slice a lo hi)) H
theorem part_of {v : Value} {o : Option Int} (p : IsPart v o) : ∃ q : Option (Int × Tok), v = partValue q ∧ q.map (·.1) = o := by
  cases p with
  | none => exact ⟨none, rfl, rfl⟩
  | int i t => exact ⟨some (i, t), rfl, rfl⟩
theorem sl_str : SlR X rSlS := by
  intro pins s σ H x v vl vu lo hi sl Q I rx hs pl pu h
  obtain ⟨a, rfl, hz, q⟩ := h
  obtain ⟨t, rfl⟩ := rx
  obtain ⟨l, rfl, rfl⟩ := part_of pl
  obtain ⟨u, rfl, rfl⟩ := part_of pu
  obtain ⟨ob, ho, hc, hd⟩ := hs
  exact ⟨"str", _, F.slot_str_getitem.lookup, typeIs_str _ _ _, wpAny_getItem_str_slice (l := l) (u := u) (st := none) ⟨ob, ho, hc, hd⟩ rfl
    (post_val_or_str ⟨Nat.le_trans (Txt.slice_le a _ _) hz, fun t' k => ⟨.str (Txt.slice a (l.map (·.1)) (u.map (·.1))), H, I.tok _, ⟨_, rfl⟩, q⟩⟩)⟩

theorem vals_strs : ∀ (l : List (Str × Tok)), Vals (l.map fun p => V.str p.1) (strValues l)
  | [] => .nil
  | _ :: r => .cons ⟨_, rfl⟩ (vals_strs r)
def rSplit : V → List V → Hp → VK → Prop := fun x vs H Q => ∃ a c, x = .str a ∧ vs = [.str ⟨#[c]⟩] ∧ a.length + 2 ≤ sizeLine ∧ ∀ l, H l = none → Q (.ref l) (upd H l (.lst ((Txt.split a ⟨#[c]⟩).map V.str)))
theorem parts_few (a y : Str) : (Builtin.Str.partsBetween a (Builtin.Str.occurrences a y 0 a.length (a.length + 1)) y.length).length ≤ a.length + 2 := by
  have h := PySem.StrLaws.occ_length_le a y 0 a.length (a.length + 1)
  unfold Builtin.Str.partsBetween
  simp only [List.length_map, List.length_zip, List.length_cons, List.length_append, List.length_nil]
  omega
theorem mt_split : MtR X "str.split" rSplit := by
  intro pins s σ H x vs v us Q I rx rv h
  obtain ⟨a, c, rfl, rfl, hz, q⟩ := h
  obtain ⟨t, rfl⟩ := rx
  obtain ⟨w1, rfl, u, rfl⟩ := rv.one
  have hx : a.length ≤ sizeLine := by omega
  have hn : (Builtin.Str.partsBetween a (Builtin.Str.occurrences a ⟨#[c]⟩ 0 a.length (a.length + 1)) (⟨#[c]⟩ : Str).length).length ≤ sizeLine := Nat.le_trans (parts_few a _) hz
  -- the new list
  have fin : ∀ (l : List (Str × Tok)) (k : Nat), l.map (·.1) = Txt.split a ⟨#[c]⟩ → l.length ≤ sizeLine → EP X pins σ Q (.ref s.heap.objs.size) { s with toks := k, heap := s.heap.push { cls := .type "list", data := .seq (strValues l).toArray } } := fun l k e hl => by
    have ev : (Txt.split a ⟨#[c]⟩).map V.str = l.map fun p => V.str p.1 := by rw [← e, List.map_map]; rfl
    refine ⟨.ref s.heap.objs.size, _, I.laid (t' := k) (o := .lst ((Txt.split a ⟨#[c]⟩).map V.str)) (fun b ob z => Heap.get?_push_of_some _ z) (Nat.le_refl _) ?_, rfl, q _ (I.hok.fresh (Nat.le_refl _))⟩
    refine ⟨by rw [ev, List.length_map]; exact hl, strValues l, 0, by rw [ev]; exact vals_strs l, Heap.get?_push_size _ rfl⟩
  have hy : ((⟨#[c]⟩ : Str).length == 0) = false := rfl
  cases hk : (decide (a.length < (⟨#[c]⟩ : Str).length) || decide (Builtin.Str.strKind a < Builtin.Str.strKind ⟨#[c]⟩))
  · cases hf : (Builtin.Str.occurrences a ⟨#[c]⟩ 0 a.length (a.length + 1)).isEmpty
    · refine call_meets F.slot_str_split (typeIs_str _ _ _) F.entry_str_split (F.args_str_split_2 _ _) (meets_str_split_sep a ⟨#[c]⟩ t u hk hy hf hx hn) ?_
      show wants (EP X pins σ Q) X.xe _ { s with toks := _, heap := s.heap.push { cls := .type "list", data := .seq (strsFrom s.toks _).toArray } }
      rw [strsFrom_eq]
      refine fin (numbered s.toks _) _ ((numbered_texts _ _).trans ((if_neg (ne_true_of_eq_false hk)).trans (if_neg (ne_true_of_eq_false hf))).symm) ?_
      have := congrArg List.length (numbered_texts s.toks (Builtin.Str.partsBetween a (Builtin.Str.occurrences a ⟨#[c]⟩ 0 a.length (a.length + 1)) (⟨#[c]⟩ : Str).length))
      rw [List.length_map] at this
      rw [this]
      exact hn
    · exact call_meets F.slot_str_split (typeIs_str _ _ _) F.entry_str_split (F.args_str_split_2 _ _) (meets_str_split_not_found a ⟨#[c]⟩ t u hk hy hf)
        (fin [(a, t)] s.toks ((if_neg (ne_true_of_eq_false hk)).trans (if_pos hf)).symm (by show 1 ≤ sizeLine; decide))
  · exact call_meets F.slot_str_split (typeIs_str _ _ _) F.entry_str_split (F.args_str_split_2 _ _) (meets_str_split_cannot_occur a ⟨#[c]⟩ t u hk)
      (fin [(a, t)] s.toks (if_pos hk).symm (by show 1 ≤ sizeLine; decide))
theorem mt_startswith : MtR X "str.startswith" (fun x vs H Q => ∃ a b, x = .str a ∧ vs = [.str b] ∧ Q (.bl (Txt.startswith a b)) H) := by
  intro pins s σ H x vs v us Q I rx rv h
  obtain ⟨a, b, rfl, rfl, q⟩ := h
  obtain ⟨t, rfl⟩ := rx
  obtain ⟨w1, rfl, u, rfl⟩ := rv.one
  exact SC.startswith ⟨.bl (Txt.startswith a b), H, I, rfl, q⟩
theorem mt_zfill : MtR X "str.zfill" (fun x vs H Q => ∃ a i, x = .str a ∧ vs = [.int i] ∧ PadOk i = true ∧ Q (.str (Txt.zfill a i)) H) := by
  intro pins s σ H x vs v us Q I rx rv h
  obtain ⟨a, i, rfl, rfl, hp, q⟩ := h
  obtain ⟨t, rfl⟩ := rx
  obtain ⟨w1, rfl, u, rfl⟩ := rv.one
  exact SC.zfill hp fun t' k => ⟨.str (Txt.zfill a i), H, I.tok _, ⟨_, rfl⟩, q⟩
theorem strsAre_of {ys : List Str} : ∀ {us : List Value}, Vals (ys.map V.str) us → StrsAre us ys := by
  induction ys with
  | nil => intro us r; rw [List.map_nil] at r; cases r; exact .nil
  | cons n ns ih =>
    intro us r
    rw [List.map_cons] at r
    cases r with
    | cons r1 r2 =>
      obtain ⟨t, e⟩ := r1
      subst e
      exact .cons n t (ih r2)
theorem mt_join {K : PySem.W.Frag} (hK : X.K = K) : MtR X "str.join" (fun x vs H Q => ∃ (a : Str) (p : Addr) (ys : List Str), x = .str a ∧ vs = [.ref p] ∧ SqL K H p (ys.map V.str) ∧ (ys.map (·.length)).sum + ys.length * a.length ≤ 16777216 ∧ Q (.str (Txt.join a ys)) H) := by
  subst hK
  intro pins s σ H x vs v us Q I rx rv h
  obtain ⟨a, p, ys, rfl, rfl, hq, hz, q⟩ := h
  obtain ⟨t, rfl⟩ := rx
  obtain ⟨w1, rfl, r1⟩ := rv.one
  cases r1
  obtain ⟨its, r2, pl, _⟩ := I.list hq
  exact join_list (plainIs pl) (strsAre_of r2) hz fun t' k => ⟨.str (Txt.join a ys), H, I.tok _, ⟨_, rfl⟩, q⟩
theorem call_int_text : CallR X (.type "int") (fun xs H Q => ∃ x n, xs = [.str x] ∧ intText? x = some n ∧ x.length ≤ 640 ∧ Q (.int n) H) := by
  intro pins s σ H xs us Q I r h
  obtain ⟨x, n, rfl, e, hz, q⟩ := h
  obtain ⟨u, rfl, t, rfl⟩ := vals1 r
  exact PySem.W.KIN.call_text e hz ⟨.int n, H, I.tok _, ⟨_, rfl⟩, q⟩
end
end L2

set_option maxHeartbeats 4000000
namespace L2
open PySem PySem.Spec PyProof.Rows

/-! ### a text, sign by sign -/
def Its (a : Str) : It := ⟨fun i _ => i < a.cps.size, fun i H x H' => H' = H ∧ ∃ c, a.cps.toList[i]? = some c ∧ x = .str ⟨#[c]⟩, fun i _ => a.cps.size ≤ i⟩
theorem walks_str {P : Program} {w : World} {A : Around} (hh : A.handled = none) (it : Addr) (a : Str) (t : Tok) {ty : String} (hty : ty = "str_ascii_iterator" ∨ ty = "str_iterator") :
    Walks P w A it [it] [it] a.cps.size (SignAt a) (fun i h => h.IsStrIter it ty a t i) := by
  rcases hty with rfl | rfl
  · exact Walks.strAscii hh it a t
  · exact Walks.strWide hh it a t
theorem turn_str {P : Program} {w : World} {K : PySem.W.Frag} {tg : Expr} (a : Str) (t : Tok) (it : Addr) {ty : String} (hty : ty = "str_ascii_iterator" ∨ ty = "str_iterator") : Turn P w K tg (Its a) [it] it (fun i h => h.IsStrIter it ty a t i) where
  mem := by simp
  obj := fun i h st b hb => by
    have e : b = it := by simpa using hb
    subst e
    obtain ⟨o, e, c, d⟩ := st
    exact ⟨o, e, fun v z => by rw [d] at z; cases z⟩
  keep := fun i h h' st k => by
    obtain ⟨o, e, r⟩ := st
    exact ⟨o, k it (by simp) o e, r⟩
  item := by
    intro X hP hw hK hc i pins s σ H E I hf st hg
    subst hP hw hK
    obtain ⟨f0, f1, f2, f3, f4, f5⟩ := hf it (by simp)
    refine (walks_str (I.ok.hd hc) it a t hty).item i s _ _ hg st fun v h' tk hv st' kk => ?_
    obtain ⟨c, u, hcc, rfl⟩ := hv
    have I1 : Inv X pins σ H { s with heap := h', toks := tk } := I.turned (fun b o hb e => kk b o (by simpa using hb) e) f0 f1 f3 f4 f5
    obtain ⟨o, ho, hcl, hd⟩ := id st'
    refine ⟨_, rfl, go_of (s := { s with heap := h', toks := tk }) (n := ty) ho hcl hd (by rcases hty with rfl | rfl <;> decide) ⟨.str ⟨#[c]⟩, H, I1, ⟨u, rfl⟩, ⟨rfl, c, by simpa using hcc, rfl⟩, st', fun b hb => (hf b hb).1⟩⟩
  done := by
    intro X hP hw hK hc i pins s σ H E I hf st hg
    subst hP hw hK
    obtain ⟨f0, f1, f2, f3, f4, f5⟩ := hf it (by simp)
    have hn : a.cps[i]? = none := by
      have hg' : a.cps.size ≤ i := hg
      simp [hg']
    rcases hty with rfl | rfl
    · exact wpAny_pyNext_ascii_end (I.ok.hd hc) st hn fun h' eb => ⟨rfl, I.turned (t' := s.toks) (fun b o hb e => eb b o hb e) f0 f1 f3 f4 f5⟩
    · exact wpAny_pyNext_wide_end (I.ok.hd hc) st hn fun h' eb => ⟨rfl, I.turned (t' := s.toks) (fun b o hb e => eb b o hb e) f0 f1 f3 f4 f5⟩
  self := fun A i s Q E st h => by
    rcases hty with rfl | rfl
    · exact wpAny_pyIter_striter_ascii st h
    · exact wpAny_pyIter_striter_wide st h
def iStr (te : TE) : TI := fun σ H R => te σ H fun x H1 => ∃ a, x = .str a ∧ R (Its a) H1
section
variable {X : Cx} {tg : Expr}
theorem pi_str {e : Expr} {te : TE} (he : PE X e te) : PI X tg e (iStr te) := by
  intro pins s σ H R I h
  refine thn (he pins s σ H _ I h) fun v s1 ⟨x, H1, I1, r1, q1⟩ => ?_
  obtain ⟨a, rfl, q⟩ := q1
  obtain ⟨t, rfl⟩ := r1
  have fin : ∀ (ty : String), (ty = "str_ascii_iterator" ∨ ty = "str_iterator") → PIE X pins σ tg R (.ref s1.heap.objs.size) { s1 with heap := s1.heap.push { cls := .type ty, data := .fields #[.str a t, .int 0 0] } } := fun ty hty => by
    refine ⟨s1.heap.objs.size, [s1.heap.objs.size], _, Its a, H1, rfl, I1.kept (t' := s1.toks) fun b o e => Heap.get?_push_of_some _ e, turn_str a t _ hty, ⟨_, Heap.get?_push_size _ rfl, rfl, rfl⟩, fun b hb => ?_, q⟩
    have e : b = s1.heap.objs.size := by simpa using hb
    subst e
    exact I1.fpOk (Nat.le_refl _) (I1.hok.fresh (Nat.le_refl _))
  cases ha : a.cps.all (· < 128)
  · exact wpAny_pyIter_wide ha (fin _ (.inr rfl))
  · exact wpAny_pyIter_ascii ha (fin _ (.inl rfl))
end
/-! ### range with a step -/
def Itr3 (lo c : Int) (n : Nat) : It := ⟨fun i _ => i < n, fun i H x H' => H' = H ∧ x = .int (lo + i * c), fun i _ => n ≤ i⟩
theorem turn_range3 {P : Program} {w : World} {K : PySem.W.Frag} {tg : Expr} (it : Addr) (lo c : Int) (n : Nat) : Turn P w K tg (Itr3 lo c n) [it] it (fun i h => IsRangeIter h it (lo + (i : Nat) * c) ((n : Int) - (i : Nat)) c) where
  mem := by simp
  obj := fun i h st b hb => by
    have e : b = it := by simpa using hb
    subst e
    refine ⟨_, st, fun v z => ?_⟩
    have z' : Data.fields _ = Data.cell v := z
    cases z'
  keep := fun i h h' st k => k it (by simp) _ st
  item := by
    intro X hP hw hK hc i pins s σ H E I hf st hg
    subst hP hw hK
    obtain ⟨f0, f1, f2, f3, f4, f5⟩ := hf it (by simp)
    refine (Walks.range (prog := X.prog) (w := X.w) (I.ok.hd hc) it lo c n).item i s _ _ hg st fun v h' tk hv st' kk => ?_
    obtain ⟨t, rfl⟩ := hv
    have I1 : Inv X pins σ H { s with heap := h', toks := tk } := I.turned (fun b o hb e => kk b o (by simpa using hb) e) f0 f1 f3 f4 f5
    exact ⟨_, rfl, go_of (s := { s with heap := h', toks := tk }) (n := "range_iterator") st' rfl rfl (by decide) ⟨.int (lo + i * c), H, I1, ⟨t, rfl⟩, ⟨rfl, rfl⟩, st', fun b hb => (hf b hb).1⟩⟩
  done := by
    intro X hP hw hK hc i pins s σ H E I hf st hg
    subst hP hw hK
    obtain ⟨f0, f1, f2, f3, f4, f5⟩ := hf it (by simp)
    have hg' : n ≤ i := hg
    exact wpAny_pyNext_range_end (I.ok.hd hc) st (by omega) fun h' eb => ⟨rfl, I.turned (t' := s.toks) (fun b o hb e => eb b o hb e) f0 f1 f3 f4 f5⟩
  self := fun _ _ _ _ _ st h => wpAny_pyIter_rangeiter st h
def iRng3 (ta : TA) : TI := fun σ H R => ta σ H fun vs H1 => ∃ i j c : Int, vs = [.int i, .int j, .int c] ∧ (0 < c ∧ c < 1073741824) ∧ (0 ≤ i ∧ i < 2 ^ 40 ∧ 0 ≤ j ∧ j < 2 ^ 40) ∧ R (Itr3 i c (Builtin.Range.rangeSize i j c).toNat) H1
section
variable {X : Cx} {tg : Expr}
theorem pi_range3 {a b c : Expr} {ta : TA} {p pos : Pos} (hg : Gl X "range") (hm : X.mg "range" = none) (ha : PA X [a, b, c] ta) (hs : starEach [a, b, c] X.env = [(false, eval a X.env), (false, eval b X.env), (false, eval c X.env)] := by rfl) (hs2 : starEach [b, c] X.env = [(false, eval b X.env), (false, eval c X.env)] := by rfl) :
    PI X tg (.Call (.Name "range" p) [a, b, c] [] pos) (iRng3 ta) := by
  intro pins s σ H R I h
  refine Call_ (ld_blt I hg hm boot_range (PyProof.Rows.callWith_type1 (thn (ha pos pins s σ H _ I h) fun us s1 ⟨vs, H1, I1, r1, q1⟩ => ?_) (by rw [hs, hs2]) (by rw [hs2]; rfl)))
  obtain ⟨i, j, k, e, ⟨k0, k1⟩, ⟨q1, q2, q3, q4⟩, q⟩ := q1
  subst e
  cases r1 with
  | cons r rr =>
    cases rr with
    | cons r' rr =>
      cases rr with
      | cons r'' rr =>
        cases rr
        obtain ⟨t, rfl⟩ := r
        obtain ⟨t', rfl⟩ := r'
        obtain ⟨t'', rfl⟩ := r''
        have hsz : 0 ≤ Builtin.Range.rangeSize i j k := by
          unfold Builtin.Range.rangeSize
          rw [if_pos k0]
          split
          · have := Int.ediv_nonneg (show 0 ≤ j - i - 1 by omega) (show 0 ≤ k by omega)
            omega
          · omega
        have hsm : Builtin.Range.small i j k = true := by
          have hle : Builtin.Range.rangeSize i j k ≤ 2 ^ 40 := by
            unfold Builtin.Range.rangeSize
            rw [if_pos k0]
            split
            · have := Int.ediv_le_self k (show 0 ≤ j - i - 1 by omega)
              omega
            · omega
          unfold Builtin.Range.small
          simp only [Builtin.Range.rangeFitsLong, Bool.and_eq_true, Bool.or_eq_true, decide_eq_true_eq, beq_iff_eq, k0, gt_iff_lt, if_true]
          omega
        refine call_range_3 (by omega) ?_ (.inl (PyProof.noPylong_small (by omega)))
        have I2 : Inv X pins σ H1 { s1 with heap := s1.heap.push { cls := .type "range", data := .fields #[.int i t, .int j t', .int k t''] }, toks := s1.toks } := I1.kept fun b o e => Heap.get?_push_of_some _ e
        refine wpAny_pyIter_range (IsRange.new ..) hsm ?_
        refine ⟨_, [_], _, _, H1, rfl, I2.kept (t' := s1.toks) fun b o e => Heap.get?_push_of_some _ e, turn_range3 _ i k (Builtin.Range.rangeSize i j k).toNat, ?_, fun b hb => ?_, q⟩
        · have e1 : i + ((0 : Nat) : Int) * k = i := by simp
          have e2 : (((Builtin.Range.rangeSize i j k).toNat : Nat) : Int) - ((0 : Nat) : Int) = Builtin.Range.rangeSize i j k := by omega
          show IsRangeIter _ _ (i + ((0 : Nat) : Int) * k) ((((Builtin.Range.rangeSize i j k).toNat : Nat) : Int) - ((0 : Nat) : Int)) k
          rw [e1, e2]
          exact Heap.get?_push_size _ rfl
        · have e := List.mem_singleton.mp hb
          subst e
          exact I2.fpOk (Nat.le_refl _) (I2.hok.fresh (Nat.le_refl _))
end

/-! ### list(reversed(xs)) -/
section
variable {prog : Program} {w : World} {A : Around} {E : Value → Shared → Prop} {s : Shared}
theorem nolen_rev : typeLookup (.type "list_reverseiterator") "__len__" = pure none := by rw [typeLookup_type, builtinLookup_eq_fast]; kernel_rfl
theorem hint_rev : typeLookup (.type "list_reverseiterator") "__length_hint__" = pure (some (.builtin "list_reverseiterator.__length_hint__")) := by rw [typeLookup_type, builtinLookup_eq_fast]; kernel_rfl
variable {I : Addr} {fp wr : List Addr} {G : Array GenState → Array GenState → Prop} {n : Nat} {P : Nat → Value → Prop} {St : Nat → Shared → Prop}
theorem extend_rev {R : Result → Shared → Prop} (W : WalksS prog w A.in1 I fp wr G n P St) (hT : ∀ i s, St i s → s.TypeIs (.ref I) "list_reverseiterator") (S : Addr) (res : Value) (c0 : Nat) (st0 : St 0 s) (hSf : S ∉ fp) (hI : I ∈ fp)
    (hS : s.heap.get? S = some { cls := .type "list", data := .seq #[] c0 }) (hn : n ≤ sizeLine)
    (hR : ∀ s' acc' c', Moved (S :: wr) G s s' → s'.heap.get? S = some { cls := .type "list", dict := none, data := .seq acc' c', slots := #[] } → ItemsOf P acc' n → R (.ok (.ret res)) s') :
    wpAny (model prog w) A.in1 (Builtin.List.listExtendWith (.ref S) (.ref I) res)
      (fun fin s' => match fin with | .done f => R (.ok f) s' | .again c' => c'.quiet = true ∧ codeAny (model prog w) A c' R s') (fun e s' => R (.error e) s') s := by
  have hne : S ≠ I := fun e => hSf (e ▸ hI)
  unfold Builtin.List.listExtendWith
  refine wpAny_bind (wpAny_typeOf (hT 0 _ st0) ?_)
  have z1 : Builtin.List.listSameRef (.ref S) (.ref I) = false := by simp [Builtin.List.listSameRef, hne]
  rw [if_neg (by rw [z1]; decide)]
  refine wpAny_bind (W.self 0 _ _ _ st0 (wpAny_bind (wpAny_holding ?_)))
  unfold Builtin.List.listLengthHint
  refine wpAny_bind (wpAny_specialOf (hT 0 _ st0) nolen_rev ?_)
  show wpAny _ A.in1 (specialOf (Value.ref I) (Str.ofString "__length_hint__") >>= _) _ _ _
  refine wpAny_bind (wpAny_specialOf (hT 0 _ st0) hint_rev ?_)
  generalize hid : ("list_reverseiterator.__length_hint__" : String) = id0
  wp_delta
  rw [show splitId id0 = some ("list_reverseiterator", "__length_hint__") from by subst hid; decide +kernel]
  subst hid
  refine wpAny_bind (wpAny_isInstance (b := true) (hT 0 _ st0) (by rw [isSubtype_type]; kernel_rfl) ?_)
  refine wpAny_pure ?_
  rw [if_neg (by decide)]
  exact wpAny_pure ⟨plainId_quiet F.plain_extend_loop _, codeAny_extend_loopS W hn _ hSf _ n 0 _ _ _ rfl (Nat.zero_le _) st0 hS (ItemsOf.nil P) hR⟩
theorem call_list_rev {Q : Value → Shared → Prop} (W : WalksS prog w A.in1.in1 I fp wr G n P St) (hT : ∀ i s, St i s → s.TypeIs (.ref I) "list_reverseiterator") (st0 : St 0 s) (hfp : ∀ b ∈ fp, b < s.heap.objs.size) (hI : I ∈ fp) (hn : n ≤ sizeLine)
    (hQ : ∀ s' acc' c', Moved (s.heap.objs.size :: wr) G { s with heap := s.heap.push { cls := .type "list", data := .seq #[] } } s' →
      s'.heap.get? s.heap.objs.size = some { cls := .type "list", dict := none, data := .seq acc' c', slots := #[] } → ItemsOf P acc' n → Q (.ref s.heap.objs.size) s') :
    wpAny (model prog w) A (call (.type "list") [.ref I]) Q E s := by
  have hSf : s.heap.objs.size ∉ fp := fun hm => Nat.lt_irrefl _ (hfp _ hm)
  refine callType_codes (Q₁ := fun obj s₁ => obj = .ref s.heap.objs.size ∧ s₁ = { s with heap := s.heap.push { cls := .type "list", data := .seq #[] } }) F.called_list (F.typeCall_list_1 _) F.entry_list_init
    (code_list_new _ ⟨rfl, rfl⟩) fun obj s1 h1 => ?_
  obtain ⟨rfl, rfl⟩ := h1
  have hS : (s.heap.push { cls := .type "list", data := .seq #[] }).get? s.heap.objs.size = some { cls := .type "list", data := .seq #[] } := Heap.get?_push_size _ rfl
  refine ⟨⟨_, hS, rfl⟩, F.args_list_init_2 _ _, ?_⟩
  have st1 := W.frame 0 s (s.heap.push { cls := .type "list", data := .seq #[] }) s.toks st0 (Nat.le_refl _) fun b _ o e => Heap.get?_push_of_some _ e
  show wpAny _ A.in1.in1 (do let was ← Builtin.List.listItems (.ref s.heap.objs.size); Builtin.List.listUpdate (.ref s.heap.objs.size) (fun _ => #[]); letGo was.toList.reverse; Builtin.List.listExtendWith (.ref s.heap.objs.size) (.ref I) .none) _ _ _
  refine wpAny_bind ?_
  unfold Builtin.List.listItems
  refine wpAny_bind (wpAny_seqItems hS rfl (wpAny_pure ?_))
  show wpAny _ A.in1.in1 (updateSeq s.heap.objs.size (fun _ => #[]) >>= fun _ => letGo (#[] : Array Value).toList.reverse >>= fun _ => Builtin.List.listExtendWith (.ref s.heap.objs.size) (.ref I) .none) _ _ _
  refine wpAny_bind (wpAny_updateSeq hS rfl ?_)
  have hS2 := Heap.get?_update_self (Obj.mapSeq (fun _ => (#[] : Array Value))) hS rfl
  have oth : ∀ b o, b ≠ s.heap.objs.size → (s.heap.push { cls := .type "list", data := .seq #[] }).get? b = some o → ((s.heap.push { cls := .type "list", data := .seq #[] }).update s.heap.objs.size (Obj.mapSeq (fun _ => (#[] : Array Value)))).get? b = some o :=
    fun b o hb e => (Heap.get?_update_other _ _ (Ne.symm hb)).trans e
  refine wpAny_bind (wpAny_letGo ?_)
  refine extend_rev W hT _ .none _ (W.frame 0 _ _ s.toks st1 (Nat.le_refl _) fun b hb o e => oth b o (fun h => hSf (h ▸ hb)) e) hSf hI hS2 hn fun s' acc' c' hm hS' hacc => ?_
  exact ⟨rfl, hQ s' acc' c' (Moved.trans W.gtrans ((Moved.refl W.grefl).then_heap (Nat.le_refl _) fun b o hb e => oth b o (fun h => hb (h ▸ List.mem_cons_self)) e) hm) hS' hacc⟩
end

section
variable {X : Cx}
theorem boot_rev : bootBuiltins "reversed" = some (.type "reversed") := by decide +kernel
theorem boot_lst : bootBuiltins "list" = some (.type "list") := by decide +kernel
def tLRev (K : PySem.W.Frag) (te : TE) : TE := fun σ H Q => te σ H fun x H1 => ∃ p ys, x = .ref p ∧ SqL K H1 p ys ∧ ∀ l, H1 l = none → Q (.ref l) (upd H1 l (.lst ys.reverse))
theorem pe_lrev {e : Expr} {te : TE} {p1 p2 q1 q2 : Pos} (hc : X.calm = true) (hg1 : Gl X "list") (hm1 : X.mg "list" = none) (hg2 : Gl X "reversed") (hm2 : X.mg "reversed" = none) (he : PE X e te)
    (hs1 : starEach [.Call (.Name "reversed" p2) [e] [] q2] X.env = [(false, eval (.Call (.Name "reversed" p2) [e] [] q2) X.env)] := by rfl) (hs2 : starEach [e] X.env = [(false, eval e X.env)] := by rfl) :
    PE X (.Call (.Name "list" p1) [.Call (.Name "reversed" p2) [e] [] q2] [] q1) (tLRev X.K te) := by
  intro pins s σ H Q I h
  refine wpAny_Call_Name_kw (ld_blt I hg1 hm1 boot_lst (PyProof.Rows.callWith_type1 ?_ hs1 rfl))
  rw [hs1]
  show wpAny _ _ (spliced [(false, eval (.Call (.Name "reversed" p2) [e] [] q2) X.env)]) _ _ s
  refine Calls.spliced_cons (wpAny_Call_Name_kw (ld_blt I hg2 hm2 boot_rev (PyProof.Rows.callWith_type1 ?_ hs2 rfl)))
  rw [hs2]
  show wpAny _ _ (spliced [(false, eval e X.env)]) _ _ s
  refine Calls.spliced_cons (thn (he pins s σ H _ I h) fun u s1 ⟨x, H1, I1, r1, q1⟩ => Calls.spliced_nil ?_)
  obtain ⟨p, ys, rfl, hq, q⟩ := q1
  cases r1
  obtain ⟨its, rv, pl, hz⟩ := I1.list hq
  have hl := plainIs pl
  have hlt : p < s1.heap.objs.size := by obtain ⟨_, e, _⟩ := hl; exact Heap.lt_size e
  refine call_reversed_list hl (Calls.spliced_nil ?_)
  have hne : p ≠ s1.heap.objs.size := Nat.ne_of_lt hlt
  have hsz : (s1.heap.push (revObj p ((its.toArray.size : Int) - 1))).objs.size = s1.heap.objs.size + 1 := Heap.size_push ..
  refine call_list_rev (fp := [s1.heap.objs.size, p]) (wr := [s1.heap.objs.size]) (Walks.listRev (A := X.A.in1.in1) (I.ok.hd hc) s1.heap.objs.size p hne its.toArray).toS (fun i s' st => st.2.1.typeIs) ⟨Nat.zero_le _, ⟨_, Heap.get?_push_size _ rfl, ?_⟩, hl.push _⟩ (fun b hb => ?_) (by simp) (by rw [List.size_toArray, ← rv.length]; exact hz) fun s' acc c' hm hS hacc => ?_
  · exact ⟨rfl, by simp [revObj]⟩
  · show b < (s1.heap.push (revObj p ((its.toArray.size : Int) - 1))).objs.size
    rw [hsz]
    rcases List.mem_cons.mp hb with rfl | hb
    · exact Nat.lt_succ_self _
    · rw [List.mem_singleton.mp hb]; exact Nat.lt_succ_of_lt hlt
  · dsimp only at hm hS
    rw [hsz] at hm hS ⊢
    have hold : ∀ b o, s1.heap.get? b = some o → s'.heap.get? b = some o := fun b o e => by
      have hb := Heap.lt_size e
      refine hm.heap b o (fun hmem => ?_) (Heap.get?_push_of_some _ (Heap.get?_push_of_some _ e))
      rcases List.mem_cons.mp hmem with z | z
      · exact neLt (Nat.lt_succ_of_lt hb) z
      · exact neLt hb (List.mem_singleton.mp z)
    have hv : Vals ys.reverse acc.toList := by
      have hr : acc.toList = its.reverse := by
        refine List.ext_getElem? fun i => ?_
        by_cases hi : i < its.length
        · have hi' : i < acc.size := by rw [hacc.1, List.size_toArray]; exact hi
          have e1 : acc[i]? = some acc[i] := Array.getElem?_eq_getElem hi'
          have e2 := hacc.2 i _ e1
          rw [List.getElem?_reverse hi]
          simp only [List.size_toArray, List.getElem?_toArray] at e2
          rw [e2]
          simpa using e1
        · rw [List.getElem?_eq_none (by rw [Array.length_toList, hacc.1, List.size_toArray]; omega), List.getElem?_eq_none (by rw [List.length_reverse]; omega)]
      rw [hr]
      exact rv.reverse
    have hn := I1.hok.fresh (Nat.le_succ s1.heap.objs.size)
    have J : Inv X pins σ (upd H1 (s1.heap.objs.size + 1) (.lst ys.reverse)) s' := by
      obtain ⟨h', g', d', t', os'⟩ := s'
      obtain rfl : g' = s1.gens := hm.gens
      obtain rfl : d' = s1.drawn := hm.drawn
      obtain rfl : os' = s1.os := hm.os
      exact I1.laid (h' := h') (t' := t') hold (Nat.le_succ _) ⟨by rw [List.length_reverse]; exact hz, acc.toList, c', hv, hS⟩
    exact ⟨.ref (s1.heap.objs.size + 1), _, J, rfl, q _ hn⟩
end
end L2

set_option maxHeartbeats 4000000
namespace L2
open PySem PySem.Spec PyProof.Rows
/-! ### index and find of a text, insert of a list -/
section
variable {X : Cx}
theorem mt_index : MtR X "str.index" (fun x vs H Q => ∃ a b, x = .str a ∧ vs = [.str b] ∧ Txt.contains a b = true ∧ Q (.int (Txt.find a b)) H) := by
  intro pins s σ H x vs v us Q I rx rv h
  obtain ⟨a, b, rfl, rfl, hc, q⟩ := h
  obtain ⟨t, rfl⟩ := rx
  obtain ⟨w1, rfl, u, rfl⟩ := rv.one
  cases ho : Builtin.Str.occurrences a b 0 a.length 1 with
  | nil => simp [Txt.contains, ho] at hc
  | cons i rest =>
    have e : Txt.find a b = (i : Int) := by simp [Txt.find, ho]
    rw [e] at q
    exact SC.index ho ⟨.int i, H, I.tok _, ⟨_, rfl⟩, q⟩
theorem mt_find : MtR X "str.find" (fun x vs H Q => ∃ a b, x = .str a ∧ vs = [.str b] ∧ Q (.int (Txt.find a b)) H) := by
  intro pins s σ H x vs v us Q I rx rv h
  obtain ⟨a, b, rfl, rfl, q⟩ := h
  obtain ⟨t, rfl⟩ := rx
  obtain ⟨w1, rfl, u, rfl⟩ := rv.one
  exact SC.find ⟨.int (Txt.find a b), H, I.tok _, ⟨_, rfl⟩, q⟩
def rInsert : V → List V → Hp → VK → Prop := fun x vs H Q => ∃ l xs i y, x = .ref l ∧ vs = [.int i, y] ∧ H l = some (.lst xs) ∧ 0 ≤ i ∧ i ≤ xs.length ∧ xs.length + 1 ≤ sizeLine ∧ Q .non (upd H l (.lst (xs.take i.toNat ++ y :: xs.drop i.toNat)))
theorem mt_insert : MtM X "list.insert" rInsert := by
  intro pins s σ H x vs v us Q I rx rv h
  obtain ⟨l, xs, i, y, rfl, rfl, hH, h0, h1, hz, q⟩ := h
  cases rx
  obtain ⟨u, w, rfl, ru, rw'⟩ := rv.two
  obtain ⟨t, rfl⟩ := ru
  obtain ⟨z, its, n, r, hl, e⟩ := I.lstM hH
  have hs : xs.length ≤ 16777216 := by
    have := sizeLine_eq
    omega
  have hlen := r.length
  refine call_meets F.slot_list_insert ⟨_, e, rfl⟩ F.entry_list_insert (F.args_list_insert_3 _ _ _)
    (AutoListH.list_insert_list_int_val_1 l its.toArray n i t w (by rw [fitsIndex_both (by omega) (by omega)]; exact Bool.false_ne_true) (by rw [List.size_toArray]; omega)) ⟨e, ?_⟩
  refine ⟨.non, _, I.lset (its' := its.take i.toNat ++ w :: its.drop i.toNat) hH e ?_ ((r.take _).append (.cons rw' (r.drop _))) ?_, rfl, q⟩
  · have hk : (if i < 0 then (i + ((its.toArray.size : Nat) : Int)).toNat else min i.toNat its.toArray.size) = i.toNat := by
      rw [if_neg (by omega), List.size_toArray]; omega
    show (its.toArray.extract 0 _).push w ++ its.toArray.extract _ = _
    rw [hk]
    apply Array.ext'
    simp [List.take_of_length_le]
  · simp only [List.length_append, List.length_cons, List.length_take, List.length_drop]
    omega
end
end L2

set_option maxHeartbeats 4000000
namespace L2
open PySem PySem.Spec PyProof.Rows

/-! ### data that stands in a part of the heap that nobody writes -/
mutual
def Dat (K : PySem.W.Frag) (G : Hp) : V → PyData → Prop
  | v, .none => v = .non
  | v, .bool b => v = .bl b
  | v, .int i => v = .int i
  | v, .str x => v = .str x
  | v, .list ds => ∃ p xs, v = .ref p ∧ G p = some (.lst xs) ∧ Dats K G xs ds
  | v, .tuple ds => ∃ p xs, v = .ref p ∧ SqT K G p xs ∧ Dats K G xs ds
  | _, .dict _ => False
def Dats (K : PySem.W.Frag) (G : Hp) : List V → List PyData → Prop
  | xs, [] => xs = []
  | xs, d :: ds => ∃ y ys, xs = y :: ys ∧ Dat K G y d ∧ Dats K G ys ds
end
theorem Same.tup {K : PySem.W.Frag} {H H' : Hp} {a : Addr} {xs : List V} (e : Same H H') (h : SqT K H a xs) : SqT K H' a xs := by
  rcases h with (h | ⟨o, h⟩) | h
  · exact .inl (.inl (e _ _ h))
  · exact .inl (.inr ⟨o, e _ _ h⟩)
  · exact .inr h
section
variable {K : PySem.W.Frag} {G G' : Hp}
theorem dat_int (i : Int) : Dat K G (.int i) (.int i) := by unfold Dat; rfl
theorem dat_str (x : Str) : Dat K G (.str x) (.str x) := by unfold Dat; rfl
theorem dat_bl (b : Bool) : Dat K G (.bl b) (.bool b) := by unfold Dat; rfl
theorem dat_non : Dat K G .non .none := by unfold Dat; rfl
theorem dat_tup {p : Addr} {xs : List V} {ds : List PyData} (h : SqT K G p xs) (r : Dats K G xs ds) : Dat K G (.ref p) (.tuple ds) := by unfold Dat; exact ⟨p, xs, rfl, h, r⟩
theorem dat_lst {p : Addr} {xs : List V} {ds : List PyData} (h : G p = some (.lst xs)) (r : Dats K G xs ds) : Dat K G (.ref p) (.list ds) := by unfold Dat; exact ⟨p, xs, rfl, h, r⟩
theorem dats_nil : Dats K G [] [] := by unfold Dats; rfl
theorem dats_cons {x : V} {xs : List V} {d : PyData} {ds : List PyData} (h : Dat K G x d) (r : Dats K G xs ds) : Dats K G (x :: xs) (d :: ds) := by
  unfold Dats; exact ⟨x, xs, rfl, h, r⟩
theorem Dat.int {v : V} {i : Int} (h : Dat K G v (.int i)) : v = .int i := by unfold Dat at h; exact h
theorem Dat.str {v : V} {x : Str} (h : Dat K G v (.str x)) : v = .str x := by unfold Dat at h; exact h
theorem Dat.bl {v : V} {x : Bool} (h : Dat K G v (.bool x)) : v = .bl x := by unfold Dat at h; exact h
theorem Dat.non {v : V} (h : Dat K G v .none) : v = .non := by unfold Dat at h; exact h
theorem Dat.tup {v : V} {ds : List PyData} (h : Dat K G v (.tuple ds)) : ∃ p xs, v = .ref p ∧ SqT K G p xs ∧ Dats K G xs ds := by unfold Dat at h; exact h
theorem Dat.lst {v : V} {ds : List PyData} (h : Dat K G v (.list ds)) : ∃ p xs, v = .ref p ∧ G p = some (.lst xs) ∧ Dats K G xs ds := by unfold Dat at h; exact h
theorem Dats.nil {xs : List V} (h : Dats K G xs []) : xs = [] := by unfold Dats at h; exact h
theorem Dats.cons {xs : List V} {d : PyData} {ds : List PyData} (h : Dats K G xs (d :: ds)) : ∃ y ys, xs = y :: ys ∧ Dat K G y d ∧ Dats K G ys ds := by unfold Dats at h; exact h
theorem Dats.length : ∀ {ds : List PyData} {xs : List V}, Dats K G xs ds → xs.length = ds.length
  | [], _, h => by rw [h.nil]; rfl
  | d :: ds, _, h => by
    obtain ⟨y, ys, rfl, _, r⟩ := h.cons
    show ys.length + 1 = ds.length + 1
    rw [r.length]
theorem Dats.get : ∀ {ds : List PyData} {xs : List V} {i : Nat} {d : PyData}, Dats K G xs ds → ds[i]? = some d → ∃ x, xs[i]? = some x ∧ Dat K G x d
  | [], _, _, _, _, e => by simp at e
  | d :: ds, _, 0, _, h, e => by
    obtain ⟨y, ys, rfl, hd, r⟩ := h.cons
    simp at e; subst e; exact ⟨y, rfl, hd⟩
  | d :: ds, _, i + 1, d', h, e => by
    obtain ⟨y, ys, rfl, hd, r⟩ := h.cons
    obtain ⟨x, h1, h2⟩ := Dats.get (i := i) (d := d') r (by simpa using e)
    exact ⟨x, by simpa using h1, h2⟩
theorem Dats.get' {ds : List PyData} {xs : List V} {i : Nat} {x : V} (h : Dats K G xs ds) (e : xs[i]? = some x) : ∃ d, ds[i]? = some d ∧ Dat K G x d := by
  have hl := h.length
  have hi : i < xs.length := (List.getElem?_eq_some_iff.mp e).1
  obtain ⟨y, h1, h2⟩ := h.get (List.getElem?_eq_getElem (show i < ds.length by omega))
  rw [e] at h1; cases h1
  exact ⟨_, List.getElem?_eq_getElem (by omega), h2⟩
theorem dats_append : ∀ {ds es : List PyData} {xs ys : List V}, Dats K G xs ds → Dats K G ys es → Dats K G (xs ++ ys) (ds ++ es)
  | [], _, _, _, h, r => by rw [h.nil]; exact r
  | d :: ds, _, _, _, h, r => by
    obtain ⟨y, ys, rfl, hd, r'⟩ := h.cons
    exact dats_cons hd (dats_append r' r)
theorem dats_snoc {ds : List PyData} {d : PyData} {xs : List V} {x : V} (h : Dats K G xs ds) (r : Dat K G x d) : Dats K G (xs ++ [x]) (ds ++ [d]) := dats_append h (dats_cons r dats_nil)
theorem dats_take : ∀ {ds : List PyData} {xs : List V} (n : Nat), Dats K G xs ds → Dats K G (xs.take n) (ds.take n)
  | _, _, 0, _ => dats_nil
  | [], _, n + 1, h => by rw [h.nil]; exact dats_nil
  | d :: ds, _, n + 1, h => by
    obtain ⟨y, ys, rfl, hd, r⟩ := h.cons
    exact dats_cons hd (dats_take n r)
theorem dats_drop : ∀ {ds : List PyData} {xs : List V} (n : Nat), Dats K G xs ds → Dats K G (xs.drop n) (ds.drop n)
  | _, _, 0, h => h
  | [], _, n + 1, h => by rw [h.nil]; exact dats_nil
  | d :: ds, _, n + 1, h => by
    obtain ⟨y, ys, rfl, hd, r⟩ := h.cons
    exact dats_drop n r
theorem dats_set : ∀ {ds : List PyData} {xs : List V} {x : V} {d : PyData} (n : Nat), Dats K G xs ds → Dat K G x d → Dats K G (xs.set n x) (ds.set n d)
  | [], _, _, _, _, h, _ => by rw [h.nil]; exact dats_nil
  | d :: ds, _, _, _, 0, h, e => by
    obtain ⟨y, ys, rfl, hd, r⟩ := h.cons
    exact dats_cons e r
  | d :: ds, _, _, _, n + 1, h, e => by
    obtain ⟨y, ys, rfl, hd, r⟩ := h.cons
    exact dats_cons hd (dats_set n r e)
theorem dats_erase : ∀ {ds : List PyData} {xs : List V} (n : Nat), Dats K G xs ds → Dats K G (xs.eraseIdx n) (ds.eraseIdx n)
  | [], _, _, h => by rw [h.nil]; exact dats_nil
  | d :: ds, _, 0, h => by
    obtain ⟨y, ys, rfl, hd, r⟩ := h.cons
    exact r
  | d :: ds, _, n + 1, h => by
    obtain ⟨y, ys, rfl, hd, r⟩ := h.cons
    exact dats_cons hd (dats_erase n r)
theorem dats_rev : ∀ {ds : List PyData} {xs : List V}, Dats K G xs ds → Dats K G xs.reverse ds.reverse
  | [], _, h => by rw [h.nil]; exact dats_nil
  | d :: ds, _, h => by
    obtain ⟨y, ys, rfl, hd, r⟩ := h.cons
    rw [List.reverse_cons, List.reverse_cons]
    exact dats_snoc (dats_rev r) hd
theorem dats_ints : ∀ ns : List Int, Dats K G (ns.map V.int) (ns.map PyData.int)
  | [] => dats_nil
  | n :: ns => dats_cons (dat_int n) (dats_ints ns)
theorem Dats.ints : ∀ {ns : List Int} {xs : List V}, Dats K G xs (ns.map PyData.int) → xs = ns.map V.int
  | [], _, h => h.nil
  | n :: ns, _, h => by
    obtain ⟨y, ys, rfl, hd, r⟩ := h.cons
    rw [hd.int, Dats.ints r]; rfl
theorem dats_rep {x : V} {d : PyData} (h : Dat K G x d) : ∀ n : Nat, Dats K G (List.replicate n x) (List.replicate n d)
  | 0 => dats_nil
  | n + 1 => by rw [List.replicate_succ, List.replicate_succ]; exact dats_cons h (dats_rep h n)
end
mutual
theorem Dat.same {K : PySem.W.Frag} {G G' : Hp} (e : Same G G') : ∀ {d : PyData} {v : V}, Dat K G v d → Dat K G' v d
  | .none, _, h => by rw [h.non]; exact dat_non
  | .bool b, _, h => by rw [h.bl]; exact dat_bl b
  | .int i, _, h => by rw [h.int]; exact dat_int i
  | .str x, _, h => by rw [h.str]; exact dat_str x
  | .list ds, _, h => by
    obtain ⟨p, xs, rfl, h1, h2⟩ := h.lst
    exact dat_lst (e _ _ h1) (Dats.same e h2)
  | .tuple ds, _, h => by
    obtain ⟨p, xs, rfl, h1, h2⟩ := h.tup
    exact dat_tup (e.tup h1) (Dats.same e h2)
  | .dict _, _, h => by unfold Dat at h; exact h.elim
theorem Dats.same {K : PySem.W.Frag} {G G' : Hp} (e : Same G G') : ∀ {ds : List PyData} {xs : List V}, Dats K G xs ds → Dats K G' xs ds
  | [], _, h => by rw [h.nil]; exact dats_nil
  | d :: ds, _, h => by
    obtain ⟨y, ys, rfl, hd, r⟩ := h.cons
    exact dats_cons (Dat.same e hd) (Dats.same e r)
end
/-! ### what the model reads there -/
section
variable {X : Cx} {pins : List (Addr × Obj)} {σ : St} {H G : Hp} {s : Shared}
mutual
theorem Dat.reads (I : Inv X pins σ H s) (e : Same G H) : ∀ {d : PyData} {v : V} {u : Value}, Dat X.K G v d → RelV v u → ∃ as, Reads s.heap u d as
  | .none, _, u, h, r => by
    rw [h.non] at r
    cases (show u = Value.none from r)
    exact ⟨_, .none⟩
  | .bool b, _, u, h, r => by
    rw [h.bl] at r
    cases (show u = Value.bool b from r)
    exact ⟨_, .bool b⟩
  | .int i, _, u, h, r => by
    rw [h.int] at r
    obtain ⟨t, q⟩ := (show ∃ t, u = Value.int i t from r)
    subst q
    exact ⟨_, .int i t⟩
  | .str x, _, u, h, r => by
    rw [h.str] at r
    obtain ⟨t, q⟩ := (show ∃ t, u = Value.str x t from r)
    subst q
    exact ⟨_, .str x t⟩
  | .list ds, _, u, h, r => by
    obtain ⟨p, xs, rfl, h1, h2⟩ := h.lst
    cases (show u = Value.ref p from r)
    obtain ⟨its, rv, ⟨o, n, e1, c, _, d1⟩, _⟩ := I.list (SqL.of (e _ _ h1))
    obtain ⟨as, ra⟩ := Dats.reads I e h2 rv
    exact ⟨_, Reads.list e1 c d1 (by simpa using ra)⟩
  | .tuple ds, _, u, h, r => by
    obtain ⟨p, xs, rfl, h1, h2⟩ := h.tup
    cases (show u = Value.ref p from r)
    obtain ⟨its, rv, ⟨o, e1, c, n, d1⟩, _⟩ := I.tuple (e.tup h1)
    obtain ⟨as, ra⟩ := Dats.reads I e h2 rv
    exact ⟨_, Reads.tuple e1 c d1 (by simpa using ra)⟩
  | .dict _, _, _, h, _ => by unfold Dat at h; exact h.elim
theorem Dats.reads (I : Inv X pins σ H s) (e : Same G H) : ∀ {ds : List PyData} {xs : List V} {us : List Value}, Dats X.K G xs ds → Vals xs us → ∃ as, ReadsAll s.heap us ds as
  | [], _, us, h, r => by
    rw [h.nil] at r
    cases r
    exact ⟨_, .nil⟩
  | d :: ds, _, us, h, r => by
    obtain ⟨y, ys, rfl, hd, hr⟩ := h.cons
    cases r with
    | cons r1 r2 =>
      obtain ⟨as, ra⟩ := Dat.reads I e hd r1
      obtain ⟨bs, rb⟩ := Dats.reads I e hr r2
      exact ⟨_, .cons ra rb⟩
end
end
/-! ### plain data: no truths, no dicts, at most n deep -/
mutual
def noBool : PyData → Bool
  | .bool _ => false
  | .dict _ => false
  | .list xs => noBools xs
  | .tuple xs => noBools xs
  | .none | .int _ | .str _ => true
def noBools : List PyData → Bool
  | [] => true
  | x :: xs => noBool x && noBools xs
end
mutual
theorem noMix_of : ∀ a b : PyData, noBool a = true → noBool b = true → SeqAt.noMix a b = true
  | .list xs, .list ys, h, k => by rw [SeqAt.noMix]; exact noMixs_of xs ys (by simpa [noBool] using h) (by simpa [noBool] using k)
  | .tuple xs, .tuple ys, h, k => by rw [SeqAt.noMix]; exact noMixs_of xs ys (by simpa [noBool] using h) (by simpa [noBool] using k)
  | .bool _, _, h, _ => by simp [noBool] at h
  | .dict _, _, h, _ => by simp [noBool] at h
  | .none, .bool _, _, k | .int _, .bool _, _, k | .str _, .bool _, _, k | .list _, .bool _, _, k | .tuple _, .bool _, _, k => by simp [noBool] at k
  | .none, .dict _, _, k | .int _, .dict _, _, k | .str _, .dict _, _, k | .list _, .dict _, _, k | .tuple _, .dict _, _, k => by simp [noBool] at k
  | .none, .none, _, _ | .none, .int _, _, _ | .none, .str _, _, _ | .none, .list _, _, _ | .none, .tuple _, _, _ => by simp [SeqAt.noMix]
  | .int _, .none, _, _ | .int _, .int _, _, _ | .int _, .str _, _, _ | .int _, .list _, _, _ | .int _, .tuple _, _, _ => by simp [SeqAt.noMix]
  | .str _, .none, _, _ | .str _, .int _, _, _ | .str _, .str _, _, _ | .str _, .list _, _, _ | .str _, .tuple _, _, _ => by simp [SeqAt.noMix]
  | .list _, .none, _, _ | .list _, .int _, _, _ | .list _, .str _, _, _ | .list _, .tuple _, _, _ => by simp [SeqAt.noMix]
  | .tuple _, .none, _, _ | .tuple _, .int _, _, _ | .tuple _, .str _, _, _ | .tuple _, .list _, _, _ => by simp [SeqAt.noMix]
theorem noMixs_of : ∀ a b : List PyData, noBools a = true → noBools b = true → SeqAt.noMixAll a b = true
  | [], [], _, _ | [], _ :: _, _, _ | _ :: _, [], _, _ => by simp [SeqAt.noMixAll]
  | x :: xs, y :: ys, h, k => by
    have h' : noBool x = true ∧ noBools xs = true := by simpa [noBools] using h
    have k' : noBool y = true ∧ noBools ys = true := by simpa [noBools] using k
    rw [SeqAt.noMixAll, noMix_of x y h'.1 k'.1, noMixs_of xs ys h'.2 k'.2]; rfl
end
structure Pl (n : Nat) (d : PyData) : Prop where
  lay : d.canLay0 = true
  dep : d.depth ≤ n
  nb : noBool d = true
theorem Pl.mono {n m : Nat} {d : PyData} (h : Pl n d) (k : n ≤ m) : Pl m d := ⟨h.lay, Nat.le_trans h.dep k, h.nb⟩
theorem Pl.shaped {n : Nat} {d : PyData} (h : Pl n d) (k : n ≤ 64) : SeqAt.shaped d = true := by
  show (PyData.canLay0 d && decide (PyData.depth d ≤ 64)) = true
  rw [Bool.and_eq_true]
  exact ⟨h.lay, decide_eq_true (Nat.le_trans h.dep k)⟩
theorem Pl.mix {n : Nat} {a b : PyData} (h : Pl n a) (k : Pl n b) : SeqAt.noMix a b = true := noMix_of a b h.nb k.nb
mutual
theorem same_eq : ∀ {a b : PyData}, PySem.Spec.same a b = true → a = b
  | .none, b, h => by cases b <;> first | rfl | simp [PySem.Spec.same] at h
  | .bool x, b, h => by cases b <;> simp [PySem.Spec.same] at h <;> rw [h]
  | .int x, b, h => by cases b <;> simp [PySem.Spec.same] at h <;> rw [h]
  | .str x, b, h => by cases b <;> simp [PySem.Spec.same] at h <;> rw [h]
  | .list x, b, h => by
    cases b <;> simp [PySem.Spec.same] at h
    rw [sameAll_eq h]
  | .tuple x, b, h => by
    cases b <;> simp [PySem.Spec.same] at h
    rw [sameAll_eq h]
  | .dict x, b, h => by
    cases b <;> simp [PySem.Spec.same] at h
    rw [samePairs_eq h]
theorem sameAll_eq : ∀ {a b : List PyData}, PySem.Spec.sameAll a b = true → a = b
  | [], [], _ => rfl
  | [], _ :: _, h => by simp [PySem.Spec.sameAll] at h
  | _ :: _, [], h => by simp [PySem.Spec.sameAll] at h
  | x :: xs, y :: ys, h => by
    have h' : PySem.Spec.same x y = true ∧ PySem.Spec.sameAll xs ys = true := by simpa [PySem.Spec.sameAll] using h
    rw [same_eq h'.1, sameAll_eq h'.2]
theorem samePairs_eq : ∀ {a b : List (PyData × PyData)}, PySem.Spec.samePairs a b = true → a = b
  | [], [], _ => rfl
  | [], _ :: _, h => by simp [PySem.Spec.samePairs] at h
  | _ :: _, [], h => by simp [PySem.Spec.samePairs] at h
  | (x, z) :: xs, (y, w) :: ys, h => by
    have h' : (PySem.Spec.same x y = true ∧ PySem.Spec.same z w = true) ∧ PySem.Spec.samePairs xs ys = true := by simpa [PySem.Spec.samePairs] using h
    rw [same_eq h'.1.1, same_eq h'.1.2, samePairs_eq h'.2]
end
theorem same_iff {a b : PyData} : PySem.Spec.same a b = true ↔ a = b := ⟨same_eq, fun e => by rw [e]; exact PySem.Spec.same_self b⟩
theorem same_ne {a b : PyData} (h : a ≠ b) : PySem.Spec.same a b = false := by
  cases e : PySem.Spec.same a b with
  | false => rfl
  | true => exact absurd (same_eq e) h
/-! ### == and != of data -/
section
variable {X : Cx}
def rEqD (K : PySem.W.Frag) (g : Bool → Bool) : R2 := fun x y H Q => ∃ (G : Hp) (a b : PyData), Same G H ∧ Dat K G x a ∧ Dat K G y b ∧ (SeqAt.shaped a = true ∧ SeqAt.shaped b = true ∧ SeqAt.noMix a b = true) ∧ Q (.bl (g (PySem.Spec.same a b))) H
theorem op_eqD (hu : X.A.units + 64 < cLine) : OpR X (compareOp .Eq) (rEqD X.K fun b => b) := by
  intro pins s σ H x y v u Q I rx ry h
  obtain ⟨G, a, b, e, ha, hb, ⟨sa, sb, nm⟩, q⟩ := h
  obtain ⟨as, ra⟩ := Dat.reads I e ha rx
  obtain ⟨bs, rb⟩ := Dat.reads I e hb ry
  exact eq_dataH_same ra rb sa sb hu nm ⟨.bl (PySem.Spec.same a b), H, I, rfl, q⟩
theorem op_neD (hu : X.A.units + 64 < cLine) : OpR X (compareOp .NotEq) (rEqD X.K fun b => !b) := by
  intro pins s σ H x y v u Q I rx ry h
  obtain ⟨G, a, b, e, ha, hb, ⟨sa, sb, nm⟩, q⟩ := h
  obtain ⟨as, ra⟩ := Dat.reads I e ha rx
  obtain ⟨bs, rb⟩ := Dat.reads I e hb ry
  exact ne_dataH_same ra rb sa sb hu nm ⟨.bl (!PySem.Spec.same a b), H, I, rfl, q⟩
end
/-! ### plain data by its parts -/
theorem pl_int (i : Int) {n : Nat} : Pl n (.int i) := ⟨by unfold PyData.canLay0; rfl, by unfold PyData.depth; omega, by unfold noBool; rfl⟩
theorem canLayAll0_of : ∀ {ds : List PyData}, (∀ d ∈ ds, d.canLay0 = true) → PyData.canLayAll0 ds = true
  | [], _ => rfl
  | d :: ds, h => by
    unfold PyData.canLayAll0
    rw [h d (by simp), canLayAll0_of fun e he => h e (by simp [he])]; rfl
theorem depthAll_of : ∀ {ds : List PyData} {n : Nat}, (∀ d ∈ ds, d.depth ≤ n) → PyData.depthAll ds ≤ n
  | [], _, _ => by unfold PyData.depthAll; omega
  | d :: ds, n, h => by
    have h1 := h d (by simp)
    have h2 := depthAll_of (ds := ds) (n := n) fun e he => h e (by simp [he])
    unfold PyData.depthAll
    omega
theorem noBools_of : ∀ {ds : List PyData}, (∀ d ∈ ds, noBool d = true) → noBools ds = true
  | [], _ => rfl
  | d :: ds, h => by
    unfold noBools
    rw [h d (by simp), noBools_of fun e he => h e (by simp [he])]; rfl
theorem pl_tup {n : Nat} {ds : List PyData} (h : ∀ d ∈ ds, Pl n d) : Pl (n + 1) (.tuple ds) := by
  refine ⟨?_, ?_, ?_⟩
  · unfold PyData.canLay0; exact canLayAll0_of fun d hd => (h d hd).lay
  · have := depthAll_of fun d hd => (h d hd).dep
    unfold PyData.depth; omega
  · unfold noBool; exact noBools_of fun d hd => (h d hd).nb
theorem pl_lst {n : Nat} {ds : List PyData} (h : ∀ d ∈ ds, Pl n d) : Pl (n + 1) (.list ds) := by
  refine ⟨?_, ?_, ?_⟩
  · unfold PyData.canLay0; exact canLayAll0_of fun d hd => (h d hd).lay
  · have := depthAll_of fun d hd => (h d hd).dep
    unfold PyData.depth; omega
  · unfold noBool; exact noBools_of fun d hd => (h d hd).nb
theorem pl_ints {n : Nat} (ns : List Int) : Pl (n + 1) (.tuple (ns.map PyData.int)) := pl_tup fun d hd => by
  obtain ⟨i, _, rfl⟩ := List.mem_map.mp hd
  exact pl_int i
end L2

set_option maxHeartbeats 4000000
namespace L2
open PySem PySem.Spec PyProof.Rows
/-! ### the heap H and the part G of it that nobody writes: both grow -/
structure Grow (G H G' H' : Hp) : Prop where
  gg : Same G G'
  gh : Same G' H'
  hh : Same H H'
  fr : ∀ b o, G' b = some o → G b = some o ∨ H b = none
theorem Grow.refl {G H : Hp} (s : Same G H) : Grow G H G H := ⟨Same.refl _, s, Same.refl _, fun _ _ h => .inl h⟩
theorem Grow.trans {G H G1 H1 G2 H2 : Hp} (a : Grow G H G1 H1) (b : Grow G1 H1 G2 H2) : Grow G H G2 H2 :=
  ⟨a.gg.trans b.gg, b.gh, a.hh.trans b.hh, fun x o h => by
    rcases b.fr x o h with h | h
    · exact a.fr x o h
    · exact .inr (a.hh.free h)⟩
theorem grow_new {G H : Hp} {p : Addr} {o : HO} (s : Same G H) (hp : H p = none) : Grow G H (upd G p o) (upd H p o) := by
  have hg : G p = none := s.free hp
  refine ⟨fun b u e => ?_, fun b u e => ?_, fun b u e => ?_, fun b u e => ?_⟩
  · rw [upd_ne (ne_of_none e hg)]; exact e
  · by_cases h : b = p
    · subst h; rw [upd_same] at e ⊢; exact e
    · rw [upd_ne h] at e ⊢; exact s b u e
  · rw [upd_ne (ne_of_none e hp)]; exact e
  · by_cases h : b = p
    · subst h; exact .inr hp
    · rw [upd_ne h] at e; exact .inl e
/-- only H grows -/
theorem grow_h {G H H' : Hp} (s : Same G H) (h : Same H H') : Grow G H G H' := ⟨Same.refl _, s.trans h, h, fun _ _ e => .inl e⟩
/-- an address that is tracked, but may be written, stays so -/
theorem Grow.out {G H G' H' : Hp} (a : Grow G H G' H') {p : Addr} {o : HO} (hp : H p = some o) (hg : G p = none) : G' p = none := by
  cases e : G' p with
  | none => rfl
  | some u =>
    rcases a.fr p u e with h | h
    · rw [hg] at h; cases h
    · rw [hp] at h; cases h

/-! ### an expression, a test, arguments that change nothing -/
def Ev (K : PySem.W.Frag) (t : TE) (σ : St) (G : Hp) (d : PyData) : Prop :=
  ∀ G1 H, Same G G1 → Same G1 H → ∀ Q : VK, (∀ v G' H', Grow G1 H G' H' → Dat K G' v d → Q v H') → t σ H Q
def EvT (t : TT) (σ : St) (G : Hp) (b : Bool) : Prop :=
  ∀ G1 H, Same G G1 → Same G1 H → ∀ Q : Bool → Hp → Prop, (∀ G' H', Grow G1 H G' H' → Q b H') → t σ H Q
def EvA (K : PySem.W.Frag) (t : TA) (σ : St) (G : Hp) (ds : List PyData) : Prop :=
  ∀ G1 H, Same G G1 → Same G1 H → ∀ Q : List V → Hp → Prop, (∀ vs G' H', Grow G1 H G' H' → Dats K G' vs ds → Q vs H') → t σ H Q
section
variable {K : PySem.W.Frag} {σ : St} {G : Hp} {ta tb tc : TE} {a b d : PyData}
theorem Ev.mono {t : TE} {G' : Hp} (h : Ev K t σ G d) (s : Same G G') : Ev K t σ G' d := fun G1 H s1 s2 Q k => h G1 H (s.trans s1) s2 Q k
theorem Ev.use {t : TE} {H : Hp} {Q : VK} (h : Ev K t σ G d) (s : Same G H) (k : ∀ v G' H', Grow G H G' H' → Dat K G' v d → Q v H') : t σ H Q := h G H (Same.refl _) s Q k
theorem EvT.use {t : TT} {c : Bool} {H : Hp} {Q : Bool → Hp → Prop} (h : EvT t σ G c) (s : Same G H) (k : ∀ G' H', Grow G H G' H' → Q c H') : t σ H Q := h G H (Same.refl _) s Q k
theorem ev_var {i : Nat} {v : V} (h : σ[i]? = some (some v)) (hd : Dat K G v d) : Ev K (tVar i) σ G d := fun G1 H s1 s2 Q k => ⟨v, h, k v G1 H (Grow.refl s2) (hd.same s1)⟩
theorem ev_c {v : V} (hd : Dat K G v d) : Ev K (tC v) σ G d := fun G1 H s1 s2 Q k => k v G1 H (Grow.refl s2) (hd.same s1)
theorem ev_int {i : Int} : Ev K (tC (.int i)) σ G (.int i) := ev_c (dat_int i)
theorem ev_str {x : Str} : Ev K (tC (.str x)) σ G (.str x) := ev_c (dat_str x)
theorem ev_bl {x : Bool} : Ev K (tC (.bl x)) σ G (.bool x) := ev_c (dat_bl x)
theorem ev_non : Ev K (tC .non) σ G .none := ev_c dat_non
/-- two parts, then an operation on them -/
theorem ev_op {r : R2} (ha : Ev K ta σ G a) (hb : Ev K tb σ G b) (hr : ∀ G1 H x y (Q : VK), Same G G1 → Same G1 H → Dat K G1 x a → Dat K G1 y b → (∀ v G' H', Grow G1 H G' H' → Dat K G' v d → Q v H') → r x y H Q) : Ev K (tOp r ta tb) σ G d :=
  fun G1 H s1 s2 Q k => ha G1 H s1 s2 _ fun x G2 H2 g2 hx => hb G2 H2 (s1.trans g2.gg) g2.gh _ fun y G3 H3 g3 hy =>
    hr G3 H3 x y Q ((s1.trans g2.gg).trans g3.gg) g3.gh (hx.same g3.gg) hy fun v G' H' g hv => k v G' H' ((g2.trans g3).trans g) hv
theorem ev_i0 {g : Int → Int → V} {i j : Int} (ha : Ev K ta σ G (.int i)) (hb : Ev K tb σ G (.int j)) (hg : Dat K G (g i j) d) : Ev K (tOp (rI0 g) ta tb) σ G d :=
  ev_op ha hb fun G1 H x y Q s1 s2 hx hy k => by
    rw [hx.int, hy.int]
    exact ⟨i, j, rfl, rfl, k _ G1 H (Grow.refl s2) (hg.same s1)⟩
theorem ev_iC {C : Int → Int → Prop} {g : Int → Int → V} {i j : Int} (ha : Ev K ta σ G (.int i)) (hb : Ev K tb σ G (.int j)) (hc : C i j) (hg : Dat K G (g i j) d) : Ev K (tOp (rI C g) ta tb) σ G d :=
  ev_op ha hb fun G1 H x y Q s1 s2 hx hy k => by
    rw [hx.int, hy.int]
    exact ⟨i, j, rfl, rfl, hc, k _ G1 H (Grow.refl s2) (hg.same s1)⟩
theorem ev_ixT {ds : List PyData} {i : Int} {n : Nat} (ha : Ev K ta σ G (.tuple ds)) (hb : Ev K tb σ G (.int i)) (hn : ixN ds.length i = some n) (hd : ds[n]? = some d) : Ev K (tOp (rIxT K) ta tb) σ G d :=
  ev_op ha hb fun G1 H x y Q s1 s2 hx hy k => by
    obtain ⟨p, xs, rfl, hp, hxs⟩ := hx.tup
    obtain ⟨z, hz, hzd⟩ := hxs.get hd
    rw [hy.int]
    exact ⟨p, xs, i, z, rfl, rfl, s2.tup hp, by unfold atI; rw [hxs.length, hn]; exact hz, k z G1 H (Grow.refl s2) hzd⟩
theorem ev_ixL {ds : List PyData} {i : Int} {n : Nat} (ha : Ev K ta σ G (.list ds)) (hb : Ev K tb σ G (.int i)) (hn : ixN ds.length i = some n) (hd : ds[n]? = some d) : Ev K (tOp (rIxL K) ta tb) σ G d :=
  ev_op ha hb fun G1 H x y Q s1 s2 hx hy k => by
    obtain ⟨p, xs, rfl, hp, hxs⟩ := hx.lst
    obtain ⟨z, hz, hzd⟩ := hxs.get hd
    rw [hy.int]
    exact ⟨p, xs, i, z, rfl, rfl, SqL.of (s2 _ _ hp), by unfold atI; rw [hxs.length, hn]; exact hz, k z G1 H (Grow.refl s2) hzd⟩
theorem ev_eqD {g : Bool → Bool} {n : Nat} (ha : Ev K ta σ G a) (hb : Ev K tb σ G b) (pa : Pl n a) (pb : Pl n b) (hn : n ≤ 64) : Ev K (tOp (rEqD K g) ta tb) σ G (.bool (g (PySem.Spec.same a b))) :=
  ev_op ha hb fun G1 H x y Q s1 s2 hx hy k => ⟨G1, a, b, s2, hx, hy, ⟨pa.shaped hn, pb.shaped hn, pa.mix pb⟩, k _ G1 H (Grow.refl s2) (dat_bl _)⟩
/-! arguments -/
theorem eva_nil : EvA K tNil σ G [] := fun G1 H s1 s2 Q k => k [] G1 H (Grow.refl s2) dats_nil
theorem eva_cons {t : TA} {ds : List PyData} (ha : Ev K ta σ G a) (hb : EvA K t σ G ds) : EvA K (tCons ta t) σ G (a :: ds) :=
  fun G1 H s1 s2 Q k => ha G1 H s1 s2 _ fun x G2 H2 g2 hx => hb G2 H2 (s1.trans g2.gg) g2.gh _ fun ys G3 H3 g3 hy => k (x :: ys) G3 H3 (g2.trans g3) (dats_cons (hx.same g3.gg) hy)
theorem ev_tup {t : TA} {ds : List PyData} (h : EvA K t σ G ds) (hl : ds.length ≤ sizeLine) : Ev K (tTup t) σ G (.tuple ds) :=
  fun G1 H s1 s2 Q k => h G1 H s1 s2 _ fun vs G2 H2 g2 hv => ⟨by rw [hv.length]; exact hl, fun p hp => by
    have g := grow_new (o := .tup vs) g2.gh hp
    exact k _ _ _ (g2.trans g) (dat_tup (SqT.of upd_same) (hv.same g.gg))⟩
theorem ev_lst {t : TA} {ds : List PyData} (h : EvA K t σ G ds) (hl : ds.length ≤ sizeLine) : Ev K (tLst t) σ G (.list ds) :=
  fun G1 H s1 s2 Q k => h G1 H s1 s2 _ fun vs G2 H2 g2 hv => ⟨by rw [hv.length]; exact hl, fun p hp => by
    have g := grow_new (o := .lst vs) g2.gh hp
    exact k _ _ _ (g2.trans g) (dat_lst upd_same (hv.same g.gg))⟩
theorem ev_cb {r : List V → Hp → VK → Prop} {t : TA} {ds : List PyData} (h : EvA K t σ G ds) (hr : ∀ G1 H xs (Q : VK), Same G G1 → Same G1 H → Dats K G1 xs ds → (∀ v G' H', Grow G1 H G' H' → Dat K G' v d → Q v H') → r xs H Q) : Ev K (tCB r t) σ G d :=
  fun G1 H s1 s2 Q k => h G1 H s1 s2 _ fun vs G2 H2 g2 hv => hr G2 H2 vs Q (s1.trans g2.gg) g2.gh hv fun v G' H' g hd => k v G' H' (g2.trans g) hd
theorem ev_lenL {t : TA} {ds : List PyData} (h : EvA K t σ G [.list ds]) : Ev K (tCB (fun xs H Q => ∃ p ys, xs = [.ref p] ∧ (SqL K H p ys ∨ SqT K H p ys) ∧ Q (.int ys.length) H) t) σ G (.int ds.length) :=
  ev_cb h fun G1 H xs Q s1 s2 hx k => by
    obtain ⟨y, ys, rfl, hy, r⟩ := hx.cons
    rw [r.nil]
    obtain ⟨p, zs, rfl, hp, hz⟩ := hy.lst
    refine ⟨p, zs, rfl, .inl (SqL.of (s2 _ _ hp)), ?_⟩
    rw [hz.length]
    exact k _ G1 H (Grow.refl s2) (dat_int _)
theorem ev_lenT {t : TA} {ds : List PyData} (h : EvA K t σ G [.tuple ds]) : Ev K (tCB (fun xs H Q => ∃ p ys, xs = [.ref p] ∧ (SqL K H p ys ∨ SqT K H p ys) ∧ Q (.int ys.length) H) t) σ G (.int ds.length) :=
  ev_cb h fun G1 H xs Q s1 s2 hx k => by
    obtain ⟨y, ys, rfl, hy, r⟩ := hx.cons
    rw [r.nil]
    obtain ⟨p, zs, rfl, hp, hz⟩ := hy.tup
    refine ⟨p, zs, rfl, .inr (s2.tup hp), ?_⟩
    rw [hz.length]
    exact k _ G1 H (Grow.refl s2) (dat_int _)
theorem ev_tupleL {t : TA} {ds : List PyData} (h : EvA K t σ G [.list ds]) : Ev K (tCB (fun xs H Q => ∃ p ys, xs = [.ref p] ∧ ((SqL K H p ys ∧ ∀ l, H l = none → Q (.ref l) (upd H l (.tup ys))) ∨ (SqT K H p ys ∧ Q (.ref p) H))) t) σ G (.tuple ds) :=
  ev_cb h fun G1 H xs Q s1 s2 hx k => by
    obtain ⟨y, ys, rfl, hy, r⟩ := hx.cons
    rw [r.nil]
    obtain ⟨p, zs, rfl, hp, hz⟩ := hy.lst
    refine ⟨p, zs, rfl, .inl ⟨SqL.of (s2 _ _ hp), fun l hl => ?_⟩⟩
    have g := grow_new (o := .tup zs) s2 hl
    exact k _ _ _ g (dat_tup (SqT.of upd_same) (hz.same g.gg))
/-! tests -/
theorem evt_test {t : TE} {c : Bool} (h : Ev K t σ G (.bool c)) : EvT (tTest t) σ G c := fun G1 H s1 s2 Q k => h G1 H s1 s2 _ fun v G' H' g hv => ⟨c, hv.bl, k G' H' g⟩
theorem evt_b {t : TE} {c : Bool} (h : Ev K t σ G (.bool c)) : EvT (tB t) σ G c := fun G1 H s1 s2 Q k => h G1 H s1 s2 _ fun v G' H' g hv => ⟨c, hv.bl, k G' H' g⟩
theorem evt_not {t : TT} {c : Bool} (h : EvT t σ G c) : EvT (tNot t) σ G (!c) := fun G1 H s1 s2 Q k => h G1 H s1 s2 _ fun G' H' g => k G' H' g
theorem evt_or {t u : TT} {c e : Bool} (h : EvT t σ G c) (h' : c = false → EvT u σ G e) : EvT (tOr t u) σ G (c || e) := fun G1 H s1 s2 Q k => h G1 H s1 s2 _ fun G' H' g => by
  cases c with
  | true => rw [if_pos rfl]; exact k G' H' g
  | false =>
    rw [if_neg Bool.false_ne_true]
    exact h' rfl G' H' (s1.trans g.gg) g.gh _ fun G2 H2 g2 => k G2 H2 (g.trans g2)
theorem evt_and {t u : TT} {c e : Bool} (h : EvT t σ G c) (h' : c = true → EvT u σ G e) : EvT (tAnd t u) σ G (c && e) := fun G1 H s1 s2 Q k => h G1 H s1 s2 _ fun G' H' g => by
  cases c with
  | false => rw [if_neg Bool.false_ne_true]; exact k G' H' g
  | true =>
    rw [if_pos rfl]
    exact h' rfl G' H' (s1.trans g.gg) g.gh _ fun G2 H2 g2 => k G2 H2 (g.trans g2)
theorem evt_c {t : TT} {c e : Bool} (h : EvT t σ G c) (q : c = e) : EvT t σ G e := q ▸ h
theorem ev_d {t : TE} {e : PyData} (h : Ev K t σ G d) (q : d = e) : Ev K t σ G e := q ▸ h
theorem ev_ite {t : TT} {c : Bool} (h : EvT t σ G c) (h1 : c = true → Ev K ta σ G d) (h2 : c = false → Ev K tb σ G d) : Ev K (tIf t ta tb) σ G d := fun G1 H s1 s2 Q k => h G1 H s1 s2 _ fun G' H' g => by
  cases c with
  | true => rw [if_pos rfl]; exact h1 rfl G' H' (s1.trans g.gg) g.gh _ fun v G2 H2 g2 hv => k v G2 H2 (g.trans g2) hv
  | false => rw [if_neg Bool.false_ne_true]; exact h2 rfl G' H' (s1.trans g.gg) g.gh _ fun v G2 H2 g2 hv => k v G2 H2 (g.trans g2) hv
theorem ev_and {c e : Bool} (h : Ev K ta σ G (.bool c)) (h' : c = true → Ev K tb σ G (.bool e)) : Ev K (tAndV ta tb) σ G (.bool (c && e)) := fun G1 H s1 s2 Q k => h G1 H s1 s2 _ fun v G' H' g hv => ⟨c, hv.bl, by
  cases c with
  | false => rw [if_neg Bool.false_ne_true]; exact k _ G' H' g (dat_bl _)
  | true => rw [if_pos rfl]; exact h' rfl G' H' (s1.trans g.gg) g.gh _ fun w G2 H2 g2 hw => k w G2 H2 (g.trans g2) hw⟩
/-! ### defs that change nothing: R says what comes of which arguments -/
def spP (K : PySem.W.Frag) (R : List PyData → PyData → Prop) : Sp := fun vs H Q _ => ∃ (G : Hp) (ds : List PyData) (d : PyData), Same G H ∧ Dats K G vs ds ∧ R ds d ∧ ∀ v G' H', Grow G H G' H' → Dat K G' v d → Q v H'
theorem ev_call {R : List PyData → PyData → Prop} {E : XK} {t : TA} {ds : List PyData} (h : EvA K t σ G ds) (hR : R ds d) : Ev K (tCall (spP K R) [] E t) σ G d :=
  fun G1 H s1 s2 Q k => h G1 H s1 s2 _ fun vs G2 H2 g2 hv => by
    refine ⟨G2, ds, d, g2.gh, ?_, hR, fun v G' H' g hd => k v G' H' (g2.trans g) hd⟩
    rw [List.append_nil]; exact hv
theorem range_bind {α β : Type} (f : α → Option β) : ∀ ds : List α, (List.range ds.length).filterMap (fun i => (ds[i]?).bind f) = ds.filterMap f
  | [] => rfl
  | d :: ds => by
    rw [List.length_cons, List.range_succ_eq_map, List.filterMap_cons, List.filterMap_map]
    have e : (fun i => ((d :: ds)[i]?).bind f) ∘ Nat.succ = fun i => (ds[i]?).bind f := by
      funext i; simp
    rw [e, range_bind f ds]
    rw [List.filterMap_cons]
    simp
/-! ### comprehensions that change nothing -/
/-- J walks n items, of which `items` holds, and changes nothing -/
structure Walk (J : It) (n : Nat) (H : Hp) (items : Nat → V → Prop) : Prop where
  go : ∀ i H', Same H H' → i < n → J.go i H'
  stop : ∀ i H', Same H H' → n ≤ i → J.stop i H'
  yld : ∀ i H' x H'', Same H H' → J.yld i H' x H'' → H'' = H' ∧ items i x
theorem walk_range (lo : Int) (n : Nat) (H : Hp) : Walk (Itr lo n) n H (fun i x => x = .int (lo + i)) :=
  ⟨fun _ _ _ h => h, fun _ _ _ h => h, fun _ _ _ _ _ h => h⟩
theorem walk_tup {a : Addr} {xs : List V} {H : Hp} (h : SqT K H a xs) : Walk (Itt K a) xs.length H (fun i x => xs[i]? = some x) :=
  ⟨fun i H' s hi => ⟨xs, _, s.tup h, List.getElem?_eq_getElem hi⟩, fun i H' s hi => ⟨xs, s.tup h, hi⟩, fun i H' x H'' s y => ⟨y.1, y.2 xs (s.tup h)⟩⟩
theorem walk_lst {a : Addr} {xs : List V} {H : Hp} (h : SqL K H a xs) : Walk (Itl K a) xs.length H (fun i x => xs[i]? = some x) :=
  ⟨fun i H' s hi => ⟨xs, _, s.seq h, List.getElem?_eq_getElem hi⟩, fun i H' s hi => ⟨xs, s.seq h, hi⟩, fun i H' x H'' s y => ⟨y.1, y.2 xs (s.seq h)⟩⟩
theorem lc_of {wi : TI} {js : List Nat} {tt : TT} {te : TE} {H : Hp} {Q : VK} {n : Nat} (f : Nat → Option PyData) (items : Hp → Nat → V → Prop) {G1 : Hp} (s2 : Same G1 H)
    (hw : ∀ R : It → Hp → Prop, (∀ J G2 H2, Grow G1 H G2 H2 → Walk J n H2 (items G2) → R J H2) → wi σ H R)
    (hn : n < sizeLine)
    (hc : ∀ G2 i x, Same G1 G2 → i < n → items G2 i x → (∃ d, f i = some d ∧ EvT tt (some x :: capV σ js) G2 true ∧ Ev K te (some x :: capV σ js) G2 d) ∨ (f i = none ∧ EvT tt (some x :: capV σ js) G2 false))
    (k : ∀ v G' H', Grow G1 H G' H' → Dat K G' v (.list ((List.range n).filterMap f)) → Q v H') : tLC wi js tt te σ H Q := by
  refine hw _ fun J G2 H2 g2 W => ?_
  refine ⟨fun i m ys H' => m = n - i ∧ i ≤ n ∧ ys.length ≤ i ∧ ∃ G', Grow G2 H2 G' H' ∧ Dats K G' ys ((List.range i).filterMap f), ⟨n, by omega, by omega, by simp, G2, Grow.refl g2.gh, by simpa using dats_nil⟩, ?_⟩
  rintro i m ys H' ⟨rfl, hi, hl, G', g', hys⟩
  refine ⟨by omega, ?_⟩
  by_cases h : i = n
  · subst h
    refine .inl ⟨W.stop i H' g'.hh (Nat.le_refl _), fun p hp => ?_⟩
    have g3 := grow_new (o := .lst ys) g'.gh hp
    exact k _ _ _ ((g2.trans g').trans g3) (dat_lst upd_same (hys.same g3.gg))
  · refine .inr ⟨W.go i H' g'.hh (by omega), fun x H'' hy => ?_⟩
    obtain ⟨rfl, hit⟩ := W.yld i H' x H'' g'.hh hy
    rcases hc G2 i x g2.gg (by omega) hit with ⟨d, hf, ht, he⟩ | ⟨hf, ht⟩
    · refine ht G' H'' g'.gg g'.gh _ fun G4 H4 g4 => ?_
      rw [if_pos rfl]
      refine he G4 H4 (g'.gg.trans g4.gg) g4.gh _ fun v G5 H5 g5 hv => ⟨n - (i + 1), by omega, rfl, by omega, by rw [List.length_append]; show ys.length + 1 ≤ i + 1; omega, G5, (g'.trans g4).trans g5, ?_⟩
      rw [List.range_succ, List.filterMap_append]
      simp only [List.filterMap_cons, hf, List.filterMap_nil]
      exact dats_snoc (hys.same (g4.gg.trans g5.gg)) hv
    · refine ht G' H'' g'.gg g'.gh _ fun G4 H4 g4 => ?_
      rw [if_neg Bool.false_ne_true]
      refine ⟨n - (i + 1), by omega, rfl, by omega, by omega, G4, g'.trans g4, ?_⟩
      rw [List.range_succ, List.filterMap_append]
      simp only [List.filterMap_cons, hf, List.filterMap_nil, List.append_nil]
      exact hys.same g4.gg
/-- what one turn of a comprehension comes to -/
def Lc1 (K : PySem.W.Frag) (tt : TT) (te : TE) (σ' : St) (G : Hp) (o : Option PyData) : Prop :=
  (∃ d, o = some d ∧ EvT tt σ' G true ∧ Ev K te σ' G d) ∨ (o = none ∧ EvT tt σ' G false)
theorem ev_lcR {t : TA} {js : List Nat} {tt : TT} {te : TE} {j : Int} (f : Nat → Option PyData) (h : EvA K t σ G [.int j]) (h0 : 0 ≤ j) (hj : j.toNat < sizeLine)
    (hc : ∀ G2 (i : Nat), Same G G2 → i < j.toNat → Lc1 K tt te (some (.int (0 + (i : Int))) :: capV σ js) G2 (f i)) : Ev K (tLC (iRng1 t) js tt te) σ G (.list ((List.range j.toNat).filterMap f)) :=
  fun G1 H s1 s2 Q k => lc_of f (fun _ i x => x = .int (0 + (i : Int))) s2 (fun R hR => h G1 H s1 s2 _ fun vs G2 H2 g2 hv => by
    obtain ⟨y, ys, rfl, hy, r⟩ := hv.cons
    rw [r.nil, hy.int]
    have z : sizeLine < 2 ^ 62 := by decide
    exact ⟨j, rfl, by omega, by omega, hR _ G2 H2 g2 (walk_range 0 _ H2)⟩) hj (fun G2 i x s3 hi hx => by subst hx; exact hc G2 i (s1.trans s3) hi) k
theorem ev_lcR2 {t : TA} {js : List Nat} {tt : TT} {te : TE} {lo j : Int} (f : Nat → Option PyData) (h : EvA K t σ G [.int lo, .int j]) (h0 : -(2 ^ 61) ≤ lo ∧ lo < 2 ^ 61) (hj : (j - lo).toNat < sizeLine) (hj' : -(2 ^ 62) ≤ j)
    (hc : ∀ G2 (i : Nat), Same G G2 → i < (j - lo).toNat → Lc1 K tt te (some (.int (lo + (i : Int))) :: capV σ js) G2 (f i)) : Ev K (tLC (iRng2 t) js tt te) σ G (.list ((List.range (j - lo).toNat).filterMap f)) :=
  fun G1 H s1 s2 Q k => lc_of f (fun _ i x => x = .int (lo + (i : Int))) s2 (fun R hR => h G1 H s1 s2 _ fun vs G2 H2 g2 hv => by
    obtain ⟨y, ys, rfl, hy, r⟩ := hv.cons
    obtain ⟨y', ys', rfl, hy', r'⟩ := r.cons
    rw [r'.nil, hy.int, hy'.int]
    have z : sizeLine < 2 ^ 60 := by decide
    exact ⟨lo, j, rfl, ⟨by omega, by omega, by omega, by omega⟩, hR _ G2 H2 g2 (walk_range lo _ H2)⟩) hj (fun G2 i x s3 hi hx => by subst hx; exact hc G2 i (s1.trans s3) hi) k
theorem ev_lcT {α : Type} {tl : TE} {js : List Nat} {tt : TT} {te : TE} (as : List α) (enc : α → PyData) (f : α → Option PyData) (h : Ev K tl σ G (.tuple (as.map enc))) (hj : as.length < sizeLine)
    (hc : ∀ G2 (i : Nat) (a : α) x, Same G G2 → as[i]? = some a → Dat K G2 x (enc a) → Lc1 K tt te (some x :: capV σ js) G2 (f a)) : Ev K (tLC (iTup K tl) js tt te) σ G (.list (as.filterMap f)) :=
  fun G1 H s1 s2 Q k => lc_of (n := as.length) (fun i => (as[i]?).bind f) (fun G2 i x => ∃ a, as[i]? = some a ∧ Dat K G2 x (enc a)) s2 (fun R hR => h G1 H s1 s2 _ fun v G2 H2 g2 hv => by
    obtain ⟨p, xs, rfl, hp, hxs⟩ := hv.tup
    refine ⟨p, rfl, ⟨xs, g2.gh.tup hp⟩, hR _ G2 H2 g2 ?_⟩
    have W := walk_tup (K := K) (H := H2) (g2.gh.tup hp)
    rw [hxs.length, List.length_map] at W
    refine ⟨W.go, W.stop, fun i H' x H'' s y => ⟨(W.yld i H' x H'' s y).1, ?_⟩⟩
    obtain ⟨d, hd, hx⟩ := hxs.get' (W.yld i H' x H'' s y).2
    rw [List.getElem?_map] at hd
    cases e : as[i]? with
    | none => rw [e] at hd; cases hd
    | some a => rw [e] at hd; cases hd; exact ⟨a, rfl, hx⟩) hj
    (fun G2 i x s3 hi ⟨a, ha, hx⟩ => by
      show Lc1 K tt te (some x :: capV σ js) G2 ((as[i]?).bind f)
      rw [ha]; exact hc G2 i a x (s1.trans s3) ha hx) (by rw [range_bind]; exact k)
theorem ev_lcL {α : Type} {tl : TE} {js : List Nat} {tt : TT} {te : TE} (as : List α) (enc : α → PyData) (f : α → Option PyData) (h : Ev K tl σ G (.list (as.map enc))) (hj : as.length < sizeLine)
    (hc : ∀ G2 (i : Nat) (a : α) x, Same G G2 → as[i]? = some a → Dat K G2 x (enc a) → Lc1 K tt te (some x :: capV σ js) G2 (f a)) : Ev K (tLC (iList K tl) js tt te) σ G (.list (as.filterMap f)) :=
  fun G1 H s1 s2 Q k => lc_of (n := as.length) (fun i => (as[i]?).bind f) (fun G2 i x => ∃ a, as[i]? = some a ∧ Dat K G2 x (enc a)) s2 (fun R hR => h G1 H s1 s2 _ fun v G2 H2 g2 hv => by
    obtain ⟨p, xs, rfl, hp, hxs⟩ := hv.lst
    refine ⟨p, rfl, ⟨xs, SqL.of (g2.gh _ _ hp)⟩, hR _ G2 H2 g2 ?_⟩
    have W := walk_lst (K := K) (H := H2) (SqL.of (g2.gh _ _ hp))
    rw [hxs.length, List.length_map] at W
    refine ⟨W.go, W.stop, fun i H' x H'' s y => ⟨(W.yld i H' x H'' s y).1, ?_⟩⟩
    obtain ⟨d, hd, hx⟩ := hxs.get' (W.yld i H' x H'' s y).2
    rw [List.getElem?_map] at hd
    cases e : as[i]? with
    | none => rw [e] at hd; cases hd
    | some a => rw [e] at hd; cases hd; exact ⟨a, rfl, hx⟩) hj
    (fun G2 i x s3 hi ⟨a, ha, hx⟩ => by
      show Lc1 K tt te (some x :: capV σ js) G2 ((as[i]?).bind f)
      rw [ha]; exact hc G2 i a x (s1.trans s3) ha hx) (by rw [range_bind]; exact k)
theorem lc1 {tt : TT} {te : TE} {σ' : St} (ht : EvT tt σ' G true) (he : Ev K te σ' G d) : Lc1 K tt te σ' G (some d) := .inl ⟨d, rfl, ht, he⟩
theorem lc0 {tt : TT} {te : TE} {σ' : St} (ht : EvT tt σ' G false) : Lc1 K tt te σ' G none := .inr ⟨rfl, ht⟩
theorem lcB {tt : TT} {te : TE} {σ' : St} {c : Bool} (ht : EvT tt σ' G c) (he : c = true → Ev K te σ' G d) : Lc1 K tt te σ' G (if c then some d else none) := by
  cases c with
  | true => exact lc1 ht (he rfl)
  | false => exact lc0 ht
theorem evt_noif : EvT tNoIf σ G true := fun G1 H s1 s2 Q k => k G1 H (Grow.refl s2)
end
end L2
namespace L2
open PySem PySem.Spec PyProof.Rows
/-! ### statements -/
section
variable {K : PySem.W.Frag} {σ : St} {G H : Hp} {te : TE} {d : PyData} {D : Ends}
theorem ret_ev (h : Ev K te σ G d) (s : Same G H) (k : ∀ v G' H', Grow G H G' H' → Dat K G' v d → D.rt v H') : tRet te D σ H := h.use s k
theorem asg_ev {i : Nat} (h : Ev K te σ G d) (s : Same G H) (k : ∀ v G' H', Grow G H G' H' → Dat K G' v d → D.nx (σ.set i (some v)) H') : tAsg te (gName i) D σ H := h.use s k
theorem if_ev {tc : TT} {t u : TS} {c : Bool} (h : EvT tc σ G c) (s : Same G H) (k1 : c = true → ∀ G' H', Grow G H G' H' → t D σ H') (k2 : c = false → ∀ G' H', Grow G H G' H' → u D σ H') : tIfS tc t u D σ H :=
  h.use s fun G' H' g => by
    cases c with
    | true => rw [if_pos rfl]; exact k1 rfl G' H' g
    | false => rw [if_neg Bool.false_ne_true]; exact k2 rfl G' H' g
theorem if_no {tc : TT} {t u : TS} (h : EvT tc σ G false) (s : Same G H) (k : ∀ G' H', Grow G H G' H' → u D σ H') : tIfS tc t u D σ H := if_ev h s (fun z => nomatch z) fun _ => k
theorem fm_some {α β : Type} (f : α → β) : ∀ l : List α, l.filterMap (fun x => some (f x)) = l.map f
  | [] => rfl
  | x :: l => by rw [List.filterMap_cons, List.map_cons, fm_some f l]
abbrev dN (ns : List Nat) : PyData := .tuple (ns.map fun n => PyData.int (n : Nat))
theorem dats_nats : ∀ ns : List Nat, Dats K G (ns.map fun n => V.int (n : Nat)) (ns.map fun n => PyData.int (n : Nat))
  | [] => dats_nil
  | n :: ns => dats_cons (dat_int _) (dats_nats ns)
theorem Dats.nats : ∀ {ns : List Nat} {xs : List V}, Dats K G xs (ns.map fun n => PyData.int (n : Nat)) → xs = ns.map fun n => V.int (n : Nat)
  | [], _, h => h.nil
  | n :: ns, _, h => by
    obtain ⟨y, ys, rfl, hd, r⟩ := h.cons
    rw [hd.int, Dats.nats r]; rfl
theorem pl_nats {n : Nat} (ns : List Nat) : Pl (n + 1) (dN ns) := pl_tup fun d hd => by
  obtain ⟨i, _, rfl⟩ := List.mem_map.mp hd
  exact pl_int _
theorem SqL.kept {H' : Hp} {a : Addr} {xs : List V} (h : SqL K H a xs) (k : ∀ o, H a = some o → H' a = some o) : SqL K H' a xs := by
  rcases h with (h | ⟨u, h⟩) | h
  · exact .inl (.inl (k _ h))
  · exact .inl (.inr ⟨u, k _ h⟩)
  · exact .inr h
theorem ixN_nat {n i : Nat} (h : i < n) : ixN n (i : Int) = some i := by unfold ixN; rw [if_pos (by omega), if_pos (by omega)]; simp
end
end L2
namespace L2
open PySem PySem.Spec PyProof.Rows
section
variable {K : PySem.W.Frag} {σ : St} {G H : Hp} {ta tb : TE}
theorem ev_ne {i j : Int} (ha : Ev K ta σ G (.int i)) (hb : Ev K tb σ G (.int j)) : Ev K (tOp rNe ta tb) σ G (.bool (!decide (i = j))) :=
  ev_op ha hb fun G1 H x y Q s1 s2 hx hy k => by
    rw [hx.int, hy.int]
    refine ⟨rfl, ?_⟩
    have e : decide (V.int i = V.int j) = decide (i = j) := by
      by_cases h : i = j
      · rw [decide_eq_true h, decide_eq_true (by rw [h])]
      · rw [decide_eq_false h, decide_eq_false fun z => h (by injection z)]
    rw [e]
    exact k _ G1 H (Grow.refl s2) (dat_bl _)
theorem ev_eqI {i j : Int} (ha : Ev K ta σ G (.int i)) (hb : Ev K tb σ G (.int j)) : Ev K (tOp rEq ta tb) σ G (.bool (decide (i = j))) :=
  ev_op ha hb fun G1 H x y Q s1 s2 hx hy k => by
    rw [hx.int, hy.int]
    refine ⟨rfl, ?_⟩
    have e : decide (V.int i = V.int j) = decide (i = j) := by
      by_cases h : i = j
      · rw [decide_eq_true h, decide_eq_true (by rw [h])]
      · rw [decide_eq_false h, decide_eq_false fun z => h (by injection z)]
    rw [e]
    exact k _ G1 H (Grow.refl s2) (dat_bl _)
theorem same_upd {d : Addr} {o : HO} (s : Same G H) (n : G d = none) : Same G (upd H d o) := fun b u e => by
  rw [upd_ne (ne_of_none e n)]; exact s b u e
theorem upd_none {p d : Addr} {o : HO} (h : G d = none) (n : d ≠ p) : upd G p o d = none := by rw [upd_ne n]; exact h
end
end L2

set_option maxHeartbeats 4000000
namespace L2
open PySem PySem.Spec PyProof.Rows
section
variable {X : Cx} {pins : List (Addr × Obj)} {σ : St} {H : Hp} {s : Shared} {h' : Heap}
/-- records of ours have turned, and a new object is tracked -/
theorem Inv.turnsNew {t' : Nat} {fp : List Addr} {T : Addr} {o : HO} (I : Inv X pins σ H s) (k : ∀ b u, b ∉ fp → s.heap.get? b = some u → h'.get? b = some u) (hf : ∀ b ∈ fp, FpOk X pins H b)
    (hT : s.heap.objs.size ≤ T) (new : ObjOk X.prog X.w (upd H T o) h' T o) : Inv X pins σ (upd H T o) { s with heap := h', toks := t' } := by
  have nfp : ∀ b u, H b = some u → b ∉ fp := fun b u e z => by rw [(hf b z).1] at e; cases e
  have nT : ∀ b u, H b = some u → b ≠ T := fun b u e => Nat.ne_of_lt (Nat.lt_of_lt_of_le (I.hok.lt e) hT)
  have nT' : ∀ b u, s.heap.get? b = some u → b ≠ T := fun b u e => Nat.ne_of_lt (Nat.lt_of_lt_of_le (Heap.lt_size e) hT)
  refine I.step (g' := s.gens) (d' := s.drawn) (ch := fp) (fun b hb => ?_) (fun b u _ _ hc e _ => k b u hc e) (fun b u _ _ hc e _ => ⟨u.slots, k b u hc e⟩) (fun b u _ e n => by rw [upd_ne (nT' b u e)]; exact n)
    (fun b u hc e => ⟨u, k b u hc e⟩) (fun b xs e => by rw [upd_ne (nT b _ e)]; exact e) (fun b u v e => by rw [upd_ne (nT b _ e)]; exact e) (fun b cr e => by rw [upd_ne (nT b _ e)]; exact e) (fun m hm => ?_) (fun b u e => ?_) I.bare
  · obtain ⟨f0, f1, f2, f3, f4, f5⟩ := hf b hb
    exact ⟨f3, f1, f4, f5⟩
  · obtain ⟨ob, es, ep, ho, r⟩ := hm
    exact ⟨ob, es, ep, k _ ob (fun z => (hf _ z).2.1 rfl) ho, r⟩
  · by_cases hb : b = T
    · subst hb; rw [upd_same] at e; cases e; exact new
    · rw [upd_ne hb] at e
      refine (I.hok b u e).stay (fun c v hc q => k c v ?_ q) (fun c q => by rw [upd_ne (nT c _ q)]; exact q) (fun c xs q => by rw [upd_ne (nT c _ q)]; exact q) fun c o u q => by rw [upd_ne (nT c _ q)]; exact q
      rcases hc with z | z
      · rw [z]; exact nfp b u e
      · exact nfp c _ z
/-- records of ours have turned -/
theorem Inv.turns {t' : Nat} {fp : List Addr} (I : Inv X pins σ H s) (k : ∀ b u, b ∉ fp → s.heap.get? b = some u → h'.get? b = some u) (hf : ∀ b ∈ fp, FpOk X pins H b) : Inv X pins σ H { s with heap := h', toks := t' } := by
  have nfp : ∀ b u, H b = some u → b ∉ fp := fun b u e z => by rw [(hf b z).1] at e; cases e
  refine I.step (g' := s.gens) (d' := s.drawn) (ch := fp) (fun b hb => ?_) (fun b u _ _ hc e _ => k b u hc e) (fun b u _ _ hc e _ => ⟨u.slots, k b u hc e⟩) (fun b u _ e n => n)
    (fun b u hc e => ⟨u, k b u hc e⟩) (fun b xs e => e) (fun b u v e => e) (fun _ _ e => e) (fun m hm => ?_) (fun b u e => ?_) I.bare
  · obtain ⟨f0, f1, f2, f3, f4, f5⟩ := hf b hb
    exact ⟨f3, f1, f4, f5⟩
  · obtain ⟨ob, es, ep, ho, r⟩ := hm
    exact ⟨ob, es, ep, k _ ob (fun z => (hf _ z).2.1 rfl) ho, r⟩
  · refine (I.hok b u e).stay (fun c v hc q => k c v ?_ q) (fun c q => q) (fun c xs q => q) fun c o u q => q
    rcases hc with z | z
    · rw [z]; exact nfp b u e
    · exact nfp c _ z
end
/-! ### the next one of a tuple's iterator -/
section
variable {prog : Program} {w : World} {A : Around} {E : Value → Shared → Prop} {s : Shared}
theorem tup_nextOf {it t : Addr} {i : Nat} {items : Array Value} {x : Value} {Q : Value → Shared → Prop} (q1 : s.heap.IsTupleIter it t i) (q2 : s.heap.IsTuple t items) (q3 : items[i]? = some x)
    (k : ∀ h', h'.IsTupleIter it t (i + 1) → Heap.SameBut it s.heap h' → Q x { s with heap := h' }) : wpAny (model prog w) A (Builtin.SmallTypes.nextOf (.ref it)) Q E s := by
  obtain ⟨oi, e1, e2, e3⟩ := id q1
  obtain ⟨ot, e4, _, nt, e5⟩ := q2
  unfold Builtin.SmallTypes.nextOf
  refine wpAny_bind (wpAny_callSpecial?_slot (name := Str.ofString "__next__") q1.typeIs F.slot_tuple_iterator_next (wpAny_call_entry F.slot_tuple_iterator_next q1.typeIs F.entry_tuple_iterator_next ?_ (F.args_tuple_iterator_next_1 _)))
  show wpAny (model prog w) _ (field (.ref it) 0 >>= _) _ _ s
  refine wpAny_bind (wpAny_field e1 e3 (x := .ref t) rfl ?_)
  rw [if_neg (show ¬ ((Value.ref t == Value.none) = true) from Bool.false_ne_true)]
  refine wpAny_bind (wpAny_field e1 e3 (x := .int i 0) rfl ?_)
  refine wpAny_bind (wpAny_seqItems e4 e5 ?_)
  simp only [Int.toNat_natCast, q3]
  refine wpAny_bind (wpAny_setField e1 e3 (by simp) (wpAny_pure ⟨x, rfl, wpAny_pure (k _ ⟨_, Heap.get?_update_self _ e1 (Obj.isFreed_of_fields (Obj.data_mapFields e3 _)), (Obj.cls_mapFields ..).trans e2, by rw [Obj.data_mapFields e3]; simp [rawInt]⟩ (Heap.SameBut.update ..))⟩))
theorem tup_nextOf_end {it t : Addr} {i : Nat} {items : Array Value} {Q : Value → Shared → Prop} (q0 : A.handled = none) (q1 : s.heap.IsTupleIter it t i) (q2 : s.heap.IsTuple t items) (q3 : items[i]? = none)
    (k : ∀ h' e, Heap.ExtBut it s.heap h' → (∃ o, h'.get? e = some o ∧ o.cls = .type "StopIteration") → E (.ref e) { s with heap := h' }) : wpAny (model prog w) A (Builtin.SmallTypes.nextOf (.ref it)) Q E s := by
  obtain ⟨oi, e1, e2, e3⟩ := id q1
  obtain ⟨ot, e4, _, nt, e5⟩ := q2
  unfold Builtin.SmallTypes.nextOf
  refine wpAny_bind (wpAny_callSpecial?_slot (name := Str.ofString "__next__") q1.typeIs F.slot_tuple_iterator_next (wpAny_call_entry F.slot_tuple_iterator_next q1.typeIs F.entry_tuple_iterator_next ?_ (F.args_tuple_iterator_next_1 _)))
  show wpAny (model prog w) _ (field (.ref it) 0 >>= _) _ _ s
  refine wpAny_bind (wpAny_field e1 e3 (x := .ref t) rfl ?_)
  rw [if_neg (show ¬ ((Value.ref t == Value.none) = true) from Bool.false_ne_true)]
  refine wpAny_bind (wpAny_field e1 e3 (x := .int i 0) rfl ?_)
  refine wpAny_bind (wpAny_seqItems e4 e5 ?_)
  simp only [Int.toNat_natCast, q3]
  refine wpAny_bind (wpAny_rule (wpAny_bind (wpAny_setField e1 e3 (by simp) (wpAny_bind ?_))))
  simp only [newExc, newTuple]
  refine wpAny_bind (wpAny_newObj_type (wpAny_bind (m := firstArgMember _ _) (wpAny_of_eq (a := Value.none) (by first | rfl | (simp only [firstArgMember]; rfl)) (wpAny_newObj_type ?_ (by size_fits)))) (by size_fits))
  simp only [raiseNew]
  refine wpAny_bind (wpAny_handled (?_ : wpAny _ _ _ _ _ _))
  first | rw [show A.in1.handled = none from q0] | rw [q0]
  exact wpAny_bind (wpAny_pure (wpAny_throw (k _ _ (((Heap.SameBut.update ..).extBut.push _).push _) ⟨_, Heap.get?_push_size _ rfl, rfl⟩)))
theorem draws_tup (hh : A.handled = none) (it l : Addr) (hne : l ≠ it) (items : Array Value) :
    Draws prog w A it [it, l] items.size (fun i v => items[i]? = some v) (fun i h => h.IsTupleIter it l i ∧ h.IsTuple l items) where
  live := fun _ _ st => let ⟨o, ho, _⟩ := st.1; ⟨o, ho⟩
  frame := fun _ _ _ st hk => ⟨let ⟨o, ho, r⟩ := st.1; ⟨o, hk it (by simp) o ho, r⟩, let ⟨o, ho, r⟩ := st.2; ⟨o, hk l (by simp) o ho, r⟩⟩
  item := fun i s Q E hi st hQ => tup_nextOf st.1 st.2 (x := items[i]) (by simp [hi]) fun h' hit' hs' => hQ _ h' s.toks (by simp [hi]) ⟨hit', let ⟨o, ho, r⟩ := st.2; ⟨o, (hs'.2 l hne).trans ho, r⟩⟩ hs'
  done := fun s Q E st hE => tup_nextOf_end hh st.1 st.2 (by simp) hE
end
/-! ### enumerate -/
/-- (0, x0), (1, x1), .. of the tuple at a -/
def IteT (K : PySem.W.Frag) (a : Addr) : It :=
  ⟨fun i H => ∃ xs x, SqT K H a xs ∧ xs[i]? = some x, fun i H v H' => ∃ p x, H p = none ∧ v = .ref p ∧ H' = upd H p (.tup [.int i, x]) ∧ ∀ xs, SqT K H a xs → xs[i]? = some x, fun i H => ∃ xs, SqT K H a xs ∧ xs.length ≤ i⟩
def IteL (K : PySem.W.Frag) (a : Addr) : It :=
  ⟨fun i H => ∃ xs x, SqL K H a xs ∧ xs[i]? = some x, fun i H v H' => ∃ p x, H p = none ∧ v = .ref p ∧ H' = upd H p (.tup [.int i, x]) ∧ ∀ xs, SqL K H a xs → xs[i]? = some x, fun i H => ∃ xs, SqL K H a xs ∧ xs.length ≤ i⟩
theorem cls_ne {h : Heap} {a b : Addr} {o u : Obj} (e : h.get? a = some o) (e' : h.get? b = some u) (n : o.cls ≠ u.cls) : a ≠ b := by
  rintro rfl; rw [e] at e'; cases e'; exact n rfl
theorem turn_enumT {P : Program} {w : World} {K : PySem.W.Frag} {elts : List Expr} {tk : Nat} {tpos : Pos} (a e it : Addr) : Turn P w K (.Tuple elts tk tpos) (IteT K a) [e, it] e (fun i h => (∃ old, IsEnum h e it i old) ∧ h.IsTupleIter it a i) where
  mem := by simp
  obj := fun i h st b hb => by
    obtain ⟨⟨old, he⟩, o, ho, hc, hd⟩ := st
    rcases List.mem_cons.mp hb with rfl | hb
    · exact ⟨_, he, fun v z => by cases z⟩
    · have eb : b = it := by simpa using hb
      subst eb
      exact ⟨o, ho, fun v z => by rw [hd] at z; cases z⟩
  keep := fun i h h' st k => by
    obtain ⟨⟨old, he⟩, o, ho, r⟩ := st
    exact ⟨⟨old, k e (by simp) _ he⟩, o, k it (by simp) o ho, r⟩
  item := by
    intro X hP hw hK hc i pins s σ H E I hf st hg
    subst hP hw hK
    obtain ⟨xs, x, hq, hx⟩ := hg
    obtain ⟨its, rv, p, hz⟩ := I.tuple hq
    obtain ⟨u, hu, ru⟩ := rv.get hx
    obtain ⟨⟨old, he⟩, hit⟩ := st
    obtain ⟨oi, hoi, hci, hdi⟩ := id hit
    obtain ⟨ot, hot, hct, nt, hdt⟩ := id p
    have hei : e ≠ it := cls_ne he hoi (by rw [hci]; show Value.type "enumerate" ≠ Value.type "tuple_iterator"; decide)
    have hea : e ≠ a := cls_ne he hot (by rw [hct]; show Value.type "enumerate" ≠ Value.type "tuple"; decide)
    have hai : a ≠ it := cls_ne hot hoi (by rw [hci, hct]; decide)
    have hlt : i < its.toArray.size := by
      have := (List.getElem?_eq_some_iff.mp hu).1
      simpa using this
    refine wpAny_pyNext_enum_itemD (draws_tup (show X.A.in1.handled = none from I.ok.hd hc) it a hai its.toArray) he ⟨hit, p⟩ hlt hei (by simp [hei, hea]) fun x' h' tk' hP ho hs' hT hsz hk => ?_
    have ex : x' = u := by
      have hP' : its.toArray[i]? = some x' := hP
      have : its[i]? = some x' := by simpa using hP'
      rw [hu] at this; exact (Option.some.inj this).symm
    subst ex
    refine ⟨_, rfl, wpAny_letOwnedTupleGo_enum ho fun h2 he2 hs2 => ?_⟩
    have het : e ≠ s.heap.objs.size := Nat.ne_of_lt (Heap.lt_size he)
    have new : ObjOk X.prog X.w (upd H s.heap.objs.size (.tup [.int i, x])) h2 s.heap.objs.size (.tup [.int i, x]) :=
      ⟨by show 2 ≤ sizeLine; decide, [.int i tk', x'], .cons ⟨tk', rfl⟩ (.cons ru .nil), ⟨_, (hs2.2 _ (Ne.symm het)).trans hT, rfl, _, rfl⟩⟩
    have kk : ∀ b o, b ∉ [e, it] → s.heap.get? b = some o → h2.get? b = some o := fun b o hb q => by
      have h1 : b ≠ e := fun z => hb (by simp [z])
      have h2' : b ≠ it := fun z => hb (by simp [z])
      exact (hs2.2 b h1).trans (hk b o h1 h2' q)
    have fresh := I.hok.fresh (Nat.le_refl s.heap.objs.size)
    refine ⟨.ref s.heap.objs.size, _, I.turnsNew (t' := tk' + 1) kk hf (Nat.le_refl _) new, rfl, ⟨_, x, fresh, rfl, rfl, fun ys hy => by rw [I.tuple_inj hy hq]; exact hx⟩, ⟨⟨_, he2⟩, ?_⟩, fun b hb => ?_⟩
    · obtain ⟨o3, g1, g2, g3⟩ := hs'.1
      exact ⟨o3, (hs2.2 it (Ne.symm hei)).trans g1, g2, g3⟩
    · have hb' : b ≠ s.heap.objs.size := by
        rcases List.mem_cons.mp hb with rfl | hb
        · exact het
        · rw [List.mem_singleton.mp hb]; exact Nat.ne_of_lt (Heap.lt_size hoi)
      rw [upd_ne hb']; exact (hf b hb).1
  done := by
    intro X hP hw hK hc i pins s σ H E I hf st hg
    subst hP hw hK
    obtain ⟨xs, hq, hx⟩ := hg
    obtain ⟨its, rv, p, hz⟩ := I.tuple hq
    obtain ⟨⟨old, he⟩, hit⟩ := st
    obtain ⟨oi, hoi, hci, hdi⟩ := id hit
    obtain ⟨ot, hot, hct, nt, hdt⟩ := id p
    have hai : a ≠ it := cls_ne hot hoi (by rw [hci, hct]; decide)
    have hl := rv.length
    unfold pyNext
    have hTy : s.TypeIs (.ref e) "enumerate" := ⟨_, he, rfl⟩
    refine wpAny_bind (wpAny_attempt (wpAny_callSpecial?_slot (name := Str.ofString "__next__") hTy F.slot_enumerate_next (wpAny_call_entry F.slot_enumerate_next hTy F.entry_enumerate_next ?_ (F.args_enumerate_next_1 _))))
    show wpAny (model X.prog X.w) X.A.in1 (field (.ref e) 2 >>= _) _ _ s
    refine wpAny_bind (wpAny_field he rfl (x := .ref it) rfl (wpAny_bind (tup_nextOf_end (I.ok.hd hc) hit p (by simp; omega) fun h' y g1 g2 => ?_)))
    obtain ⟨o, ho, hcl⟩ := g2
    refine wpAny_bind (wpAny_isInstance (T := "StopIteration") (b := true) ⟨o, ho, hcl⟩ isSubtype_stop (wpAny_pure ?_))
    exact ⟨rfl, I.turns (t' := s.toks) (fun b u hb q => g1 b u (fun z => hb (by simp [z])) q) hf⟩
  self := fun _ _ _ _ _ st h => by
    obtain ⟨⟨old, he⟩, _⟩ := st
    exact wpAny_pyIter_enum he h
theorem turn_enumL {P : Program} {w : World} {K : PySem.W.Frag} {elts : List Expr} {tk : Nat} {tpos : Pos} (a e it : Addr) : Turn P w K (.Tuple elts tk tpos) (IteL K a) [e, it] e (fun i h => (∃ old, IsEnum h e it i old) ∧ h.IsListIter it a i) where
  mem := by simp
  obj := fun i h st b hb => by
    obtain ⟨⟨old, he⟩, o, ho, hc, hd⟩ := st
    rcases List.mem_cons.mp hb with rfl | hb
    · exact ⟨_, he, fun v z => by cases z⟩
    · have eb : b = it := by simpa using hb
      subst eb
      exact ⟨o, ho, fun v z => by rw [hd] at z; cases z⟩
  keep := fun i h h' st k => by
    obtain ⟨⟨old, he⟩, o, ho, r⟩ := st
    exact ⟨⟨old, k e (by simp) _ he⟩, o, k it (by simp) o ho, r⟩
  item := by
    intro X hP hw hK hc i pins s σ H E I hf st hg
    subst hP hw hK
    obtain ⟨xs, x, hq, hx⟩ := hg
    obtain ⟨its, rv, pl, hz⟩ := I.list hq
    obtain ⟨u, hu, ru⟩ := rv.get hx
    obtain ⟨⟨old, he⟩, hit⟩ := st
    obtain ⟨oi, hoi, hci, hdi⟩ := id hit
    have p : s.heap.IsList a its.toArray := pl.isList
    obtain ⟨ot, hot, hct, nt, hdt⟩ := id p
    have hei : e ≠ it := cls_ne he hoi (by rw [hci]; show Value.type "enumerate" ≠ Value.type "list_iterator"; decide)
    have hea : e ≠ a := cls_ne he hot (by rw [hct]; show Value.type "enumerate" ≠ Value.type "list"; decide)
    have hai : a ≠ it := cls_ne hot hoi (by rw [hci, hct]; decide)
    have hlt : i < its.toArray.size := by
      have := (List.getElem?_eq_some_iff.mp hu).1
      simpa using this
    refine wpAny_pyNext_enum_itemD (Draws.list (show X.A.in1.handled = none from I.ok.hd hc) it a hai its.toArray) he ⟨hit, p⟩ hlt hei (by simp [hei, hea]) fun x' h' tk' hP ho hs' hT hsz hk => ?_
    have ex : x' = u := by
      have hP' : its.toArray[i]? = some x' := hP
      have : its[i]? = some x' := by simpa using hP'
      rw [hu] at this; exact (Option.some.inj this).symm
    subst ex
    refine ⟨_, rfl, wpAny_letOwnedTupleGo_enum ho fun h2 he2 hs2 => ?_⟩
    have het : e ≠ s.heap.objs.size := Nat.ne_of_lt (Heap.lt_size he)
    have new : ObjOk X.prog X.w (upd H s.heap.objs.size (.tup [.int i, x])) h2 s.heap.objs.size (.tup [.int i, x]) :=
      ⟨by show 2 ≤ sizeLine; decide, [.int i tk', x'], .cons ⟨tk', rfl⟩ (.cons ru .nil), ⟨_, (hs2.2 _ (Ne.symm het)).trans hT, rfl, _, rfl⟩⟩
    have kk : ∀ b o, b ∉ [e, it] → s.heap.get? b = some o → h2.get? b = some o := fun b o hb q => by
      have h1 : b ≠ e := fun z => hb (by simp [z])
      have h2' : b ≠ it := fun z => hb (by simp [z])
      exact (hs2.2 b h1).trans (hk b o h1 h2' q)
    have fresh := I.hok.fresh (Nat.le_refl s.heap.objs.size)
    refine ⟨.ref s.heap.objs.size, _, I.turnsNew (t' := tk' + 1) kk hf (Nat.le_refl _) new, rfl, ⟨_, x, fresh, rfl, rfl, fun ys hy => by rw [I.list_inj hy hq]; exact hx⟩, ⟨⟨_, he2⟩, ?_⟩, fun b hb => ?_⟩
    · obtain ⟨o3, g1, g2, g3⟩ := hs'.1
      exact ⟨o3, (hs2.2 it (Ne.symm hei)).trans g1, g2, g3⟩
    · have hb' : b ≠ s.heap.objs.size := by
        rcases List.mem_cons.mp hb with rfl | hb
        · exact het
        · rw [List.mem_singleton.mp hb]; exact Nat.ne_of_lt (Heap.lt_size hoi)
      rw [upd_ne hb']; exact (hf b hb).1
  done := by
    intro X hP hw hK hc i pins s σ H E I hf st hg
    subst hP hw hK
    obtain ⟨xs, hq, hx⟩ := hg
    obtain ⟨its, rv, pl, hz⟩ := I.list hq
    obtain ⟨⟨old, he⟩, hit⟩ := st
    have p : s.heap.IsList a its.toArray := pl.isList
    have hl := rv.length
    unfold pyNext
    have hTy : s.TypeIs (.ref e) "enumerate" := ⟨_, he, rfl⟩
    refine wpAny_bind (wpAny_attempt (wpAny_callSpecial?_slot (name := Str.ofString "__next__") hTy F.slot_enumerate_next (wpAny_call_entry F.slot_enumerate_next hTy F.entry_enumerate_next ?_ (F.args_enumerate_next_1 _))))
    show wpAny (model X.prog X.w) X.A.in1 (field (.ref e) 2 >>= _) _ _ s
    refine wpAny_bind (wpAny_field he rfl (x := .ref it) rfl (wpAny_bind (wpAny_nextOf_list_end (I.ok.hd hc) hit p (by simp; omega) fun h' y g1 g2 => ?_)))
    obtain ⟨o, ho, hcl⟩ := g2
    refine wpAny_bind (wpAny_isInstance (T := "StopIteration") (b := true) ⟨o, ho, hcl⟩ isSubtype_stop (wpAny_pure ?_))
    exact ⟨rfl, I.turns (t' := s.toks) (fun b u hb q => g1 b u (fun z => hb (by simp [z])) q) hf⟩
  self := fun _ _ _ _ _ st h => by
    obtain ⟨⟨old, he⟩, _⟩ := st
    exact wpAny_pyIter_enum he h
/-! making one -/
theorem enum_newT (l : Addr) (items : Array Value) (n : Nat) (dct : Option Addr) (sl : Array (Option Value)) :
    Meets (Builtin.«enumerate.__new__» ⟨[.type "enumerate", .ref l], []⟩) (fun _ R s => s.heap.get? l = some { cls := .type "tuple", dict := dct, data := .seq items n, slots := sl } ∧
      R (.ok (.ret (.ref (s.heap.push { cls := .type "tuple_iterator", data := .fields #[.ref l, .int 0 0] }).objs.size)))
        { s with heap := (s.heap.push { cls := .type "tuple_iterator", data := .fields #[.ref l, .int 0 0] }).push { cls := .type "enumerate", data := .fields #[.none, .bool false, .ref s.heap.objs.size, rawInt 0, .none, .none] } }) :=
  .of_wp fun prog w A R s h => by
    obtain ⟨hp, g, d, tk, os⟩ := s; obtain ⟨q1, h⟩ := h
    have q0 := sub_enumerate
    have q2 : Heap.IsTuple (Shared.heap ⟨hp, g, d, tk, os⟩) l items := ⟨_, q1, rfl, n, rfl⟩
    wp_walk using AutoSeq1.wpAny_loadPart' q1
    refine wpAny_stack_any fun st0 => wpAny_pure ?_
    split
    · rename_i c0 _ _ _ _ _
      cases (c0 == Value.type "enumerate") <;> (wp_walk using AutoSeq1.wpAny_loadPart' q1, wpAny_pyIter_tuple q2; exact ⟨_, rfl, h⟩)
    · wp_walk using AutoSeq1.wpAny_loadPart' q1, wpAny_pyIter_tuple q2
      exact ⟨_, rfl, h⟩
section
variable {prog : Program} {w : World} {A : Around} {E : Value → Shared → Prop} {s : Shared}
theorem call_enumT {l : Addr} {items : Array Value} {Q : Value → Shared → Prop} (q2 : s.heap.IsTuple l items)
    (h : ∀ h', IsEnum h' (s.heap.objs.size + 1) s.heap.objs.size 0 .none → h'.IsTupleIter s.heap.objs.size l 0 → (∀ b o, s.heap.get? b = some o → h'.get? b = some o) → Q (.ref (s.heap.objs.size + 1)) { s with heap := h' }) :
    wpAny (model prog w) A (call (.type "enumerate") [.ref l]) Q E s := by
  obtain ⟨⟨c, dct, dt, sl⟩, q1, e1, n, e2⟩ := q2
  replace e1 : c = .type "tuple" := e1
  replace e2 : dt = .seq items n := e2
  subst e1 e2
  refine callType_new F.called_enumerate (by decide) (F.typeCall_enumerate_1 _) (F.newCall_enumerate_1 _) (fun obj => F.args_object_init_2 obj _) F.entry_enumerate_new (enum_newT l items n dct sl) ⟨q1, ?_⟩
  have z1 : (s.heap.push { cls := .type "tuple_iterator", data := .fields #[.ref l, .int 0 0] }).objs.size = s.heap.objs.size + 1 := Heap.size_push ..
  show _ ∧ _
  rw [z1]
  have q3 : IsEnum ((s.heap.push { cls := .type "tuple_iterator", data := .fields #[.ref l, .int 0 0] }).push { cls := .type "enumerate", data := .fields #[.none, .bool false, .ref s.heap.objs.size, rawInt 0, .none, .none] }) (s.heap.objs.size + 1) s.heap.objs.size 0 .none := by
    have := Heap.get?_push_size (s.heap.push { cls := .type "tuple_iterator", data := .fields #[.ref l, .int 0 0] }) (o := { cls := .type "enumerate", data := .fields #[.none, .bool false, .ref s.heap.objs.size, rawInt 0, .none, .none] }) rfl
    rw [z1] at this; exact this
  exact ⟨⟨_, q3, rfl⟩, h _ q3 ⟨_, Heap.get?_push_of_some _ (Heap.get?_push_size _ rfl), rfl, rfl⟩ fun b o x => Heap.get?_push_of_some _ (Heap.get?_push_of_some _ x)⟩
end
section
variable {X : Cx}
def iEnT (K : PySem.W.Frag) (ta : TA) : TI := fun σ H R => ta σ H fun vs H1 => ∃ a, vs = [.ref a] ∧ (∃ xs, SqT K H1 a xs) ∧ R (IteT K a) H1
def iEnL (K : PySem.W.Frag) (ta : TA) : TI := fun σ H R => ta σ H fun vs H1 => ∃ a, vs = [.ref a] ∧ (∃ xs, SqL K H1 a xs) ∧ R (IteL K a) H1
theorem boot_enum : bootBuiltins "enumerate" = some (.type "enumerate") := by decide +kernel
theorem pi_enumT {a : Expr} {ta : TA} {p pos : Pos} {elts : List Expr} {tk : Nat} {tpos : Pos} (hg : Gl X "enumerate") (hm : X.mg "enumerate" = none) (ha : PA X [a] ta) (hs : starEach [a] X.env = [(false, eval a X.env)] := by rfl) : PI X (.Tuple elts tk tpos) (.Call (.Name "enumerate" p) [a] [] pos) (iEnT X.K ta) := by
  intro pins s σ H R I h
  refine Call_ (ld_blt I hg hm boot_enum (PyProof.Rows.callWith_type1 (thn (ha pos pins s σ H _ I h) fun us s1 ⟨vs, H1, I1, r1, q1⟩ => ?_) hs rfl))
  obtain ⟨l, e, ⟨xs, hq⟩, q⟩ := q1
  subst e
  obtain ⟨u, rfl, r⟩ := Vals.one r1
  cases (show u = Value.ref l from r)
  obtain ⟨its, rv, pt, hz⟩ := I1.tuple hq
  refine call_enumT (show s1.heap.IsTuple l its.toArray from pt) fun h' he hi hk => ?_
  refine wpAny_pyIter_enum he ⟨s1.heap.objs.size + 1, [s1.heap.objs.size + 1, s1.heap.objs.size], _, _, H1, rfl, I1.kept (t' := s1.toks) hk, turn_enumT l _ _, ⟨⟨_, he⟩, hi⟩, fun b hb => ?_, q⟩
  have hb' : s1.heap.objs.size ≤ b := by
    rcases List.mem_cons.mp hb with rfl | hb
    · exact Nat.le_succ _
    · rw [List.mem_singleton.mp hb]; exact Nat.le_refl _
  exact I1.fpOk hb' (I1.hok.fresh hb')
theorem pi_enumL {a : Expr} {ta : TA} {p pos : Pos} {elts : List Expr} {tk : Nat} {tpos : Pos} (hg : Gl X "enumerate") (hm : X.mg "enumerate" = none) (ha : PA X [a] ta) (hs : starEach [a] X.env = [(false, eval a X.env)] := by rfl) : PI X (.Tuple elts tk tpos) (.Call (.Name "enumerate" p) [a] [] pos) (iEnL X.K ta) := by
  intro pins s σ H R I h
  refine Call_ (ld_blt I hg hm boot_enum (PyProof.Rows.callWith_type1 (thn (ha pos pins s σ H _ I h) fun us s1 ⟨vs, H1, I1, r1, q1⟩ => ?_) hs rfl))
  obtain ⟨l, e, ⟨xs, hq⟩, q⟩ := q1
  subst e
  obtain ⟨u, rfl, r⟩ := Vals.one r1
  cases (show u = Value.ref l from r)
  obtain ⟨its, rv, pt, hz⟩ := I1.list hq
  refine call_enumerate_list pt.isList fun h' he hi _ hk => ?_
  refine wpAny_pyIter_enum he ⟨s1.heap.objs.size + 1, [s1.heap.objs.size + 1, s1.heap.objs.size], _, _, H1, rfl, I1.kept (t' := s1.toks) hk, turn_enumL l _ _, ⟨⟨_, he⟩, hi⟩, fun b hb => ?_, q⟩
  have hb' : s1.heap.objs.size ≤ b := by
    rcases List.mem_cons.mp hb with rfl | hb
    · exact Nat.le_succ _
    · rw [List.mem_singleton.mp hb]; exact Nat.le_refl _
  exact I1.fpOk hb' (I1.hok.fresh hb')
end
end L2

set_option maxHeartbeats 4000000
namespace L2
open PySem PySem.Spec PyProof.Rows
theorem SqL.upd {K : PySem.W.Frag} {H : Hp} {a b : Addr} {xs : List V} {o : HO} (h : SqL K H a xs) (n : a ≠ b) : SqL K (upd H b o) a xs := by
  rcases h with (h | ⟨u, h⟩) | h
  · exact .inl (.inl (by rw [upd_ne n]; exact h))
  · exact .inl (.inr ⟨u, by rw [upd_ne n]; exact h⟩)
  · exact .inr h
theorem SqT.upd {K : PySem.W.Frag} {H : Hp} {a b : Addr} {xs : List V} {o : HO} (h : SqT K H a xs) (n : a ≠ b) : SqT K (upd H b o) a xs := by
  rcases h with (h | ⟨u, h⟩) | h
  · exact .inl (.inl (by rw [upd_ne n]; exact h))
  · exact .inl (.inr ⟨u, by rw [upd_ne n]; exact h⟩)
  · exact .inr h
/-! ### rules within a comprehension's block: the fragment by its own name -/
section
variable {X : Cx} {K : PySem.W.Frag}
theorem ix_tupK (e : X.K = K) : IxR X (rIxT K) := by subst e; exact ix_tup
theorem ix_listK (e : X.K = K) : IxR X (rIxL K) := by subst e; exact ix_list
theorem sl_listK (e : X.K = K) : SlR X (rSlL K) := by subst e; exact sl_list
theorem sl_tupK (e : X.K = K) : SlR X (rSlT K) := by subst e; exact sl_tup
theorem op_eqDK (e : X.K = K) (hu : X.A.units + 64 < cLine) : OpR X (compareOp .Eq) (rEqD K fun b => b) := by subst e; exact op_eqD hu
theorem op_neDK (e : X.K = K) (hu : X.A.units + 64 < cLine) : OpR X (compareOp .NotEq) (rEqD K fun b => !b) := by subst e; exact op_neD hu
theorem call_lenK (e : X.K = K) : CallR X (.builtin "len") (fun xs H Q => ∃ p ys, xs = [.ref p] ∧ (SqL K H p ys ∨ SqT K H p ys) ∧ Q (.int ys.length) H) := by subst e; exact call_len_seq
theorem op_catTK (e : X.K = K) : OpR X (binaryOp .Add) (rCatT K) := by subst e; exact op_catT
theorem call_tupleK (e : X.K = K) : CallR X (.type "tuple") (fun xs H Q => ∃ p ys, xs = [.ref p] ∧ ((SqL K H p ys ∧ ∀ l, H l = none → Q (.ref l) (upd H l (.tup ys))) ∨ (SqT K H p ys ∧ Q (.ref p) H))) := by subst e; exact call_tuple_of
end
/-! ### written arguments, one by one -/
theorem st_BoolOp {op : BoolOp} {vs : List Expr} {p : Pos} {es : List Expr} {env : Env} : starEach (.BoolOp op vs p :: es) env = (false, eval (.BoolOp op vs p) env) :: starEach es env := rfl
theorem st_BinOp {a : Expr} {op : Operator} {b : Expr} {p : Pos} {es : List Expr} {env : Env} : starEach (.BinOp a op b p :: es) env = (false, eval (.BinOp a op b p) env) :: starEach es env := rfl
theorem st_UnaryOp {op : UnaryOp} {a : Expr} {p : Pos} {es : List Expr} {env : Env} : starEach (.UnaryOp op a p :: es) env = (false, eval (.UnaryOp op a p) env) :: starEach es env := rfl
theorem st_IfExp {a b c : Expr} {p : Pos} {es : List Expr} {env : Env} : starEach (.IfExp a b c p :: es) env = (false, eval (.IfExp a b c p) env) :: starEach es env := rfl
theorem st_ListComp {a : Expr} {g : List Comprehension} {sc : Scope} {p : Pos} {es : List Expr} {env : Env} : starEach (.ListComp a g sc p :: es) env = (false, eval (.ListComp a g sc p) env) :: starEach es env := rfl
theorem st_Compare {a : Expr} {ops : List CmpOp} {cs : List Expr} {p : Pos} {es : List Expr} {env : Env} : starEach (.Compare a ops cs p :: es) env = (false, eval (.Compare a ops cs p) env) :: starEach es env := rfl
theorem st_Call {f : Expr} {as : List Expr} {kw : List Keyword} {p : Pos} {es : List Expr} {env : Env} : starEach (.Call f as kw p :: es) env = (false, eval (.Call f as kw p) env) :: starEach es env := rfl
theorem st_Constant {c : Const} {k : Nat} {p : Pos} {es : List Expr} {env : Env} : starEach (.Constant c k p :: es) env = (false, eval (.Constant c k p) env) :: starEach es env := rfl
theorem st_Attribute {a : Expr} {n : Str} {p : Pos} {es : List Expr} {env : Env} : starEach (.Attribute a n p :: es) env = (false, eval (.Attribute a n p) env) :: starEach es env := rfl
theorem st_Subscript {a b : Expr} {p : Pos} {es : List Expr} {env : Env} : starEach (.Subscript a b p :: es) env = (false, eval (.Subscript a b p) env) :: starEach es env := rfl
theorem st_Name {n : Str} {p : Pos} {es : List Expr} {env : Env} : starEach (.Name n p :: es) env = (false, eval (.Name n p) env) :: starEach es env := rfl
theorem st_List {as : List Expr} {p : Pos} {es : List Expr} {env : Env} : starEach (.List as p :: es) env = (false, eval (.List as p) env) :: starEach es env := rfl
theorem st_Tuple {as : List Expr} {k : Nat} {p : Pos} {es : List Expr} {env : Env} : starEach (.Tuple as k p :: es) env = (false, eval (.Tuple as k p) env) :: starEach es env := rfl
theorem st_JoinedStr {as : List Expr} {p : Pos} {es : List Expr} {env : Env} : starEach (.JoinedStr as p :: es) env = (false, eval (.JoinedStr as p) env) :: starEach es env := rfl
theorem st_Dict {ks : List (Option Expr)} {as : List Expr} {p : Pos} {es : List Expr} {env : Env} : starEach (.Dict ks as p :: es) env = (false, eval (.Dict ks as p) env) :: starEach es env := rfl
/-! ### list(range(n)) -/
section
variable {X : Cx}
def tLRng (ta : TA) : TE := fun σ H Q => ta σ H fun vs H1 => ∃ j : Int, vs = [.int j] ∧ 0 ≤ j ∧ j.toNat ≤ 2 ^ 24 ∧ ∀ l, H1 l = none → Q (.ref l) (upd H1 l (.lst ((List.range j.toNat).map fun (i : Nat) => V.int i)))
theorem pe_lrange {a : Expr} {ta : TA} {p1 p2 q1 q2 : Pos} (hc : X.calm = true) (hg1 : Gl X "list") (hm1 : X.mg "list" = none) (hg2 : Gl X "range") (hm2 : X.mg "range" = none) (ha : PA X [a] ta)
    (hs1 : starEach [.Call (.Name "range" p2) [a] [] q2] X.env = [(false, eval (.Call (.Name "range" p2) [a] [] q2) X.env)] := by rfl) (hs2 : starEach [a] X.env = [(false, eval a X.env)] := by rfl) :
    PE X (.Call (.Name "list" p1) [.Call (.Name "range" p2) [a] [] q2] [] q1) (tLRng ta) := by
  intro pins s σ H Q I h
  refine wpAny_Call_Name_kw (ld_blt I hg1 hm1 boot_lst (PyProof.Rows.callWith_type1 ?_ hs1 rfl))
  rw [hs1]
  show wpAny _ _ (spliced [(false, eval (.Call (.Name "range" p2) [a] [] q2) X.env)]) _ _ s
  refine Calls.spliced_cons (wpAny_Call_Name_kw (ld_blt I hg2 hm2 boot_range (PyProof.Rows.callWith_type1 (thn (ha q2 pins s σ H _ I h) fun us s1 ⟨vs, H1, I1, r1, q1⟩ => ?_) hs2 rfl)))
  obtain ⟨j, e, j0, j1, q⟩ := q1
  subst e
  obtain ⟨u, rfl, r⟩ := Vals.one r1
  obtain ⟨t, rfl⟩ := r
  refine call_range_1 (Calls.spliced_nil ?_)
  have hsz : ∀ o : Obj, (s1.heap.push o).objs.size = s1.heap.objs.size + 1 := fun o => Heap.size_push ..
  refine call_list_range (n := j.toNat) (I.ok.hd hc) (IsRange.new ..) (small_one (by omega) (by omega) (by omega) (by omega)) (by rw [rangeSize_one]; split <;> omega) j1 fun h' tk acc c' hk hS hacc => ?_
  dsimp only at hk hS
  rw [hsz] at hS ⊢
  have hold : ∀ b o, s1.heap.get? b = some o → h'.get? b = some o := fun b o e => hk b o (Heap.get?_push_of_some _ e)
  have hv : Vals ((List.range j.toNat).map fun (i : Nat) => V.int i) acc.toList := by
    obtain ⟨z1, z2⟩ := hacc
    have key : ∀ (n : Nat) (l : List Value), l.length = n → (∀ i v, l[i]? = some v → ∃ t, v = Value.int (i : Nat) t) → Vals ((List.range n).map fun (i : Nat) => V.int i) l := by
      intro n
      induction n with
      | zero => intro l hl _; cases l with
        | nil => exact .nil
        | cons _ _ => cases hl
      | succ n ih =>
        intro l hl hi
        have e1 : l = l.dropLast ++ [l[n]'(by omega)] := by
          have hne : l ≠ [] := by intro z; subst z; cases hl
          have := (List.dropLast_concat_getLast hne).symm
          rw [List.getLast_eq_getElem] at this
          simpa [hl] using this
        rw [e1, List.range_succ, List.map_append]
        refine Vals.append (ih l.dropLast (by simp [hl]) fun i v hv => ?_) ?_
        · refine hi i v ?_
          have hlt := (List.getElem?_eq_some_iff.mp hv).1
          rw [List.getElem?_dropLast] at hv
          split at hv
          · exact hv
          · cases hv
        · obtain ⟨t, e⟩ := hi n (l[n]'(by omega)) (List.getElem?_eq_getElem (by omega))
          exact .cons ⟨t, e⟩ .nil
    refine key j.toNat acc.toList (by simp [z1]) fun i v hv => ?_
    obtain ⟨t, e⟩ := z2 i v (by simpa using hv)
    exact ⟨t, by rw [e]; simp⟩
  have hn := I1.hok.fresh (Nat.le_succ s1.heap.objs.size)
  have z24 : (2 : Nat) ^ 24 ≤ sizeLine := by decide
  exact ⟨.ref (s1.heap.objs.size + 1), _, I1.laid (h' := h') (t' := tk) (o := .lst ((List.range j.toNat).map fun (i : Nat) => V.int i)) hold (Nat.le_succ _) ⟨by simp; omega, acc.toList, c', hv, hS⟩, rfl, q _ hn⟩
theorem lrng_ev {K : PySem.W.Frag} {σ : St} {G : Hp} {t : TA} {j : Int} (h : EvA K t σ G [.int j]) (h0 : 0 ≤ j) (h1 : j.toNat ≤ 2 ^ 24) : Ev K (tLRng t) σ G (.list ((List.range j.toNat).map fun (i : Nat) => PyData.int i)) :=
  fun G1 H s1 s2 Q k => h G1 H s1 s2 _ fun vs G2 H2 g2 hv => by
    obtain ⟨y, ys, rfl, hy, r⟩ := hv.cons
    rw [r.nil, hy.int]
    refine ⟨j, rfl, h0, h1, fun l hl => ?_⟩
    have g := grow_new (o := .lst ((List.range j.toNat).map fun (i : Nat) => V.int i)) g2.gh hl
    refine k _ _ _ (g2.trans g) (dat_lst upd_same ?_)
    have e1 : ((List.range j.toNat).map fun (i : Nat) => V.int i) = ((List.range j.toNat).map fun (i : Nat) => (i : Int)).map V.int := by rw [List.map_map]; rfl
    have e2 : ((List.range j.toNat).map fun (i : Nat) => PyData.int i) = ((List.range j.toNat).map fun (i : Nat) => (i : Int)).map PyData.int := by rw [List.map_map]; rfl
    rw [e1, e2]; exact dats_ints _
end
/-! ### isinstance of data -/
def tyN : PyData → String
  | .none => "NoneType"
  | .bool _ => "bool"
  | .int _ => "int"
  | .str _ => "str"
  | .list _ => "list"
  | .tuple _ => "tuple"
  | .dict _ => "dict"
def rIsD (K : PySem.W.Frag) : List V → Hp → VK → Prop := fun xs H Q => ∃ G x d n b, xs = [x, .ty n] ∧ Same G H ∧ Dat K G x d ∧ PySem.W.kitOne K (.type (tyN d)) (.type n) = some b ∧ Q (.bl b) H
theorem call_isD {X : Cx} {K : PySem.W.Frag} (eK : X.K = K) : CallR X (.builtin "isinstance") (rIsD K) := by
  subst eK
  intro pins s σ H xs us Q I r h
  obtain ⟨G, x, d, n, b, rfl, sg, hd, e, q⟩ := h
  obtain ⟨u, w', rfl, rx, ry⟩ := vals2 r
  cases (show w' = Value.type n from ry)
  have fin : ∀ tk, EP X pins σ Q (.bool b) { s with toks := tk } := fun tk => ⟨.bl b, H, I.tok _, rfl, q⟩
  cases d with
  | none => rw [hd.non] at rx; exact isinst_ok I rx .non e fin
  | bool y => rw [hd.bl] at rx; exact isinst_ok I rx (.bl y) e fin
  | int i => rw [hd.int] at rx; exact isinst_ok I rx (.int i) e fin
  | str y => rw [hd.str] at rx; exact isinst_ok I rx (.str y) e fin
  | list ds =>
    obtain ⟨p, ys, rfl, hp, _⟩ := hd.lst
    cases (show u = Value.ref p from rx)
    obtain ⟨its, _, ⟨o, n', e1, c, _⟩, _⟩ := I.list (SqL.of (sg _ _ hp))
    exact PySem.W.kia_one PySem.W.kitx_list I.kIn ⟨o, e1, c⟩ e (fun z => nomatch z) fin
  | tuple ds =>
    obtain ⟨p, ys, rfl, hp, _⟩ := hd.tup
    cases (show u = Value.ref p from rx)
    obtain ⟨its, _, ⟨o, e1, c, _⟩, _⟩ := I.tuple (sg.tup hp)
    exact PySem.W.kia_one PySem.W.kitx_tuple I.kIn ⟨o, e1, c⟩ e (fun z => nomatch z) fin
  | dict _ => unfold Dat at hd; exact hd.elim
theorem ev_isD {K : PySem.W.Frag} {σ : St} {G : Hp} {ta : TE} {d : PyData} {n : String} {b : Bool} (ha : Ev K ta σ G d) (e : PySem.W.kitOne K (.type (tyN d)) (.type n) = some b) : Ev K (tCB (rIsD K) (tCons ta (tCons (tC (.ty n)) tNil))) σ G (.bool b) :=
  fun G1 H s1 s2 Q k => ha G1 H s1 s2 _ fun x G2 H2 g2 hx => ⟨G2, x, d, n, b, rfl, g2.gh, hx, e, k _ G2 H2 g2 (dat_bl b)⟩
/-! ### a tuple times an int -/
theorem noFill_tmul : fillsNumberSlot (.type "tuple") "mul" = pure false :=
  PySem.fillsNumberSlot_seq (id := "tuple.__mul__") (r := some (.builtin "tuple.__rmul__")) F.slot_tuple_mul.lookup (by decide +kernel) F.slot_tuple_rmul.lookup (by decide +kernel)
theorem rep_tup : seqRepeat? (.type "tuple") = pure (some (.builtin "tuple.__mul__")) := by
  unfold seqRepeat?
  rw [PySem.seqSlot_of (T := "tuple") (name := "__mul__") (id := "tuple.__mul__") F.slot_tuple_mul.lookup (by decide +kernel), PySem.seqSlot_of (T := "tuple") (name := "__rmul__") (id := "tuple.__rmul__") F.slot_tuple_rmul.lookup (by decide +kernel)]
  rfl
theorem int_rmul_tup (a : Int) (t : Tok) (l : Addr) (items : Array Value) (n : Nat) (dct : Option Addr) (sl : Array (Option Value)) :
    Meets (Builtin.«int.__rmul__» ⟨[.int a t, .ref l], []⟩) (fun _ R s => s.heap.get? l = some { cls := .type "tuple", dict := dct, data := .seq items n, slots := sl } ∧ R (.ok (.ret Value.notImplemented)) s) :=
  .of_wp fun prog w A R s h => by obtain ⟨hp, g, d, tk, os⟩ := s; obtain ⟨q1, h⟩ := h; wp_walk; exact ⟨_, rfl, h⟩
theorem tup_mul_1 (l : Addr) (items : Array Value) (n : Nat) (t : Tok) (dct : Option Addr) (sl : Array (Option Value)) :
    Meets (Builtin.«tuple.__mul__» ⟨[.ref l, .int 1 t], []⟩) (fun _ R s => s.heap.get? l = some { cls := .type "tuple", dict := dct, data := .seq items n, slots := sl } ∧ R (.ok (.ret (Value.ref l))) s) :=
  .of_wp fun prog w A R s h => by
    obtain ⟨hp, g, d, tk, os⟩ := s; obtain ⟨q1, h⟩ := h
    wp_walk using AutoSeq1.wpAny_loadPart' q1
    exact ⟨_, rfl, h⟩
theorem fold_size (a : Array Value) : ∀ (k : Nat) (acc : Array Value), (List.foldl (fun x1 x2 => x1 ++ x2) acc (List.replicate k a)).size = acc.size + k * a.size
  | 0, acc => by simp
  | k + 1, acc => by rw [List.replicate_succ, List.foldl_cons, fold_size a k, Array.size_append, Nat.succ_mul]; omega
theorem tup_mul_n (l : Addr) (items : Array Value) (n : Nat) (x : Int) (t : Tok) (dct : Option Addr) (sl : Array (Option Value)) (h2 : 2 ≤ x) (h3 : x ≤ 1000) (he : items.isEmpty = false) (hz : items.size ≤ 1000) :
    Meets (Builtin.«tuple.__mul__» ⟨[.ref l, .int x t], []⟩) (fun _ R s => s.heap.get? l = some { cls := .type "tuple", dict := dct, data := .seq items n, slots := sl } ∧
      R (.ok (.ret (Value.ref s.heap.objs.size))) { s with heap := s.heap.push { cls := .type "tuple", data := .seq ((List.replicate x.toNat items).foldl (· ++ ·) #[]) } }) :=
  .of_wp fun prog w A R s h => by
    obtain ⟨hp, g, d, tk, os⟩ := s; obtain ⟨q1, h⟩ := h
    have b1 : (decide (x < -(2 ^ 63)) || decide (x ≥ 2 ^ 63)) = false := by
      rw [decide_eq_false (by omega), decide_eq_false (by omega)]; rfl
    have b2 : (items.isEmpty || x == 1) = false := by rw [he, Bool.false_or]; exact beq_eq_false_iff_ne.mpr (by omega)
    have b3 : (decide (x ≤ 0) || items.isEmpty) = false := by rw [he, decide_eq_false (by omega)]; rfl
    have hs : items.size * x.toNat ≤ 1000 * 1000 := Nat.mul_le_mul hz (by omega)
    have hs' : ((items.size : Nat) : Int) * x = ((items.size * x.toNat : Nat) : Int) := by
      rw [Int.natCast_mul]; congr 1; omega
    have b4 : decide (((items.size : Nat) : Int) * x > (2 ^ 63 - 1) / 8) = false := decide_eq_false (by rw [hs']; omega)
    wp_walk using AutoSeq1.wpAny_loadPart' q1
    rw [if_neg (by rw [b1]; exact Bool.false_ne_true)]
    wp_walk using AutoSeq1.wpAny_loadPart' q1
    rw [if_neg (by rw [b2]; exact Bool.false_ne_true)]
    wp_walk using AutoSeq1.wpAny_loadPart' q1
    rw [if_neg (by rw [b3]; exact Bool.false_ne_true)]
    wp_walk using AutoSeq1.wpAny_loadPart' q1
    rw [if_neg (of_decide_eq_false b4)]
    wp_walk using AutoSeq1.wpAny_loadPart' q1
    have zl : (1000 : Nat) * 1000 ≤ sizeLine := by decide
    have b5 : Builtin.Tuple.tupleTooMany (((items.size : Nat) : Int) * x) = false := by
      unfold Builtin.Tuple.tupleTooMany
      exact decide_eq_false (by rw [hs']; omega)
    rw [if_neg (by rw [b5]; exact Bool.false_ne_true)]
    wp_walk using AutoSeq1.wpAny_loadPart' q1
    rw [if_neg (show ¬ (List.foldl (fun x1 x2 => x1 ++ x2) #[] (List.replicate x.toNat items)).size > sizeLine by rw [fold_size]; simp; rw [Nat.mul_comm]; omega)]
    wp_walk
    exact ⟨_, rfl, h⟩
section
variable {X : Cx}
def rRepT (K : PySem.W.Frag) : R2 := fun x y H Q => ∃ l k xs, x = .ref l ∧ y = .int k ∧ SqT K H l xs ∧ 1 ≤ k ∧ k ≤ 1000 ∧ (xs ≠ [] ∧ xs.length ≤ 1000) ∧ (k = 1 → Q (.ref l) H) ∧ (k ≠ 1 → ∀ p, H p = none → Q (.ref p) (upd H p (.tup (List.replicate k.toNat xs).flatten)))
theorem op_repT {K : PySem.W.Frag} (eK : X.K = K) : OpR X (binaryOp .Mult) (rRepT K) := by
  subst eK
  intro pins s σ H x y v u Q I rx ry h
  obtain ⟨l, k, xs, rfl, rfl, hq, k1, k2, ⟨hne, hz⟩, q1, q2⟩ := h
  cases rx
  obtain ⟨t, rfl⟩ := ry
  obtain ⟨its, r, p, _⟩ := I.tuple hq
  obtain ⟨⟨c, dct, dt, sl⟩, e1, e2, n, e3⟩ := p
  replace e2 : c = .type "tuple" := e2
  replace e3 : dt = .seq its.toArray n := e3
  subst e2 e3
  have hl := r.length
  have hemp : its.toArray.isEmpty = false := by
    cases its with
    | nil => exact absurd (r.nil_iff.mp rfl) hne
    | cons a b => simp
  refine wpAny_binaryOp_repeat_ref (T := "tuple") (U := "int") (by decide) ⟨_, e1, rfl⟩ (fun s' => typeIs_int s' k t) noFill_tmul F.fills_int_mul F.slot_int_rmul rep_tup F.slot_int_index.lookup
    (call_meets F.slot_int_rmul (typeIs_int s k t) F.entry_int_rmul (F.args_int_rmul_2 _ _) (int_rmul_tup k t l its.toArray n dct sl) ⟨e1, rfl, ⟨_, e1, rfl⟩, ?_⟩)
  by_cases h1 : k = 1
  · subst h1
    exact call_meets F.slot_tuple_mul ⟨_, e1, rfl⟩ F.entry_tuple_mul (F.args_tuple_mul_2 _ _) (tup_mul_1 l its.toArray n t dct sl) ⟨e1, .ref l, H, I, rfl, q1 rfl⟩
  · refine call_meets F.slot_tuple_mul ⟨_, e1, rfl⟩ F.entry_tuple_mul (F.args_tuple_mul_2 _ _) (tup_mul_n l its.toArray n k t dct sl (by omega) k2 hemp (by simp; omega)) ⟨e1, ?_⟩
    have e4 : List.foldl (fun x1 x2 => x1 ++ x2) #[] (List.replicate k.toNat its.toArray) = (List.replicate k.toNat its).flatten.toArray := by
      have := foldl_rep its k.toNat []
      rw [List.nil_append] at this
      exact this
    rw [e4]
    have hlen : (List.replicate k.toNat xs).flatten.length ≤ sizeLine := by
      rw [len_rep]
      have z : (1000 : Nat) * 1000 ≤ sizeLine := by decide
      have := Nat.mul_le_mul (show k.toNat ≤ 1000 by omega) hz
      omega
    exact ⟨.ref s.heap.objs.size, _, I.laid (t' := s.toks) (o := .tup (List.replicate k.toNat xs).flatten) (fun b ob q => Heap.get?_push_of_some _ q) (Nat.le_refl _) ⟨hlen, _, r.rep k.toNat, IsTup.new _ _⟩, rfl, q2 h1 _ (I.hok.fresh (Nat.le_refl _))⟩
end
/-! ### for i, x in enumerate(t) -/
theorem for_enT {K : PySem.W.Frag} {a : Addr} {xs : List V} {g : TG} {tb : TS} {D : Ends} {σ : St} {H : Hp} (Pv : Nat → St → Hp → Prop) (h0 : Pv 0 σ H) (hl : ∀ i σ H, i ≤ xs.length → Pv i σ H → SqT K H a xs)
    (hs : ∀ i x p σ H, xs[i]? = some x → Pv i σ H → H p = none → g (.ref p) σ (upd H p (.tup [.int (i : Nat), x])) fun σ2 H2 => tb { D with nx := Pv (i + 1), ct := Pv (i + 1), bk := D.nx } σ2 H2) (hd : ∀ σ H, Pv xs.length σ H → D.nx σ H) :
    ∃ W : Nat → Nat → St → Hp → Prop, (∃ m, W 0 m σ H) ∧ ∀ i m σ H, W i m σ H →
      ((IteT K a).stop i H ∧ D.nx σ H) ∨ ((IteT K a).go i H ∧ ∃ N : St → Hp → Prop, (∀ σ' H', N σ' H' → ∃ m', m' < m ∧ W (i + 1) m' σ' H') ∧ ∀ x H', (IteT K a).yld i H x H' → g x σ H' fun σ2 H2 => tb { D with nx := N, ct := N, bk := D.nx } σ2 H2) := by
  refine ⟨fun i m σ H => m = xs.length - i ∧ i ≤ xs.length ∧ Pv i σ H, ⟨xs.length, by simp, Nat.zero_le _, h0⟩, ?_⟩
  rintro i m σ H ⟨rfl, hi, p⟩
  have q := hl i σ H hi p
  by_cases hlt : i < xs.length
  · refine .inr ⟨⟨xs, xs[i], q, by simp [hlt]⟩, Pv (i + 1), fun σ' H' p' => ⟨xs.length - (i + 1), by omega, rfl, hlt, p'⟩, fun x H' y => ?_⟩
    obtain ⟨r, z, hr, e1, e2, y⟩ := y
    subst e1 e2
    exact hs i z r σ _ (y xs q) p hr
  · have e : i = xs.length := by omega
    subst e
    exact .inl ⟨⟨xs, q, Nat.le_refl _⟩, hd σ H p⟩
end L2

set_option maxHeartbeats 4000000
namespace L2
open PySem PySem.Spec PyProof.Rows
section
variable {X : Cx} {K : PySem.W.Frag}
theorem call_listK (e : X.K = K) : CallR X (.type "list") (fun xs H Q => ∃ p ys, xs = [.ref p] ∧ (SqL K H p ys ∨ SqT K H p ys) ∧ ∀ l, H l = none → Q (.ref l) (upd H l (.lst ys))) := by subst e; exact call_list_of
theorem ev_listT {σ : St} {G : Hp} {t : TA} {ds : List PyData} (h : EvA K t σ G [.tuple ds]) : Ev K (tCB (fun xs H Q => ∃ p ys, xs = [.ref p] ∧ (SqL K H p ys ∨ SqT K H p ys) ∧ ∀ l, H l = none → Q (.ref l) (upd H l (.lst ys))) t) σ G (.list ds) :=
  ev_cb h fun G1 H xs Q s1 s2 hx k => by
    obtain ⟨y, ys, rfl, hy, r⟩ := hx.cons
    rw [r.nil]
    obtain ⟨p, zs, rfl, hp, hz⟩ := hy.tup
    refine ⟨p, zs, rfl, .inr (s2.tup hp), fun l hl => ?_⟩
    have g := grow_new (o := .lst zs) s2 hl
    exact k _ _ _ g (dat_lst upd_same (hz.same g.gg))
theorem ev_listL {σ : St} {G : Hp} {t : TA} {ds : List PyData} (h : EvA K t σ G [.list ds]) : Ev K (tCB (fun xs H Q => ∃ p ys, xs = [.ref p] ∧ (SqL K H p ys ∨ SqT K H p ys) ∧ ∀ l, H l = none → Q (.ref l) (upd H l (.lst ys))) t) σ G (.list ds) :=
  ev_cb h fun G1 H xs Q s1 s2 hx k => by
    obtain ⟨y, ys, rfl, hy, r⟩ := hx.cons
    rw [r.nil]
    obtain ⟨p, zs, rfl, hp, hz⟩ := hy.lst
    refine ⟨p, zs, rfl, .inl (SqL.of (s2 _ _ hp)), fun l hl => ?_⟩
    have g := grow_new (o := .lst zs) s2 hl
    exact k _ _ _ g (dat_lst upd_same (hz.same g.gg))
end
theorem pl_str {x : Str} (h : PyData.strOk x = true) {n : Nat} : Pl n (.str x) := ⟨by unfold PyData.canLay0; exact h, by unfold PyData.depth; omega, by unfold noBool; rfl⟩
theorem tyV_lst {K : PySem.W.Frag} {H : Hp} {p : Addr} {xs : List V} (h : H p = some (.lst xs)) : tyV K "list" (.ref p) H := .inl ⟨rfl, xs, SqL.of h⟩
end L2
namespace Mv
open PySem L2
/-! ### moves of a row -/
def mv1 {α : Type} (xs : List α) (p : Nat × Nat) : List α := match xs[p.1]? with
  | some y => (xs.eraseIdx p.1).take p.2 ++ y :: (xs.eraseIdx p.1).drop p.2
  | none => xs
def mvs {α : Type} (xs : List α) (ps : List (Nat × Nat)) : List α := ps.foldl mv1 xs
theorem mv1_at {α : Type} {xs : List α} {p : Nat × Nat} {y : α} (h : xs[p.1]? = some y) : mv1 xs p = (xs.eraseIdx p.1).take p.2 ++ y :: (xs.eraseIdx p.1).drop p.2 := by
  unfold mv1; rw [h]
theorem mv1_len {α : Type} (xs : List α) (p : Nat × Nat) : (mv1 xs p).length = xs.length := by
  unfold mv1
  cases h : xs[p.1]? with
  | none => rfl
  | some y =>
    have hp : p.1 < xs.length := (List.getElem?_eq_some_iff.mp h).1
    simp only [List.length_append, List.length_cons, List.length_take, List.length_drop, List.length_eraseIdx, hp, if_true]
    omega
theorem mvs_len {α : Type} : ∀ (ps : List (Nat × Nat)) (xs : List α), (mvs xs ps).length = xs.length
  | [], _ => rfl
  | p :: ps, xs => by
    show (mvs (mv1 xs p) ps).length = _
    rw [mvs_len ps, mv1_len]
theorem mvs_succ {α : Type} {xs : List α} {ps : List (Nat × Nat)} {i : Nat} {p : Nat × Nat} (h : ps[i]? = some p) : mvs xs (ps.take (i + 1)) = mv1 (mvs xs (ps.take i)) p := by
  rw [List.take_add_one, h]
  show List.foldl mv1 xs (ps.take i ++ [p]) = _
  rw [List.foldl_append]; rfl
theorem mvs_mem {α : Type} {xs : List α} : ∀ (ps : List (Nat × Nat)) (ys : List α), (∀ y ∈ ys, y ∈ xs) → ∀ y ∈ mvs ys ps, y ∈ xs
  | [], _, h => h
  | p :: ps, ys, h => mvs_mem ps (mv1 ys p) fun y hy => by
    unfold mv1 at hy
    cases e : ys[p.1]? with
    | none => rw [e] at hy; exact h y hy
    | some z =>
      rw [e] at hy
      rcases List.mem_append.mp hy with hy | hy
      · exact h y (List.mem_of_mem_eraseIdx (List.mem_of_mem_take hy))
      · rcases List.mem_cons.mp hy with rfl | hy
        · exact h _ (List.mem_of_getElem? e)
        · exact h y (List.mem_of_mem_eraseIdx (List.mem_of_mem_drop hy))
abbrev dP (p : Nat × Nat) : PyData := .tuple [.int (p.1 : Nat), .int (p.2 : Nat)]
section
variable {K : PySem.W.Frag} {G : Hp}
theorem dats_mv1 {xs : List V} {ds : List PyData} {p : Nat × Nat} (h : Dats K G xs ds) (hp : p.1 < ds.length) : ∃ y, xs[p.1]? = some y ∧ Dats K G ((xs.eraseIdx p.1).take p.2 ++ y :: (xs.eraseIdx p.1).drop p.2) (mv1 ds p) := by
  obtain ⟨y, h1, h2⟩ := h.get (List.getElem?_eq_getElem hp)
  refine ⟨y, h1, ?_⟩
  rw [mv1_at (List.getElem?_eq_getElem hp)]
  exact dats_append (dats_take _ (dats_erase _ h)) (dats_cons h2 (dats_drop _ (dats_erase _ h)))
theorem dat_dP {v : V} {p : Nat × Nat} (h : Dat K G v (dP p)) : ∃ a, v = .ref a ∧ SqT K G a [.int (p.1 : Nat), .int (p.2 : Nat)] := by
  obtain ⟨a, xs, rfl, ha, hx⟩ := h.tup
  obtain ⟨y, ys, rfl, hy, hx⟩ := hx.cons
  obtain ⟨z, zs, rfl, hz, hx⟩ := hx.cons
  rw [hx.nil, hy.int, hz.int] at ha
  exact ⟨a, rfl, ha⟩
theorem pl_dP (p : Nat × Nat) : Pl 1 (dP p) := pl_tup fun d hd => by
  rcases List.mem_cons.mp hd with rfl | hd
  · exact pl_int _
  · rw [List.mem_singleton.mp hd]; exact pl_int _
end
theorem seqIndex_nat {n i : Nat} (h : i < n) : seqIndex? (i : Int) n = some i := by
  unfold seqIndex?
  simp
  omega
/-! ### the seed: a list of four whole numbers -/
def Sd (H : Hp) (d : Addr) (n : Nat) : Prop := ∃ a b c e : Int, H d = some (.lst [.int a, .int b, .int c, .int e]) ∧ 0 ≤ c ∧ c ≤ n ∧ 0 ≤ e ∧ e < 1999999927
def But (d : Addr) (H H' : Hp) : Prop := ∀ b o, H b = some o → b ≠ d → H' b = some o
theorem But.refl (d : Addr) (H : Hp) : But d H H := fun _ _ e _ => e
theorem But.trans {d : Addr} {H H1 H2 : Hp} (a : But d H H1) (b : But d H1 H2) : But d H H2 := fun x o e n => b x o (a x o e n) n
theorem But.of {d : Addr} {H H' : Hp} (s : Same H H') : But d H H' := fun b o e _ => s b o e
theorem But.upd {d : Addr} {H : Hp} {o : HO} : But d H (L2.upd H d o) := fun b u e n => by rw [upd_ne n]; exact e
theorem But.same {d : Addr} {G H H' : Hp} (b : But d H H') (s : Same G H) (n : G d = none) : Same G H' := fun x o e => b x o (s x o e) (ne_of_none e n)
theorem Sd.at {H : Hp} {d : Addr} {n : Nat} (S : Sd H d n) : ∃ o, H d = some o := let ⟨_, _, _, _, h, _⟩ := S; ⟨_, h⟩
theorem Sd.same {H H' : Hp} {d : Addr} {n : Nat} (S : Sd H d n) (s : Same H H') : Sd H' d n := let ⟨a, b, c, e, h, r⟩ := S; ⟨a, b, c, e, s _ _ h, r⟩
theorem Sd.keep {H H' : Hp} {d : Addr} {n : Nat} (S : Sd H d n) (s : H' d = H d) : Sd H' d n := let ⟨a, b, c, e, h, r⟩ := S; ⟨a, b, c, e, s.trans h, r⟩
theorem Sd.mono {H : Hp} {d : Addr} {n m : Nat} (S : Sd H d n) (h : n ≤ m) : Sd H d m := let ⟨a, b, c, e, h1, h2, h3, r⟩ := S; ⟨a, b, c, e, h1, h2, by omega, r⟩
theorem But.free {d p : Addr} {H H' : Hp} {n : Nat} (b : But d H H') (S : Sd H' d n) (hp : H' p = none) : H p = none := by
  cases q : H p with
  | none => rfl
  | some o =>
    by_cases hd : p = d
    · subst hd; obtain ⟨u, e⟩ := S.at; rw [e] at hp; cases hp
    · rw [b p o q hd] at hp; cases hp
theorem Sd.ne {H : Hp} {d p : Addr} {n : Nat} (S : Sd H d n) (hp : H p = none) : d ≠ p := let ⟨_, e⟩ := S.at; ne_of_none e hp
def spSeed : Sp := fun vs H Q _ => ∃ cell : Int, vs = [.int cell] ∧ ∀ p H', H p = none → Sd H' p 0 → Same H H' → Q (.ref p) H'
def spDraw : Sp := fun vs H Q _ => ∃ (d : Addr) (m : Int) (n : Nat), vs = [.ref d, .int m] ∧ Sd H d n ∧ n ≤ 10 ^ 6 ∧ 1 ≤ m ∧ m ≤ 10 ^ 6 ∧ ∀ (r : Int) H', 0 ≤ r → r < m → Sd H' d (n + 1) → But d H H' → Q (.int r) H'
def spMany : Sp := fun vs H Q _ => ∃ (d : Addr) (n : Nat), vs = [.ref d] ∧ Sd H d n ∧ n ≤ 10 ^ 5 ∧ ∀ (r : Int) H', 0 ≤ r → r ≤ 60 → Sd H' d (n + 5) → But d H H' → Q (.int r) H'
def RMoved : List PyData → PyData → Prop := fun as d => ∃ (ds : List PyData) (ps : List (Nat × Nat)), as = [.tuple ds, .tuple (ps.map dP)] ∧ (∀ p ∈ ps, p.1 < ds.length ∧ p.2 < ds.length) ∧ ds.length ≤ 100 ∧ ps.length ≤ 100 ∧ d = .tuple (mvs ds ps)
end Mv

set_option maxHeartbeats 4000000
namespace L2
open PySem PySem.Spec PyProof.Rows
/-! ### tuple(range(n)) -/
section
variable {prog : Program} {w : World} {A : Around} {E : Value → Shared → Prop} {s : Shared}
theorem rng_collect {Q : List Value → Shared → Prop} {r : Addr} {a b c : Int} {t u v : Tok} {n : Nat} (hh : A.handled = none) (hr : IsRange s.heap r a b c t u v) (hsmall : Builtin.Range.small a b c = true) (hn : Builtin.Range.rangeSize a b c = n) (hlen : n ≤ 2 ^ 24)
    (hQ : ∀ (h' : Heap) (tk : Nat) (acc : Array Value), (∀ b o, s.heap.get? b = some o → h'.get? b = some o) → ItemsOf (fun i v => ∃ t, v = .int (a + i * c) t) acc n → Q acc.toList { s with heap := h', toks := tk }) : wpAny (model prog w) A (collect (.ref r)) Q E s := by
  have e1 := F.entry_proto_collect
  have e2 := F.entry_list_iadd
  have p1 := F.plain_proto_collect
  have p2 := F.plain_list_iadd
  unfold collect
  refine wpAny_bind (wpAny_runValue (codeAny_builtin e1 ?_))
  rw [Around.under_plainId p1 _]
  show wpAny _ A.in1 (newList [] >>= fun z => again (.builtin "list.__iadd__" ⟨[z, .ref r], []⟩)) _ _ s
  refine wpAny_bind (wpAny_newObj_type (wpAny_pure ⟨plainId_quiet p2 _, codeAny_builtin e2 ?_⟩))
  rw [Around.under_plainId p2 _]
  show wpAny (model prog w) A.in1 (Builtin.List.listExtendWith (.ref s.heap.objs.size) (.ref r) (.ref s.heap.objs.size)) _ _ _
  have hS : (s.heap.push { cls := .type "list", data := .seq ([] : List Value).toArray }).get? s.heap.objs.size = some { cls := .type "list", data := .seq #[] 0 } :=
    Heap.get?_push_size _ rfl
  have fin' : ∀ (h' : Heap) (tk : Nat) (acc : Array Value) (c' : Nat), (∀ b o, s.heap.get? b = some o → h'.get? b = some o) → h'.get? s.heap.objs.size = some { cls := .type "list", dict := none, data := .seq acc c', slots := #[] } → ItemsOf (fun i v => ∃ t, v = .int (a + i * c) t) acc n →
      wpAny (model prog w) A (match Value.ref s.heap.objs.size with
      | Value.ref a => do
        match (← load a).data with
          | Data.seq xs _ => pure xs.toList | _ => unsupported "internal:collect"
      | _ => unsupported "internal:collect") Q E { s with heap := h', toks := tk } := fun h' tk acc c' hk hS' hacc => by
    show wpAny (model prog w) A (load s.heap.objs.size >>= _) Q E _
    exact wpAny_bind (wpAny_load hS' (wpAny_pure (hQ h' tk acc hk hacc)))
  refine wpAny_mono (wpAny_extend_range (A := A) (R := fun rs s' => ∃ (h' : Heap) (tk : Nat) (acc : Array Value) (c' : Nat), rs = .ok (.ret (.ref s.heap.objs.size)) ∧ s' = { s with heap := h', toks := tk } ∧ (∀ b o, s.heap.get? b = some o → h'.get? b = some o) ∧ h'.get? s.heap.objs.size = some { cls := .type "list", dict := none, data := .seq acc c', slots := #[] } ∧ ItemsOf (fun i v => ∃ t, v = .int (a + i * c) t) acc n)
    (s := { s with heap := s.heap.push { cls := .type "list", data := .seq ([] : List Value).toArray } }) hh (Heap.get?_push_of_some _ hr) hsmall hn hlen _ _ 0 hS fun h' tk acc' c' hk hS' hacc => ⟨h', tk, acc', c', rfl, rfl, fun b o e => hk b o (Nat.ne_of_lt (Heap.lt_size e)) (Heap.get?_push_of_some _ e), hS', hacc⟩) (fun fin s' h => ?_) (fun e s' h => ?_)
  · cases fin with
    | done f =>
      obtain ⟨h', tk, acc, c', e, rfl, k1, k2, k3⟩ := h
      cases e
      exact fin' h' tk acc c' k1 k2 k3
    | again cc => exact ⟨h.1, codeAny_mono h.2 fun rs s'' hr' => by
        obtain ⟨h', tk, acc, c', rfl, rfl, k1, k2, k3⟩ := hr'
        exact fin' h' tk acc c' k1 k2 k3⟩
  · obtain ⟨_, _, _, _, z, _⟩ := h
    cases z
theorem rng_tuple_new {Q₁ : Value → Shared → Prop} {r : Addr} {a b c : Int} {t u v : Tok} {n : Nat} (hh : A.handled = none) (hr : IsRange s.heap r a b c t u v) (hsmall : Builtin.Range.small a b c = true) (hn : Builtin.Range.rangeSize a b c = n) (hlen : n ≤ 2 ^ 24)
    (h : ∀ (h' : Heap) (tk : Nat) (acc : Array Value), (∀ b o, s.heap.get? b = some o → h'.get? b = some o) → ItemsOf (fun i v => ∃ t, v = .int (a + i * c) t) acc n → Q₁ (.ref h'.objs.size) { s with heap := h'.push { cls := .type "tuple", data := .seq acc }, toks := tk }) :
    codeAny (model prog w) A (.call (.builtin "tuple.__new__") ⟨[.type "tuple", .ref r], []⟩) (wants Q₁ E) s := by
  refine codeAny_of_tree ?_
  show wpAny _ A.in1 (do checkBuiltinCall "tuple.__new__" ⟨[.type "tuple", .ref r], []⟩; again (.builtin "tuple.__new__" ⟨[.type "tuple", .ref r], []⟩)) _ _ s
  have p1 := F.plain_tuple_new
  have e1 := F.entry_tuple_new
  refine wpAny_bind (wpAny_of_eq (F.newCall_tuple_1 _) (wpAny_pure ⟨plainId_quiet p1 _, codeAny_builtin e1 ?_⟩))
  rw [Around.under_plainId p1 _]
  have t1 := sub_tuple_self
  have t2 := init_tuple_lookup
  have t3 := madeHere_tuple
  have hTI : s.TypeIs (.ref r) "range" := ⟨_, hr, rfl⟩
  wp_walk using wpAny_typeOf hTI, rng_collect (show A.in1.handled = none from hh) hr hsmall hn hlen
  intro h' tk acc hk hacc
  show wpAny (model prog w) _ (Builtin.Tuple.tupleExact acc.toList.toArray >>= fun v => ret v) _ _ _
  rw [Builtin.Tuple.tupleExact]
  have z24 : (2 : Nat) ^ 24 ≤ sizeLine := by decide
  refine wpAny_bind (wpAny_newObj_type ?_ (by show acc.toList.toArray.size ≤ sizeLine; rw [Array.toArray_toList, hacc.1]; omega))
  refine wpAny_pure ?_
  have e : acc.toList.toArray = acc := by rw [Array.toArray_toList]
  rw [e]
  exact h h' tk acc hk hacc
theorem rng_tuple {Q : Value → Shared → Prop} {r : Addr} {a b c : Int} {t u v : Tok} {n : Nat} (hh : A.handled = none) (hr : IsRange s.heap r a b c t u v) (hsmall : Builtin.Range.small a b c = true) (hn : Builtin.Range.rangeSize a b c = n) (hlen : n ≤ 2 ^ 24)
    (hQ : ∀ (h' : Heap) (tk : Nat) (acc : Array Value), (∀ b o, s.heap.get? b = some o → h'.get? b = some o) → ItemsOf (fun i v => ∃ t, v = .int (a + i * c) t) acc n → Q (.ref h'.objs.size) { s with heap := h'.push { cls := .type "tuple", data := .seq acc }, toks := tk }) :
    wpAny (model prog w) A (call (.type "tuple") [.ref r]) Q E s := by
  refine callType_codes (Q₁ := fun ob sB => sB.TypeIs ob "tuple" ∧ Q ob sB) F.called_tuple (F.typeCall_tuple_1 _) F.entry_object_init
    (rng_tuple_new (A := A.in1) hh hr hsmall hn hlen fun h' tk acc hk hacc => ⟨⟨_, Heap.get?_push_size _ rfl, rfl⟩, hQ h' tk acc hk hacc⟩) fun obj s₁ z => ?_
  exact ⟨z.1, F.args_object_init_2 obj _,
    object_init_meets F.called_tuple.init.lookup F.called_tuple.made (by decide) prog w A.in1 _ s₁ ⟨z.1, rfl, z.2⟩⟩
end
theorem vals_rng {lo : Int} {n : Nat} {acc : Array Value} (h : ItemsOf (fun i v => ∃ t, v = .int (lo + i * 1) t) acc n) : Vals ((List.range n).map fun (i : Nat) => V.int (lo + i)) acc.toList := by
  obtain ⟨z1, z2⟩ := h
  have key : ∀ (n : Nat) (l : List Value), l.length = n → (∀ (i : Nat) v, l[i]? = some v → ∃ t, v = Value.int (lo + i) t) → Vals ((List.range n).map fun (i : Nat) => V.int (lo + i)) l := by
    intro n
    induction n with
    | zero => intro l hl _; cases l with
      | nil => exact .nil
      | cons _ _ => cases hl
    | succ n ih =>
      intro l hl hi
      have e1 : l = l.dropLast ++ [l[n]'(by omega)] := by
        have hne : l ≠ [] := by intro z; subst z; cases hl
        have := (List.dropLast_concat_getLast hne).symm
        rw [List.getLast_eq_getElem] at this
        simpa [hl] using this
      rw [e1, List.range_succ, List.map_append]
      refine Vals.append (ih l.dropLast (by simp [hl]) fun i v hv => ?_) ?_
      · refine hi i v ?_
        rw [List.getElem?_dropLast] at hv
        split at hv
        · exact hv
        · cases hv
      · obtain ⟨t, e⟩ := hi n (l[n]'(by omega)) (List.getElem?_eq_getElem (by omega))
        exact .cons ⟨t, e⟩ .nil
  refine key n acc.toList (by simp [z1]) fun i v hv => ?_
  obtain ⟨t, e⟩ := z2 i v (by simpa using hv)
  exact ⟨t, by rw [e]; congr 1; omega⟩
section
variable {X : Cx}
def tTRng (ta : TA) : TE := fun σ H Q => ta σ H fun vs H1 => ∃ j : Int, vs = [.int j] ∧ 0 ≤ j ∧ j.toNat ≤ 2 ^ 24 ∧ ∀ l, H1 l = none → Q (.ref l) (upd H1 l (.tup ((List.range j.toNat).map fun (i : Nat) => V.int (0 + i))))
theorem pe_trange {a : Expr} {ta : TA} {p1 p2 q1 q2 : Pos} (hc : X.calm = true) (hg1 : Gl X "tuple") (hm1 : X.mg "tuple" = none) (hb1 : bootBuiltins "tuple" = some (.type "tuple")) (hg2 : Gl X "range") (hm2 : X.mg "range" = none) (ha : PA X [a] ta)
    (hs1 : starEach [.Call (.Name "range" p2) [a] [] q2] X.env = [(false, eval (.Call (.Name "range" p2) [a] [] q2) X.env)] := by rfl) (hs2 : starEach [a] X.env = [(false, eval a X.env)] := by rfl) :
    PE X (.Call (.Name "tuple" p1) [.Call (.Name "range" p2) [a] [] q2] [] q1) (tTRng ta) := by
  intro pins s σ H Q I h
  refine wpAny_Call_Name_kw (ld_blt I hg1 hm1 hb1 (PyProof.Rows.callWith_type1 ?_ hs1 rfl))
  rw [hs1]
  show wpAny _ _ (spliced [(false, eval (.Call (.Name "range" p2) [a] [] q2) X.env)]) _ _ s
  refine Calls.spliced_cons (wpAny_Call_Name_kw (ld_blt I hg2 hm2 boot_range (PyProof.Rows.callWith_type1 (thn (ha q2 pins s σ H _ I h) fun us s1 ⟨vs, H1, I1, r1, q1⟩ => ?_) hs2 rfl)))
  obtain ⟨j, e, j0, j1, q⟩ := q1
  subst e
  obtain ⟨u, rfl, r⟩ := Vals.one r1
  obtain ⟨t, rfl⟩ := r
  refine call_range_1 (Calls.spliced_nil ?_)
  refine rng_tuple (n := j.toNat) (I.ok.hd hc) (IsRange.new ..) (small_one (by omega) (by omega) (by omega) (by omega)) (by rw [rangeSize_one]; split <;> omega) j1 fun h' tk acc hk hacc => ?_
  have I2 : Inv X pins σ H1 { s1 with heap := h', toks := tk } := I1.kept (t' := tk) fun b o e => hk b o (Heap.get?_push_of_some _ e)
  have z24 : (2 : Nat) ^ 24 ≤ sizeLine := by decide
  refine ⟨.ref h'.objs.size, _, I2.laid (t' := tk) (o := .tup ((List.range j.toNat).map fun (i : Nat) => V.int (0 + i))) (fun b o e => Heap.get?_push_of_some _ e) (Nat.le_refl _) ⟨by simp; omega, acc.toList, vals_rng hacc, by rw [Array.toArray_toList]; exact IsTup.new _ _⟩, rfl, q _ (I2.hok.fresh (Nat.le_refl _))⟩
/-! ### list(range(a, b)) -/
def tLRng2 (ta : TA) : TE := fun σ H Q => ta σ H fun vs H1 => ∃ i j : Int, vs = [.int i, .int j] ∧ (0 ≤ i ∧ i ≤ j ∧ j ≤ 2 ^ 24) ∧ ∀ l, H1 l = none → Q (.ref l) (upd H1 l (.lst ((List.range (j - i).toNat).map fun (n : Nat) => V.int (i + n))))
theorem pe_lrange2 {a b : Expr} {ta : TA} {p1 p2 q1 q2 : Pos} (hc : X.calm = true) (hg1 : Gl X "list") (hm1 : X.mg "list" = none) (hg2 : Gl X "range") (hm2 : X.mg "range" = none) (ha : PA X [a, b] ta)
    (hs1 : starEach [.Call (.Name "range" p2) [a, b] [] q2] X.env = [(false, eval (.Call (.Name "range" p2) [a, b] [] q2) X.env)] := by rfl) (hs2 : starEach [a, b] X.env = (false, eval a X.env) :: starEach [b] X.env := by rfl) (hs3 : (backTo q2 (starEach [b] X.env)).any (·.1) = false := by rfl) :
    PE X (.Call (.Name "list" p1) [.Call (.Name "range" p2) [a, b] [] q2] [] q1) (tLRng2 ta) := by
  intro pins s σ H Q I h
  refine wpAny_Call_Name_kw (ld_blt I hg1 hm1 boot_lst (PyProof.Rows.callWith_type1 ?_ hs1 rfl))
  rw [hs1]
  show wpAny _ _ (spliced [(false, eval (.Call (.Name "range" p2) [a, b] [] q2) X.env)]) _ _ s
  refine Calls.spliced_cons (wpAny_Call_Name_kw (ld_blt I hg2 hm2 boot_range (PyProof.Rows.callWith_type1 (thn (ha q2 pins s σ H _ I h) fun us s1 ⟨vs, H1, I1, r1, q1⟩ => ?_) hs2 hs3)))
  obtain ⟨i, j, e, ⟨j0, j1, j2⟩, q⟩ := q1
  subst e
  obtain ⟨u, u', rfl, r, r'⟩ := r1.two
  obtain ⟨t, rfl⟩ := r
  obtain ⟨t', rfl⟩ := r'
  refine call_range_2 (Calls.spliced_nil ?_)
  have hsz : ∀ o : Obj, (s1.heap.push o).objs.size = s1.heap.objs.size + 1 := fun o => Heap.size_push ..
  refine call_list_range (n := (j - i).toNat) (I.ok.hd hc) (IsRange.new ..) (small_one (by omega) (by omega) (by omega) (by omega)) (by rw [rangeSize_one]; split <;> omega) (by omega) fun h' tk acc c' hk hS hacc => ?_
  dsimp only at hk hS
  rw [hsz] at hS ⊢
  have hold : ∀ b o, s1.heap.get? b = some o → h'.get? b = some o := fun b o e => hk b o (Heap.get?_push_of_some _ e)
  have hn := I1.hok.fresh (Nat.le_succ s1.heap.objs.size)
  have z24 : (2 : Nat) ^ 24 ≤ sizeLine := by decide
  exact ⟨.ref (s1.heap.objs.size + 1), _, I1.laid (h' := h') (t' := tk) (o := .lst ((List.range (j - i).toNat).map fun (n : Nat) => V.int (i + n))) hold (Nat.le_succ _) ⟨by simp; omega, acc.toList, c', vals_rng hacc, hS⟩, rfl, q _ hn⟩
theorem op_notInSK {K : PySem.W.Frag} (e : X.K = K) : OpR X (compareOp .NotIn) (rIn K true) := by subst e; exact op_notIn_seq
end
end L2

set_option maxHeartbeats 4000000
namespace L2
open PySem PySem.Spec PyProof.Rows
abbrev vN (ns : List Nat) : List V := ns.map fun n => V.int (n : Nat)
section
variable {X : Cx}
/-- xs.index(k) of a list of whole numbers -/
def rLIndex : V → List V → Hp → VK → Prop := fun x vs H Q => ∃ (l : Addr) (ns : List Nat) (k j : Nat), x = .ref l ∧ vs = [.int (k : Nat)] ∧ H l = some (.lst (vN ns)) ∧ ns[j]? = some k ∧ (∀ i, i < j → ns[i]? ≠ some k) ∧ Q (.int (j : Nat)) H
theorem mt_lindex : MtM X "list.index" rLIndex := by
  intro pins s σ H x vs v us Q I rx rv h
  obtain ⟨l, ns, k, j, rfl, rfl, hH, hj, hno, q⟩ := h
  cases rx
  obtain ⟨u, rfl, ru⟩ := vals1 rv
  obtain ⟨t, rfl⟩ := ru
  obtain ⟨z, its, n, r, hl, e⟩ := I.lstM hH
  have at_ : ∀ (i : Nat) (m : Nat), ns[i]? = some m → ∃ t', its[i]? = some (Value.int (m : Nat) t') := fun i m hm => by
    obtain ⟨u, hu, ru⟩ := r.get (i := i) (x := V.int (m : Nat)) (by rw [List.getElem?_map, hm]; rfl)
    obtain ⟨t', rfl⟩ := ru
    exact ⟨t', hu⟩
  have hlen : its.length = ns.length := by rw [← hl, List.length_map]
  have el : ∀ (i : Nat) (hi : i < its.toArray.size), ∃ t', its.toArray[i] = Value.int (ns.getD i 0 : Nat) t' := fun i hi => by
    have hi' : i < its.length := by simpa using hi
    obtain ⟨t', ht⟩ := at_ i (ns.getD i 0) (by rw [List.getD_eq_getElem?_getD, List.getElem?_eq_getElem (by omega)]; rfl)
    refine ⟨t', ?_⟩
    have : its[i] = Value.int (ns.getD i 0 : Nat) t' := by
      rw [List.getElem?_eq_getElem hi'] at ht; exact Option.some.inj ht
    simpa using this
  have hjl : j < its.length := by rw [hlen]; exact (List.getElem?_eq_some_iff.mp hj).1
  have zz : sizeLine < 2 ^ 62 := by decide
  refine call_meets F.slot_list_index ⟨_, e, rfl⟩ F.entry_list_index (F.args_list_index_2 _ _)
    (MeetsSeq.list_index l its.toArray n (.int (k : Nat) t) (isInt (k : Nat)) (fun y hy => ?_) j (by simpa using hjl) (by omega) ?_ fun m hm hlt => ?_) ⟨e, ?_⟩
  · obtain ⟨i, hi, rfl⟩ := Array.mem_iff_getElem.mp hy
    obtain ⟨t', ht⟩ := el i hi
    rw [ht]
    exact MeetsSeq.EqGives.int _ _ t' t
  · obtain ⟨t', ht⟩ := el j (by simpa using hjl)
    rw [ht]
    have : ns.getD j 0 = k := by rw [List.getD_eq_getElem?_getD, hj]; rfl
    rw [this]
    show decide (((k : Nat) : Int) = (k : Nat)) = true
    exact decide_eq_true rfl
  · obtain ⟨t', ht⟩ := el m hm
    rw [ht]
    have hml : m < ns.length := by rw [← hlen]; simpa using hm
    have : ns.getD m 0 ≠ k := fun z => hno m hlt (by rw [← z, List.getD_eq_getElem?_getD, List.getElem?_eq_getElem hml]; rfl)
    show decide (((ns.getD m 0 : Nat) : Int) = (k : Nat)) = false
    exact decide_eq_false (by omega)
  · exact ⟨.int (j : Nat), H, I.tok _, ⟨_, rfl⟩, q⟩
/-- the greatest of a list of whole numbers -/
theorem call_maxL {K : PySem.W.Frag} (eK : X.K = K) (hc : X.calm = true) : CallR X (.builtin "max") (fun xs H Q => ∃ (p : Addr) (ns : List Int), xs = [.ref p] ∧ SqL K H p (ns.map V.int) ∧ 0 < ns.length ∧ ∀ M : Int, M ∈ ns → (∀ a ∈ ns, a ≤ M) → Q (.int M) H) := by
  subst eK
  intro pins s σ H xs us Q I r h
  obtain ⟨p, ns, rfl, hq, hne, q⟩ := h
  obtain ⟨u, rfl, r1⟩ := vals1 r
  cases r1
  obtain ⟨its, rv, pl, hz⟩ := I.list hq
  have hi : IntsAre its ns := intsAre_of rv
  have hl : s.heap.IsList p its.toArray := by
    obtain ⟨o, n, e, c, _, d⟩ := pl
    exact ⟨o, e, c, n, d⟩
  obtain ⟨xv, hx⟩ := hi.allInts.items
  have hl' : s.heap.IsList p (intItems xv) := hx ▸ hl
  have hns : ns = xv.toList.map (·.1) := by
    rw [← nums_intItems, ← hx]
    exact (show numsOf its.toArray.toList = ns from hi.numsOf).symm
  have hsz : 0 < xv.size := by rw [hns, List.length_map, Array.length_toList] at hne; exact hne
  refine max_intList (I.ok.hd hc) hl' hsz fun v h' tk hv hk => ?_
  obtain ⟨tv, rfl⟩ := intItems_at hv
  obtain ⟨b1, b2⟩ := argBest_gt (numAt xv) (xv.size - 1)
  refine ⟨.int _, H, I.kept hk, ⟨tv, rfl⟩, q _ ?_ fun a ha => ?_⟩
  · rw [hns, numAt_eq]
    exact getD_mem (by rw [List.length_map, Array.length_toList]; omega)
  · rw [hns] at ha
    obtain ⟨z, hz', rfl⟩ := mem_getD ha
    rw [List.length_map] at hz'
    rw [Array.length_toList] at hz'
    rw [← numAt_eq]
    exact b2 z (by omega)
end
end L2

namespace Trn
/-- places[start] = place for place, start in enumerate(turn) -/
def bk : List Nat → Nat → List Nat → List Nat
  | [], _, acc => acc
  | n :: r, i, acc => bk r (i + 1) (acc.set n i)
def backL (ns : List Nat) : List Nat := bk ns 0 (List.replicate ns.length 0)
def turnL {α : Type} [Inhabited α] (row : List α) (ns : List Nat) : List α := ns.map fun n => row.getD n default
theorem bk_length : ∀ (ns : List Nat) (i : Nat) (acc : List Nat), (bk ns i acc).length = acc.length
  | [], _, _ => rfl
  | n :: r, i, acc => by unfold bk; rw [bk_length, List.length_set]
theorem bk_out : ∀ (ns : List Nat) (i : Nat) (acc : List Nat) (m : Nat), m ∉ ns → (bk ns i acc)[m]? = acc[m]?
  | [], _, _, _, _ => rfl
  | n :: r, i, acc, m, h => by
    unfold bk
    rw [bk_out r (i + 1) _ m (fun z => h (List.mem_cons_of_mem _ z)), List.getElem?_set_ne]
    rintro rfl; exact h List.mem_cons_self
theorem bk_in : ∀ (ns : List Nat) (i : Nat) (acc : List Nat), ns.Nodup → (∀ n ∈ ns, n < acc.length) → ∀ j m, ns[j]? = some m → (bk ns i acc)[m]? = some (i + j)
  | [], _, _, _, _, _, _, e => by simp at e
  | n :: r, i, acc, nd, hl, 0, m, e => by
    simp at e; subst e
    unfold bk
    rw [bk_out r (i + 1) _ n (List.nodup_cons.mp nd).1, List.getElem?_set_self (hl n List.mem_cons_self)]; rfl
  | n :: r, i, acc, nd, hl, j + 1, m, e => by
    unfold bk
    have := bk_in r (i + 1) (acc.set n i) (List.nodup_cons.mp nd).2 (fun x hx => by rw [List.length_set]; exact hl x (List.mem_cons_of_mem _ hx)) j m (by simpa using e)
    rw [this]; congr 1; omega
/-- a turning of n places -/
structure Tn (n : Nat) (ns : List Nat) : Prop where
  len : ns.length = n
  lt : ∀ m ∈ ns, m < n
  nd : ns.Nodup
theorem tn_of_perm {n : Nat} {ns : List Nat} (h : ns.Perm (List.range n)) : Tn n ns :=
  ⟨by rw [h.length_eq, List.length_range], fun m hm => List.mem_range.mp (h.mem_iff.mp hm), h.nodup_iff.mpr List.nodup_range⟩
theorem back_at {n : Nat} {ns : List Nat} (h : Tn n ns) {j m : Nat} (e : ns[j]? = some m) : (backL ns)[m]? = some j := by
  have := bk_in ns 0 (List.replicate ns.length 0) h.nd (fun x hx => by rw [List.length_replicate, h.len]; exact h.lt x hx) j m e
  rw [Nat.zero_add] at this; exact this
theorem back_len (ns : List Nat) : (backL ns).length = ns.length := by unfold backL; rw [bk_length, List.length_replicate]
/-- a finite pigeonhole -/
theorem few : ∀ (n : Nat) (ns : List Nat), ns.Nodup → (∀ m ∈ ns, m < n) → ns.length ≤ n
  | 0, [], _, _ => Nat.le_refl _
  | 0, m :: _, _, h => absurd (h m List.mem_cons_self) (Nat.not_lt_zero _)
  | n + 1, ns, nd, h => by
    have h1 := few n (ns.erase n) (nd.erase n) fun m hm => by
      have h2 := h m (List.mem_of_mem_erase hm)
      have h3 : m ≠ n := ((nd.mem_erase_iff).mp hm).1
      omega
    have h4 := List.length_erase (l := ns) (a := n)
    split at h4 <;> omega
theorem tn_all {n : Nat} {ns : List Nat} (h : Tn n ns) (m : Nat) (hm : m < n) : m ∈ ns := by
  by_cases hc : m ∈ ns
  · exact hc
  · have := few n (m :: ns) (List.nodup_cons.mpr ⟨hc, h.nd⟩) fun x hx => by
      rcases List.mem_cons.mp hx with rfl | hx
      · exact hm
      · exact h.lt x hx
    rw [List.length_cons, h.len] at this
    omega
theorem back_tn {n : Nat} {ns : List Nat} (h : Tn n ns) : Tn n (backL ns) := by
  have hl : (backL ns).length = n := by rw [back_len, h.len]
  have at_ : ∀ i, i < n → ∃ j, ns[j]? = some i ∧ (backL ns)[i]? = some j := fun i hi => by
    obtain ⟨j, hj, e⟩ := List.getElem_of_mem (tn_all h i hi)
    have e' : ns[j]? = some i := by rw [List.getElem?_eq_getElem hj, e]
    exact ⟨j, e', back_at h e'⟩
  refine ⟨hl, fun m hm => ?_, ?_⟩
  · obtain ⟨i, hi, e⟩ := List.getElem_of_mem hm
    obtain ⟨j, e1, e2⟩ := at_ i (by omega)
    rw [List.getElem?_eq_getElem hi, e] at e2
    have := (List.getElem?_eq_some_iff.mp e1).1
    rw [h.len] at this
    cases e2; exact this
  · rw [List.nodup_iff_pairwise_ne, List.pairwise_iff_getElem]
    intro i j hi hj hij e
    obtain ⟨a, a1, a2⟩ := at_ i (by omega)
    obtain ⟨b, b1, b2⟩ := at_ j (by omega)
    rw [List.getElem?_eq_getElem hi] at a2
    rw [List.getElem?_eq_getElem hj] at b2
    have : a = b := by
      have x := Option.some.inj a2; have y := Option.some.inj b2; rw [← x, ← y, e]
    subst this
    rw [a1] at b1; have := Option.some.inj b1; omega
theorem back_back {n : Nat} {ns : List Nat} (h : Tn n ns) : backL (backL ns) = ns := by
  refine List.ext_getElem? fun j => ?_
  by_cases hj : j < ns.length
  · have e : ns[j]? = some ns[j] := List.getElem?_eq_getElem hj
    rw [e]; exact back_at (back_tn h) (back_at h e)
  · rw [List.getElem?_eq_none (by rw [back_len, back_len]; omega), List.getElem?_eq_none (by omega)]
theorem turn_back {α : Type} [Inhabited α] {row : List α} {n : Nat} {ns : List Nat} (h : Tn n ns) (hr : row.length = n) : turnL (turnL row ns) (backL ns) = row := by
  unfold turnL
  refine List.ext_getElem? fun i => ?_
  rw [List.getElem?_map]
  by_cases hi : i < n
  · obtain ⟨j, hj, e⟩ := List.getElem_of_mem (tn_all h i hi)
    have e' : ns[j]? = some i := by rw [List.getElem?_eq_getElem hj, e]
    rw [back_at h e']
    show some ((ns.map fun n => row.getD n default).getD j default) = row[i]?
    rw [List.getD_eq_getElem?_getD, List.getElem?_map, e']
    show some (row.getD i default) = row[i]?
    rw [List.getD_eq_getElem?_getD, List.getElem?_eq_getElem (by omega)]; rfl
  · rw [List.getElem?_eq_none (by rw [back_len, h.len]; omega), List.getElem?_eq_none (by omega)]; rfl
/-- the law's stood -/
theorem stood {n : Nat} {ns : List Nat} (h : Tn n ns) : (List.range n).map (fun i => (backL ns).getD (ns.getD i 0) 0) = List.range n := by
  refine (List.map_congr_left fun i hi => ?_).trans (List.map_id _)
  have hi' : i < ns.length := by rw [h.len]; exact List.mem_range.mp hi
  have e : ns[i]? = some ns[i] := List.getElem?_eq_getElem hi'
  rw [List.getD_eq_getElem?_getD, List.getD_eq_getElem?_getD, e]
  show (backL ns)[ns[i]]?.getD 0 = i
  rw [back_at h e]; rfl
/-- the row of places that are left, and those that were taken -/
theorem take_perm {left found : List Nat} {n k : Nat} (h : (found ++ left).Perm (List.range n)) (hk : k < left.length) : (found ++ [left[k]] ++ left.eraseIdx k).Perm (List.range n) := by
  refine List.Perm.trans ?_ h
  rw [List.append_assoc]
  refine List.Perm.append_left _ ?_
  have e : left = left.take k ++ left[k] :: left.drop (k + 1) := by rw [List.getElem_cons_drop, List.take_append_drop]
  rw [List.eraseIdx_eq_take_drop_succ]
  exact (List.perm_middle (a := left[k]) (l₁ := left.take k) (l₂ := left.drop (k + 1))).symm.trans (by rw [← e])
end Trn
namespace Trn
theorem bk_snoc : ∀ (l : List Nat) (n i : Nat) (acc : List Nat), bk (l ++ [n]) i acc = (bk l i acc).set n (i + l.length)
  | [], _, _, _ => rfl
  | m :: l, n, i, acc => by
    show bk (l ++ [n]) (i + 1) (acc.set m i) = _
    rw [bk_snoc l n (i + 1)]
    show (bk l (i + 1) (acc.set m i)).set n (i + 1 + l.length) = (bk l (i + 1) (acc.set m i)).set n (i + (l.length + 1))
    congr 1; omega
end Trn

set_option maxHeartbeats 4000000
namespace L2
open PySem PySem.Spec PyProof.Rows
/-! ### lambdas: a function object that takes cells along -/
/-- what is static: the lambda's scope sc in a frame's scope; ps: its parameters, cap: the names that it takes along -/
structure LamScope (fr sc : Scope) (ps cap : List Str) : Prop where
  kind : sc.kind = .function
  co : sc.isCoroutine = false
  gen : sc.isGenerator = false
  cell : ∀ p ∈ sc.names, p.2 ≠ .cell
  par : ∀ y ∈ ps, sc.names.lookup y = some .local
  free : ∀ p ∈ sc.names, p.2 = .free → fr.names.lookup p.1 = some .cell
  caps : ∀ y ∈ cap, (y, NameKind.free) ∈ sc.names
  capl : ∀ y ∈ cap, sc.names.lookup y = some .free
  nd : (ps ++ cap).Nodup
/-- the function object at f, known for good, with its code object -/
def IsLam (H : Hp) (f : Addr) (q : Str) (params : Arguments) (body : Expr) (sc : Scope) (cl : List (Str × Addr)) : Prop :=
  ∃ (pm ctv : Value) (c' : Addr) (oc : Obj), H f = some (.frz (PySem.W.kla_obj "<lambda>" q params body sc cl pm c' ctv) (.own f)) ∧ H c' = some (.frz oc (.own c')) ∧ CodeOf oc q
/-- the cells that are taken along, and what they hold -/
structure CellsAre (s : Shared) (H : Hp) (cl : List (Str × Addr)) (cap : List Str) (vals : St) : Prop where
  inj : ∀ x y c, cl.lookup x = some c → cl.lookup y = some c → x = y
  isc : ∀ x c, cl.lookup x = some c → (∃ v, s.heap.IsCell c v) ∧ H c = none
  val : ∀ (i : Nat) (y : Str) (v : V), cap[i]? = some y → vals[i]? = some (some v) → ∃ c u, cl.lookup y = some c ∧ s.heap.IsCell c (some u) ∧ RelV v u
theorem codeRec_frz {P : Program} {w : World} {H : Hp} {h : Heap} {c : Addr} {oc : Obj} {q : Str} (ok : HOk P w H h) (e : H c = some (.frz oc (.own c))) (hc : CodeOf oc q) : h.CodeRec (.ref c) q := by
  obtain ⟨e1, _⟩ := ok c _ e
  obtain ⟨vs, t, d1, d2⟩ := hc
  exact ⟨c, oc, vs, t, rfl, e1, d1, d2⟩
theorem CellsAre.un {s s' : Shared} {H H' : Hp} {cl : List (Str × Addr)} {cap : List Str} {vals : St} {fs : List Addr} (C : CellsAre s H cl cap vals) (u : Un fs [] H H' s.heap s'.heap) : CellsAre s' H' cl cap vals := by
  have kc : ∀ c v, H c = none → s.heap.IsCell c v → s'.heap.IsCell c v := fun c v n ⟨o, ho, hd⟩ => by
    obtain ⟨sl, e⟩ := u.any ho n (by simp)
    exact ⟨_, e, hd⟩
  refine ⟨C.inj, fun x c h => ?_, fun i y v h1 h2 => ?_⟩
  · obtain ⟨⟨v, hv⟩, n⟩ := C.isc x c h
    obtain ⟨o, ho, hd⟩ := id hv
    exact ⟨⟨v, kc c v n hv⟩, u.free c o ho n (by simp)⟩
  · obtain ⟨c, w, e1, e2, r⟩ := C.val i y v h1 h2
    exact ⟨c, w, e1, kc c _ (C.isc y c e1).2 e2, r⟩
theorem IsLam.same {H H' : Hp} {f : Addr} {q : Str} {params : Arguments} {body : Expr} {sc : Scope} {cl : List (Str × Addr)} (L : IsLam H f q params body sc cl) (k : ∀ b o u, H b = some (.frz o u) → H' b = some (.frz o u)) : IsLam H' f q params body sc cl :=
  let ⟨pm, ctv, c', oc, h1, h2, h3⟩ := L; ⟨pm, ctv, c', oc, k _ _ _ h1, k _ _ _ h2, h3⟩
theorem lookup_mem {α : Type} {y : Str} {u : α} : ∀ {l : List (Str × α)}, (l.map (·.1)).Nodup → (y, u) ∈ l → l.lookup y = some u
  | [], _, h => by simp at h
  | (z, v) :: l, nd, h => by
    rw [List.lookup_cons]
    rw [List.map_cons, List.nodup_cons] at nd
    rcases List.mem_cons.mp h with e | h
    · cases e; simp
    · have : y ≠ z := fun e => nd.1 (e ▸ List.mem_map_of_mem (f := (·.1)) h)
      have hb : (y == z) = false := by simpa using this
      rw [hb]
      exact lookup_mem nd.2 h
theorem zip_fst {α β : Type} : ∀ (l : List α) (m : List β), (l.zip m).map (·.1) = l.take m.length
  | [], _ => by simp
  | _ :: _, [] => by simp
  | a :: l, b :: m => by
    rw [List.zip_cons_cons, List.map_cons, List.length_cons, List.take_succ_cons, zip_fst l m]
theorem lookup_rev {α : Type} {ps : List Str} {us : List α} {i : Nat} {y : Str} {u : α} (nd : ps.Nodup) (hp : ps[i]? = some y) (hu : us[i]? = some u) : (ps.zip us).reverse.lookup y = some u := by
  refine lookup_mem ?_ ?_
  · rw [List.map_reverse]
    refine (List.reverse_perm _).nodup_iff.mpr ?_
    rw [zip_fst]
    exact nd.sublist (List.take_sublist _ _)
  · rw [List.mem_reverse]
    refine List.mem_of_getElem? (i := i) ?_
    rw [List.getElem?_zip_eq_some]
    exact ⟨hp, hu⟩
/-- the lambda's context, at its entry -/
def lamCx (P : Program) (w : World) (K : PySem.W.Frag) (mg : Str → Option Value) (base : Heap) (N : List Str) (q : Str) (sc : Scope) (f c' : Addr) (cl : List (Str × Addr)) (A : Around) (outer : List Env) (s : Shared) (H : Hp) : Cx where
  prog := P
  w := w
  K := K
  mg := mg
  base := base
  A := A.deeper (PySem.W.envX q sc s.heap.objs.size f (.ref c') cl)
  N := N
  s₀ := s
  H₀ := H
  env := PySem.W.envX q sc s.heap.objs.size f (.ref c') cl
  outer := outer
  stack := PySem.W.envX q sc s.heap.objs.size f (.ref c') cl :: outer
  ex := []
  calm := true
  fn := fun _ => false
  pn := []
  xe := fun _ _ => False
section
variable {P : Program} {w : World} {K : PySem.W.Frag} {mg : Str → Option Value} {base : Heap} {A : Around} {outer : List Env} {s : Shared} {H : Hp} {f : Addr} {q : Str} {params : Arguments} {body : Expr} {fr sc : Scope} {cl : List (Str × Addr)} {ps cap : List Str}
theorem lam_inv {c' : Addr} {us : List Value} {vs : List V} {vals : St} {h₁ : Heap} {tk : Nat} (S : LamScope fr sc ps cap) (hcap : ∀ y, sc.names.lookup y = some .free → ∃ c, cl.lookup y = some c) (hd : A.handled = none) (e0 : Env0 P w K mg base A outer s H) (hl : vs.length = ps.length) (hv : vals.length = cap.length) (r : Vals vs us) (C : CellsAre s H cl cap vals)
    (hns : h₁.Ns s.heap.objs.size (fun x => (ps.zip us).reverse.lookup x)) (hk : ∀ b o, s.heap.get? b = some o → h₁.get? b = some o) :
    Inv (lamCx P w K mg base (ps ++ cap) q sc f c' cl A outer s H) [] (vs.map some ++ vals) H { s with heap := h₁, toks := tk } := by
  have noA : ∀ b : Addr, b ∉ (lamCx P w K mg base (ps ++ cap) q sc f c' cl A outer s H).ex := fun b z => absurd (show b ∈ ([] : List Addr) from z) (by simp)
  have ndp : ps.Nodup := (List.nodup_append.mp S.nd).1
  refine ⟨⟨e0.mod, S.kind, rfl, rfl, Nat.le_refl _, C.inj, fun y hy => ?_, (fun y c h => Bool.noConfusion h), fun _ => hd, Around.frames_deeper e0.frames, .inr ⟨rfl, rfl⟩, fun b z => absurd z (noA b), e0.bs, e0.bsz, fun b _ _ => noA b, fun b z => absurd z (noA b), e0.funs, e0.frf⟩,
    rfl, e0.bare, Un.kept hk, ⟨_, hns, fun i y v h1 h2 h3 => ?_⟩, fun y c h => ?_, e0.hok.fresh (Nat.le_refl _), fun y c h => (C.isc y c h).2, fun p hp => absurd (show p ∈ ([] : List (Addr × Obj)) from hp) (by simp), e0.hok.kept hk, ?_⟩
  · have hy : sc.names.lookup y = some .cell ∨ sc.names.lookup y = some .free := hy
    rcases hy with hy | hy
    · exact absurd rfl (S.cell _ (PySem.mem_of_lookup hy))
    · exact hcap y hy
  · by_cases hi : i < ps.length
    · have hp : ps[i]? = some y := by
        have : (ps ++ cap)[i]? = some y := h1
        rw [List.getElem?_append_left hi] at this; exact this
      have ha : vs[i]? = some v := by
        rw [List.getElem?_append_left (by rw [List.length_map]; omega), List.getElem?_map] at h2
        cases e : vs[i]? with
        | none => rw [e] at h2; cases h2
        | some a => rw [e] at h2; cases h2; rfl
      obtain ⟨u, hu, rv⟩ := r.get ha
      refine ⟨u, rv, .inl ⟨S.par y (List.mem_of_getElem? hp), ?_⟩⟩
      exact lookup_rev ndp hp hu
    · have hc : cap[i - ps.length]? = some y := by
        have : (ps ++ cap)[i]? = some y := h1
        rw [List.getElem?_append_right (by omega)] at this; exact this
      have ha : vals[i - ps.length]? = some (some v) := by
        rw [List.getElem?_append_right (by rw [List.length_map]; omega), List.length_map, hl] at h2; exact h2
      obtain ⟨c, u, e1, e2, rv⟩ := C.val _ y v hc ha
      obtain ⟨o, ho, hd'⟩ := e2
      exact ⟨u, rv, .inr ⟨.inr (S.capl y (List.mem_of_getElem? hc)), c, e1, o, hk _ _ ho, hd'⟩⟩
  · obtain ⟨⟨v, o, ho, hd'⟩, _⟩ := C.isc y c h
    exact ⟨v, o, hk _ _ ho, hd'⟩
  · show (vs.map some ++ vals).length = (ps ++ cap).length
    rw [List.length_append, List.length_append, List.length_map, hl, hv]
/-- calling it -/
theorem lam_run {k : Nat} {us : List Value} {vs : List V} {vals : St} {te : TE} {Q : VK} {E : XK} (S : LamScope fr sc ps cap) (hcap : ∀ y, sc.names.lookup y = some .free → ∃ c, cl.lookup y = some c) (hr : Room (k + 1) A) (e0 : Env0 P w K mg base A outer s H) (L : IsLam H f q params body sc cl) (C : CellsAre s H cl cap vals)
    (hbind : ∀ (pm ctv : Value) (c' : Addr), bindArgs (PySem.W.kla_fn "<lambda>" q params body sc cl pm (.ref c') ctv) ⟨us, []⟩ = pure (ps.zip us)) (hl : vs.length = ps.length) (hv : vals.length = cap.length) (r : Vals vs us)
    (hbody : ∀ c', Room k (A.deeper (PySem.W.envX q sc s.heap.objs.size f (.ref c') cl)) → PE (lamCx P w K mg base (ps ++ cap) q sc f c' cl A outer s H) body te) (hq : te (vs.map some ++ vals) H Q) :
    codeAny (model P w) A (.call (.ref f) ⟨us, []⟩) (CR CX0 outer P w H s Q E) s := by
  obtain ⟨pm, ctv, c', oc, h1, h2, h3⟩ := L
  obtain ⟨ho, _⟩ := e0.hok f _ h1
  have lim : s.heap.NoLimit := e0.mod.nolimit.keeps fun b o e => (e0.bs b o e).1
  refine PySem.W.kla_callFunE hr.depth ho rfl S.co S.gen rfl (codeRec_frz e0.hok h2 h3) ?_
  rw [hbind pm ctv c']
  refine wpAny_pure (wpAny_newFunctionEnv S.cell (fun y hy => S.par y.1 (List.of_mem_zip hy).1) (fun h₁ hns hsb => ⟨lim.fresh _ hsb, ?_⟩) S.kind)
  have old1 : ∀ b u, s.heap.get? b = some u → h₁.get? b = some u := fun b u e =>
    hsb.extBut b u (Nat.ne_of_lt (Heap.lt_size e)) (Heap.get?_push_of_some _ e)
  have I := lam_inv (tk := s.toks + (ps.zip us).length) (f := f) (q := q) (c' := c') S hcap hr.hd e0 hl hv r C hns old1
  refine PySem.W.kla_codeExpr (wpAny_mono (hbody c' (hr.deeper _) [] _ _ H Q I hq) (fun v s' hs => ?_) fun e s' z => z.elim)
  obtain ⟨x, H', J, rv, q'⟩ := hs
  exact ⟨x, H', J.os, J.bare, J.base, J.hok, rv, q'⟩
end
end L2

set_option maxHeartbeats 4000000
namespace L2
open PySem PySem.Spec PyProof.Rows
/-- the module that the main module names as its builtins -/
def BM (mg : Str → Option Value) (h : Heap) : Prop := ∃ bm ob, mg "__builtins__" = some (.ref bm) ∧ bm ≠ builtinsNs ∧ h.get? bm = some ob ∧ ob.cls = .type "module" ∧ ob.dict = some builtinsNs ∧ ob.data = .plain
theorem among_snoc {pos pos' : Pos} {c v : Value} : ∀ (l : List Value), TriplesOk l → codeAmong pos' (l ++ [rawInt pos.line, rawInt pos.col, c]) = some v → codeAmong pos' l = some v ∨ (pos'.line = pos.line ∧ pos'.col = pos.col ∧ v = c) := by
  intro l h
  fun_induction TriplesOk l
    with
  | case1 =>
    intro e
    simp only [List.nil_append, rawInt, codeAmong] at e
    split at e
    · rename_i hc
      simp at hc
      cases e
      exact .inr ⟨by omega, by omega, rfl⟩
    · cases e
  | case2 a t b u x rest ih =>
    intro e
    simp only [List.cons_append, codeAmong] at e ⊢
    split at e
    · rename_i hc; rw [if_pos hc]; exact .inl e
    · rename_i hc; rw [if_neg hc]; exact ih h e
  | case3 l z1 z2 => exact False.elim h
section
variable {X : Cx} {pins : List (Addr × Obj)} {σ : St} {H : Hp} {s : Shared} {sc : Scope} {ps cap : List Str} {P c : Addr} {cr : Nat → Nat → Option Str} {q : Str} {params : Arguments} {body : Expr} {pos : Pos}
theorem LamScope.cells (S : LamScope X.env.scope sc ps cap) (ok : X.Ok) : ∀ p ∈ sc.names, p.2 = .free → ∃ c, X.env.cells.lookup p.1 = some c :=
  fun p hp e => ok.has p.1 (.inl (S.free p hp e))
theorem LamScope.sub (S : LamScope X.env.scope sc ps cap) (ok : X.Ok) {y : Str} {c : Addr} (h : (clOf X.env sc.names []).lookup y = some c) : X.env.cells.lookup y = some c :=
  clOf_mem (S.cells ok) (fun _ _ z => by simp at z) h
/-- what the frame's cells hold -/
theorem Inv.cellsAre (I : Inv X pins σ H s) (S : LamScope X.env.scope sc ps cap) {js : List Nat} (hjs : js.map (fun j => X.N[j]?) = cap.map some) : CellsAre s H (clOf X.env sc.names []) cap (capV σ js) := by
  have ok := I.ok
  refine ⟨fun x y c h1 h2 => ok.inj x y c (S.sub ok h1) (S.sub ok h2), fun x c h => ⟨I.cell x c (S.sub ok h), I.freeC x c (S.sub ok h)⟩, fun i y v e1 e2 => ?_⟩
  have hy : y ∈ cap := List.mem_of_getElem? e1
  unfold capV at e2
  rw [List.getElem?_map] at e2
  cases ej : js[i]? with
  | none => rw [ej] at e2; cases e2
  | some j =>
    rw [ej] at e2
    have e2'' : (σ[j]?).join = some v := Option.some.inj e2
    have eN : X.N[j]? = some y := by
      have := congrArg (fun l => l[i]?) hjs
      simp only [List.getElem?_map, ej, e1, Option.map_some] at this
      exact Option.some.inj this
    have eσ : σ[j]? = some (some v) := by
      cases z : σ[j]? with
      | none => rw [z] at e2''; cases e2''
      | some w' =>
        rw [z] at e2''
        have : w' = some v := by simpa using e2''
        rw [this]
    have kc : X.env.scope.names.lookup y = some .cell := S.free (y, .free) (S.caps y hy) rfl
    obtain ⟨m0, hn0, hl0⟩ := I.loc
    obtain ⟨u, ru, lk⟩ := hl0 j y v eN eσ (.inr (.inl kc))
    rcases lk with ⟨k, _⟩ | ⟨_, c, ec, hc⟩
    · have k' : X.env.scope.names.lookup y = some .local := k
      rw [kc] at k'; cases k'
    · obtain ⟨c', hc'⟩ := Option.isSome_iff_exists.mp (clOf_has (env := X.env) (acc := []) (S.caps y hy))
      have hcc : c' = c := Option.some.inj ((S.sub ok hc').symm.trans ec)
      subst hcc
      exact ⟨c', u, hc', hc, ru⟩
/-- lambda ..: .. -/
def tLam (P : Addr) (cr : Nat → Nat → Option Str) (q : Str) (params : Arguments) (body : Expr) (sc : Scope) (cl : List (Str × Addr)) : TE := fun σ H Q => H P = some (.tbl cr) ∧ ∀ f H', H f = none → Same H H' → IsLam H' f q params body sc cl → Q (.ref f) H'
theorem pe_lam (S : LamScope X.env.scope sc ps cap) (hcode : X.env.code = .ref c) (C : PySem.W.CodeHd X.base c P) (hbm : BM X.mg X.base) (hq : q = X.env.qual ++ "<lambda>") (hcr : cr pos.line pos.col = some q) (hdef : defaultsOf params X.env = ([], []) := by rfl) :
    PE X (.Lambda params body sc pos) (tLam P cr q params body sc (clOf X.env sc.names [])) := by
  intro pins s σ H Q I h
  obtain ⟨hP, h⟩ := h
  refine PySem.W.kla_eval hdef ?_
  rw [← hq]
  obtain ⟨tb, hget, ht3, hcodes⟩ := I.hok P _ hP
  have hg : s.heap.Ns mainGlobals X.mg := I.mod.glob.keeps I.bk
  have hgP : mainGlobals ≠ P := fun z => by
    obtain ⟨o, es, ep, e, hd, _⟩ := hg
    rw [z, hget] at e; cases e; cases hd
  have hb : s.heap.BuiltinsAt X.mg P := by
    obtain ⟨bm, ob, b1, b2, b3, b4, b5, b6⟩ := hbm
    have e := I.bk _ _ b3
    refine ⟨bm, ob, b1, b2, fun z => ?_, fun z => ?_, e, b4, b5, b6⟩
    · obtain ⟨o, es, ep, e', hd, _⟩ := hg
      rw [← z, e] at e'; cases e'; rw [b6] at hd; cases hd
    · rw [z, hget] at e; cases e; cases b4
  have hcl : closureFor sc X.env = pure (clOf X.env sc.names []) := closureFor_eq (S.cells I.ok)
  cases hf : codeAmong pos tb.toList with
  | some cv =>
    obtain ⟨c', oc, q', rfl, e2, e3, e4⟩ := hcodes pos cv hf
    rw [hcr] at e2; cases e2
    refine PySem.W.kla_makeFunctionHit hcl I.ok.glob hg hcode (C.keeps I.bk) hget ht3 hf hb fun ctv h' tk hk hsz => ?_
    have hfr : H h'.objs.size = none := I.hok.fresh hsz
    refine ⟨.ref h'.objs.size, upd H h'.objs.size (.frz (PySem.W.kla_obj "<lambda>" q params body sc (clOf X.env sc.names []) ((X.mg "__name__").getD .none) c' ctv) (.own h'.objs.size)), I.laid (t' := tk) (fun b u e => Heap.get?_push_of_some _ (hk b u e)) hsz ⟨Heap.get?_push_size _ rfl, _, Heap.get?_push_size _ rfl⟩, rfl, h _ _ hfr (fun b u e => by rw [upd_ne (ne_of_none e hfr)]; exact e) ⟨_, _, c', oc, upd_same, ?_, e4⟩⟩
    rw [upd_ne (ne_of_none e3 hfr)]; exact e3
  | none =>
    refine PySem.W.kla_makeFunction hcl I.ok.glob hg hcode (C.keeps I.bk) hget ht3 hf hgP hb fun c' ctv h' tk hx hge hlt hrec htb => ?_
    obtain ⟨c2, oc, vs, tt, e2, hoc, hd, hv⟩ := hrec
    cases e2
    have hcn : H c' = none := I.hok.fresh hge
    have hsz : s.heap.objs.size ≤ h'.objs.size := Nat.le_of_lt (Nat.lt_of_le_of_lt hge hlt)
    have hfr : H h'.objs.size = none := I.hok.fresh hsz
    have hcf : c' ≠ h'.objs.size := Nat.ne_of_lt hlt
    have hPc : P ≠ c' := ne_of_none hP hcn
    have hPf : P ≠ h'.objs.size := ne_of_none hP hfr
    -- the new abstract heap
    have sm : ∀ b u, H b = some u → upd (upd H c' (.frz oc (.own c'))) h'.objs.size (.frz (PySem.W.kla_obj "<lambda>" q params body sc (clOf X.env sc.names []) ((X.mg "__name__").getD .none) c' ctv) (.own h'.objs.size)) b = some u := fun b u e => by
      rw [upd_ne (ne_of_none e hfr), upd_ne (ne_of_none e hcn)]; exact e
    have cc : upd (upd H c' (.frz oc (.own c'))) h'.objs.size (.frz (PySem.W.kla_obj "<lambda>" q params body sc (clOf X.env sc.names []) ((X.mg "__name__").getD .none) c' ctv) (.own h'.objs.size)) c' = some (.frz oc (.own c')) := by
      rw [upd_ne hcf, upd_same]
    have hk : ∀ b o, b ≠ P → s.heap.get? b = some o → (h'.push (PySem.W.kla_obj "<lambda>" q params body sc (clOf X.env sc.names []) ((X.mg "__name__").getD .none) c' ctv)).get? b = some o := fun b o hb e => Heap.get?_push_of_some _ (hx b o hb e)
    refine ⟨.ref h'.objs.size, _, I.un (t' := tk) ⟨fun b o e n _ _ => hk b o (fun z => by rw [z, hP] at n; cases n) e, fun b o e n _ _ => ⟨o.slots, hk b o (fun z => by rw [z, hP] at n; cases n) e⟩, fun b o e n _ => ?_, fun b o e _ => ?_, fun b xs e => sm b _ e, fun b o u e => sm b _ e, fun b r e => sm b _ e⟩ ?_, rfl, h _ _ hfr sm ⟨_, _, c', oc, upd_same, cc, vs, tt, hd, hv⟩⟩
    · have h1 : b ≠ c' := Nat.ne_of_lt (Nat.lt_of_lt_of_le (Heap.lt_size e) hge)
      have h2 : b ≠ h'.objs.size := Nat.ne_of_lt (Nat.lt_of_lt_of_le (Heap.lt_size e) hsz)
      rw [upd_ne h2, upd_ne h1]; exact n
    · by_cases hb : b = P
      · subst hb; exact ⟨_, Heap.get?_push_of_some _ htb⟩
      · exact ⟨o, hk b o hb e⟩
    · intro b u e
      by_cases h1 : b = h'.objs.size
      · subst h1
        rw [upd_same] at e; cases e
        exact ⟨Heap.get?_push_size _ rfl, _, Heap.get?_push_size _ rfl⟩
      · by_cases h2 : b = c'
        · subst h2
          rw [cc] at e; cases e
          exact ⟨Heap.get?_push_of_some _ hoc, _, Heap.get?_push_of_some _ hoc⟩
        · rw [upd_ne h1, upd_ne h2] at e
          by_cases h3 : b = P
          · subst h3
            rw [hP] at e; cases e
            refine ⟨_, Heap.get?_push_of_some _ htb, ?_, fun pos' v e => ?_⟩
            · rw [Array.toList_append]; exact TriplesOk_snoc _ _ _ _ ht3
            · rw [Array.toList_append] at e
              rcases among_snoc (pos := pos) tb.toList ht3 e with e | ⟨e1, e2, rfl⟩
              · obtain ⟨d, od, q', z1, z2, z3, z4⟩ := hcodes pos' v e
                exact ⟨d, od, q', z1, z2, sm _ _ z3, z4⟩
              · exact ⟨c', oc, q, rfl, by rw [e1, e2]; exact hcr, cc, vs, tt, hd, hv⟩
          · refine (I.hok b u e).stay (fun d v hd' e' => hk d v ?_ e') (fun d e' => sm d _ e') (fun d xs e' => sm d _ e') fun d o' u' e' => sm d _ e'
            rintro rfl
            rcases hd' with z | z
            · exact h3 z.symm
            · rw [hP] at z; cases z
end
end L2

set_option maxHeartbeats 4000000
namespace L2
open PySem PySem.Spec PyProof.Rows
/-! ### a def whose promise speaks of the state at the call -/
abbrev SpS := Shared → List V → Hp → VK → Prop
structure FnOkS (P : Program) (w : World) (K : PySem.W.Frag) (mg : Str → Option Value) (base : Heap) (k : Nat) (f : Addr) (fd : FuncData) (ps : List Str) (sp : SpS) : Prop where
  len : ∀ s vs H Q, sp s vs H Q → vs.length = ps.length
  run : ∀ (A : Around) (outer : List Env) (s : Shared) (H : Hp) (args : Args) (us : List Value) (vs : List V) (Q : VK), Room k A → Env0 P w K mg base A outer s H → BindsTo s fd args (ps.zip us) → Vals vs us → sp s vs H Q →
    codeAny (model P w) A (.call (.ref f) args) (CR CX0 outer P w H s Q E0) s
theorem FnOkS.mono {P : Program} {w : World} {K : PySem.W.Frag} {mg : Str → Option Value} {base : Heap} {j k : Nat} {f : Addr} {fd : FuncData} {ps : List Str} {sp : SpS} (F : FnOkS P w K mg base j f fd ps sp) (h : j ≤ k) :
    FnOkS P w K mg base k f fd ps sp := ⟨F.len, fun A outer s H args us vs Q hr => F.run A outer s H args us vs Q (hr.mono h)⟩
theorem fn_ofS {P : Program} {w : World} {K : PySem.W.Frag} {mg : Str → Option Value} {base : Heap} {k : Nat} {f : Addr} {name qual : Str} {params : Arguments} {body : List Stmt} {scope : Scope} {dV kV doc pm cdv ct oc : Value} {an od : Option Addr}
    {osl : Array (Option Value)} {N ps : List Str} {sp : SpS} (lk : K.lookup f = some ⟨oc, od, .func (PySem.W.fnOf name qual params body scope dV kV doc pm an cdv ct), osl⟩) (hcd : PySem.W.codeIn K cdv qual = true) (S : FnScope N ps scope)
    (len : ∀ s vs H Q, sp s vs H Q → vs.length = ps.length)
    (hbody : ∀ (A : Around) (outer : List Env) (s : Shared) (H : Hp) (vs : List V) (Q : VK), Room k (A.deeper (envOfC qual scope s.heap.objs.size f cdv)) → sp s vs H Q →
      ∃ t, PSs (cxOf CX0 P w K mg base N qual scope f cdv A outer s H E0) body t ∧ t { nx := fun _ H' => Q .non H', rt := Q } (start N vs) H) :
    FnOkS P w K mg base (k + 1) f (PySem.W.fnOf name qual params body scope dV kV doc pm an cdv ct) ps sp := by
  refine ⟨len, fun A outer s H args us vs Q hr e0 hb r hsp => ?_⟩
  have hl := len _ _ _ _ hsp
  have KX : K.In s.heap := e0.mod.kin.keeps fun b o e => (e0.bs b o e).1
  have lim : s.heap.NoLimit := e0.mod.nolimit.keeps fun b o e => (e0.bs b o e).1
  have hkind : ∀ y ∈ ps.zip us, scope.names.lookup y.1 = some .local ∨ (scope.names.lookup y.1 = some .cell ∧ ((cellsFrom (s.heap.objs.size + 1) scope.names []).lookup y.1).isSome = true) := fun ⟨n, v⟩ hy => by
    rcases S.par n (List.of_mem_zip hy).1 with q | q
    · exact .inl q
    · exact .inr ⟨q, PySem.W.cellsFrom_some _ _ _ (.inl q)⟩
  refine codeAny_call_function hr.depth (KX _ _ lk) rfl S.co S.gen rfl (PySem.W.codeRec_of KX hcd) (hb _ _ _ _ ?_)
  refine wpAny_newFunctionEnv_cells S.kind hkind fun env he s1 x => ?_
  subst he
  refine ⟨lim.keeps x.toInCall.keep, codeAny_func ?_⟩
  obtain ⟨t, ht, hq⟩ := hbody A outer s H vs Q (hr.deeper _) hsp
  have I : Inv (cxOf CX0 P w K mg base N qual scope f cdv A outer s H E0) [] (start N vs) H s1 := inv_start S hr.hd e0 hl r x
  refine wpAny_mono (ht [] s1 (start N vs) H _ I hq) (fun fl s' hs => ?_) fun e s' hs => hs
  have fin : ∀ {σ' : St} {H' : Hp} {v : V} {u : Value}, Inv (cxOf CX0 P w K mg base N qual scope f cdv A outer s H E0) [] σ' H' s' → RelV v u → Q v H' → CE outer P w H s Q u s' :=
    fun {σ' H' v u} J rv q => ⟨v, H', J.os, J.bare, J.base, J.hok, rv, q⟩
  cases fl with
  | ret u =>
    obtain ⟨v, σ', H', J, rv, q⟩ := hs
    exact fin J rv q
  | next =>
    obtain ⟨σ', H', J, q⟩ := hs
    exact fin (v := V.non) (u := Value.none) J rfl q
  | brk =>
    obtain ⟨_, _, _, q⟩ := hs
    exact False.elim q
  | cont =>
    obtain ⟨_, _, _, q⟩ := hs
    exact False.elim q
section
variable {P : Program} {w : World} {K : PySem.W.Frag} {mg : Str → Option Value} {base : Heap}
theorem Fun.okS {x qual : Str} {st : Stmt} {f : Addr} {fd : FuncData} {N ps : List Str} {k : Nat} {sp : SpS} (F : Fun K x qual st f fd) (S : FnScope N ps (defScope st)) (len : ∀ s vs H Q, sp s vs H Q → vs.length = ps.length)
    (hbody : ∀ (cdv : Value) (A : Around) (outer : List Env) (s : Shared) (H : Hp) (vs : List V) (Q : VK), Room k (A.deeper (envOfC qual (defScope st) s.heap.objs.size f cdv)) → sp s vs H Q →
      ∃ t, PSs (cxOf CX0 P w K mg base N qual (defScope st) f cdv A outer s H E0).nox (defBody st) t ∧ t { nx := fun _ H' => Q .non H', rt := Q } (start N vs) H) : FnOkS P w K mg base (k + 1) f fd ps sp := by
  obtain ⟨oc, od, kV, doc, pm, an, cdv, ct, osl, rfl, lk, hcd⟩ := F.ex
  refine fn_ofS lk hcd S len fun A outer s H vs Q hr hsp => ?_
  obtain ⟨t, h, q⟩ := hbody cdv A outer s H vs Q hr hsp
  exact ⟨t, h.nox, q⟩
/-- .. with its code object known -/
theorem Fun.okC {x qual : Str} {st : Stmt} {f : Addr} {fd : FuncData} {N ps : List Str} {k : Nat} {sp : Sp} (F : Fun K x qual st f fd) (S : FnScope N ps (defScope st)) (len : ∀ vs H Q E, sp vs H Q E → vs.length = ps.length)
    (hbody : ∀ (cdv : Value) (A : Around) (outer : List Env) (s : Shared) (H : Hp) (vs : List V) (Q : VK) (E : XK), cdv = fd.code → Room k (A.deeper (envOfC qual (defScope st) s.heap.objs.size f cdv)) → sp vs H Q E →
      ∃ t, PSs (cxOf CX0 P w K mg base N qual (defScope st) f cdv A outer s H E).nox (defBody st) t ∧ t { nx := fun _ H' => Q .non H', rt := Q } (start N vs) H) : FnOk P w K mg base CX0 (k + 1) f fd ps sp := by
  obtain ⟨oc, od, kV, doc, pm, an, cdv, ct, osl, rfl, lk, hcd⟩ := F.ex
  refine fn_of lk hcd S len fun A outer s H vs Q E hr hsp => ?_
  obtain ⟨t, h, q⟩ := hbody cdv A outer s H vs Q E rfl hr hsp
  exact ⟨t, h.nox, q⟩
end
/-! ### calling a lambda that was handed in -/
section
variable {X : Cx} {k i : Nat} {x : Str} {f : Addr} {q : Str} {params : Arguments} {body : Expr} {fr sc : Scope} {cl : List (Str × Addr)} {ps cap : List Str} {vals : St} {te : TE} {e : Expr} {es : List Expr} {t : TA} {p pos : Pos}
def tCallV (i : Nat) (f : Addr) (te : TE) (vals : St) (n : Nat) (t : TA) : TE := fun σ H Q => σ[i]? = some (some (.ref f)) ∧ t σ H fun vs H1 => vs.length = n ∧ te (vs.map some ++ vals) H1 Q
theorem fnAt_of {P : Program} {w : World} {H : Hp} {h : Heap} (ok : HOk P w H h) (L : IsLam H f q params body sc cl) : PySem.W.FnAt f h := by
  obtain ⟨pm, ctv, c', oc, h1, _⟩ := L
  obtain ⟨ho, _⟩ := ok f _ h1
  exact ⟨_, _, _, _, ho⟩
theorem pe_callV (hN : X.N[i]? = some x) (hv : Vis X.env.scope x) (hr : Room (k + 1) X.A) (hex : X.ex = []) (L : IsLam X.H₀ f q params body sc cl) (C : CellsAre X.s₀ X.H₀ cl cap vals) (S : LamScope fr sc ps cap) (hcap : ∀ y, sc.names.lookup y = some .free → ∃ c, cl.lookup y = some c)
    (hbind : ∀ (us : List Value), us.length = ps.length → ∀ (pm ctv : Value) (c' : Addr), bindArgs (PySem.W.kla_fn "<lambda>" q params body sc cl pm (.ref c') ctv) ⟨us, []⟩ = pure (ps.zip us)) (hvl : vals.length = cap.length)
    (hbody : ∀ A outer s H f c', Room k (A.deeper (PySem.W.envX q sc s.heap.objs.size f (.ref c') cl)) → PE (lamCx X.prog X.w X.K X.mg X.base (ps ++ cap) q sc f c' cl A outer s H) body te) (ha : PA X (e :: es) t)
    (hd : (x == ("__debug__" : Str)) = false := by decide) (hcd : (x == ("__classdict__" : Str)) = false := by decide) (he : starEach (e :: es) X.env = (false, eval e X.env) :: starEach es X.env := by rfl) (hpl : (backTo pos (starEach es X.env)).any (·.1) = false := by rfl) :
    PE X (.Call (.Name x p) (e :: es) [] pos) (tCallV i f te vals ps.length t) := by
  intro pins s σ H Q I h
  obtain ⟨eσ, h⟩ := h
  refine wpAny_Call_Name_kw (thn (pe_var hN hv hd hcd pins s σ H (fun v H' => v = .ref f ∧ H' = H) I ⟨_, eσ, rfl, rfl⟩) fun u s1 ⟨v, H1, I1, r, ev, eH⟩ => ?_)
  subst ev eH
  obtain rfl : u = Value.ref f := r
  have un : ∀ {pins : List (Addr × Obj)} {σ : St} {H : Hp} {s : Shared}, Inv X pins σ H s → Un X.fs [] X.H₀ H X.s₀.heap s.heap := fun {pins σ H s} J => by
    have := J.base
    rw [hex] at this; exact this
  have Lm : ∀ {pins : List (Addr × Obj)} {σ : St} {H : Hp} {s : Shared}, Inv X pins σ H s → IsLam H f q params body sc cl := fun J => L.same (un J).frzs
  refine PySem.W.callWith_F (fnAt_of I1.hok (Lm I1)) (thn (ha pos pins s1 σ H1 _ I1 h) fun us s2 ⟨vs, H2, I2, rv, hl, hq⟩ => ⟨fnAt_of I2.hok (Lm I2), ?_⟩) he hpl
  refine wpAny_call (codeAny_mono (lam_run (E := E0) S hcap hr I2.env0 (Lm I2) (C.un (un I2)) (hbind us (by rw [← rv.length]; exact hl)) hl hvl rv (fun c' hr' => hbody _ _ _ _ _ c' hr') hq) fun r s' hq' => ?_)
  cases r with
  | error e => exact False.elim hq'
  | ok fl =>
    cases fl with
    | ret u => exact I2.after hq'
    | next => exact False.elim hq'
    | brk => exact False.elim hq'
    | cont => exact False.elim hq'
end
/-! ### a place found by halving: many_ahead(n, lambda) -/
def hv (g : Nat → Bool) (lo hi : Nat) : Nat := if h : lo < hi then (if g ((lo + hi) / 2) then hv g ((lo + hi) / 2 + 1) hi else hv g lo ((lo + hi) / 2)) else lo
termination_by hi - lo
decreasing_by all_goals omega
theorem hv_eq {g : Nat → Bool} {k : Nat} (lo hi : Nat) (h : ∀ i, i < hi → (g i = true ↔ i < k)) (h1 : lo ≤ k) (h2 : k ≤ hi) : hv g lo hi = k := by
  fun_induction hv g lo hi with
  | case1 lo hi hlt hg ih =>
    have := (h _ (by omega)).mp hg
    exact ih h (by omega) h2
  | case2 lo hi hlt hg ih =>
    have : ¬ (lo + hi) / 2 < k := fun z => hg ((h _ (by omega)).mpr z)
    exact ih (fun i hi' => h i (by omega)) h1 (by omega)
  | case3 lo hi hlt => omega
def spMA (P : Program) (w : World) (K : PySem.W.Frag) (mg : Str → Option Value) (base : Heap) (kk : Nat) : SpS := fun s vs H Q => ∃ (n : Nat) (f : Addr) (q : Str) (params : Arguments) (body : Expr) (fr sc : Scope) (cl : List (Str × Addr)) (y : Str) (cap : List Str) (vals : St) (te : TE) (g : Nat → Bool),
  vs = [.int n, .ref f] ∧ n ≤ 10 ^ 6 ∧ LamScope fr sc [y] cap ∧ (∀ y, sc.names.lookup y = some .free → ∃ c, cl.lookup y = some c) ∧ IsLam H f q params body sc cl ∧ CellsAre s H cl cap vals ∧ vals.length = cap.length ∧
  (∀ (us : List Value), us.length = [y].length → ∀ (pm ctv : Value) (c' : Addr), bindArgs (PySem.W.kla_fn "<lambda>" q params body sc cl pm (.ref c') ctv) ⟨us, []⟩ = pure ([y].zip us)) ∧
  (∀ A outer s H f c', Room kk (A.deeper (PySem.W.envX q sc s.heap.objs.size f (.ref c') cl)) → PE (lamCx P w K mg base ([y] ++ cap) q sc f c' cl A outer s H) body te) ∧
  (∀ i, i < n → Ev K te (some (.int (i : Nat)) :: vals) H (.bool (g i))) ∧ ∀ H', Same H H' → Q (.int (hv g 0 n : Nat)) H'
/-- many_ahead(e0, lambda ..): the number, a truth for each place, what comes of halving -/
def tMA (K : PySem.W.Frag) (P : Addr) (cr : Nat → Nat → Option Str) (js : List Nat) (t0 te : TE) : TE := fun σ H Q => t0 σ H fun v H1 => H1 P = some (.tbl cr) ∧ ∃ (n : Nat) (g : Nat → Bool), v = .int (n : Nat) ∧ n ≤ 10 ^ 6 ∧
  (∀ i, i < n → Ev K te (some (.int (i : Nat)) :: capV σ js) H1 (.bool (g i))) ∧ ∀ H', Same H1 H' → Q (.int (hv g 0 n : Nat)) H'
section
variable {X : Cx} {kk : Nat} {x y : Str} {f c P : Addr} {fd : FuncData} {cr : Nat → Nat → Option Str} {q : Str} {params : Arguments} {body e0 : Expr} {sc : Scope} {cap : List Str} {t0 te : TE} {p pos lpos : Pos}
theorem pe_ma (F : FnOkS X.prog X.w X.K X.mg X.base (kk + 3) f fd ["places", "lies_ahead"] (spMA X.prog X.w X.K X.mg X.base kk)) (hr : Room (kk + 3) X.A) (hg : Gl X x) (hm : X.mg x = some (.ref f)) (hk : PySem.W.keepIn X.K (.ref f) = true) (hb : Binds X.K fd ["places", "lies_ahead"] [])
    (hxe : ∀ e s, ¬ X.xe e s) {js : List Nat} (S : LamScope X.env.scope sc [y] cap) (hjs : js.map (fun j => X.N[j]?) = cap.map some) (hcode : X.env.code = .ref c) (C : PySem.W.CodeHd X.base c P) (hbm : BM X.mg X.base) (hq : q = X.env.qual ++ "<lambda>") (hcr : cr lpos.line lpos.col = some q)
    (hbind : ∀ (u pm ctv : Value) (c' : Addr) (cl : List (Str × Addr)), bindArgs (PySem.W.kla_fn "<lambda>" q params body sc cl pm (.ref c') ctv) ⟨[u], []⟩ = pure [(y, u)])
    (ha : PE X e0 t0)
    (hbody : ∀ A outer s H f c' cl, Room kk (A.deeper (PySem.W.envX q sc s.heap.objs.size f (.ref c') cl)) → PE (lamCx X.prog X.w X.K X.mg X.base ([y] ++ cap) q sc f c' cl A outer s H) body te)
    (hdef : defaultsOf params X.env = ([], []) := by rfl) (hdb : (x == ("__debug__" : Str)) = false := by decide)
    (he : starEach [e0, .Lambda params body sc lpos] X.env = (false, eval e0 X.env) :: starEach [.Lambda params body sc lpos] X.env := by rfl) (he2 : starEach [.Lambda params body sc lpos] X.env = (false, eval (.Lambda params body sc lpos) X.env) :: starEach [] X.env := by rfl)
    (hpl : (backTo pos (starEach [.Lambda params body sc lpos] X.env)).any (·.1) = false := by rfl) :
    PE X (.Call (.Name x p) [e0, .Lambda params body sc lpos] [] pos) (tMA X.K P cr js t0 te) := by
  intro pins s σ H Q I h
  refine wpAny_Call_Name_kw (ld_glob I hg hm ?_ hdb)
  have lenJ : js.length = cap.length := by have := congrArg List.length hjs; simpa using this
  refine PySem.W.callWith_K (h₀ := X.base) I.ok.mod.kin hk ?_ he hpl
  rw [he]
  show wpAny _ _ (spliced ((false, eval e0 X.env) :: backTo pos (starEach [.Lambda params body sc lpos] X.env))) _ _ s
  refine Calls.spliced_cons (thn (ha pins s σ H _ I h) fun u s1 ⟨v, H1, I1, r1, hP, n, g, e1, hn, hev, hQ⟩ => ?_)
  subst e1
  refine thn (pa_cons (pe_lam (c := c) (cr := cr) S hcode C hbm hq hcr hdef) pa_nil he2 pos pins s1 σ H1 (fun vs H2 => ∃ f, vs = [.ref f] ∧ Same H1 H2 ∧ IsLam H2 f q params body sc (clOf X.env sc.names [])) I1 ⟨hP, fun f H' hf sm L => ⟨f, rfl, sm, L⟩⟩) fun us s2 ⟨vs, H2, I2, r2, f', e2, sm, L⟩ => ⟨I2.kIn, ?_⟩
  subst e2
  have hsp : spMA X.prog X.w X.K X.mg X.base kk s2 [.int n, .ref f'] H2 Q := ⟨n, f', q, params, body, X.env.scope, sc, clOf X.env sc.names [], y, cap, capV σ js, te, g, rfl, hn, S, fun z hz => by
      obtain ⟨c', hc'⟩ := Option.isSome_iff_exists.mp (clOf_has (env := X.env) (acc := []) (PySem.mem_of_lookup hz))
      exact ⟨c', hc'⟩, L, I2.cellsAre S hjs, by unfold capV; rw [List.length_map, lenJ], fun us hl => match us, hl with | [u], _ => fun pm ctv c' => hbind u pm ctv c' _, fun A outer s H f c' hr' => hbody A outer s H f c' _ hr', fun i hi => (hev i hi).mono sm, fun H' s' => hQ H' (sm.trans s')⟩
  have rr : Vals [.int (n : Nat), .ref f'] (u :: us) := .cons r1 r2
  have hl : (u :: us).length = ["places", "lies_ahead"].length := by rw [← rr.length]; rfl
  have hb' := hb s2 (u :: us) I2.kIn (by rw [List.append_nil]; exact hl)
  rw [List.append_nil] at hb'
  refine wpAny_call (codeAny_mono (F.run X.A X.stack s2 H2 ⟨u :: us, []⟩ (u :: us) _ Q hr I2.env0 hb' rr hsp) fun r s' hq' => ?_)
  cases r with
  | error e => exact False.elim hq'
  | ok fl =>
    cases fl with
    | ret u => exact I2.after hq'
    | next => exact False.elim hq'
    | brk => exact False.elim hq'
    | cont => exact False.elim hq'
end
/-! ### as an expression that changes nothing -/
theorem ev_ma {K : PySem.W.Frag} {P : Addr} {cr : Nat → Nat → Option Str} {js : List Nat} {t0 te : TE} {σ : St} {G : Hp} {n : Nat} {g : Nat → Bool} (hP : G P = some (.tbl cr)) (h0 : Ev K t0 σ G (.int (n : Nat))) (hn : n ≤ 10 ^ 6) (he : ∀ i, i < n → Ev K te (some (.int (i : Nat)) :: capV σ js) G (.bool (g i))) :
    Ev K (tMA K P cr js t0 te) σ G (.int (hv g 0 n : Nat)) := fun G1 H s1 s2 Q k => h0 G1 H s1 s2 _ fun v G2 H2 g2 hv2 => by
  have s : Same G H2 := s1.trans (g2.gg.trans g2.gh)
  refine ⟨s _ _ hP, n, g, hv2.int, hn, fun i hi => (he i hi).mono s, fun H' sH => k _ G2 H' (g2.trans (grow_h g2.gh sH)) (dat_int _)⟩
/-- a def that changes nothing but makes lambdas -/
def spPT (K : PySem.W.Frag) (P : Addr) (cr : Nat → Nat → Option Str) (R : List PyData → PyData → Prop) : Sp := fun vs H Q _ => ∃ (G : Hp) (ds : List PyData) (d : PyData), G P = some (.tbl cr) ∧ Same G H ∧ Dats K G vs ds ∧ R ds d ∧ ∀ v G' H', Grow G H G' H' → Dat K G' v d → Q v H'
theorem ev_callT {K : PySem.W.Frag} {P : Addr} {cr : Nat → Nat → Option Str} {σ : St} {G : Hp} {d : PyData} {R : List PyData → PyData → Prop} {E : XK} {t : TA} {ds : List PyData} (hP : G P = some (.tbl cr)) (h : EvA K t σ G ds) (hR : R ds d) : Ev K (tCall (spPT K P cr R) [] E t) σ G d :=
  fun G1 H s1 s2 Q k => h G1 H s1 s2 _ fun vs G2 H2 g2 hv => by
    refine ⟨G2, ds, d, g2.gg _ _ (s1 _ _ hP), g2.gh, ?_, hR, fun v G' H' g hd => k v G' H' (g2.trans g) hd⟩
    rw [List.append_nil]; exact hv
end L2

set_option maxHeartbeats 4000000
namespace L2
open PySem PySem.Spec PyProof.Rows
theorem mem_look {β : Type} {a : Addr} {b : β} : ∀ {l : List (Addr × β)}, l.lookup a = some b → (a, b) ∈ l
  | [], h => by simp at h
  | (z, v) :: l, h => by
    rw [List.lookup_cons] at h
    cases hb : a == z with
    | true =>
      rw [hb] at h
      have : a = z := by simpa using hb
      cases h; subst this; exact List.mem_cons_self
    | false => rw [hb] at h; exact List.mem_cons_of_mem _ (mem_look h)
theorem look_mem {β : Type} {a : Addr} {b : β} : ∀ {l : List (Addr × β)}, (l.map (·.1)).Nodup → (a, b) ∈ l → l.lookup a = some b
  | [], _, h => by simp at h
  | (z, v) :: l, nd, h => by
    rw [List.lookup_cons]
    rw [List.map_cons, List.nodup_cons] at nd
    rcases List.mem_cons.mp h with e | h
    · cases e; simp
    · have : a ≠ z := fun e => nd.1 (e ▸ List.mem_map_of_mem (f := (·.1)) h)
      have hb : (a == z) = false := by simpa using this
      rw [hb]
      exact look_mem nd.2 h
/-- what a def that makes lambdas leans on, of the base -/
structure Bs (K : PySem.W.Frag) (mg : Str → Option Value) (base : Heap) : Prop where
  kin : K.In base
  bm : BM mg base
/-- the tables of codes that the law may come to -/
abbrev Tabs := List (Addr × (Nat → Nat → Option Str))
def TabsIn (H : Hp) (tabs : Tabs) : Prop := ∀ p ∈ tabs, H p.1 = some (.tbl p.2)
/-- the head, with tables of codes that grow -/
theorem law_callT {P : Program} {w : World} {K : PySem.W.Frag} {mg mb : Str → Option Value} {k : Nat} {fa a : Addr} {fd : FuncData} {x : Str} {sp : Sp} {s₁ : Shared} {vs : List Value} {ns : List Int} (tabs : Tabs)
    (KX : K.In s₁.heap) (hns : s₁.heap.Ns mainGlobals mg) (hb : s₁.heap.Ns builtinsNs mb) (hbb : ∀ x : Str, x ≠ "__name__" → mb x = bootBuiltins x) (hlim : s₁.heap.NoLimit) (hg : s₁.gens = #[])
    (ha : s₁.heap.get? a = some { cls := .type "list", data := .seq vs.toArray }) (hi : IntsAre vs ns) (hl : ns.length ≤ sizeLine) (hr : Room k callerA)
    (hbm : BM mg s₁.heap) (hT : ∀ p ∈ tabs, s₁.heap.get? p.1 = some { cls := .none, data := .fields #[] }) (hIs : ∀ p ∈ tabs, isCodeTable s₁.heap p.1) (hKt : ∀ p ∈ tabs, K.lookup p.1 = none) (hnd : (tabs.map (·.1)).Nodup)
    (F : ∀ base : Heap, K.In base → base.Ns mainGlobals mg → Bs K mg base → FnOk P w K mg base CX0 k fa fd [x] sp) (hbind : ∀ (s : Shared) (u : Value), BindsTo s fd ⟨[u], []⟩ [(x, u)])
    (hsp : ∀ H : Hp, TabsIn H tabs → SqL K H a (ns.map V.int) → sp [.ref a] H (fun v _ => v = .bl true) fun _ _ _ => False) :
    codeAny (model P w) callerA (.call (.ref fa) ⟨[.ref a], []⟩) (fun r s' => r = .ok (.ret (.bool true)) ∧ OldK s₁.heap s'.heap ∧ s'.os = s₁.os ∧ AllBare s'.gens) s₁ := by
  have rv := vals_ints hi
  have lenV := hi.length
  have core : ∀ H : Hp, TabsIn H tabs → SqL K H a (ns.map V.int) → HOk P w H s₁.heap → (∀ b, H b ≠ none → (b = a ∧ ∃ o xs, H b = some (.frz o (.lst xs))) ∨ ∃ p ∈ tabs, p.1 = b) → (H a ≠ none → K.lookup a = none) →
      codeAny (model P w) callerA (.call (.ref fa) ⟨[.ref a], []⟩) (fun r s' => r = .ok (.ret (.bool true)) ∧ OldK s₁.heap s'.heap ∧ s'.os = s₁.os ∧ AllBare s'.gens) s₁ := by
    intro H hTb hS hok hA hK
    have base_of : ∀ {b : Addr} {o : Obj}, s₁.heap.get? b = some o → H b = none → (hidT s₁.heap H).get? b = some o := fun e n => hidT_get e n
    have noT : ∀ {b : Addr} {o : Obj}, s₁.heap.get? b = some o → (∀ vs n, o.data ≠ .seq vs n) → (∀ vs, o.data ≠ .fields vs) → H b = none := fun {b o} e d1 d2 => by
      cases q : H b with
      | none => rfl
      | some u =>
        rcases hA b (by rw [q]; simp) with ⟨e', _⟩ | ⟨p, hp, e'⟩
        · subst e'
          rw [ha] at e; cases e
          exact absurd rfl (d1 _ _)
        · subst e'
          rw [hT p hp] at e; cases e
          exact absurd rfl (d2 _)
    have noA : ∀ {b : Addr} {o : Obj} {es : Array DictEntry} {ep : Nat}, s₁.heap.get? b = some o → o.data = .dict es ep → H b = none := fun {b o es ep} e d => noT e (fun vs n z => by rw [d] at z; cases z) fun vs z => by rw [d] at z; cases z
    have nsK : ∀ {b : Addr} {m : Str → Option Value}, s₁.heap.Ns b m → (hidT s₁.heap H).Ns b m := fun {b m} ⟨o, es, ep, e, d, r⟩ => ⟨o, es, ep, base_of e (noA e d), d, r⟩
    have hKb : K.In (hidT s₁.heap H) := fun b o e => base_of (KX b o e) (by
      cases q : H b with
      | none => rfl
      | some u =>
        rcases hA b (by rw [q]; simp) with ⟨e', _⟩ | ⟨p, hp, e'⟩
        · subst e'
          rw [hK (by rw [q]; simp)] at e; cases e
        · subst e'
          rw [hKt p hp] at e; cases e)
    have hBs : Bs K mg (hidT s₁.heap H) := ⟨hKb, by
      obtain ⟨bm, ob, b1, b2, b3, b4, b5, b6⟩ := hbm
      exact ⟨bm, ob, b1, b2, base_of b3 (noT b3 (fun vs n z => by rw [b6] at z; cases z) fun vs z => by rw [b6] at z; cases z), b4, b5, b6⟩⟩
    have hM : Mod K mg (hidT s₁.heap H) := ⟨hKb, nsK hns, ⟨mb, nsK hb, hbb⟩, let ⟨mc, h1, h2⟩ := hlim; ⟨mc, nsK h1, h2⟩⟩
    have e0 : Env0 P w K mg (hidT s₁.heap H) callerA [] s₁ H := ⟨rfl, hM, fun b o e => of_hidT e, Nat.le_of_eq (hidT_size _ _), trivial, fun b hb => absurd (show b ∈ ([] : List Addr) from hb) (by simp), hok, .of_eq hg⟩
    refine codeAny_mono ((F _ hKb (nsK hns) hBs).run callerA [] s₁ H ⟨[.ref a], []⟩ [.ref a] [.ref a] _ _ hr e0 (hbind s₁ (.ref a)) (.cons rfl .nil) (hsp H hTb hS)) fun r s' h => ?_
    cases r with
    | error e => exact False.elim h
    | ok fl =>
      cases fl with
      | next => exact False.elim h
      | brk => exact False.elim h
      | cont => exact False.elim h
      | ret u =>
        obtain ⟨v, H', os, bare, un, hok', r', q⟩ := h
        have q' : v = .bl true := q
        subst q'
        obtain rfl : u = Value.bool true := r'
        refine ⟨rfl, ⟨fun b o e => ?_, fun b o e => un.there b o e (by simp)⟩, os, bare⟩
        cases q : H b with
        | none => exact .inl (un.keep b o e q (by intro z; exact absurd (show b ∈ ([] : List Addr) from z) (by simp)) (by simp))
        | some u =>
          rcases hA b (by rw [q]; simp) with ⟨e', ob, xs, z⟩ | ⟨p, hp, e'⟩
          · have z2 := un.frzs b ob _ z
            obtain ⟨e1, _⟩ := hok b _ z
            obtain ⟨e2, _⟩ := hok' b _ z2
            rw [e] at e1; cases e1
            exact .inl e2
          · subst e'
            have z := un.tbls _ _ (hTb p hp)
            obtain ⟨ps, e1, _⟩ := hok' _ _ z
            rw [hT p hp] at e; cases e
            exact .inr (.inl ⟨hIs p hp, rfl, #[], ps, rfl, by rw [Array.empty_append]; exact e1⟩)
  have hpa : ∀ p ∈ tabs, p.1 ≠ a := fun p hp z => by
    have := hT p hp
    rw [z, ha] at this; cases this
  have tl : ∀ p ∈ tabs, tabs.lookup p.1 = some p.2 := fun p hp => look_mem hnd hp
  have okT : ∀ (H : Hp) (b : Addr) (cr : Nat → Nat → Option Str), tabs.lookup b = some cr → ObjOk P w H s₁.heap b (.tbl cr) := fun H b cr e =>
    ⟨#[], hT (b, cr) (mem_look e), trivial, fun pos v z => by cases z⟩
  cases hk : K.lookup a with
  | some o =>
    have e := KX a o hk
    rw [ha] at e
    cases e
    refine core (fun b => (tabs.lookup b).map HO.tbl) (fun p hp => by show (tabs.lookup p.1).map HO.tbl = _; rw [tl p hp]; rfl) (.inr ⟨_, vs.toArray, _, hk, rfl, rfl, rfl, by rw [List.size_toArray, lenV]; exact hl, by simpa using rv⟩) (fun b u z => ?_) (fun b z => ?_) fun z => ?_
    · obtain ⟨cr, e1, e2⟩ := Option.map_eq_some_iff.mp z
      subst e2
      exact okT _ b cr e1
    · replace z : (tabs.lookup b).map HO.tbl ≠ none := z
      cases e : tabs.lookup b with
      | none => rw [e] at z; exact absurd rfl z
      | some cr => exact .inr ⟨_, mem_look e, rfl⟩
    · replace z : (tabs.lookup a).map HO.tbl ≠ none := z
      cases e : tabs.lookup a with
      | none => rw [e] at z; exact absurd rfl z
      | some cr => exact absurd rfl (hpa _ (mem_look e))
  | none =>
    refine core (fun b => if b = a then some (.frz { cls := .type "list", data := .seq vs.toArray } (.lst (ns.map V.int))) else (tabs.lookup b).map HO.tbl) (fun p hp => ?_) (.inl (.inr ⟨{ cls := .type "list", data := .seq vs.toArray }, if_pos rfl⟩)) (fun b u z => ?_) (fun b z => ?_) fun _ => hk
    · show (if p.1 = a then _ else (tabs.lookup p.1).map HO.tbl) = _
      rw [if_neg (hpa p hp), tl p hp]; rfl
    · by_cases hb : b = a
      · have z' := (if_pos hb).symm.trans z
        cases z'
        subst hb
        exact ⟨ha, by rw [List.length_map]; exact hl, vs, _, rv, ha⟩
      · have z' := (if_neg hb).symm.trans z
        obtain ⟨cr, e1, e2⟩ := Option.map_eq_some_iff.mp z'
        subst e2
        exact okT _ b cr e1
    · by_cases hb : b = a
      · exact .inl ⟨hb, _, _, if_pos hb⟩
      · replace z : (if b = a then _ else (tabs.lookup b).map HO.tbl) ≠ none := z
        rw [if_neg hb] at z
        cases e : tabs.lookup b with
        | none => rw [e] at z; exact absurd rfl z
        | some cr => exact .inr ⟨_, mem_look e, rfl⟩
theorem walk_ofT {l : PySem.W.OpenLaw} {n k : Nat} {q : Program} {loose : List Str} {XP : (Str → Option Value) → Heap → Prop} {YP : World → Heap → Prop} {d : DefRec} {K : Params → PySem.W.Frag} {sp : World → Sp} {x : Str} (tabs : World → Tabs)
    (hn : l.most = some n) (hn2 : n ≤ sizeLine) (hdf : d.params.defaults = []) (hr : Room k callerA)
    (hY : ∀ (w : World) (h : Heap), YP w h → (K w.params).In h ∧ ∀ p ∈ tabs w, h.get? p.1 = some { cls := .none, data := .fields #[] })
    (F : ∀ (w : World) (mg : Str → Option Value) (fa : Addr) (h : Heap), (K w.params).In h → h.Ns mainGlobals mg → mg d.name = some (.ref fa) →
      ∃ fd : FuncData, (∀ (s : Shared) (u : Value), BindsTo s fd ⟨[u], []⟩ [(x, u)]) ∧ ((∀ p ∈ tabs w, (K w.params).lookup p.1 = none) ∧ (∀ p ∈ tabs w, isCodeTable h p.1) ∧ ((tabs w).map (·.1)).Nodup) ∧
        ∀ base : Heap, (K w.params).In base → base.Ns mainGlobals mg → Bs (K w.params) mg base → FnOk l.prog w (K w.params) mg base CX0 k fa fd [x] (sp w))
    (hsp : ∀ (w : World) (H : Hp) (a : Addr) (ns : List Int), ns.length ≤ n → TabsIn H (tabs w) → SqL (K w.params) H a (ns.map V.int) → sp w [.ref a] H (fun v _ => v = .bl true) fun _ _ _ => False) :
    PySem.W.WalkO q loose XP YP l.row.toRowW d [] (fun f vs => PySem.call f vs) := by
  refine Att.attach_call hn hdf fun w s₀ s₁ mg mb fa o pm cd doc a vs ns G Y ho hd hcd hmg hobj hints hlen hg => ?_
  obtain ⟨KX, hT⟩ := hY w _ Y
  obtain ⟨fd, hb, ⟨h1, h2, h3⟩, hF⟩ := F w mg fa _ KX G.T.g hmg
  exact law_callT (tabs w) KX G.T.g G.T.b G.T.builtins G.T.nolimit hg hobj hints (Nat.le_trans hlen hn2) hr G.T.bmain hT h2 h1 h3 hF hb (fun H hO hS => hsp w H a ns hlen hO hS)
def spLawT (K : PySem.W.Frag) (tabs : Tabs) : Sp := fun vs H Q _ => ∃ (a : Addr) (ns : List Int), vs = [.ref a] ∧ SqL K H a (ns.map V.int) ∧ ns.length ≤ 63 ∧ TabsIn H tabs ∧ ∀ H', Q (.bl true) H'
theorem isTab_of {K : PySem.W.Frag} {h : Heap} {c P : Addr} (X : K.In h) (e : PySem.W.codeHdIn K c P = true) : isCodeTable h P := by
  obtain ⟨o, vs, file, tf, flags, tg, inF, text, tt, e1, e2, e3, e4, _⟩ := PySem.W.codeHd_of_K X e
  exact ⟨c, o, vs, e1, e2, e3, e4⟩
end L2

set_option maxHeartbeats 4000000
namespace Mvs
open L2 Trn
/-! ### places by rows: the rank of a place is the number of its row -/
def vl (turn : List Nat) (p : Nat) : Nat := turn.getD p 0
def rw_ (rk : List Nat) (j : Nat) : List Nat := (List.range rk.length).filter fun p => rk.getD p 0 == j
def tp (rk : List Nat) (j : Nat) : Nat := (rw_ rk j).getLastD 0
def gw (turn rk : List Nat) (i : Nat) : Nat → Bool := fun s => decide (vl turn (tp rk s) < vl turn i)
def wi (turn rk : List Nat) (k i : Nat) : Nat := hv (gw turn rk i) 0 k
def rkS (turn : List Nat) : Nat → List Nat × Nat
  | 0 => ([], 0)
  | i + 1 => ((rkS turn i).1 ++ [wi turn (rkS turn i).1 (rkS turn i).2 i], max (rkS turn i).2 (wi turn (rkS turn i).1 (rkS turn i).2 i + 1))
def rowsL (rk : List Nat) (k : Nat) : List (List Nat) := (List.range k).map (rw_ rk)
theorem mem_rw {rk : List Nat} {j p : Nat} : p ∈ rw_ rk j ↔ p < rk.length ∧ rk.getD p 0 = j := by
  unfold rw_
  rw [List.mem_filter, List.mem_range]
  simp
theorem rw_sorted (rk : List Nat) (j : Nat) : (rw_ rk j).Pairwise (· < ·) := List.Pairwise.filter _ List.pairwise_lt_range
theorem last_ge : ∀ {l : List Nat}, l.Pairwise (· < ·) → ∀ p ∈ l, p ≤ l.getLastD 0
  | [], _, p, h => by cases h
  | [a], _, p, h => by rw [List.mem_singleton.mp h]; exact Nat.le_refl _
  | a :: b :: l, hs, p, h => by
    have ih := last_ge (l := b :: l) (List.Pairwise.of_cons hs)
    have e : (a :: b :: l).getLastD 0 = (b :: l).getLastD 0 := by simp
    rw [e]
    rcases List.mem_cons.mp h with rfl | h
    · have h1 := List.rel_of_pairwise_cons hs (List.mem_cons_self (a := b) (l := l))
      have h2 := ih b List.mem_cons_self
      omega
    · exact ih p h
theorem last_mem : ∀ {l : List Nat}, l ≠ [] → l.getLastD 0 ∈ l
  | [], h => absurd rfl h
  | [a], _ => List.mem_cons_self
  | a :: b :: l, _ => by
    have e : (a :: b :: l).getLastD 0 = (b :: l).getLastD 0 := by simp
    rw [e]
    exact List.mem_cons_of_mem _ (last_mem (l := b :: l) (by simp))
/-- what the ranks of the first i places keep -/
structure RI (turn : List Nat) (i : Nat) (rk : List Nat) (k : Nat) : Prop where
  len : rk.length = i
  lt : ∀ p, p < i → rk.getD p 0 < k
  A : ∀ p q, p < q → q < i → vl turn p < vl turn q → rk.getD p 0 < rk.getD q 0
  B : ∀ q, q < i → 0 < rk.getD q 0 → ∃ p, p < q ∧ vl turn p < vl turn q ∧ rk.getD p 0 + 1 = rk.getD q 0
  ne : ∀ j, j < k → ∃ p, p < i ∧ rk.getD p 0 = j
  kle : k ≤ i
section
variable {turn rk : List Nat} {i k : Nat}
theorem RI.row_ne (R : RI turn i rk k) {j : Nat} (h : j < k) : rw_ rk j ≠ [] := fun z => by
  obtain ⟨p, h1, h2⟩ := R.ne j h
  have : p ∈ rw_ rk j := mem_rw.mpr ⟨by rw [R.len]; exact h1, h2⟩
  rw [z] at this; cases this
theorem RI.tp_in (R : RI turn i rk k) {j : Nat} (h : j < k) : tp rk j < i ∧ rk.getD (tp rk j) 0 = j := by
  have := mem_rw.mp (last_mem (R.row_ne h))
  rw [R.len] at this; exact this
theorem RI.tp_le (R : RI turn i rk k) {p : Nat} (h : p < i) : p ≤ tp rk (rk.getD p 0) ∧ vl turn (tp rk (rk.getD p 0)) ≤ vl turn p := by
  have h1 : p ≤ tp rk (rk.getD p 0) := last_ge (rw_sorted _ _) p (mem_rw.mpr ⟨by rw [R.len]; exact h, rfl⟩)
  refine ⟨h1, ?_⟩
  have h2 := R.tp_in (R.lt p h)
  by_cases e : p = tp rk (rk.getD p 0)
  · rw [← e]; exact Nat.le_refl _
  · refine Nat.le_of_not_lt fun z => ?_
    have := R.A p (tp rk (rk.getD p 0)) (by omega) h2.1 z
    omega
theorem RI.tops (R : RI turn i rk k) {j : Nat} (h : j + 1 < k) : vl turn (tp rk j) < vl turn (tp rk (j + 1)) := by
  obtain ⟨h1, h2⟩ := R.tp_in h
  obtain ⟨p, p1, p2, p3⟩ := R.B _ h1 (by omega)
  have p4 : rk.getD p 0 = j := by omega
  have := (R.tp_le (p := p) (by omega)).2
  rw [p4] at this
  omega
theorem pre_ex (g : Nat → Bool) : ∀ k, (∀ s, s + 1 < k → g (s + 1) = true → g s = true) → ∃ m, m ≤ k ∧ ∀ s, s < k → (g s = true ↔ s < m)
  | 0, _ => ⟨0, Nat.le_refl _, fun s h => by omega⟩
  | k + 1, h => by
    obtain ⟨m, hm, hs⟩ := pre_ex g k fun s hs => h s (by omega)
    by_cases hg : g k = true
    · have hall : ∀ s, s ≤ k → g s = true := fun s hs' => by
        have : ∀ d, d ≤ k → g (k - d) = true := fun d => by
          induction d with
          | zero => intro _; exact hg
          | succ d ih =>
            intro hd
            have := ih (by omega)
            exact h (k - (d + 1)) (by omega) (by rw [show k - (d + 1) + 1 = k - d by omega]; exact this)
        have := this (k - s) (by omega)
        rw [show k - (k - s) = s by omega] at this; exact this
      exact ⟨k + 1, Nat.le_refl _, fun s hs' => ⟨fun _ => hs', fun _ => hall s (by omega)⟩⟩
    · refine ⟨m, by omega, fun s hs' => ?_⟩
      by_cases e : s = k
      · subst e
        exact ⟨fun z => absurd z hg, fun z => by omega⟩
      · exact hs s (by omega)
theorem RI.w (R : RI turn i rk k) : wi turn rk k i ≤ k ∧ ∀ s, s < k → (vl turn (tp rk s) < vl turn i ↔ s < wi turn rk k i) := by
  obtain ⟨m, hm, hs⟩ := pre_ex (gw turn rk i) k fun s h1 h2 => by
    have := R.tops h1
    have h3 : vl turn (tp rk (s + 1)) < vl turn i := of_decide_eq_true h2
    exact decide_eq_true (by omega)
  have e : wi turn rk k i = m := hv_eq 0 k hs (Nat.zero_le _) hm
  rw [e]
  refine ⟨hm, fun s h => ?_⟩
  have := hs s h
  exact ⟨fun z => this.mp (decide_eq_true z), fun z => of_decide_eq_true (this.mpr z)⟩
theorem getD_app {l : List Nat} {x p : Nat} (h : p < l.length) : (l ++ [x]).getD p 0 = l.getD p 0 := by
  rw [List.getD_eq_getElem?_getD, List.getD_eq_getElem?_getD, List.getElem?_append_left h]
theorem getD_end {l : List Nat} {x : Nat} : (l ++ [x]).getD l.length 0 = x := by
  rw [List.getD_eq_getElem?_getD, List.getElem?_append_right (Nat.le_refl _)]; simp
theorem RI.step (R : RI turn i rk k) : RI turn (i + 1) (rk ++ [wi turn rk k i]) (max k (wi turn rk k i + 1)) := by
  obtain ⟨w1, w2⟩ := R.w
  have hl := R.len
  have o : ∀ p, p < i → (rk ++ [wi turn rk k i]).getD p 0 = rk.getD p 0 := fun p hp => getD_app (by omega)
  have e : (rk ++ [wi turn rk k i]).getD i 0 = wi turn rk k i := by
    have := getD_end (l := rk) (x := wi turn rk k i)
    rw [hl] at this; exact this
  refine ⟨by rw [List.length_append, hl]; rfl, fun p hp => ?_, fun p q hpq hq hv => ?_, fun q hq h0 => ?_, fun j hj => ?_, ?_⟩
  · by_cases h : p < i
    · rw [o p h]; have := R.lt p h; omega
    · rw [show p = i by omega, e]; omega
  · by_cases h : q < i
    · rw [o p (by omega), o q h]; exact R.A p q hpq h hv
    · have hqi : q = i := by omega
      subst hqi
      rw [o p hpq, e]
      have := (R.tp_le hpq).2
      exact (w2 _ (R.lt p hpq)).mp (by omega)
  · by_cases h : q < i
    · rw [o q h] at h0 ⊢
      obtain ⟨p, p1, p2, p3⟩ := R.B q h h0
      exact ⟨p, p1, p2, by rw [o p (by omega)]; exact p3⟩
    · have hqi : q = i := by omega
      subst hqi
      rw [e] at h0 ⊢
      have h3 := R.tp_in (j := wi turn rk k q - 1) (by omega)
      refine ⟨tp rk (wi turn rk k q - 1), h3.1, (w2 _ (by omega)).mpr (by omega), ?_⟩
      rw [o _ h3.1, h3.2]; omega
  · by_cases h : j < k
    · obtain ⟨p, p1, p2⟩ := R.ne j h
      exact ⟨p, by omega, by rw [o p p1]; exact p2⟩
    · exact ⟨i, by omega, by rw [e]; omega⟩
  · have := R.kle; omega
end
theorem ri (turn : List Nat) : ∀ i, RI turn i (rkS turn i).1 (rkS turn i).2
  | 0 => ⟨rfl, fun p h => by omega, fun p q _ h => by omega, fun q h => by omega, fun j h => by exact absurd h (Nat.not_lt_zero _), Nat.le_refl _⟩
  | i + 1 => (ri turn i).step
/-! ### how the rows grow -/
theorem rw_app (rk : List Nat) (w j : Nat) : rw_ (rk ++ [w]) j = if w = j then rw_ rk j ++ [rk.length] else rw_ rk j := by
  unfold rw_
  rw [List.length_append, List.length_singleton, List.range_succ, List.filter_append]
  have e1 : (List.range rk.length).filter (fun p => (rk ++ [w]).getD p 0 == j) = (List.range rk.length).filter fun p => rk.getD p 0 == j :=
    List.filter_congr fun p hp => by rw [getD_app (List.mem_range.mp hp)]
  rw [e1]
  by_cases h : w = j
  · rw [if_pos h, List.filter_cons, getD_end, if_pos (by simpa using h)]; rfl
  · rw [if_neg h, List.filter_cons, getD_end, if_neg (by simpa using h)]; simp
theorem rows_app {rk : List Nat} {k w : Nat} (h : w ≤ k) (hk : rw_ rk k = []) : rowsL (rk ++ [w]) (max k (w + 1)) = if w = k then rowsL rk k ++ [[rk.length]] else (rowsL rk k).set w (rw_ rk w ++ [rk.length]) := by
  unfold rowsL
  by_cases e : w = k
  · subst e
    rw [if_pos rfl, Nat.max_eq_right (by omega), List.range_succ, List.map_append]
    congr 1
    · exact List.map_congr_left fun j hj => by rw [rw_app, if_neg (by have := List.mem_range.mp hj; omega)]
    · rw [List.map_singleton, rw_app, if_pos rfl, hk]; rfl
  · rw [if_neg e, Nat.max_eq_left (by omega)]
    refine List.ext_getElem? fun j => ?_
    rw [List.getElem?_map]
    by_cases hj : j < k
    · rw [List.getElem?_range hj]
      by_cases hjw : w = j
      · subst hjw
        rw [List.getElem?_set_self (by rw [List.length_map, List.length_range]; exact hj)]
        show some (rw_ (rk ++ [w]) w) = _
        rw [rw_app, if_pos rfl]
      · rw [List.getElem?_set_ne hjw, List.getElem?_map, List.getElem?_range hj]
        show some (rw_ (rk ++ [w]) j) = some (rw_ rk j)
        rw [rw_app, if_neg hjw]
    · rw [List.getElem?_eq_none (by rw [List.length_range]; omega), List.getElem?_eq_none (by rw [List.length_set, List.length_map, List.length_range]; omega)]; rfl
theorem RI.row_k {turn rk : List Nat} {i k : Nat} (R : RI turn i rk k) : rw_ rk k = [] := by
  refine List.eq_nil_iff_forall_not_mem.mpr fun p hp => ?_
  obtain ⟨h1, h2⟩ := mem_rw.mp hp
  rw [R.len] at h1
  have := R.lt p h1
  omega
/-- the place before: of a rank one less -/
def bf (rk : List Nat) (p : Nat) : Option Nat := if 0 < rk.getD p 0 then some (((List.range p).filter fun q => rk.getD q 0 == rk.getD p 0 - 1).getLastD 0) else none
theorem bf_app {rk : List Nat} {w p : Nat} (h : p < rk.length) : bf (rk ++ [w]) p = bf rk p := by
  unfold bf
  rw [getD_app h]
  have e : (List.range p).filter (fun q => (rk ++ [w]).getD q 0 == rk.getD p 0 - 1) = (List.range p).filter fun q => rk.getD q 0 == rk.getD p 0 - 1 :=
    List.filter_congr fun q hq => by rw [getD_app (by have := List.mem_range.mp hq; omega)]
  rw [e]
theorem bf_end {rk : List Nat} {w : Nat} : bf (rk ++ [w]) rk.length = if 0 < w then some (tp rk (w - 1)) else none := by
  unfold bf
  rw [getD_end]
  have e : (List.range rk.length).filter (fun q => (rk ++ [w]).getD q 0 == w - 1) = rw_ rk (w - 1) :=
    List.filter_congr fun q hq => by rw [getD_app (List.mem_range.mp hq)]
  rw [e]; rfl
theorem RI.bf {turn rk : List Nat} {i k : Nat} (R : RI turn i rk k) {p : Nat} (h : p < i) (h0 : 0 < rk.getD p 0) : ∃ q, Mvs.bf rk p = some q ∧ q < p ∧ vl turn q < vl turn p ∧ rk.getD q 0 + 1 = rk.getD p 0 := by
  have hs : ((List.range p).filter fun q => rk.getD q 0 == rk.getD p 0 - 1).Pairwise (· < ·) := List.Pairwise.filter _ List.pairwise_lt_range
  obtain ⟨b, b1, b2, b3⟩ := R.B p h h0
  have hb : b ∈ (List.range p).filter fun q => rk.getD q 0 == rk.getD p 0 - 1 := List.mem_filter.mpr ⟨List.mem_range.mpr b1, beq_iff_eq.mpr (by omega)⟩
  have hm := last_mem (l := (List.range p).filter fun q => rk.getD q 0 == rk.getD p 0 - 1) (fun z => by rw [z] at hb; cases hb)
  have hge := last_ge hs b hb
  refine ⟨_, if_pos h0, ?_⟩
  obtain ⟨m1, m2⟩ := List.mem_filter.mp hm
  have m1' := List.mem_range.mp m1
  have m2' : rk.getD (((List.range p).filter fun q => rk.getD q 0 == rk.getD p 0 - 1).getLastD 0) 0 = rk.getD p 0 - 1 := by simpa using m2
  generalize ((List.range p).filter fun q => rk.getD q 0 == rk.getD p 0 - 1).getLastD 0 = q at hge m1' m2' ⊢
  refine ⟨m1', ?_, by omega⟩
  by_cases e : b = q
  · rw [← e]; exact b2
  · have : ¬ vl turn b < vl turn q := fun z => by
      have := R.A b q (by omega) (by omega) z
      omega
    omega
/-! ### the places that are kept -/
def kc (rk : List Nat) : Nat → Nat → List Nat → List Nat
  | 0, p, acc => p :: acc
  | j + 1, p, acc => kc rk j ((bf rk p).getD 0) (p :: acc)
def keptL (rk : List Nat) (k : Nat) : List Nat := if k = 0 then [] else kc rk (k - 1) (tp rk (k - 1)) []
structure KI (turn : List Nat) (i : Nat) (rk : List Nat) (k : Nat) (kept : List Nat) : Prop where
  len : kept.length = k
  at_ : ∀ r, r < k → kept.getD r 0 < i ∧ rk.getD (kept.getD r 0) 0 = r
  up : ∀ r s, r < s → s < k → kept.getD r 0 < kept.getD s 0 ∧ vl turn (kept.getD r 0) < vl turn (kept.getD s 0)
theorem kc_ok {turn rk : List Nat} {i k : Nat} (R : RI turn i rk k) : ∀ (j p : Nat) (acc : List Nat), p < i → rk.getD p 0 = j → acc.length + j + 1 = k →
    (∀ r, r < acc.length → acc.getD r 0 < i ∧ rk.getD (acc.getD r 0) 0 = j + 1 + r) → (∀ r s, r < s → s < acc.length → acc.getD r 0 < acc.getD s 0 ∧ vl turn (acc.getD r 0) < vl turn (acc.getD s 0)) → (0 < acc.length → p < acc.getD 0 0 ∧ vl turn p < vl turn (acc.getD 0 0)) →
    KI turn i rk k (kc rk j p acc)
  | 0, p, acc, hp, hr, hl, h1, h2, h3 => by
    refine ⟨by show acc.length + 1 = k; omega, fun r h => ?_, fun r s hrs hs => ?_⟩
    · cases r with
      | zero => exact ⟨hp, hr⟩
      | succ r =>
        obtain ⟨a, b⟩ := h1 r (by omega)
        exact ⟨a, by show rk.getD (acc.getD r 0) 0 = r + 1; omega⟩
    · cases s with
      | zero => omega
      | succ s =>
        cases r with
        | zero =>
          obtain ⟨a, b⟩ := h3 (by omega)
          show p < acc.getD s 0 ∧ vl turn p < vl turn (acc.getD s 0)
          by_cases e : s = 0
          · subst e; exact ⟨a, b⟩
          · obtain ⟨c, d⟩ := h2 0 s (by omega) (by omega)
            exact ⟨by omega, by omega⟩
        | succ r => exact h2 r s (by omega) (by omega)
  | j + 1, p, acc, hp, hr, hl, h1, h2, h3 => by
    obtain ⟨q, e, q1, q2, q3⟩ := R.bf hp (by omega)
    show KI turn i rk k (kc rk j ((bf rk p).getD 0) (p :: acc))
    rw [e]
    show KI turn i rk k (kc rk j q (p :: acc))
    refine kc_ok R j q (p :: acc) (by omega) (by omega) (by rw [List.length_cons]; omega) (fun r h => ?_) (fun r s hrs hs => ?_) fun _ => ⟨q1, q2⟩
    · cases r with
      | zero => exact ⟨hp, by show rk.getD p 0 = j + 1 + 0; omega⟩
      | succ r =>
        obtain ⟨a, b⟩ := h1 r (by rw [List.length_cons] at h; omega)
        exact ⟨a, by show rk.getD (acc.getD r 0) 0 = j + 1 + (r + 1); omega⟩
    · cases s with
      | zero => omega
      | succ s =>
        rw [List.length_cons] at hs
        cases r with
        | zero =>
          obtain ⟨a, b⟩ := h3 (by omega)
          show p < acc.getD s 0 ∧ vl turn p < vl turn (acc.getD s 0)
          by_cases e : s = 0
          · subst e; exact ⟨a, b⟩
          · obtain ⟨c, d⟩ := h2 0 s (by omega) (by omega)
            exact ⟨by omega, by omega⟩
        | succ r => exact h2 r s (by omega) (by omega)
theorem kept_ok {turn rk : List Nat} {i k : Nat} (R : RI turn i rk k) : KI turn i rk k (keptL rk k) := by
  unfold keptL
  by_cases h : k = 0
  · subst h; rw [if_pos rfl]; exact ⟨rfl, fun r h => absurd h (Nat.not_lt_zero _), fun r s _ h => absurd h (Nat.not_lt_zero _)⟩
  · rw [if_neg h]
    have := R.tp_in (j := k - 1) (by omega)
    exact kc_ok R (k - 1) _ [] this.1 this.2 (by show 0 + (k - 1) + 1 = k; omega) (fun r h => absurd h (Nat.not_lt_zero _)) (fun r s _ h => absurd h (Nat.not_lt_zero _)) fun h => absurd h (Nat.not_lt_zero _)
end Mvs

set_option maxHeartbeats 4000000
namespace Mvs
open L2 Trn Mv
/-! ### the moves -/
def ix (x : Nat) (l : List Nat) : Nat := l.idxOf x
def ins (l : List Nat) (e x : Nat) : List Nat := l.take e ++ x :: l.drop e
def endOf (turn : List Nat) (now1 : List Nat) (place : Nat) : Nat := if 0 < place then ix (vl turn (place - 1)) now1 + 1 else 0
def stM (turn kept : List Nat) (st : List Nat × List (Nat × Nat)) (place : Nat) : List Nat × List (Nat × Nat) :=
  if place ∈ kept then st else
    (ins (st.1.eraseIdx (ix (vl turn place) st.1)) (endOf turn (st.1.eraseIdx (ix (vl turn place) st.1)) place) (vl turn place),
     st.2 ++ [(ix (vl turn place) st.1, endOf turn (st.1.eraseIdx (ix (vl turn place) st.1)) place)])
def mvL (turn kept : List Nat) : Nat → List Nat × List (Nat × Nat)
  | 0 => (List.range turn.length, [])
  | i + 1 => stM turn kept (mvL turn kept i) i
theorem sub_anti {l : List Nat} (nd : l.Nodup) {x y : Nat} (h1 : [x, y].Sublist l) (h2 : [y, x].Sublist l) : False := by
  induction l with
  | nil => cases h1
  | cons a l ih =>
    have nd' := (List.nodup_cons.mp nd)
    cases h1 with
    | cons _ h1 =>
      cases h2 with
      | cons _ h2 => exact ih nd'.2 h1 h2
      | cons_cons _ h2 => exact nd'.1 (h1.subset (List.mem_cons_of_mem _ List.mem_cons_self))
    | cons_cons _ h1 =>
      cases h2 with
      | cons _ h2 => exact nd'.1 (h2.subset (List.mem_cons_of_mem _ List.mem_cons_self))
      | cons_cons _ h2 => exact nd'.1 (h1.subset List.mem_cons_self)
theorem ix_lt {x : Nat} {l : List Nat} (h : x ∈ l) : ix x l < l.length := List.idxOf_lt_length_of_mem h
theorem ix_at {x : Nat} {l : List Nat} (h : x ∈ l) : l[ix x l]? = some x := by
  rw [List.getElem?_eq_getElem (ix_lt h)]
  exact congrArg some (List.getElem_idxOf (ix_lt h))
theorem ix_first {x : Nat} : ∀ {l : List Nat} {i : Nat}, i < ix x l → l[i]? ≠ some x
  | [], i, h => by simp [ix] at h
  | a :: l, i, h => by
    unfold ix at h
    rw [List.idxOf_cons] at h
    by_cases e : a = x
    · subst e; simp at h
    · have hb : (a == x) = false := by simpa using e
      rw [hb] at h
      simp at h
      cases i with
      | zero => intro z; simp at z; exact e z
      | succ i => rw [List.getElem?_cons_succ]; exact ix_first (l := l) (i := i) (by unfold ix; omega)
theorem split_at {x : Nat} {l : List Nat} (h : x ∈ l) : l = l.take (ix x l) ++ x :: l.drop (ix x l + 1) := by
  have h1 := ix_lt h
  have h2 := ix_at h
  rw [List.getElem?_eq_getElem h1] at h2
  have h3 : l[ix x l] = x := Option.some.inj h2
  conv => lhs; rw [← List.take_append_drop (ix x l) l, List.drop_eq_getElem_cons h1, h3]
theorem erase_at {x : Nat} {l : List Nat} (h : x ∈ l) : l.eraseIdx (ix x l) = l.take (ix x l) ++ l.drop (ix x l + 1) := List.eraseIdx_eq_take_drop_succ l _
/-- what stands where: the row as it stands, behind the places so far -/
structure MI (turn kept : List Nat) (i : Nat) (now : List Nat) : Prop where
  perm : now.Perm (List.range turn.length)
  good : ∀ a b, a < b → b < turn.length → (a < i ∨ a ∈ kept) → (b < i ∨ b ∈ kept) → [vl turn a, vl turn b].Sublist now
  still : ∀ a b, a < turn.length → b < turn.length → (i ≤ a ∨ a ∈ kept) → (i ≤ b ∨ b ∈ kept) → vl turn a < vl turn b → [vl turn a, vl turn b].Sublist now
theorem vl_lt {turn : List Nat} (T : Tn turn.length turn) {a : Nat} (h : a < turn.length) : vl turn a < turn.length := by
  refine T.lt _ ?_
  unfold vl
  rw [List.getD_eq_getElem?_getD, List.getElem?_eq_getElem h]
  exact List.getElem_mem h
theorem vl_inj {turn : List Nat} (T : Tn turn.length turn) {a b : Nat} (ha : a < turn.length) (hb : b < turn.length) (e : vl turn a = vl turn b) : a = b := by
  unfold vl at e
  rw [List.getD_eq_getElem?_getD, List.getElem?_eq_getElem ha, List.getD_eq_getElem?_getD, List.getElem?_eq_getElem hb] at e
  exact (List.getElem_inj T.nd).mp e
theorem mem_now {turn kept : List Nat} {i : Nat} {now : List Nat} (M : MI turn kept i now) (T : Tn turn.length turn) {a : Nat} (h : a < turn.length) : vl turn a ∈ now := M.perm.mem_iff.mpr (List.mem_range.mpr (vl_lt T h))
theorem MI.nd {turn kept : List Nat} {i : Nat} {now : List Nat} (M : MI turn kept i now) : now.Nodup := M.perm.nodup_iff.mpr List.nodup_range
theorem mi_start (turn kept : List Nat) (T : Tn turn.length turn) (hk : ∀ a b, a ∈ kept → b ∈ kept → a < b → vl turn a < vl turn b) : MI turn kept 0 (List.range turn.length) := by
  have sr : ∀ x y n, x < y → y < n → [x, y].Sublist (List.range n) := fun x y n h1 h2 => by
    induction n with
    | zero => omega
    | succ n ih =>
      rw [List.range_succ]
      by_cases e : y = n
      · subst e
        exact List.Sublist.append (l₁ := [x]) (r₁ := [y]) (List.singleton_sublist.mpr (List.mem_range.mpr h1)) (List.Sublist.refl _)
      · exact (ih (by omega)).trans (List.sublist_append_left _ _)
  refine ⟨List.Perm.refl _, fun a b hab hb h1 h2 => ?_, fun a b ha hb _ _ hv => sr _ _ _ hv (vl_lt T hb)⟩
  have h1' : a ∈ kept := h1.resolve_left (by omega)
  have h2' : b ∈ kept := h2.resolve_left (by omega)
  exact sr _ _ _ (hk a b h1' h2' hab) (vl_lt T hb)
/-- a place that is kept -/
theorem mi_kept {turn kept : List Nat} {i : Nat} {now : List Nat} (M : MI turn kept i now) (h : i ∈ kept) : MI turn kept (i + 1) now := by
  refine ⟨M.perm, fun a b hab hb h1 h2 => M.good a b hab hb ?_ ?_, fun a b ha hb h1 h2 => M.still a b ha hb ?_ ?_⟩
  · rcases h1 with h1 | h1
    · by_cases e : a = i
      · exact .inr (e ▸ h)
      · exact .inl (by omega)
    · exact .inr h1
  · rcases h2 with h1 | h1
    · by_cases e : b = i
      · exact .inr (e ▸ h)
      · exact .inl (by omega)
    · exact .inr h1
  · rcases h1 with h1 | h1
    · exact .inl (by omega)
    · exact .inr h1
  · rcases h2 with h1 | h1
    · exact .inl (by omega)
    · exact .inr h1
section
variable {turn kept : List Nat} {i : Nat} {now : List Nat}
/-- the row without the number, and where it is put in -/
theorem cut_in (M : MI turn kept i now) (T : Tn turn.length turn) (hi : i < turn.length) :
    ∃ A B : List Nat, now.eraseIdx (ix (vl turn i) now) = A ++ B ∧ A.length = endOf turn (now.eraseIdx (ix (vl turn i) now)) i ∧ (vl turn i) ∉ A ++ B ∧ (A ++ B).length + 1 = turn.length ∧
      (∀ a, a < i → vl turn a ∈ A) ∧ (∀ b, i < b → b < turn.length → b ∈ kept → vl turn b ∈ B) := by
  have nd := M.nd
  have hm := mem_now M T hi
  have hlen : now.length = turn.length := by rw [M.perm.length_eq, List.length_range]
  have hne : vl turn i ∉ now.eraseIdx (ix (vl turn i) now) := by
    rw [erase_at hm]
    have e := split_at hm
    rw [e] at nd
    have := (List.perm_middle (l₁ := now.take (ix (vl turn i) now)) (a := vl turn i) (l₂ := now.drop (ix (vl turn i) now + 1))).nodup_iff.mp nd
    exact (List.nodup_cons.mp this).1
  have hle : (now.eraseIdx (ix (vl turn i) now)).length + 1 = turn.length := by
    rw [List.length_eraseIdx, if_pos (ix_lt hm)]
    have := ix_lt hm
    omega
  have sub : ∀ x y, x ≠ vl turn i → y ≠ vl turn i → [x, y].Sublist now → [x, y].Sublist (now.eraseIdx (ix (vl turn i) now)) := fun x y h1 h2 h => by
    have e : now.eraseIdx (ix (vl turn i) now) = now.erase (vl turn i) := (List.erase_eq_eraseIdx_of_idxOf (i := ix (vl turn i) now) rfl).symm
    rw [e]
    have := h.erase (vl turn i)
    have e2 : [x, y].erase (vl turn i) = [x, y] := by
      rw [List.erase_cons_tail (by simpa using h1), List.erase_cons_tail (by simpa using h2)]; rfl
    rw [e2] at this; exact this
  have ndE : (now.eraseIdx (ix (vl turn i) now)).Nodup := nd.sublist (List.eraseIdx_sublist _ _)
  have vne : ∀ a, a < turn.length → a ≠ i → vl turn a ≠ vl turn i := fun a ha h e => h (vl_inj T ha hi e)
  by_cases h0 : 0 < i
  · have ht : vl turn (i - 1) ∈ now.eraseIdx (ix (vl turn i) now) := by
      have e : now.eraseIdx (ix (vl turn i) now) = now.erase (vl turn i) := (List.erase_eq_eraseIdx_of_idxOf (i := ix (vl turn i) now) rfl).symm
      rw [e]
      exact (List.mem_erase_of_ne (vne (i - 1) (by omega) (by omega))).mpr (mem_now M T (by omega))
    have es := split_at ht
    generalize hE : now.eraseIdx (ix (vl turn i) now) = E at hne hle sub ndE ht es
    have hix := ix_lt ht
    refine ⟨E.take (ix (vl turn (i - 1)) E + 1), E.drop (ix (vl turn (i - 1)) E + 1), (List.take_append_drop _ _).symm, ?_, by rw [List.take_append_drop]; exact hne, by rw [List.take_append_drop]; exact hle, fun a ha => ?_, fun b hb hbl hbk => ?_⟩
    · unfold endOf
      rw [if_pos h0, List.length_take]; omega
    · by_cases e : a = i - 1
      · subst e
        rw [List.mem_take_iff_getElem]
        refine ⟨ix (vl turn (i - 1)) E, by omega, ?_⟩
        have := ix_at ht
        rw [List.getElem?_eq_getElem hix] at this
        exact Option.some.inj this
      · have h1 := sub _ _ (vne a (by omega) (by omega)) (vne (i - 1) (by omega) (by omega)) (M.good a (i - 1) (by omega) (by omega) (.inl ha) (.inl (by omega)))
        have hin : vl turn a ∈ E := h1.subset List.mem_cons_self
        rw [← List.take_append_drop (ix (vl turn (i - 1)) E + 1) E] at hin
        rcases List.mem_append.mp hin with h | h
        · exact h
        · exfalso
          have h2 : [vl turn (i - 1), vl turn a].Sublist E := by
            rw [es]
            refine (List.Sublist.cons_cons _ (List.singleton_sublist.mpr h)).trans (List.sublist_append_right _ _)
          exact sub_anti ndE h1 h2
    · have h1 := sub _ _ (vne (i - 1) (by omega) (by omega)) (vne b hbl (by omega)) (M.good (i - 1) b (by omega) hbl (.inl (by omega)) (.inr hbk))
      have hin : vl turn b ∈ E := h1.subset (List.mem_cons_of_mem _ List.mem_cons_self)
      rw [es] at hin
      rcases List.mem_append.mp hin with h | h
      · exfalso
        have h2 : [vl turn b, vl turn (i - 1)].Sublist E := by
          rw [es]
          exact List.Sublist.append (l₁ := [vl turn b]) (r₁ := [vl turn (i - 1)]) (List.singleton_sublist.mpr h) (List.singleton_sublist.mpr List.mem_cons_self)
        exact sub_anti ndE h1 h2
      · rcases List.mem_cons.mp h with e | h
        · exact absurd (vl_inj T hbl (by omega) e) (by omega)
        · exact h
  · have e0 : i = 0 := by omega
    refine ⟨[], now.eraseIdx (ix (vl turn i) now), rfl, by unfold endOf; rw [if_neg h0]; rfl, hne, hle, fun a ha => by omega, fun b hb hbl hbk => ?_⟩
    have e : now.eraseIdx (ix (vl turn i) now) = now.erase (vl turn i) := (List.erase_eq_eraseIdx_of_idxOf (i := ix (vl turn i) now) rfl).symm
    rw [e]
    exact (List.mem_erase_of_ne (vne b hbl (by omega))).mpr (mem_now M T hbl)
theorem mi_move (M : MI turn kept i now) (T : Tn turn.length turn) (hi : i < turn.length) (hk : i ∉ kept) (hkl : ∀ a ∈ kept, a < turn.length) :
    MI turn kept (i + 1) (ins (now.eraseIdx (ix (vl turn i) now)) (endOf turn (now.eraseIdx (ix (vl turn i) now)) i) (vl turn i)) := by
  obtain ⟨A, B, e, hA, hne, hlen, hpre, hpost⟩ := cut_in M T hi
  have hm := mem_now M T hi
  have ei : ins (now.eraseIdx (ix (vl turn i) now)) (endOf turn (now.eraseIdx (ix (vl turn i) now)) i) (vl turn i) = A ++ vl turn i :: B := by
    unfold ins
    rw [← hA, e, List.take_left, List.drop_left]
  rw [ei]
  have vne : ∀ a, a < turn.length → a ≠ i → vl turn a ≠ vl turn i := fun a ha h z => h (vl_inj T ha hi z)
  have up : ∀ x y, x ≠ vl turn i → y ≠ vl turn i → [x, y].Sublist now → [x, y].Sublist (A ++ vl turn i :: B) := fun x y h1 h2 h => by
    have e' : now.eraseIdx (ix (vl turn i) now) = now.erase (vl turn i) := (List.erase_eq_eraseIdx_of_idxOf (i := ix (vl turn i) now) rfl).symm
    have h3 := h.erase (vl turn i)
    have e2 : [x, y].erase (vl turn i) = [x, y] := by
      rw [List.erase_cons_tail (by simpa using h1), List.erase_cons_tail (by simpa using h2)]; rfl
    rw [e2, ← e', e] at h3
    exact h3.trans (List.Sublist.append (List.Sublist.refl _) (List.sublist_cons_self _ _))
  refine ⟨?_, fun a b hab hb h1 h2 => ?_, fun a b ha hb h1 h2 hv => ?_⟩
  · have p1 : (A ++ vl turn i :: B).Perm (vl turn i :: (A ++ B)) := List.perm_middle
    refine p1.trans (List.Perm.trans ?_ M.perm)
    rw [← e, erase_at hm]
    have p2 : (now.take (ix (vl turn i) now) ++ vl turn i :: now.drop (ix (vl turn i) now + 1)).Perm (vl turn i :: (now.take (ix (vl turn i) now) ++ now.drop (ix (vl turn i) now + 1))) := List.perm_middle
    rw [← split_at hm] at p2
    exact p2.symm
  · by_cases ea : a = i
    · subst ea
      have hbk : b ∈ kept := h2.resolve_left (by omega)
      exact (List.Sublist.cons_cons _ (List.singleton_sublist.mpr (hpost b hab hb hbk))).trans (List.sublist_append_right _ _)
    · by_cases eb : b = i
      · subst eb
        exact List.Sublist.append (l₁ := [vl turn a]) (r₁ := [vl turn b]) (List.singleton_sublist.mpr (hpre a hab)) (List.singleton_sublist.mpr List.mem_cons_self)
      · refine up _ _ (vne a (by omega) ea) (vne b hb eb) (M.good a b hab hb ?_ ?_)
        · rcases h1 with h1 | h1
          · exact .inl (by omega)
          · exact .inr h1
        · rcases h2 with h2 | h2
          · exact .inl (by omega)
          · exact .inr h2
  · have ea : a ≠ i := fun z => by
      subst z
      rcases h1 with h1 | h1
      · omega
      · exact hk h1
    have eb : b ≠ i := fun z => by
      subst z
      rcases h2 with h2 | h2
      · omega
      · exact hk h2
    refine up _ _ (vne a ha ea) (vne b hb eb) (M.still a b ha hb ?_ ?_ hv)
    · rcases h1 with h1 | h1
      · exact .inl (by omega)
      · exact .inr h1
    · rcases h2 with h2 | h2
      · exact .inl (by omega)
      · exact .inr h2
end
/-- a move that leaves all as it is would make one place more that is kept -/
theorem no_idle {turn kept rk : List Nat} {i k : Nat} {now : List Nat} (R : RI turn turn.length rk k) (Kp : KI turn turn.length rk k kept) (M : MI turn kept i now) (T : Tn turn.length turn) (hi : i < turn.length) (hk : i ∉ kept) (hin : ∀ r, r < k → kept.getD r 0 ∈ kept) :
    ix (vl turn i) now ≠ endOf turn (now.eraseIdx (ix (vl turn i) now)) i := fun z => by
  obtain ⟨A, B, e, hA, hne, hlen, hpre, hpost⟩ := cut_in M T hi
  have hm := mem_now M T hi
  have es := split_at hm
  have e2 := erase_at hm
  rw [e] at e2
  have hle : (now.take (ix (vl turn i) now)).length = A.length := by
    rw [List.length_take, hA, ← z]; have := ix_lt hm; omega
  obtain ⟨eA, eB⟩ := List.append_inj e2.symm hle
  rw [eA, eB] at es
  have nd := M.nd
  obtain ⟨r1, r2⟩ := Kp.at_ (rk.getD i 0) (R.lt i hi)
  have hmk := hin (rk.getD i 0) (R.lt i hi)
  generalize kept.getD (rk.getD i 0) 0 = m at r1 r2 hmk
  have hmi : m ≠ i := fun q => hk (q ▸ hmk)
  have hv : vl turn m ≠ vl turn i := fun q => hmi (vl_inj T r1 hi q)
  by_cases h : m < i
  · -- m ahead of i
    have h1 : [vl turn m, vl turn i].Sublist now := by
      rw [es]
      exact List.Sublist.append (l₁ := [vl turn m]) (r₁ := [vl turn i]) (List.singleton_sublist.mpr (hpre m h)) (List.singleton_sublist.mpr List.mem_cons_self)
    have h2 : vl turn m < vl turn i := by
      by_cases q : vl turn m < vl turn i
      · exact q
      · exact (sub_anti nd h1 (M.still i m hi r1 (.inl (Nat.le_refl _)) (.inr hmk) (by omega))).elim
    have := R.A m i h hi h2
    omega
  · have h' : i < m := by omega
    have h1 : [vl turn i, vl turn m].Sublist now := by
      rw [es]
      exact (List.Sublist.cons_cons _ (List.singleton_sublist.mpr (hpost m h' r1 hmk))).trans (List.sublist_append_right _ _)
    have h2 : vl turn i < vl turn m := by
      by_cases q : vl turn i < vl turn m
      · exact q
      · exact (sub_anti nd h1 (M.still m i r1 hi (.inr hmk) (.inl (Nat.le_refl _)) (by omega))).elim
    have := R.A i m h' r1 h2
    omega
theorem eq_of_order : ∀ {l m : List Nat}, l.Perm m → m.Nodup → l.Pairwise (fun x y => [x, y].Sublist m) → l = m
  | [], m, p, _, _ => by rw [p.nil_eq]
  | a :: l, m, p, nd, h => by
    have ha : a ∈ m := p.subset List.mem_cons_self
    have es := split_at ha
    have h0 : m.take (ix a m) = [] := by
      refine List.eq_nil_iff_forall_not_mem.mpr fun b hb => ?_
      have hbm : b ∈ m := List.mem_of_mem_take hb
      have s1 : [b, a].Sublist m := by
        rw [es]
        exact List.Sublist.append (l₁ := [b]) (r₁ := [a]) (List.singleton_sublist.mpr hb) (List.singleton_sublist.mpr List.mem_cons_self)
      rcases List.mem_cons.mp (p.symm.subset hbm) with e | hbl
      · subst e
        rw [es] at nd
        exact (List.nodup_append.mp nd).2.2 b hb b List.mem_cons_self rfl
      · exact sub_anti nd (List.rel_of_pairwise_cons h hbl) s1
    rw [h0, List.nil_append] at es
    have es' : m = a :: m.drop (ix a m + 1) := es
    generalize m.drop (ix a m + 1) = m' at es'
    subst es'
    have p' := List.Perm.cons_inv p
    have nd' := (List.nodup_cons.mp nd)
    refine congrArg (a :: ·) (eq_of_order p' nd'.2 ?_)
    have hp := List.Pairwise.of_cons h
    refine hp.imp_of_mem fun {x y} hx hy hs => ?_
    have hxa : x ≠ a := fun q => nd'.1 (q ▸ p'.subset hx)
    cases hs with
    | cons _ hs => exact hs
    | cons_cons _ hs => exact absurd rfl hxa
theorem mi_end {turn kept now : List Nat} (M : MI turn kept turn.length now) (T : Tn turn.length turn) : now = turn := by
  have pt : turn.Perm (List.range turn.length) := by
    refine (List.perm_ext_iff_of_nodup T.nd List.nodup_range).mpr fun a => ⟨fun h => List.mem_range.mpr (T.lt a h), fun h => tn_all T a (List.mem_range.mp h)⟩
  refine (eq_of_order (pt.trans M.perm.symm) M.nd ?_).symm
  refine List.pairwise_iff_getElem.mpr ?_
  intro a b ha hb hab
  have := M.good a b hab hb (.inl ha) (.inl hb)
  unfold vl at this
  rw [List.getD_eq_getElem?_getD, List.getElem?_eq_getElem ha, List.getD_eq_getElem?_getD, List.getElem?_eq_getElem hb] at this
  exact this
/-! ### all of it -/
structure MvOk (turn kept : List Nat) (i : Nat) (st : List Nat × List (Nat × Nat)) : Prop where
  mi : MI turn kept i st.1
  ps : ∀ p ∈ st.2, p.1 < turn.length ∧ p.2 < turn.length ∧ p.1 ≠ p.2
  to : mvs (List.range turn.length) st.2 = st.1
  many : st.2.length + kept.countP (fun a => decide (a < i)) = i
theorem countP_succ (i : Nat) : ∀ (l : List Nat), l.Nodup → l.countP (fun a => decide (a < i + 1)) = l.countP (fun a => decide (a < i)) + if i ∈ l then 1 else 0
  | [], _ => rfl
  | a :: l, nd => by
    have ih := countP_succ i l (List.nodup_cons.mp nd).2
    have na := (List.nodup_cons.mp nd).1
    rw [List.countP_cons, List.countP_cons, ih]
    by_cases e : a = i
    · subst e
      rw [if_neg na, if_pos List.mem_cons_self]
      simp
    · have hm : (i ∈ a :: l) ↔ i ∈ l := ⟨fun h => (List.mem_cons.mp h).resolve_left (fun q => e q.symm), List.mem_cons_of_mem _⟩
      by_cases h1 : a < i
      · have h2 : a < i + 1 := by omega
        by_cases hl : i ∈ l
        · simp [h1, h2, hl, hm.mpr hl]
        · simp [h1, h2, hl, e, Ne.symm e]
      · have h2 : ¬ a < i + 1 := by omega
        by_cases hl : i ∈ l
        · simp [h1, h2, hl]
        · simp [h1, h2, hl, Ne.symm e]
theorem kept_mem {turn rk kept : List Nat} {i k : Nat} (Kp : KI turn i rk k kept) : (∀ r, r < k → kept.getD r 0 ∈ kept) ∧ (∀ a ∈ kept, ∃ r, r < k ∧ a = kept.getD r 0) := by
  have hl := Kp.len
  refine ⟨fun r h => ?_, fun a ha => ?_⟩
  · rw [List.getD_eq_getElem?_getD, List.getElem?_eq_getElem (by omega)]
    exact List.getElem_mem _
  · obtain ⟨r, hr, rfl⟩ := List.mem_iff_getElem.mp ha
    exact ⟨r, by omega, by rw [List.getD_eq_getElem?_getD, List.getElem?_eq_getElem hr]; rfl⟩
theorem kept_nd {turn rk kept : List Nat} {i k : Nat} (Kp : KI turn i rk k kept) : kept.Nodup := by
  have hl := Kp.len
  refine List.pairwise_iff_getElem.mpr fun a b ha hb hab => ?_
  have := (Kp.up a b hab (by omega)).1
  rw [List.getD_eq_getElem?_getD, List.getElem?_eq_getElem ha, List.getD_eq_getElem?_getD, List.getElem?_eq_getElem hb] at this
  have h' : kept[a] < kept[b] := this
  omega
theorem mv_all {turn rk kept : List Nat} {k : Nat} (R : RI turn turn.length rk k) (Kp : KI turn turn.length rk k kept) (T : Tn turn.length turn) : ∀ i, i ≤ turn.length → MvOk turn kept i (mvL turn kept i)
  | 0, _ => by
    obtain ⟨km1, km2⟩ := kept_mem Kp
    refine ⟨mi_start turn kept T fun a b ha hb hab => ?_, (fun p h => by cases h), rfl, ?_⟩
    · obtain ⟨r, hr, rfl⟩ := km2 a ha
      obtain ⟨s, hs, rfl⟩ := km2 b hb
      have : r < s := by
        by_cases q : r < s
        · exact q
        · by_cases q2 : r = s
          · subst q2; omega
          · have := (Kp.up s r (by omega) hr).1
            omega
      exact (Kp.up r s this hs).2
    · show 0 + _ = 0
      rw [Nat.zero_add, List.countP_eq_zero]
      intro a _
      simp
  | i + 1, h => by
    obtain ⟨km1, km2⟩ := kept_mem Kp
    have ih := mv_all R Kp T i (by omega)
    have hc := countP_succ i kept (kept_nd Kp)
    have hm := ih.many
    show MvOk turn kept (i + 1) (stM turn kept (mvL turn kept i) i)
    generalize mvL turn kept i = st at ih hm
    unfold stM
    by_cases hk : i ∈ kept
    · rw [if_pos hk] at hc ⊢
      exact ⟨mi_kept ih.mi hk, ih.ps, ih.to, by omega⟩
    · rw [if_neg hk] at hc ⊢
      have hx := mem_now ih.mi T (show i < turn.length by omega)
      have hlen : st.1.length = turn.length := by rw [ih.mi.perm.length_eq, List.length_range]
      have hkl : ∀ a ∈ kept, a < turn.length := fun a ha => by
        obtain ⟨r, hr, rfl⟩ := km2 a ha
        exact (Kp.at_ r hr).1
      obtain ⟨A, B, e, hA, hne, hle, _⟩ := cut_in ih.mi T (show i < turn.length by omega)
      have hel : endOf turn (st.1.eraseIdx (ix (vl turn i) st.1)) i < turn.length := by
        rw [← hA]; rw [List.length_append] at hle; omega
      refine ⟨mi_move ih.mi T (by omega) hk hkl, fun p hp => ?_, ?_, ?_⟩
      · rcases List.mem_append.mp hp with hp | hp
        · exact ih.ps p hp
        · rw [List.mem_singleton.mp hp]
          exact ⟨by have := ix_lt hx; omega, hel, no_idle R Kp ih.mi T (by omega) hk km1⟩
      · show List.foldl mv1 (List.range turn.length) (st.2 ++ [_]) = _
        rw [List.foldl_append]
        show mv1 (mvs (List.range turn.length) st.2) _ = _
        rw [ih.to, mv1_at (ix_at hx)]; rfl
      · show (st.2 ++ [_]).length + _ = _
        rw [List.length_append]
        show st.2.length + 1 + _ = _
        omega
/-- the moves of a turning: they lead to it, none is idle, and so many there are -/
def movesL (turn : List Nat) : List (Nat × Nat) := (mvL turn (keptL (rkS turn turn.length).1 (rkS turn turn.length).2) turn.length).2
theorem moves_ok {turn : List Nat} (T : Tn turn.length turn) : (∀ p ∈ movesL turn, p.1 < turn.length ∧ p.2 < turn.length ∧ p.1 ≠ p.2) ∧ mvs (List.range turn.length) (movesL turn) = turn ∧ (movesL turn).length + (rkS turn turn.length).2 = turn.length := by
  have R := ri turn turn.length
  have Kp := kept_ok R
  have h := mv_all R Kp T turn.length (Nat.le_refl _)
  obtain ⟨km1, km2⟩ := kept_mem Kp
  refine ⟨h.ps, h.to.trans (mi_end h.mi T), ?_⟩
  have hm := h.many
  have : (keptL (rkS turn turn.length).1 (rkS turn turn.length).2).countP (fun a => decide (a < turn.length)) = (keptL (rkS turn turn.length).1 (rkS turn turn.length).2).length := List.countP_eq_length.mpr fun a ha => by
    obtain ⟨r, hr, rfl⟩ := km2 a ha
    exact decide_eq_true (Kp.at_ r hr).1
  rw [this, Kp.len] at hm
  exact hm
end Mvs

set_option maxHeartbeats 4000000
namespace K62
open PySem L2 Lw Mv Mvs Trn
/-! ### the text by places -/
def top (i : Nat) : Stmt := PySem.Challenge.pw_ordertext_k62_moves_lead.main.body.getD i (.Pass ⟨0, 0, 0, 0⟩)
abbrev s_many_ahead : Stmt := top 1
abbrev s_moves : Stmt := top 3
abbrev s_moved : Stmt := top 4
abbrev s_paper_of : Stmt := top 5
abbrev s__law_seed : Stmt := top 7
abbrev s__law_draw : Stmt := top 8
abbrev s__law_turn : Stmt := top 9
abbrev s__law_many : Stmt := top 10
abbrev s__law_longest : Stmt := top 11
abbrev s__law_whole : Stmt := top 12
abbrev s__law_leads : Stmt := top 13
abbrev s_law : Stmt := top 14
theorem sc_many_ahead : FnScope ["places", "lies_ahead", "low", "high", "half"] ["places", "lies_ahead"] (defScope s_many_ahead) := ⟨rfl, rfl, rfl, by decide +kernel, rfl, by decide +kernel, by decide +kernel⟩
theorem sc_moves : FnScope ["turn", "kept", "now", "pairs", "place", "number", "start", "end"] ["turn"] (defScope s_moves) := ⟨rfl, rfl, rfl, by decide +kernel, rfl, by decide +kernel, by decide +kernel⟩
theorem sc_moved : FnScope ["row", "pairs", "things", "pair", "thing"] ["row", "pairs"] (defScope s_moved) := ⟨rfl, rfl, rfl, by decide +kernel, rfl, by decide +kernel, by decide +kernel⟩
theorem sc_paper_of : FnScope ["turn", "rows", "before", "place", "number", "which", "kept", "last"] ["turn"] (defScope s_paper_of) := ⟨rfl, rfl, rfl, by decide +kernel, rfl, by decide +kernel, by decide +kernel⟩
theorem sc__law_seed : FnScope ["cell", "number"] ["cell"] (defScope s__law_seed) := ⟨rfl, rfl, rfl, by decide +kernel, rfl, by decide +kernel, by decide +kernel⟩
theorem sc__law_draw : FnScope ["seed", "most", "found", "number"] ["seed", "most"] (defScope s__law_draw) := ⟨rfl, rfl, rfl, by decide +kernel, rfl, by decide +kernel, by decide +kernel⟩
theorem sc__law_turn : FnScope ["seed", "many", "left", "turn", "shape", "k", "at", "cut"] ["seed", "many"] (defScope s__law_turn) := ⟨rfl, rfl, rfl, by decide +kernel, rfl, by decide +kernel, by decide +kernel⟩
theorem sc__law_many : FnScope ["seed"] ["seed"] (defScope s__law_many) := ⟨rfl, rfl, rfl, by decide +kernel, rfl, by decide +kernel, by decide +kernel⟩
theorem sc__law_longest : FnScope ["turn", "heights", "at", "ahead"] ["turn"] (defScope s__law_longest) := ⟨rfl, rfl, rfl, by decide +kernel, rfl, by decide +kernel, by decide +kernel⟩
theorem sc__law_whole : FnScope ["number", "most"] ["number", "most"] (defScope s__law_whole) := ⟨rfl, rfl, rfl, by decide +kernel, rfl, by decide +kernel, by decide +kernel⟩
theorem sc__law_leads : FnScope ["turn", "found", "now", "pair"] ["turn", "found"] (defScope s__law_leads) := ⟨rfl, rfl, rfl, by decide +kernel, rfl, by decide +kernel, by decide +kernel⟩
theorem sc_law : FnScope ["script", "cell", "seed", "turn", "found"] ["script"] (defScope s_law) := ⟨rfl, rfl, rfl, by decide +kernel, rfl, by decide +kernel, by decide +kernel⟩
abbrev lq_paper_of : Str := (Str.ofString "paper_of" ++ ".<locals>.") ++ "<lambda>"
/-- what the top has written -/
structure Top (K : PySem.W.Frag) (mg : Str → Option Value) where
  f_many_ahead : Addr
  fd_many_ahead : FuncData
  F_many_ahead : Fun K "many_ahead" "many_ahead" s_many_ahead f_many_ahead fd_many_ahead
  b_many_ahead : Binds K fd_many_ahead ["places", "lies_ahead"] []
  m_many_ahead : mg "many_ahead" = some (.ref f_many_ahead)
  f_moves : Addr
  fd_moves : FuncData
  F_moves : Fun K "moves" "moves" s_moves f_moves fd_moves
  b_moves : Binds K fd_moves ["turn"] []
  m_moves : mg "moves" = some (.ref f_moves)
  f_moved : Addr
  fd_moved : FuncData
  F_moved : Fun K "moved" "moved" s_moved f_moved fd_moved
  b_moved : Binds K fd_moved ["row", "pairs"] []
  m_moved : mg "moved" = some (.ref f_moved)
  f_paper_of : Addr
  fd_paper_of : FuncData
  F_paper_of : Fun K "paper_of" "paper_of" s_paper_of f_paper_of fd_paper_of
  b_paper_of : Binds K fd_paper_of ["turn"] []
  m_paper_of : mg "paper_of" = some (.ref f_paper_of)
  f__law_seed : Addr
  fd__law_seed : FuncData
  F__law_seed : Fun K "_law_seed" "_law_seed" s__law_seed f__law_seed fd__law_seed
  b__law_seed : Binds K fd__law_seed ["cell"] []
  m__law_seed : mg "_law_seed" = some (.ref f__law_seed)
  f__law_draw : Addr
  fd__law_draw : FuncData
  F__law_draw : Fun K "_law_draw" "_law_draw" s__law_draw f__law_draw fd__law_draw
  b__law_draw : Binds K fd__law_draw ["seed", "most"] []
  m__law_draw : mg "_law_draw" = some (.ref f__law_draw)
  f__law_turn : Addr
  fd__law_turn : FuncData
  F__law_turn : Fun K "_law_turn" "_law_turn" s__law_turn f__law_turn fd__law_turn
  b__law_turn : Binds K fd__law_turn ["seed", "many"] []
  m__law_turn : mg "_law_turn" = some (.ref f__law_turn)
  f__law_many : Addr
  fd__law_many : FuncData
  F__law_many : Fun K "_law_many" "_law_many" s__law_many f__law_many fd__law_many
  b__law_many : Binds K fd__law_many ["seed"] []
  m__law_many : mg "_law_many" = some (.ref f__law_many)
  f__law_longest : Addr
  fd__law_longest : FuncData
  F__law_longest : Fun K "_law_longest" "_law_longest" s__law_longest f__law_longest fd__law_longest
  b__law_longest : Binds K fd__law_longest ["turn"] []
  m__law_longest : mg "_law_longest" = some (.ref f__law_longest)
  f__law_whole : Addr
  fd__law_whole : FuncData
  F__law_whole : Fun K "_law_whole" "_law_whole" s__law_whole f__law_whole fd__law_whole
  b__law_whole : Binds K fd__law_whole ["number", "most"] []
  m__law_whole : mg "_law_whole" = some (.ref f__law_whole)
  f__law_leads : Addr
  fd__law_leads : FuncData
  F__law_leads : Fun K "_law_leads" "_law_leads" s__law_leads f__law_leads fd__law_leads
  b__law_leads : Binds K fd__law_leads ["turn", "found"] []
  m__law_leads : mg "_law_leads" = some (.ref f__law_leads)
  c_paper_of : Addr
  P_paper_of : Addr
  cd_paper_of : fd_paper_of.code = .ref c_paper_of
  ch_paper_of : PySem.W.codeHdIn K c_paper_of P_paper_of = true
  len_ : mg "len" = none
  range_ : mg "range" = none
  tuple_ : mg "tuple" = none
  isinstance_ : mg "isinstance" = none
  list_ : mg "list" = none
  int_ : mg "int" = none
  max_ : mg "max" = none
  enumerate_ : mg "enumerate" = none
  bool_ : mg "bool" = none
  tt : PySem.W.kitOne K (.type "tuple") (.type "tuple") = some true
  ii : PySem.W.kitOne K (.type "int") (.type "int") = some true
  ib : PySem.W.kitOne K (.type "int") (.type "bool") = some false
end K62

set_option maxHeartbeats 4000000
namespace K62
open PySem L2 Lw Mv Mvs Trn
theorem two_div {i : Int} : CDivP i 2 := ⟨by decide, Nat.lt_of_lt_of_le (show (2 : Int).natAbs < 2 ^ 2 by decide) (Nat.pow_le_pow_right (by decide) (by decide))⟩
section
variable {P : Program} {w : World} {K : PySem.W.Frag} {mg : Str → Option Value} {base : Heap}
theorem ok_ma (T : Top K mg) (kk : Nat) : FnOkS P w K mg base (kk + 3) T.f_many_ahead T.fd_many_ahead ["places", "lies_ahead"] (spMA P w K mg base kk) := by
  refine T.F_many_ahead.okS (k := kk + 2) sc_many_ahead (fun s vs H Q h => ?_) (fun cdv A outer s H vs Q hr h => ?_)
  · obtain ⟨n, f, q, params, body, fr, sc, cl, y, cap, vals, te, g, rfl, _⟩ := h
    rfl
  · obtain ⟨n, f, q, params, body, fr, sc, cl, y, cap, vals, te, g, rfl, hn, S, hcap, L, C, hvl, hbind, hbody, hev, fin⟩ := h
    refine ⟨_, (pss_cons (ps_set (i := 2) sc_many_ahead.nd rfl (Or.inl rfl) pe_int) (pss_cons (ps_set (i := 3) sc_many_ahead.nd rfl (Or.inl rfl) (pv 0))
      (pss_cons (ps_while PassesOwn.never (pt_cmpR op_lt (pv 2) (pv 3) (nomark _)) (pss_cons (ps_set (i := 4) sc_many_ahead.nd rfl (Or.inl rfl) (pe_op op_fdivP (pe_op op_add (pv 2) (pv 3)) pe_int))
        (pss_one (ps_if (pt_val (pe_callV (i := 1) rfl (Or.inl rfl) (hr.mono (by omega)) rfl L C S hcap hbind hvl hbody (pa_cons (pv 4) pa_nil st_Name)))
          (pss_one (ps_set (i := 2) sc_many_ahead.nd rfl (Or.inl rfl) (pe_op op_add (pv 4) pe_int))) (pss_one (ps_set (i := 3) sc_many_ahead.nd rfl (Or.inl rfl) (pv 4)))))))
      (pss_one (ps_ret (pv 2)))))), ?_⟩
    refine ⟨_, rfl, ?_⟩
    refine while_by (fun σ H' => ∃ (low high : Nat) (v : Option V), σ = [some (.int (n : Nat)), some (.ref f), some (.int (low : Nat)), some (.int (high : Nat)), v] ∧ high ≤ n ∧ hv g low high = hv g 0 n ∧ Same H H') (fun σ _ => match σ with | [_, _, some (.int l), some (.int h), _] => (h - l).toNat | _ => 0)
      ⟨0, n, none, rfl, Nat.le_refl _, rfl, Same.refl _⟩ ?_ ?_
    · rintro σ H1 ⟨low, high, v, rfl, c2, c3, s1⟩
      refine ⟨_, rfl, _, rfl, _, _, rfl, rfl, _, rfl, ?_⟩
      by_cases hlt : (low : Int) < high
      · rw [decide_eq_true hlt]
        refine iteT ?_
        have hlt' : low < high := by omega
        refine ⟨_, rfl, _, rfl, _, _, rfl, rfl, _, _, rfl, rfl, two_div, ?_⟩
        obtain ⟨half, hhalf⟩ : ∃ half : Nat, ((low : Int) + high) / 2 = half := ⟨(((low : Int) + high) / 2).toNat, by omega⟩
        have hh : (low + high) / 2 = half := by omega
        (try dsimp only)
        rw [hhalf]
        have b1 : low ≤ half := by omega
        have b2 : half < high := by omega
        have e3 : hv g low high = if g half then hv g (half + 1) high else hv g low half := by
          rw [hv, dif_pos hlt', hh]
        refine if_ev (c := g half) (G := H1) ?_ (Same.refl _) (fun e G2 H2 g2 => ?_) (fun e G2 H2 g2 => ?_)
        · refine fun G1 H2 sa sb Q1 k1 => ⟨rfl, _, rfl, rfl, ?_⟩
          exact (hev half (by omega)) G1 H2 (s1.trans sa) sb _ fun v' G' H' g' hv' => ⟨_, hv'.bl, k1 G' H' g'⟩
        · refine ⟨_, rfl, _, _, rfl, rfl, ⟨half + 1, high, _, rfl, c2, ?_, s1.trans g2.hh⟩, ?_⟩
          · rw [← c3, e3, if_pos e]
          · show ((high : Int) - ((half : Int) + 1)).toNat < ((high : Int) - low).toNat
            omega
        · refine ⟨_, rfl, ⟨low, half, _, rfl, by omega, ?_, s1.trans g2.hh⟩, ?_⟩
          · rw [← c3, e3, if_neg (by rw [e]; exact Bool.false_ne_true)]
          · show ((half : Int) - low).toNat < ((high : Int) - low).toNat
            omega
      · rw [decide_eq_false hlt]
        refine iteF ?_
        refine ⟨_, rfl, ?_⟩
        have e3 : hv g low high = low := by rw [hv, dif_neg (by omega)]
        rw [← e3, c3]
        exact fin H1 s1
    · rintro σ H1 Q1 Q2 hq ⟨a, e1, b, e2, i, j, e3, e4, c, e5, q⟩
      exact ⟨a, e1, b, e2, i, j, e3, e4, c, e5, hq _ _ q⟩
end
end K62

set_option maxHeartbeats 4000000
namespace K62
open PySem L2 Lw Mv Mvs Trn
section
variable {P : Program} {w : World} {K : PySem.W.Frag} {mg : Str → Option Value} {base : Heap}
theorem ok_seed (T : Top K mg) : FnOk P w K mg base CX0 1 T.f__law_seed T.fd__law_seed ["cell"] spSeed := by
  refine T.F__law_seed.ok sc__law_seed (fun vs H Q E h => ?_) (fun cdv A outer s H vs Q E hr h => ?_)
  · obtain ⟨cell, rfl, _⟩ := h
    rfl
  · obtain ⟨cell, rfl, fin⟩ := h
    refine ⟨_, (pss_cons (ps_set (i := 1) sc__law_seed.nd rfl (Or.inl rfl) (pe_callB (call_max2 rfl) (by rfl) T.max_ bMax (pa_cons (pv 0) (pa_cons (pe_op op_sub pe_int (pv 0)) pa_nil st_BinOp) st_Name)))
      (pss_one (ps_ret (pe_lst (pa_cons (pv 1) (pa_cons (pe_callTy call_int1 (by rfl) T.int_ bInt (pa_cons (pe_cmpR op_ge (pv 1) (pe_op op_pow pe_int pe_int) (nomark _)) pa_nil st_Compare)) (pa_cons pe_int (pa_cons (pe_op op_mod (pv 0) pe_int) pa_nil st_BinOp) st_Constant) st_Call) st_Name))))) , ?_⟩
    refine ⟨_, rfl, _, rfl, _, _, rfl, rfl, _, _, rfl, ?_⟩
    refine ⟨_, rfl, _, rfl, _, _, rfl, rfl, ⟨by decide, by decide, by decide⟩, _, _, rfl, rfl, .inr ⟨_, rfl, ?_⟩⟩
    refine ⟨_, rfl, _, _, rfl, rfl, (by show (0 : Int) < 1999999927; decide), (by show 4 ≤ sizeLine; decide), fun p hp => ?_⟩
    exact fin p _ hp ⟨_, _, _, _, upd_same, by decide, by decide, Int.emod_nonneg _ (by decide), Int.emod_lt_of_pos _ (by decide)⟩ (same_new hp)
theorem ok_draw (T : Top K mg) : FnOk P w K mg base CX0 1 T.f__law_draw T.fd__law_draw ["seed", "most"] spDraw := by
  refine T.F__law_draw.ok sc__law_draw (fun vs H Q E h => ?_) (fun cdv A outer s H vs Q E hr h => ?_)
  · obtain ⟨d, m, n, rfl, _⟩ := h
    rfl
  · obtain ⟨d, m, n, rfl, ⟨a, b, c, e, hd, hc0, hcn, he0, he1⟩, hn, hm1, hm2, fin⟩ := h
    have hu := hr.units
    refine ⟨_, (pss_cons (ps_asg (pe_op op_add (pe_ix (ix_listK (K := K) rfl) (pv 0) pe_int (fun _ _ => rfl)) pe_int) (pg_sub (pv 0) pe_int set_list))
      (pss_cons (ps_if ((pw_and (pt_cmpR op_eq (pe_ix (ix_listK (K := K) rfl) (pv 0) pe_int (fun _ _ => rfl)) pe_int (nomark _)) (pw_and1 (pt_cmpR op_gt (pe_ix (ix_listK (K := K) rfl) (pv 0) pe_int (fun _ _ => rfl)) pe_int (nomark _))))).pt (pss_cons (ps_set (i := 2) sc__law_draw.nd rfl (Or.inl rfl) (pe_op op_mod (pe_ix (ix_listK (K := K) rfl) (pv 0) pe_int (fun _ _ => rfl)) (pv 1)))
      (pss_cons (ps_asg (pe_op op_fdivP (pe_ix (ix_listK (K := K) rfl) (pv 0) pe_int (fun _ _ => rfl)) (pv 1)) (pg_sub (pv 0) pe_int set_list))
      (pss_one (ps_ret (pv 2))))) pss_nil)
      (pss_cons (ps_set (i := 3) sc__law_draw.nd rfl (Or.inl rfl) (pe_op op_mod (pe_op op_mulW (pe_op op_add (pe_op op_add (pe_ix (ix_listK (K := K) rfl) (pv 0) pe_int (fun _ _ => rfl)) (pe_op op_mulW pe_int (pe_ix (ix_listK (K := K) rfl) (pv 0) pe_int (fun _ _ => rfl)))) pe_int) pe_int) pe_int))
      (pss_cons (ps_set (i := 3) sc__law_draw.nd rfl (Or.inl rfl) (pe_op op_mod (pe_op op_mulW (pe_op op_mod (pe_op op_mulW (pv 3) (pv 3)) pe_int) pe_int) pe_int))
      (pss_one (ps_ret (pe_op op_mod (pe_op op_fdivP (pv 3) pe_int) (pv 1)))))))) , ?_⟩
    refine ⟨_, rfl, d, _, 2, _, rfl, rfl, SqL.of hd, rfl, _, _, rfl, rfl, _, rfl, d, _, 2, 2, rfl, rfl, hd, rfl, ?_⟩
    have h1 : upd H d (.lst [V.int a, V.int b, V.int (c + 1), V.int e]) d = some (.lst [V.int a, V.int b, V.int (c + 1), V.int e]) := upd_same
    have B : But d H (upd H d (.lst [V.int a, V.int b, V.int (c + 1), V.int e])) := But.upd
    show tSeq _ _ _ _ (upd H d (.lst [V.int a, V.int b, V.int (c + 1), V.int e]))
    generalize upd H d (.lst [V.int a, V.int b, V.int (c + 1), V.int e]) = H1 at h1 B
    have hs : Dat K H1 (.ref d) (.list [.int a, .int b, .int (c + 1), .int e]) := dat_lst h1 (dats_cons (dat_int _) (dats_cons (dat_int _) (dats_cons (dat_int _) (dats_cons (dat_int _) dats_nil))))
    refine if_ev (G := H1) (evt_and (evt_test (ev_eqI (ev_ixL (K := K) (i := 1) (n := 1) (ev_var rfl hs) ev_int rfl rfl) ev_int)) fun _ => evt_test (ev_i0 (ev_ixL (K := K) (i := 0) (n := 0) (ev_var rfl hs) ev_int rfl rfl) ev_int (dat_bl _))) (Same.refl _) (fun _ G2 H2 g2 => ?_) (fun _ G2 H2 g2 => ?_)
    · have h2 := g2.hh _ _ h1
      refine ⟨_, rfl, d, _, 0, _, rfl, rfl, SqL.of h2, rfl, _, rfl, _, _, rfl, rfl, (by show 0 < m; omega), ?_⟩
      refine ⟨_, rfl, d, _, 0, _, rfl, rfl, SqL.of h2, rfl, _, rfl, _, _, rfl, rfl, ⟨by omega, w0 (by omega)⟩, _, rfl, d, _, 0, 0, rfl, rfl, h2, rfl, ?_⟩
      exact ⟨_, rfl, fin _ _ (Int.emod_nonneg _ (by omega)) (Int.emod_lt_of_pos _ (by omega)) ⟨_, _, _, _, upd_same, by omega, by omega, he0, he1⟩ ((B.trans (But.of g2.hh)).trans But.upd)⟩
    · have h2 := g2.hh _ _ h1
      have m1 : (6151 * (c + 1)).natAbs ≤ 10 ^ 10 := by omega
      refine ⟨_, rfl, d, _, 3, _, rfl, rfl, SqL.of h2, rfl, _, rfl, d, _, 2, _, rfl, rfl, SqL.of h2, rfl, _, _, rfl, rfl, mw (by decide) (by omega), _, _, rfl, rfl, _, _, rfl, rfl, _, _, rfl, rfl, mw (by omega) (by decide), _, _, rfl, rfl, (by show (0 : Int) < 2147483647; decide), ?_⟩
      (try dsimp only)
      generalize hM : (e + 6151 * (c + 1) + 3) * 48271 % 2147483647 = x
      have hx : 0 ≤ x ∧ x < 2147483647 := by rw [← hM]; exact ⟨Int.emod_nonneg _ (by decide), Int.emod_lt_of_pos _ (by decide)⟩
      have hxx := Int.emod_nonneg (x * x) (show (2147483629 : Int) ≠ 0 by decide)
      have hxy := Int.emod_lt_of_pos (x * x) (show (0 : Int) < 2147483629 by decide)
      refine ⟨_, rfl, _, rfl, _, _, rfl, rfl, mw (by omega) (by omega), _, _, rfl, rfl, (by show (0 : Int) < 2147483629; decide), _, _, rfl, rfl, mw (by omega) (by decide), _, _, rfl, rfl, (by show (0 : Int) < 2147483399; decide), ?_⟩
      refine ⟨_, rfl, _, _, rfl, rfl, ⟨by decide, by decide⟩, _, rfl, _, _, rfl, rfl, (by show 0 < m; omega), ?_⟩
      exact fin _ _ (Int.emod_nonneg _ (by omega)) (Int.emod_lt_of_pos _ (by omega)) ⟨_, _, _, _, h2, by omega, by omega, he0, he1⟩ (B.trans (But.of g2.hh))
theorem ok_many (T : Top K mg) : FnOk P w K mg base CX0 2 T.f__law_many T.fd__law_many ["seed"] spMany := by
  have G__law_draw : FnOk P w K mg base CX0 1 T.f__law_draw T.fd__law_draw ["seed", "most"] spDraw := ok_draw T
  refine T.F__law_many.ok sc__law_many (fun vs H Q E h => ?_) (fun cdv A outer s H vs Q E hr h => ?_)
  · obtain ⟨d, n, rfl, _⟩ := h
    rfl
  · obtain ⟨d, n, rfl, S, hn, fin⟩ := h
    refine ⟨_, (pss_one (ps_ret (pe_ix (ix_listK (K := K) rfl) (pe_lst (pa_cons (pe_call G__law_draw hr (by rfl) T.m__law_draw T.F__law_draw.kp T.b__law_draw .nil pass0 (pa_cons (pv 0) (pa_cons pe_int pa_nil st_Constant) st_Name)) (pa_cons (pe_call G__law_draw hr (by rfl) T.m__law_draw T.F__law_draw.kp T.b__law_draw .nil pass0 (pa_cons (pv 0) (pa_cons pe_int pa_nil st_Constant) st_Name)) (pa_cons (pe_op op_add pe_int (pe_call G__law_draw hr (by rfl) T.m__law_draw T.F__law_draw.kp T.b__law_draw .nil pass0 (pa_cons (pv 0) (pa_cons pe_int pa_nil st_Constant) st_Name))) (pa_cons (pe_call G__law_draw hr (by rfl) T.m__law_draw T.F__law_draw.kp T.b__law_draw .nil pass0 (pa_cons (pv 0) (pa_cons pe_int pa_nil st_Constant) st_Name)) pa_nil st_Call) st_BinOp) st_Call) st_Call)) (pe_call G__law_draw hr (by rfl) T.m__law_draw T.F__law_draw.kp T.b__law_draw .nil pass0 (pa_cons (pv 0) (pa_cons pe_int pa_nil st_Constant) st_Name)) (fun _ _ => rfl)))) , ?_⟩
    refine ⟨_, rfl, d, _, n, rfl, S, by omega, by decide, by decide, fun r1 H1 a1 b1 S1 B1 => ?_⟩
    refine ⟨_, rfl, d, _, n + 1, rfl, S1, by omega, by decide, by decide, fun r2 H2 a2 b2 S2 B2 => ?_⟩
    refine ⟨_, rfl, d, _, n + 2, rfl, S2, by omega, by decide, by decide, fun r3 H3 a3 b3 S3 B3 => ?_⟩
    refine ⟨_, _, rfl, rfl, _, rfl, d, _, n + 3, rfl, S3, by omega, by decide, by decide, fun r4 H4 a4 b4 S4 B4 => ?_⟩
    refine ⟨(by show 4 ≤ sizeLine; decide), fun p hp => ?_⟩
    refine ⟨_, rfl, d, _, n + 4, rfl, S4.same (same_new hp), by omega, by decide, by decide, fun r5 H5 a5 b5 S5 B5 => ?_⟩
    have hp5 : H5 p = some (.lst [V.int r1, V.int r2, V.int (20 + r3), V.int r4]) := B5 p _ upd_same (Ne.symm (S4.ne hp))
    have B := (((B1.trans B2).trans B3).trans B4).trans ((But.of (same_new (o := .lst [V.int r1, V.int r2, V.int (20 + r3), V.int r4]) hp)).trans B5)
    have h5 : r5 = 0 ∨ r5 = 1 ∨ r5 = 2 ∨ r5 = 3 := by omega
    rcases h5 with rfl | rfl | rfl | rfl
    · exact ⟨p, _, _, _, rfl, rfl, SqL.of hp5, rfl, fin r1 _ a1 (by omega) S5 B⟩
    · exact ⟨p, _, _, _, rfl, rfl, SqL.of hp5, rfl, fin r2 _ a2 (by omega) S5 B⟩
    · exact ⟨p, _, _, _, rfl, rfl, SqL.of hp5, rfl, fin (20 + r3) _ (by omega) (by omega) S5 B⟩
    · exact ⟨p, _, _, _, rfl, rfl, SqL.of hp5, rfl, fin r4 _ a4 (by omega) S5 B⟩
theorem ok_moved (T : Top K mg) : FnOk P w K mg base CX0 1 T.f_moved T.fd_moved ["row", "pairs"] (spP K RMoved) := by
  refine T.F_moved.ok sc_moved (fun vs H Q E h => ?_) (fun cdv A outer s H vs Q E hr h => ?_)
  · obtain ⟨G, as, d, sg, hv, ⟨ds, ps, rfl, _⟩, _⟩ := h
    rw [hv.length]; rfl
  · obtain ⟨G, as, d, sg, hv, ⟨ds, ps, rfl, hlt, l1, l2, rfl⟩, k⟩ := h
    obtain ⟨v1, r1, rfl, h1, hv⟩ := hv.cons
    obtain ⟨v2, r2, rfl, h2, hv⟩ := hv.cons
    cases hv.nil
    obtain ⟨a, xs, rfl, ha, hxs⟩ := h1.tup
    obtain ⟨b, qs, rfl, hb, hqs⟩ := h2.tup
    have lx : xs.length = ds.length := hxs.length
    have lq : qs.length = ps.length := by rw [hqs.length, List.length_map]
    have zz : (1000 : Nat) < sizeLine := by decide
    refine ⟨_, (pss_cons (ps_set (i := 2) sc_moved.nd rfl (Or.inl rfl) (pe_callTy (call_listK (K := K) rfl) (by rfl) T.list_ boot_lst (pa_cons (pv 0) pa_nil st_Name)))
      (pss_cons (ps_for PassesOwn.never rfl (pi_tup (pv 1)) (pg_name (i := 3) sc_moved.nd rfl (Or.inl rfl)) (pss_cons (ps_set (i := 4) sc_moved.nd rfl (Or.inl rfl) (pe_bm PySem.F.plainAttrs_list PySem.F.slot_list_pop PySem.F.type_list_pop mt_popAt (pv 2) (pa_cons (pe_ix (ix_tupK (K := K) rfl) (pv 3) pe_int (fun _ _ => rfl)) pa_nil st_Subscript)))
      (pss_one (ps_expr (pe_bm PySem.F.plainAttrs_list PySem.F.slot_list_insert PySem.F.type_list_insert mt_insert (pv 2) (pa_cons (pe_ix (ix_tupK (K := K) rfl) (pv 3) pe_int (fun _ _ => rfl)) (pa_cons (pv 4) pa_nil st_Name) st_Subscript))))))
      (pss_one (ps_ret (pe_callTy (call_tupleK (K := K) rfl) (by rfl) T.tuple_ bTup (pa_cons (pv 2) pa_nil st_Name)))))) , ?_⟩
    refine ⟨_, rfl, a, _, rfl, .inr (sg.tup ha), fun t ht => ?_⟩
    have hg : G t = none := sg.free ht
    refine ⟨_, rfl, b, rfl, ⟨_, (sg.trans (same_new ht)).tup hb⟩, for_tup (xs := qs) (fun i σ H' => ∃ v3 v4 : Option V, σ = [some (.ref a), some (.ref b), some (.ref t), v3, v4] ∧ Same G H' ∧ Same H H' ∧ ∃ zs, H' t = some (.lst zs) ∧ Dats K G zs (mvs ds (ps.take i))) ⟨_, _, rfl, sg.trans (same_new ht), same_new ht, xs, upd_same, hxs⟩ ?_ ?_ ?_⟩
    · rintro i σ H' _ ⟨v3, v4, rfl, s1, _⟩
      exact s1.tup hb
    · rintro i x σ H1 hx ⟨v3, v4, rfl, s1, sH, zs, h1, hzs⟩
      obtain ⟨d, hd, hxd⟩ := hqs.get' hx
      rw [List.getElem?_map] at hd
      cases e : ps[i]? with
      | none => rw [e] at hd; cases hd
      | some p =>
        rw [e] at hd; cases hd
        obtain ⟨c, rfl, hc⟩ := dat_dP hxd
        have hp := hlt p (List.mem_of_getElem? e)
        have hl : (mvs ds (ps.take i)).length = ds.length := mvs_len _ _
        have lz : zs.length = ds.length := by rw [hzs.length, hl]
        obtain ⟨y, hy, hys⟩ := dats_mv1 (p := p) hzs (by rw [hl]; exact hp.1)
        have ntc : ∀ {b : Addr} {o : HO}, H b = some o → b ≠ t := fun e => ne_of_none e ht
        have sU : ∀ o, Same G (upd H1 t o) := fun o => same_upd s1 hg
        have sUH : ∀ {H2 : Hp} o, Same H H2 → Same H (upd H2 t o) := fun o s => same_upd s ht
        refine ⟨_, rfl, tyV_lst h1, _, rfl, c, _, 0, _, rfl, rfl, s1.tup hc, rfl, t, zs, _, p.1, y, rfl, rfl, h1, by omega, by omega, seqIndex_nat (by omega), hy, ?_⟩
        refine ⟨_, rfl, tyV_lst upd_same, _, rfl, c, _, 1, _, rfl, rfl, (sU _).tup hc, rfl, _, rfl, t, _, _, y, rfl, rfl, upd_same, by omega, ?_, ?_, ?_⟩
        · rw [List.length_eraseIdx, if_pos (by omega)]; omega
        · rw [List.length_eraseIdx, if_pos (by omega)]; omega
        · refine ⟨_, _, rfl, same_upd (sU _) hg, sUH _ (sUH _ sH), _, upd_same, ?_⟩
          rw [mvs_succ e]
          exact hys
    · rintro σ H1 ⟨v3, v4, rfl, s1, sH, zs, h1, hzs⟩
      rw [lq, List.take_length] at hzs
      refine ⟨_, rfl, t, _, rfl, .inl ⟨SqL.of h1, fun l hl => ?_⟩⟩
      have g := grow_new (o := .tup zs) s1 hl
      exact k _ _ _ ((grow_h sg sH).trans g) (dat_tup (SqT.of upd_same) (hzs.same g.gg))
end
end K62

set_option maxHeartbeats 4000000
namespace K62
open PySem L2 Lw Mv Mvs Trn
/-! ### promises -/
def spTurn (K : PySem.W.Frag) : Sp := fun vs H Q _ => ∃ (d : Addr) (m : Int) (n : Nat), vs = [.ref d, .int m] ∧ Sd H d n ∧ n ≤ 10 ^ 4 ∧ 0 ≤ m ∧ m ≤ 60 ∧
  ∀ (ms : List Nat) (p : Addr) H', Tn m.toNat ms → H p = none → H' p = some (.tup (vN ms)) → Sd H' d (n + 1000) → But d H H' → Q (.ref p) H'
def RWhole : List PyData → PyData → Prop := fun as d => ∃ a m : Nat, as = [.int (a : Nat), .int (m : Nat)] ∧ d = .bool (decide (a < m))
def RLeads : List PyData → PyData → Prop := fun as d => ∃ (turn : List Nat) (ps : List (Nat × Nat)), as = [dN turn, .tuple (ps.map dP)] ∧ turn.length ≤ 60 ∧ ps.length ≤ 60 ∧ (∀ p ∈ ps, p.1 < turn.length ∧ p.2 < turn.length ∧ p.1 ≠ p.2) ∧ mvs (List.range turn.length) ps = turn ∧ d = .bool true
theorem vN_app (a b : List Nat) : vN (a ++ b) = vN a ++ vN b := List.map_append
theorem vN_len (a : List Nat) : (vN a).length = a.length := List.length_map _
theorem map_eraseN : ∀ (l : List Nat) (i : Nat), (vN l).eraseIdx i = vN (l.eraseIdx i)
  | [], _ => rfl
  | _ :: _, 0 => rfl
  | x :: l, i + 1 => by
    show (V.int (x : Nat) :: vN l).eraseIdx (i + 1) = vN ((x :: l).eraseIdx (i + 1))
    rw [List.eraseIdx_cons_succ, List.eraseIdx_cons_succ, map_eraseN l i]; rfl
theorem seq_if {tc : TT} {t u rest : TS} {D : Ends} {σ : St} {H : Hp} (R : St → Hp → Prop) (hr : ∀ σ' H', R σ' H' → rest D σ' H')
    (h : ∀ nx : St → Hp → Prop, (∀ σ' H', R σ' H' → nx σ' H') → tc σ H fun b H1 => if b = true then t { D with nx := nx } σ H1 else u { D with nx := nx } σ H1) : tSeq (tIfS tc t u) rest D σ H := h (rest D) hr
theorem t_eq {σ : St} {H : Hp} {Q : Bool → Hp → Prop} {i : Nat} {x c : Int} (h : σ[i]? = some (some (.int x))) (q : Q (decide (x = c)) H) : tTest (tOp rEq (tVar i) (tC (.int c))) σ H Q := by
  refine ⟨_, h, rfl, _, rfl, ?_⟩
  have e : decide (V.int x = V.int c) = decide (x = c) := by
    by_cases z : x = c
    · rw [decide_eq_true z, decide_eq_true (by rw [z])]
    · rw [decide_eq_false z, decide_eq_false fun y => z (by injection y)]
  rw [e]; exact q
section
variable {P : Program} {w : World} {K : PySem.W.Frag} {mg : Str → Option Value} {base : Heap}
theorem ok_turn (T : Top K mg) : FnOk P w K mg base CX0 2 T.f__law_turn T.fd__law_turn ["seed", "many"] (spTurn K) := by
  have G__law_draw : FnOk P w K mg base CX0 1 T.f__law_draw T.fd__law_draw ["seed", "most"] spDraw := ok_draw T
  refine T.F__law_turn.ok sc__law_turn (fun vs H Q E h => ?_) (fun cdv A outer s H vs Q E hr h => ?_)
  · obtain ⟨d, m, n, rfl, _⟩ := h
    rfl
  · obtain ⟨d, m, n, rfl, S, hn, hm0, hm1, fin⟩ := h
    refine ⟨_, (pss_cons (ps_set (i := 2) sc__law_turn.nd rfl (Or.inl rfl) (pe_lrange rfl (by rfl) T.list_ (by rfl) T.range_ (pa_cons (pv 1) pa_nil st_Name)))
      (pss_cons (ps_set (i := 3) sc__law_turn.nd rfl (Or.inl rfl) (pe_lst pa_nil))
      (pss_cons (ps_set (i := 4) sc__law_turn.nd rfl (Or.inl rfl) (pe_call G__law_draw hr (by rfl) T.m__law_draw T.F__law_draw.kp T.b__law_draw .nil pass0 (pa_cons (pv 0) (pa_cons pe_int pa_nil st_Constant) st_Name)))
      (pss_cons (ps_for PassesOwn.never rfl (pi_range1 (by rfl) T.range_ (pa_cons (pv 1) pa_nil st_Name)) (pg_name (i := 5) sc__law_turn.nd rfl (Or.inl rfl)) (pss_cons (ps_set (i := 6) sc__law_turn.nd rfl (Or.inl rfl) (pe_call G__law_draw hr (by rfl) T.m__law_draw T.F__law_draw.kp T.b__law_draw .nil pass0 (pa_cons (pv 0) (pa_cons (pe_callB (call_lenK (K := K) rfl) (by rfl) T.len_ PySem.boot_len (pa_cons (pv 2) pa_nil st_Name)) pa_nil st_Call) st_Name)))
      (pss_cons (ps_if ((pw_or (pt_cmpR op_eq (pv 4) pe_int (nomark _)) (pw_or1 ((pw_and (pt_cmpR op_eq (pv 4) pe_int (nomark _)) (pw_and1 (pt_cmpR op_gt (pe_call G__law_draw hr (by rfl) T.m__law_draw T.F__law_draw.kp T.b__law_draw .nil pass0 (pa_cons (pv 0) (pa_cons pe_int pa_nil st_Constant) st_Name)) pe_int (nomark _))))).pt))).pt (pss_one (ps_set (i := 6) sc__law_turn.nd rfl (Or.inl rfl) pe_int)) pss_nil)
      (pss_cons (ps_if ((pw_and (pt_cmpR op_eq (pv 4) pe_int (nomark _)) (pw_and1 (pt_cmpR op_gt (pe_call G__law_draw hr (by rfl) T.m__law_draw T.F__law_draw.kp T.b__law_draw .nil pass0 (pa_cons (pv 0) (pa_cons pe_int pa_nil st_Constant) st_Name)) pe_int (nomark _))))).pt (pss_one (ps_set (i := 6) sc__law_turn.nd rfl (Or.inl rfl) (pe_op op_sub (pe_callB (call_lenK (K := K) rfl) (by rfl) T.len_ PySem.boot_len (pa_cons (pv 2) pa_nil st_Name)) pe_int))) pss_nil)
      (pss_one (ps_expr (pe_bm PySem.F.plainAttrs_list PySem.F.slot_list_append PySem.F.type_list_append mt_append (pv 3) (pa_cons (pe_bm PySem.F.plainAttrs_list PySem.F.slot_list_pop PySem.F.type_list_pop mt_popAt (pv 2) (pa_cons (pv 6) pa_nil st_Name)) pa_nil st_Call))))))))
      (pss_cons (ps_if (pt_cmpR op_eq (pv 4) pe_int (nomark _)) (pss_cons (ps_set (i := 7) sc__law_turn.nd rfl (Or.inl rfl) (pe_call G__law_draw hr (by rfl) T.m__law_draw T.F__law_draw.kp T.b__law_draw .nil pass0 (pa_cons (pv 0) (pa_cons (pe_op op_add (pv 1) pe_int) pa_nil st_BinOp) st_Name)))
      (pss_one (ps_set (i := 3) sc__law_turn.nd rfl (Or.inl rfl) (pe_op op_cat (pe_lrange2 rfl (by rfl) T.list_ (by rfl) T.range_ (pa_cons (pv 7) (pa_cons (pv 1) pa_nil st_Name) st_Name)) (pe_lrange rfl (by rfl) T.list_ (by rfl) T.range_ (pa_cons (pv 7) pa_nil st_Name)))))) pss_nil)
      (pss_one (ps_ret (pe_callTy (call_tupleK (K := K) rfl) (by rfl) T.tuple_ bTup (pa_cons (pv 3) pa_nil st_Name))))))))) , ?_⟩
    have zl : (1000 : Nat) ≤ sizeLine := by decide
    refine ⟨_, rfl, m, rfl, hm0, by omega, fun l hl => ?_⟩
    refine ⟨(by show 0 ≤ sizeLine; decide), fun t ht => ?_⟩
    have hld : l ≠ d := Ne.symm (S.ne hl)
    have ht0 : H t = none := (same_new hl).free ht
    have htd : t ≠ d := Ne.symm (S.ne ht0)
    have htl : l ≠ t := ne_of_none (H := upd H l (.lst ((List.range m.toNat).map fun (i : Nat) => V.int i))) upd_same ht
    have s2 : Same H (upd (upd H l (.lst ((List.range m.toNat).map fun (i : Nat) => V.int i))) t (.lst [])) := (same_new hl).trans (same_new ht)
    refine ⟨_, rfl, d, 6, n, rfl, S.same s2, by omega, by decide, by decide, fun shape H3 sh0 sh1 S3 B3 => ?_⟩
    have hl3 : H3 l = some (.lst (vN (List.range m.toNat))) := B3 _ _ (by rw [upd_ne htl, upd_same]) hld
    have ht3 : H3 t = some (.lst (vN [])) := B3 _ _ upd_same htd
    have B03 : But d H H3 := (But.of s2).trans B3
    refine ⟨_, rfl, m, rfl, by omega, by omega, for_range (n := m.toNat) (fun i σ H' => ∃ (v5 v6 v7 : Option V) (left turn : List Nat), σ = [some (.ref d), some (.int m), some (.ref l), some (.ref t), some (.int shape), v5, v6, v7] ∧ Sd H' d (n + 1 + 3 * i) ∧ But d H H' ∧ H' l = some (.lst (vN left)) ∧ H' t = some (.lst (vN turn)) ∧ (turn ++ left).Perm (List.range m.toNat) ∧ turn.length = i)
      ⟨_, _, _, List.range m.toNat, [], rfl, S3, B03, hl3, ht3, List.Perm.refl _, rfl⟩ ?_ ?_⟩
    · rintro i σ H4 hi ⟨v5, v6, v7, left, turn, rfl, S4, B4, hl4, ht4, hp, htn⟩
      have hll : left.length = m.toNat - i := by
        have := hp.length_eq
        rw [List.length_append, List.length_range] at this; omega
      refine ⟨_, rfl, _, rfl, l, _, rfl, .inl (SqL.of hl4), d, _, _, rfl, S4, by omega, by rw [vN_len]; omega, by rw [vN_len]; omega, fun at0 H5 at00 at01 S5 B5 => ?_⟩
      rw [vN_len] at at01
      have hl5 := B5 _ _ hl4 hld
      have ht5 := B5 _ _ ht4 htd
      (try dsimp only [gName])
      refine seq_if (fun σ H' => ∃ (at1 : Int), σ = [some (.ref d), some (.int m), some (.ref l), some (.ref t), some (.int shape), some (.int (0 + (i : Int))), some (.int at1), v7] ∧ (0 ≤ at1 ∧ at1 < left.length) ∧ Sd H' d (n + 1 + 3 * i + 2) ∧ But d H H' ∧ H' l = some (.lst (vN left)) ∧ H' t = some (.lst (vN turn))) ?_ ?_
      · rintro σ H6 ⟨at1, rfl, ⟨a0, a1⟩, S6, B6, hl6, ht6⟩
        (try dsimp only [gName])
        refine seq_if (fun σ H' => ∃ (at1 : Int), σ = [some (.ref d), some (.int m), some (.ref l), some (.ref t), some (.int shape), some (.int (0 + (i : Int))), some (.int at1), v7] ∧ (0 ≤ at1 ∧ at1 < left.length) ∧ Sd H' d (n + 1 + 3 * i + 3) ∧ But d H H' ∧ H' l = some (.lst (vN left)) ∧ H' t = some (.lst (vN turn))) ?_ ?_
        · rintro σ H7 ⟨at1, rfl, ⟨a0, a1⟩, S7, B7, hl7, ht7⟩
          obtain ⟨z, hz⟩ : ∃ z : Nat, left[at1.toNat]? = some z := ⟨_, List.getElem?_eq_getElem (by omega)⟩
          have ea : at1 = (at1.toNat : Int) := by omega
          refine ⟨_, rfl, tyV_lst ht7, _, rfl, tyV_lst hl7, _, rfl, l, vN left, at1, at1.toNat, V.int (z : Nat), rfl, rfl, hl7, by omega, by omega, ?_, by rw [List.getElem?_map, hz]; rfl, ?_⟩
          · rw [ea, Int.toNat_natCast]; exact seqIndex_nat (by rw [vN_len]; omega)
          have htl' : t ≠ l := Ne.symm htl
          refine ⟨t, vN turn, V.int (z : Nat), rfl, rfl, by rw [upd_ne htl']; exact ht7, by rw [vN_len]; omega, ?_⟩
          refine ⟨_, _, _, left.eraseIdx at1.toNat, turn ++ [z], rfl, ?_, ?_, ?_, ?_, ?_, by rw [List.length_append, htn]; rfl⟩
          · exact ((S7.keep (H' := upd H7 l _) (upd_ne (Ne.symm hld))).keep (upd_ne (Ne.symm htd))).mono (by omega)
          · exact fun b o e nb => by
              have h1 := B7 b o e nb
              rw [upd_ne (fun q => by rw [q, ht0] at e; cases e), upd_ne (fun q => by rw [q, hl] at e; cases e)]; exact h1
          · rw [upd_ne htl, upd_same, map_eraseN]
          · rw [upd_same, vN_app]; rfl
          · refine List.Perm.trans ?_ hp
            rw [List.append_assoc]
            refine List.Perm.append_left _ ?_
            have es : left = left.take at1.toNat ++ z :: left.drop (at1.toNat + 1) := by
              conv => lhs; rw [← List.take_append_drop at1.toNat left, List.drop_eq_getElem_cons (by omega)]
              rw [List.getElem?_eq_getElem (by omega)] at hz
              rw [Option.some.inj hz]
            rw [List.eraseIdx_eq_take_drop_succ]
            conv => rhs; rw [es]
            exact (List.perm_middle (a := z) (l₁ := left.take at1.toNat) (l₂ := left.drop (at1.toNat + 1))).symm
        · intro nx hnx
          refine t_eq rfl ?_
          by_cases h2 : shape = 2
          · rw [decide_eq_true h2]
            refine iteT ?_
            refine ⟨_, rfl, d, 4, _, rfl, S6, by omega, by decide, by decide, fun r H7 r0 r1 S7 B7 => ?_⟩
            have hl7 := B7 _ _ hl6 hld
            have ht7 := B7 _ _ ht6 htd
            refine ⟨_, _, rfl, rfl, _, rfl, ?_⟩
            by_cases h3 : (0 : Int) < r
            · rw [decide_eq_true h3]
              refine iteT ?_
              refine ⟨_, rfl, l, _, rfl, .inl (SqL.of hl7), _, _, rfl, rfl, hnx _ _ ⟨_, rfl, ⟨?_, ?_⟩, S7, B6.trans B7, hl7, ht7⟩⟩
              · show (0 : Int) ≤ ((vN left).length : Nat) - 1
                rw [vN_len]; omega
              · show ((vN left).length : Nat) - (1 : Int) < (left.length : Nat)
                rw [vN_len]; omega
            · rw [decide_eq_false h3]
              exact iteF (hnx _ _ ⟨at1, rfl, ⟨a0, a1⟩, S7, B6.trans B7, hl7, ht7⟩)
          · rw [decide_eq_false h2]
            exact iteF (iteF (hnx _ _ ⟨at1, rfl, ⟨a0, a1⟩, S6.mono (by omega), B6, hl6, ht6⟩))
      · intro nx hnx
        have B05 := B4.trans B5
        have h0 : (0 : Int) ≤ 0 ∧ (0 : Int) < left.length := ⟨by decide, by omega⟩
        refine t_eq rfl ?_
        by_cases h1 : shape = 0
        · rw [decide_eq_true h1]
          exact iteT (iteT (hnx _ _ ⟨0, rfl, h0, S5.mono (by omega), B05, hl5, ht5⟩))
        · rw [decide_eq_false h1]
          refine iteF ?_
          refine t_eq rfl ?_
          by_cases h2 : shape = 1
          · rw [decide_eq_true h2]
            refine iteT ?_
            refine ⟨_, rfl, d, 4, _, rfl, S5, by omega, by decide, by decide, fun r H7 r0 r1 S7 B7 => ?_⟩
            have hl7 := B7 _ _ hl5 hld
            have ht7 := B7 _ _ ht5 htd
            refine ⟨_, _, rfl, rfl, _, rfl, ?_⟩
            by_cases h3 : (0 : Int) < r
            · rw [decide_eq_true h3]
              exact iteT (hnx _ _ ⟨0, rfl, h0, S7.mono (by omega), B05.trans B7, hl7, ht7⟩)
            · rw [decide_eq_false h3]
              exact iteF (hnx _ _ ⟨at0, rfl, ⟨at00, at01⟩, S7.mono (by omega), B05.trans B7, hl7, ht7⟩)
          · rw [decide_eq_false h2]
            exact iteF (iteF (hnx _ _ ⟨at0, rfl, ⟨at00, at01⟩, S5.mono (by omega), B05, hl5, ht5⟩))
    · rintro σ H4 ⟨v5, v6, v7, left, turn, rfl, S4, B4, hl4, ht4, hp, htn⟩
      have hlen := hp.length_eq
      rw [List.length_append, List.length_range] at hlen
      have he : left = [] := List.eq_nil_of_length_eq_zero (by omega)
      subst he
      rw [List.append_nil] at hp
      (try dsimp only [gName])
      refine seq_if (fun σ H' => ∃ (v5 v6 v7 : Option V) (p : Addr) (ms : List Nat), σ = [some (.ref d), some (.int m), some (.ref l), some (.ref p), some (.int shape), v5, v6, v7] ∧ Sd H' d (n + 500) ∧ But d H H' ∧ H' p = some (.lst (vN ms)) ∧ Tn m.toNat ms) ?_ ?_
      · rintro σ H5 ⟨v5, v6, v7, p, ms, rfl, S5, B5, hp5, tn⟩
        refine ⟨_, rfl, p, _, rfl, .inl ⟨SqL.of hp5, fun q hq => ?_⟩⟩
        exact fin ms q _ tn (B5.free S5 hq) upd_same ((S5.same (same_new hq)).mono (by omega)) (B5.trans (But.of (same_new hq)))
      · intro nx hnx
        refine t_eq rfl ?_
        by_cases h3 : shape = 3
        · rw [decide_eq_true h3]
          refine iteT ?_
          refine ⟨_, rfl, _, rfl, _, _, rfl, rfl, d, m + 1, _, rfl, S4, by omega, by omega, by omega, fun cut H5 c0 c1 S5 B5 => ?_⟩
          refine ⟨_, rfl, _, rfl, cut, m, rfl, ⟨c0, by omega, by omega⟩, fun p1 hp1 => ?_⟩
          have sA := same_new (o := .lst ((List.range (m - cut).toNat).map fun (n : Nat) => V.int (cut + n))) hp1
          refine ⟨_, rfl, cut, rfl, c0, by omega, fun p2 hp2 => ?_⟩
          have n12 : p1 ≠ p2 := ne_of_none (H := upd H5 p1 (.lst ((List.range (m - cut).toNat).map fun (n : Nat) => V.int (cut + n)))) upd_same hp2
          have sB := sA.trans (same_new (o := .lst ((List.range cut.toNat).map fun (i : Nat) => V.int i)) hp2)
          refine ⟨p1, p2, _, _, rfl, rfl, by rw [upd_ne n12, upd_same], upd_same, by rw [List.length_map, List.length_map, List.length_range, List.length_range]; omega, fun p3 hp3 => ?_⟩
          have sC := sB.trans (same_new (o := .lst (((List.range (m - cut).toNat).map fun (n : Nat) => V.int (cut + n)) ++ (List.range cut.toNat).map fun (i : Nat) => V.int i)) hp3)
          refine hnx _ _ ⟨_, _, _, p3, (List.range (m - cut).toNat).map (fun n => cut.toNat + n) ++ List.range cut.toNat, rfl, (S5.same sC).mono (by omega), (B4.trans B5).trans (But.of sC), ?_, ?_⟩
          · rw [upd_same, vN_app]
            congr 3
            show _ = ((List.range (m - cut).toNat).map fun n => cut.toNat + n).map fun n => V.int (n : Nat)
            rw [List.map_map]
            refine List.map_congr_left fun x _ => ?_
            show V.int (cut + x) = V.int ((cut.toNat + x : Nat) : Int)
            congr 1; omega
          · have hmm : m.toNat = cut.toNat + (m - cut).toNat := by omega
            refine tn_of_perm ?_
            rw [hmm, List.range_add]
            exact List.perm_append_comm
        · rw [decide_eq_false h3]
          exact iteF (hnx _ _ ⟨_, _, _, t, turn, rfl, S4.mono (by omega), B4, ht4, tn_of_perm hp⟩)
end
end K62

set_option maxHeartbeats 4000000
namespace K62
open PySem L2 Lw Mv Mvs Trn
theorem mv1_map {α β : Type} (f : α → β) (l : List α) (p : Nat × Nat) : mv1 (l.map f) p = (mv1 l p).map f := by
  unfold mv1
  rw [List.getElem?_map]
  cases l[p.1]? with
  | none => rfl
  | some y =>
    show ((l.map f).eraseIdx p.1).take p.2 ++ f y :: ((l.map f).eraseIdx p.1).drop p.2 = ((l.eraseIdx p.1).take p.2 ++ y :: (l.eraseIdx p.1).drop p.2).map f
    have e : (l.map f).eraseIdx p.1 = (l.eraseIdx p.1).map f := by
      rw [List.eraseIdx_eq_take_drop_succ, List.eraseIdx_eq_take_drop_succ, List.map_append, List.map_take, List.map_drop]
    rw [e, List.map_append, List.map_cons, List.map_take, List.map_drop]
theorem mvs_map {α β : Type} (f : α → β) : ∀ (ps : List (Nat × Nat)) (l : List α), mvs (l.map f) ps = (mvs l ps).map f
  | [], _ => rfl
  | p :: ps, l => by
    show mvs (mv1 (l.map f) p) ps = (mvs (mv1 l p) ps).map f
    rw [mv1_map, mvs_map f ps]
theorem dats_vN {K : PySem.W.Frag} {G : Hp} (l : List Nat) : Dats K G (vN l) (l.map fun n => PyData.int (n : Nat)) := dats_nats l
section
variable {P : Program} {w : World} {K : PySem.W.Frag} {mg : Str → Option Value} {base : Heap}
theorem ok_whole (T : Top K mg) : FnOk P w K mg base CX0 1 T.f__law_whole T.fd__law_whole ["number", "most"] (spP K RWhole) := by
  refine T.F__law_whole.ok sc__law_whole (fun vs H Q E h => ?_) (fun cdv A outer s H vs Q E hr h => ?_)
  · obtain ⟨G, as, d, sg, hv, ⟨a, m, rfl, _⟩, _⟩ := h
    rw [hv.length]; rfl
  · obtain ⟨G, as, d, sg, hv, ⟨a, m, rfl, rfl⟩, k⟩ := h
    obtain ⟨v1, r1, rfl, h1, hv⟩ := hv.cons
    obtain ⟨v2, r2, rfl, h2, hv⟩ := hv.cons
    cases hv.nil
    rw [h1.int, h2.int]
    refine ⟨_, (pss_one (ps_ret (pe_and (pe_callB (call_isD (K := K) rfl) (by rfl) T.isinstance_ bIsi (pa_cons (pv 0) (pa_cons (pe_bltn (v := .ty "int") (by rfl) T.int_ bInt rfl) pa_nil))) (pe_and (pe_not (pe_callB (call_isD (K := K) rfl) (by rfl) T.isinstance_ bIsi (pa_cons (pv 0) (pa_cons (pe_bltn (v := .ty "bool") (by rfl) T.bool_ bBool rfl) pa_nil)))) (pe_one (pe_chain op_le op_lt pe_int (pv 0) (pv 1))))))) , ?_⟩
    have e1 : Ev K (tCB (rIsD K) (tCons (tVar 0) (tCons (tC (.ty "int")) tNil))) [some (V.int (a : Nat)), some (V.int (m : Nat))] G (.bool true) := ev_isD (ev_var rfl (dat_int (a : Nat))) T.ii
    have e2 : Ev K (tCB (rIsD K) (tCons (tVar 0) (tCons (tC (.ty "bool")) tNil))) [some (V.int (a : Nat)), some (V.int (m : Nat))] G (.bool false) := ev_isD (ev_var rfl (dat_int (a : Nat))) T.ib
    refine e1.use sg fun v3 G3 H3 g3 h3 => ⟨true, h3.bl, ?_⟩
    refine iteT ?_
    refine (e2.mono g3.gg).use g3.gh fun v4 G4 H4 g4 h4 => ⟨false, h4.bl, true, rfl, iteT ?_⟩
    refine ⟨_, rfl, _, _, rfl, rfl, _, rfl, ?_⟩
    rw [decide_eq_true (show (0 : Int) ≤ (a : Nat) by omega)]
    refine iteT ?_
    refine ⟨_, rfl, _, _, rfl, rfl, ?_⟩
    refine k _ G4 H4 (g3.trans g4) ?_
    have e : decide (((a : Nat) : Int) < (m : Nat)) = decide (a < m) := by
      by_cases z : a < m
      · rw [decide_eq_true z, decide_eq_true (by omega)]
      · rw [decide_eq_false z, decide_eq_false (by omega)]
    rw [← e]; exact dat_bl _
theorem ok_leads (T : Top K mg) : FnOk P w K mg base CX0 2 T.f__law_leads T.fd__law_leads ["turn", "found"] (spP K RLeads) := by
  have G__law_whole : FnOk P w K mg base CX0 1 T.f__law_whole T.fd__law_whole ["number", "most"] (spP K RWhole) := ok_whole T
  refine T.F__law_leads.ok sc__law_leads (fun vs H Q E h => ?_) (fun cdv A outer s H vs Q E hr h => ?_)
  · obtain ⟨G, as, d, sg, hv, ⟨a, m, rfl, _⟩, _⟩ := h
    rw [hv.length]; rfl
  · obtain ⟨G, as, d, sg, hv, ⟨turn, ps, rfl, l1, l2, hps, hto, rfl⟩, k⟩ := h
    have hu := hr.units
    obtain ⟨v1, r1, rfl, h1, hv⟩ := hv.cons
    obtain ⟨v2, r2, rfl, h2, hv⟩ := hv.cons
    cases hv.nil
    obtain ⟨a, xs, rfl, ha, hxs⟩ := h1.tup
    have ex := hxs.nats
    subst ex
    obtain ⟨b, qs, rfl, hb, hqs⟩ := h2.tup
    have lq : qs.length = ps.length := by rw [hqs.length, List.length_map]
    have zz : (1000 : Nat) < sizeLine := by decide
    refine ⟨_, (pss_cons (ps_set (i := 2) sc__law_leads.nd rfl (Or.inl rfl) (pe_lrange rfl (by rfl) T.list_ (by rfl) T.range_ (pa_cons (pe_callB (call_lenK (K := K) rfl) (by rfl) T.len_ PySem.boot_len (pa_cons (pv 0) pa_nil st_Name)) pa_nil st_Call)))
      (pss_cons (ps_for PassesOwn.never rfl (pi_tup (pv 1)) (pg_name (i := 3) sc__law_leads.nd rfl (Or.inl rfl)) (pss_cons (ps_if ((pw_or (pt_not (pt_val (pe_callB (call_isD (K := K) rfl) (by rfl) T.isinstance_ bIsi (pa_cons (pv 3) (pa_cons (pe_bltn (v := .ty "tuple") (by rfl) T.tuple_ bTup rfl) pa_nil))))) (pw_or1 (pt_cmpR op_ne (pe_callB (call_lenK (K := K) rfl) (by rfl) T.len_ PySem.boot_len (pa_cons (pv 3) pa_nil st_Name)) pe_int (nomark _))))).pt (pss_one (ps_ret pe_bl)) pss_nil)
      (pss_cons (ps_if ((pw_or (pt_not (pt_val (pe_call G__law_whole hr (by rfl) T.m__law_whole T.F__law_whole.kp T.b__law_whole .nil pass0 (pa_cons (pe_ix (ix_tupK (K := K) rfl) (pv 3) pe_int (fun _ _ => rfl)) (pa_cons (pe_callB (call_lenK (K := K) rfl) (by rfl) T.len_ PySem.boot_len (pa_cons (pv 0) pa_nil st_Name)) pa_nil st_Call) st_Subscript)))) (pw_or (pt_not (pt_val (pe_call G__law_whole hr (by rfl) T.m__law_whole T.F__law_whole.kp T.b__law_whole .nil pass0 (pa_cons (pe_ix (ix_tupK (K := K) rfl) (pv 3) pe_int (fun _ _ => rfl)) (pa_cons (pe_callB (call_lenK (K := K) rfl) (by rfl) T.len_ PySem.boot_len (pa_cons (pv 0) pa_nil st_Name)) pa_nil st_Call) st_Subscript)))) (pw_or1 (pt_cmpR op_eq (pe_ix (ix_tupK (K := K) rfl) (pv 3) pe_int (fun _ _ => rfl)) (pe_ix (ix_tupK (K := K) rfl) (pv 3) pe_int (fun _ _ => rfl)) (nomark _)))))).pt (pss_one (ps_ret pe_bl)) pss_nil)
      (pss_one (ps_expr (pe_bm PySem.F.plainAttrs_list PySem.F.slot_list_insert PySem.F.type_list_insert mt_insert (pv 2) (pa_cons (pe_ix (ix_tupK (K := K) rfl) (pv 3) pe_int (fun _ _ => rfl)) (pa_cons (pe_bm PySem.F.plainAttrs_list PySem.F.slot_list_pop PySem.F.type_list_pop mt_popAt (pv 2) (pa_cons (pe_ix (ix_tupK (K := K) rfl) (pv 3) pe_int (fun _ _ => rfl)) pa_nil st_Subscript)) pa_nil st_Call) st_Subscript)))))))
      (pss_one (ps_ret (pe_cmpR (op_eqDK (K := K) rfl hu) (pe_callTy (call_tupleK (K := K) rfl) (by rfl) T.tuple_ bTup (pa_cons (pv 2) pa_nil st_Name)) (pv 0) (nomark _)))))) , ?_⟩
    refine ⟨_, rfl, a, _, rfl, .inr (sg.tup ha), _, rfl, by omega, ?_, fun t ht => ?_⟩
    · show (((List.map (fun n => V.int (n : Nat)) turn).length : Nat) : Int).toNat ≤ 2 ^ 24
      rw [List.length_map, Int.toNat_natCast]; omega
    rw [show (((List.map (fun n => V.int (n : Nat)) turn).length : Nat) : Int).toNat = turn.length by rw [List.length_map, Int.toNat_natCast]] at *
    have hg : G t = none := sg.free ht
    refine ⟨_, rfl, b, rfl, ⟨_, (sg.trans (same_new ht)).tup hb⟩, for_tup (xs := qs) (fun i σ H' => ∃ v3 : Option V, σ = [some (.ref a), some (.ref b), some (.ref t), v3] ∧ Same G H' ∧ Same H H' ∧ ∃ zs, H' t = some (.lst zs) ∧ Dats K G zs (mvs ((List.range turn.length).map fun n => PyData.int (n : Nat)) (ps.take i))) ⟨_, rfl, sg.trans (same_new ht), same_new ht, _, upd_same, dats_nats _⟩ ?_ ?_ ?_⟩
    · rintro i σ H' _ ⟨v3, rfl, s1, _⟩
      exact s1.tup hb
    · rintro i x σ H1 hx ⟨v3, rfl, s1, sH, zs, h1', hzs⟩
      obtain ⟨d, hd, hxd⟩ := hqs.get' hx
      rw [List.getElem?_map] at hd
      cases e : ps[i]? with
      | none => rw [e] at hd; cases hd
      | some p =>
        rw [e] at hd; cases hd
        have hp := hps p (List.mem_of_getElem? e)
        have w1 : RWhole [.int (p.1 : Nat), .int ((turn.map fun n => PyData.int (n : Nat)).length : Nat)] (.bool true) := ⟨p.1, _, rfl, by rw [List.length_map, decide_eq_true hp.1]⟩
        have w2 : RWhole [.int (p.2 : Nat), .int ((turn.map fun n => PyData.int (n : Nat)).length : Nat)] (.bool true) := ⟨p.2, _, rfl, by rw [List.length_map, decide_eq_true hp.2.1]⟩
        refine if_no (evt_c (evt_or (evt_not (evt_b (K := K) (ev_isD (ev_var rfl hxd) T.tt))) fun _ => evt_test (K := K) (ev_ne (ev_lenT (eva_cons (ev_var rfl hxd) eva_nil)) ev_int)) rfl) s1 fun G2 H2 g2 => ?_
        have hx2 := hxd.same g2.gg
        refine if_no (evt_c (evt_or (evt_not (evt_b (K := K) (ev_call (eva_cons (ev_ixT (i := 0) (n := 0) (ev_var rfl hx2) ev_int rfl rfl) (eva_cons (ev_lenT (eva_cons (ev_var rfl (h1.same g2.gg)) eva_nil)) eva_nil)) w1))) fun _ => evt_or (evt_not (evt_b (K := K) (ev_call (eva_cons (ev_ixT (i := 1) (n := 1) (ev_var rfl hx2) ev_int rfl rfl) (eva_cons (ev_lenT (eva_cons (ev_var rfl (h1.same g2.gg)) eva_nil)) eva_nil)) w2))) fun _ =>
          evt_test (K := K) (ev_eqI (ev_ixT (i := 0) (n := 0) (ev_var rfl hx2) ev_int rfl rfl) (ev_ixT (i := 1) (n := 1) (ev_var rfl hx2) ev_int rfl rfl))) ?_) g2.gh fun G3 H3 g3 => ?_
        · rw [decide_eq_false (show ¬ ((p.1 : Nat) : Int) = (p.2 : Nat) by have := hp.2.2; omega)]; rfl
        have g13 := g2.trans g3
        have s3 : Same G H3 := s1.trans g13.hh
        have sH3 : Same H H3 := sH.trans g13.hh
        have h3 := g13.hh _ _ h1'
        obtain ⟨c, rfl, hc⟩ := dat_dP hxd
        have hl : (mvs ((List.range turn.length).map fun n => PyData.int (n : Nat)) (ps.take i)).length = turn.length := by rw [mvs_len, List.length_map, List.length_range]
        have lz : zs.length = turn.length := by rw [hzs.length, hl]
        obtain ⟨y, hy, hys⟩ := dats_mv1 (p := p) hzs (by rw [hl]; exact hp.1)
        refine ⟨_, rfl, tyV_lst h3, _, rfl, c, _, 1, _, rfl, rfl, s3.tup hc, rfl, _, rfl, tyV_lst h3, _, rfl, c, _, 0, _, rfl, rfl, s3.tup hc, rfl, t, zs, _, p.1, y, rfl, rfl, h3, by omega, by omega, seqIndex_nat (by omega), hy, t, _, _, y, rfl, rfl, upd_same, by omega, ?_, ?_, ?_⟩
        · rw [List.length_eraseIdx, if_pos (by omega)]; omega
        · rw [List.length_eraseIdx, if_pos (by omega)]; omega
        · refine ⟨_, rfl, same_upd (same_upd s3 hg) hg, same_upd (same_upd sH3 ht) ht, _, upd_same, ?_⟩
          rw [mvs_succ e]
          exact hys
    · rintro σ H1 ⟨v3, rfl, s1, sH, zs, h1', hzs⟩
      rw [lq, List.take_length, mvs_map, hto] at hzs
      have hnow : Dat K H1 (.ref t) (.list (turn.map fun n => PyData.int (n : Nat))) := dat_lst h1' (hzs.same s1)
      refine ret_ev (K := K) (G := H1) (ev_eqD (n := 3) (ev_tupleL (eva_cons (ev_var rfl hnow) eva_nil)) (ev_var rfl (h1.same s1)) (pl_nats (n := 2) _) (pl_nats (n := 2) _) (by decide)) (Same.refl _) fun v G' H' g hv => ?_
      rw [PySem.Spec.same_self] at hv
      exact k v G H' ((grow_h sg sH).trans (grow_h s1 g.hh)) (by rw [hv.bl]; exact dat_bl _)
end
end K62

set_option maxHeartbeats 4000000
namespace K62
open PySem L2 Lw Mv Mvs Trn
def RLong : List PyData → PyData → Prop := fun as d => ∃ turn : List Nat, as = [dN turn] ∧ turn.length ≤ 60 ∧ d = .int ((rkS turn turn.length).2 : Nat)
def hts (rk : List Nat) (i : Nat) : List Nat := (List.range i).map fun p => rk.getD p 0 + 1
theorem hts_succ (rk : List Nat) (i : Nat) : hts rk (i + 1) = hts rk i ++ [rk.getD i 0 + 1] := by
  unfold hts; rw [List.range_succ, List.map_append]; rfl
theorem hts_at {rk : List Nat} {i p : Nat} (h : p < i) : (hts rk i)[p]? = some (rk.getD p 0 + 1) := by
  unfold hts; rw [List.getElem?_map, List.getElem?_range h]; rfl
theorem vN_get {l : List Nat} {i x : Nat} (h : l[i]? = some x) : (vN l)[i]? = some (V.int (x : Nat)) := by rw [List.getElem?_map, h]; rfl
theorem vN_ints (l : List Nat) : vN l = (l.map fun (n : Nat) => (n : Int)).map V.int := by rw [List.map_map]; rfl
/-- the ranks of those that are less, ahead of a place -/
def ahd (turn rk : List Nat) (at_ : Nat) : List Nat := (List.range at_).filterMap fun p => if vl turn p < vl turn at_ then some (rk.getD p 0 + 1) else none
theorem ahd_max {turn rk : List Nat} {i k at_ : Nat} (R : RI turn i rk k) (h : at_ < i) {M : Nat} (hM : M ∈ 0 :: ahd turn rk at_) (hub : ∀ a ∈ 0 :: ahd turn rk at_, a ≤ M) : M = rk.getD at_ 0 := by
  have mem : ∀ a, a ∈ ahd turn rk at_ → ∃ p, p < at_ ∧ vl turn p < vl turn at_ ∧ a = rk.getD p 0 + 1 := fun a ha => by
    obtain ⟨p, hp, e⟩ := List.mem_filterMap.mp ha
    by_cases z : vl turn p < vl turn at_
    · rw [if_pos z] at e
      exact ⟨p, List.mem_range.mp hp, z, (Option.some.inj e).symm⟩
    · rw [if_neg z] at e; cases e
  have up : M ≤ rk.getD at_ 0 := by
    rcases List.mem_cons.mp hM with e | hM
    · omega
    · obtain ⟨p, p1, p2, p3⟩ := mem M hM
      have := R.A p at_ p1 h p2
      omega
  by_cases h0 : 0 < rk.getD at_ 0
  · obtain ⟨p, p1, p2, p3⟩ := R.B at_ h h0
    have : rk.getD p 0 + 1 ∈ 0 :: ahd turn rk at_ := List.mem_cons_of_mem _ (List.mem_filterMap.mpr ⟨p, List.mem_range.mpr p1, if_pos p2⟩)
    have := hub _ this
    omega
  · omega
theorem hts_max {turn rk : List Nat} {i k : Nat} (R : RI turn i rk k) {M : Nat} (hM : M ∈ 0 :: hts rk i) (hub : ∀ a ∈ 0 :: hts rk i, a ≤ M) : M = k := by
  have mem : ∀ a, a ∈ hts rk i → ∃ p, p < i ∧ a = rk.getD p 0 + 1 := fun a ha => by
    obtain ⟨p, hp, e⟩ := List.mem_map.mp ha
    exact ⟨p, List.mem_range.mp hp, e.symm⟩
  have up : M ≤ k := by
    rcases List.mem_cons.mp hM with e | hM
    · omega
    · obtain ⟨p, p1, p2⟩ := mem M hM
      have := R.lt p p1
      omega
  by_cases h0 : 0 < k
  · obtain ⟨p, p1, p2⟩ := R.ne (k - 1) (by omega)
    have : rk.getD p 0 + 1 ∈ 0 :: hts rk i := List.mem_cons_of_mem _ (List.mem_map.mpr ⟨p, List.mem_range.mpr p1, rfl⟩)
    have := hub _ this
    omega
  · omega
theorem max_nat {l : List Nat} {M : Int} (hM : M ∈ l.map fun (n : Nat) => (n : Int)) (hub : ∀ a ∈ l.map fun (n : Nat) => (n : Int), a ≤ M) : ∃ m : Nat, M = (m : Nat) ∧ m ∈ l ∧ ∀ a ∈ l, a ≤ m := by
  obtain ⟨m, hm, rfl⟩ := List.mem_map.mp hM
  refine ⟨m, rfl, hm, fun a ha => ?_⟩
  have := hub (a : Int) (List.mem_map.mpr ⟨a, ha, rfl⟩)
  have h' : ((a : Nat) : Int) ≤ (m : Nat) := this
  omega
section
variable {P : Program} {w : World} {K : PySem.W.Frag} {mg : Str → Option Value} {base : Heap}
theorem ev_lt {σ : St} {G : Hp} {ta tb : TE} {i j : Int} (ha : Ev K ta σ G (.int i)) (hb : Ev K tb σ G (.int j)) : Ev K (tOp (rI0 fun i j => .bl (decide (i < j))) ta tb) σ G (.bool (decide (i < j))) := ev_i0 ha hb (dat_bl _)
theorem ev_at {σ : St} {G : Hp} {ta tb : TE} {turn : List Nat} {i : Nat} (ha : Ev K ta σ G (dN turn)) (hb : Ev K tb σ G (.int (i : Nat))) (h : i < turn.length) : Ev K (tOp (rIxT K) ta tb) σ G (.int (vl turn i : Nat)) :=
  ev_ixT ha hb (by rw [List.length_map]; exact ixN_nat h) (by
    rw [List.getElem?_map, List.getElem?_eq_getElem h]
    unfold vl
    rw [List.getD_eq_getElem?_getD, List.getElem?_eq_getElem h]; rfl)
theorem ok_long (T : Top K mg) : FnOk P w K mg base CX0 1 T.f__law_longest T.fd__law_longest ["turn"] (spP K RLong) := by
  refine T.F__law_longest.ok sc__law_longest (fun vs H Q E h => ?_) (fun cdv A outer s H vs Q E hr h => ?_)
  · obtain ⟨G, as, d, sg, hv, ⟨a, rfl, _⟩, _⟩ := h
    rw [hv.length]; rfl
  · obtain ⟨G, as, d, sg, hv, ⟨turn, rfl, l1, rfl⟩, k⟩ := h
    obtain ⟨v1, r1, rfl, h1, hv⟩ := hv.cons
    cases hv.nil
    obtain ⟨a, xs, rfl, ha, hxs⟩ := h1.tup
    have ex := hxs.nats
    subst ex
    have R := ri turn turn.length
    generalize (rkS turn turn.length).1 = rk at R
    generalize (rkS turn turn.length).2 = kk at R k
    have zz : (1000 : Nat) < sizeLine := by decide
    refine ⟨_, (pss_cons (ps_set (i := 1) sc__law_longest.nd rfl (Or.inr rfl) (pe_lst pa_nil))
      (pss_cons (ps_for PassesOwn.never rfl (pi_range1 (by rfl) T.range_ (pa_cons (pe_callB (call_lenK (K := K) rfl) (by rfl) T.len_ PySem.boot_len (pa_cons (pv 0) pa_nil st_Name)) pa_nil st_Call)) (pg_name (i := 2) sc__law_longest.nd rfl (Or.inr rfl)) (pss_cons (ps_lc (x := "other") (cap := ["heights", "turn", "at"]) (js := [1, 0, 2]) (i := 3) (y := "ahead") ⟨rfl, by decide +kernel, by decide +kernel, rfl, (by show ∀ p ∈ (_ : List (Str × NameKind)), p.2 = NameKind.free → List.lookup p.1 (defScope s__law_longest).names = some NameKind.cell; decide +kernel), by decide +kernel, by decide +kernel, by decide +kernel⟩ rfl rfl (fun _ _ h => h) sc__law_longest.nd rfl rfl (pi_range1 (by rfl) T.range_ (pa_cons (pv 2) pa_nil st_Name)) (fun _ _ _ _ => ⟨(pif_one (pt_cmpR op_lt (pe_ix (ix_tupK (K := K) rfl) (pv 2) (pv 0) (fun _ _ => rfl)) (pe_ix (ix_tupK (K := K) rfl) (pv 2) (pv 3) (fun _ _ => rfl)) (nomark _))), (pe_ix (ix_listK (K := K) rfl) (pv 1) (pv 0) (fun _ _ => rfl))⟩))
      (pss_one (ps_expr (pe_bm PySem.F.plainAttrs_list PySem.F.slot_list_append PySem.F.type_list_append mt_append (pv 1) (pa_cons (pe_op op_add pe_int (pe_callB (call_maxL (K := K) rfl rfl) (by rfl) T.max_ bMax (pa_cons (pe_op op_cat (pe_lst (pa_cons pe_int pa_nil st_Constant)) (pv 3)) pa_nil st_BinOp))) pa_nil st_BinOp))))))
      (pss_one (ps_ret (pe_callB (call_maxL (K := K) rfl rfl) (by rfl) T.max_ bMax (pa_cons (pe_op op_cat (pe_lst (pa_cons pe_int pa_nil st_Constant)) (pv 1)) pa_nil st_BinOp)))))) , ?_⟩
    refine ⟨(by show 0 ≤ sizeLine; decide), fun t ht => ?_⟩
    have s0 := same_new (o := .lst []) ht
    have hg : G t = none := sg.free ht
    refine ⟨_, rfl, a, _, rfl, .inr ((sg.trans s0).tup ha), (turn.length : Int), by rw [List.length_map], by omega, by omega, for_range (n := turn.length) (fun i σ H' => ∃ v2 v3 : Option V, σ = [some (.ref a), some (.ref t), v2, v3] ∧ Same G H' ∧ Same H H' ∧ H' t = some (.lst (vN (hts rk i)))) ⟨_, _, rfl, sg.trans s0, s0, upd_same⟩ ?_ ?_⟩
    · rintro i σ H1 hi ⟨v2, v3, rfl, s1, sH, h1'⟩
      have hT : Dat K H1 (.ref a) (dN turn) := h1.same s1
      have hH : Dat K H1 (.ref t) (.list ((hts rk i).map fun n => PyData.int (n : Nat))) := dat_lst h1' (dats_nats _)
      have e0 : (0 : Int) + (i : Nat) = (i : Nat) := by omega
      (try dsimp only [gName])
      rw [e0]
      refine (ev_lcR (K := K) (G := H1) (j := (i : Nat)) (fun p => if vl turn p < vl turn i then some (.int ((rk.getD p 0 + 1 : Nat) : Int)) else none) (eva_cons (ev_var rfl (dat_int ((i : Nat) : Int))) eva_nil) (by omega) (by omega) fun G2 p s3 hp => ?_).use (Same.refl _) fun v G2 H2 g2 hv2 => ?_
      · have hp' : p < i := by rw [Int.toNat_natCast] at hp; exact hp
        have e1 : (0 : Int) + (p : Nat) = (p : Nat) := by omega
        rw [e1]
        have ed : decide (((vl turn p : Nat) : Int) < (vl turn i : Nat)) = decide (vl turn p < vl turn i) := by
          by_cases z : vl turn p < vl turn i
          · rw [decide_eq_true z, decide_eq_true (by omega)]
          · rw [decide_eq_false z, decide_eq_false (by omega)]
        have et : EvT (tTest (tOp (rI0 fun i j => V.bl (decide (i < j))) (tOp (rIxT K) (tVar 2) (tVar 0)) (tOp (rIxT K) (tVar 2) (tVar 3)))) [some (V.int (p : Nat)), some (V.ref t), some (V.ref a), some (V.int (i : Nat))] G2 (decide (vl turn p < vl turn i)) :=
          evt_c (evt_test (K := K) (ev_lt (ev_at (ev_var rfl (hT.same s3)) (ev_var rfl (dat_int _)) (by omega)) (ev_at (ev_var rfl (hT.same s3)) (ev_var rfl (dat_int _)) hi))) ed
        have ee : Ev K (tOp (rIxL K) (tVar 1) (tVar 0)) [some (V.int (p : Nat)), some (V.ref t), some (V.ref a), some (V.int (i : Nat))] G2 (.int ((rk.getD p 0 + 1 : Nat) : Int)) :=
          ev_ixL (ev_var rfl (hH.same s3)) (ev_var rfl (dat_int _)) (by rw [List.length_map]; unfold hts; rw [List.length_map, List.length_range]; exact ixN_nat hp') (by rw [List.getElem?_map, hts_at hp']; rfl)
        by_cases z : vl turn p < vl turn i
        · rw [if_pos z]; rw [decide_eq_true z] at et
          exact lc1 et ee
        · rw [if_neg z]; rw [decide_eq_false z] at et
          exact lc0 et
      · have ef : ((List.range (i : Int).toNat).filterMap fun p => if vl turn p < vl turn i then some (PyData.int ((rk.getD p 0 + 1 : Nat) : Int)) else none) = (ahd turn rk i).map fun n => PyData.int (n : Nat) := by
          unfold ahd
          rw [Int.toNat_natCast, List.map_filterMap]
          congr 1
          funext p
          by_cases z : vl turn p < vl turn i
          · rw [if_pos z, if_pos z]; rfl
          · rw [if_neg z, if_neg z]; rfl
        rw [ef] at hv2
        obtain ⟨q, ys, rfl, hq, hys⟩ := hv2.lst
        have ey := hys.nats
        subst ey
        have hq2 := g2.gh _ _ hq
        have h2 := g2.hh _ _ h1'
        have lah : (ahd turn rk i).length ≤ i := by
          unfold ahd
          have := List.length_filterMap_le (fun p => if vl turn p < vl turn i then some (rk.getD p 0 + 1) else none) (List.range i)
          rw [List.length_range] at this; exact this
        refine ⟨_, rfl, tyV_lst h2, (by show 1 ≤ sizeLine; decide), fun p1 hp1 => ?_⟩
        have n1 : q ≠ p1 := ne_of_none hq2 hp1
        have s3 := same_new (o := .lst [V.int 0]) hp1
        refine ⟨_, rfl, p1, q, _, _, rfl, rfl, upd_same, by rw [upd_ne n1]; exact hq2, by rw [List.length_map]; show 1 + _ ≤ _; omega, fun p2 hp2 => ?_⟩
        have s4 := s3.trans (same_new (o := .lst ([V.int 0] ++ List.map (fun n => V.int (n : Nat)) (ahd turn rk i))) hp2)
        have ev : [V.int 0] ++ List.map (fun n => V.int (n : Nat)) (ahd turn rk i) = ((0 :: ahd turn rk i).map fun (n : Nat) => (n : Int)).map V.int := by rw [List.map_map]; rfl
        refine ⟨p2, (0 :: ahd turn rk i).map fun (n : Nat) => (n : Int), rfl, SqL.of (by rw [upd_same, ev]), by simp, fun M hM hub => ?_⟩
        obtain ⟨m, rfl, m1, m2⟩ := max_nat hM hub
        have em := ahd_max R hi m1 m2
        subst em
        have h4 := s4 _ _ h2
        refine ⟨_, _, rfl, rfl, t, _, _, rfl, rfl, h4, by rw [vN_len]; unfold hts; rw [List.length_map, List.length_range]; omega, ?_⟩
        refine ⟨_, _, rfl, same_upd ((s1.trans g2.hh).trans s4) hg, same_upd ((sH.trans g2.hh).trans s4) ht, ?_⟩
        rw [upd_same, hts_succ, vN_app]
        congr 3
        show [V.int (1 + ((rk.getD i 0 : Nat) : Int))] = [V.int ((rk.getD i 0 + 1 : Nat) : Int)]
        congr 2; omega
    · rintro σ H1 ⟨v2, v3, rfl, s1, sH, h1'⟩
      refine ⟨(by show 1 ≤ sizeLine; decide), fun p1 hp1 => ?_⟩
      have n1 : t ≠ p1 := ne_of_none h1' hp1
      have s3 := same_new (o := .lst [V.int 0]) hp1
      refine ⟨_, rfl, p1, t, _, _, rfl, rfl, upd_same, by rw [upd_ne n1]; exact h1', by rw [vN_len]; unfold hts; rw [List.length_map, List.length_range]; show 1 + _ ≤ _; omega, fun p2 hp2 => ?_⟩
      have s4 := s3.trans (same_new (o := .lst ([V.int 0] ++ vN (hts rk turn.length))) hp2)
      have ev : [V.int 0] ++ vN (hts rk turn.length) = ((0 :: hts rk turn.length).map fun (n : Nat) => (n : Int)).map V.int := by rw [List.map_map]; rfl
      refine ⟨p2, (0 :: hts rk turn.length).map fun (n : Nat) => (n : Int), rfl, SqL.of (by rw [upd_same, ev]), by simp, fun M hM hub => ?_⟩
      obtain ⟨m, rfl, m1, m2⟩ := max_nat hM hub
      have em := hts_max R m1 m2
      subst em
      exact k _ G _ (grow_h sg (sH.trans s4)) (dat_int _)
end
end K62

set_option maxHeartbeats 4000000
namespace K62
open PySem L2 Lw Mv Mvs Trn
def RPaper : List PyData → PyData → Prop := fun as d => ∃ turn : List Nat, as = [dN turn] ∧ turn.length ≤ 60 ∧ d = .tuple [dN (keptL (rkS turn turn.length).1 (rkS turn turn.length).2), .tuple ((rowsL (rkS turn turn.length).1 (rkS turn turn.length).2).map dN)]
abbrev crPO : Nat → Nat → Option Str := fun _ _ => some lq_paper_of
def vO : Option Nat → V | some q => .int (q : Nat) | none => .non
def dO : Option Nat → PyData | some q => .int (q : Nat) | none => .none
theorem dat_O {K : PySem.W.Frag} {G : Hp} {v : V} {o : Option Nat} (h : Dat K G v (dO o)) : v = vO o := by
  cases o with
  | none => exact h.non
  | some q => exact h.int
def bfL (rk : List Nat) : List V := (List.range rk.length).map fun p => vO (bf rk p)
theorem bfL_app (rk : List Nat) (w : Nat) : bfL (rk ++ [w]) = bfL rk ++ [vO (if 0 < w then some (tp rk (w - 1)) else none)] := by
  unfold bfL
  rw [List.length_append, List.length_singleton, List.range_succ, List.map_append, List.map_singleton, bf_end]
  congr 1
  exact List.map_congr_left fun p hp => by rw [bf_app (List.mem_range.mp hp)]
theorem bfL_len (rk : List Nat) : (bfL rk).length = rk.length := by unfold bfL; rw [List.length_map, List.length_range]
/-- what is new or was seen ahead: nobody else writes it -/
def own (G H H' : Hp) : Hp := fun b => if H b = none then H' b else G b
theorem own_new {G H H' : Hp} {b : Addr} (h : H b = none) : own G H H' b = H' b := if_pos h
theorem grow_own {G H H' : Hp} (sg : Same G H) (s1 : Same G H') (sH : Same H H') : Grow G H (own G H H') H' := by
  refine ⟨fun b o e => ?_, fun b o e => ?_, sH, fun b o e => ?_⟩
  · unfold own; rw [if_neg (by rw [sg b o e]; exact fun z => nomatch z)]; exact e
  · unfold own at e
    split at e
    · exact e
    · exact s1 b o e
  · unfold own at e
    split at e
    · rename_i h; exact .inr h
    · exact .inl e
abbrev dL (r : List Nat) : PyData := .list (r.map fun n => PyData.int (n : Nat))
/-- the rows in the heap -/
structure PS (G H : Hp) (turn : List Nat) (pr pb : Addr) (rk : List Nat) (k : Nat) (as : List Addr) (H' : Hp) : Prop where
  g : Same G H'
  h : Same H H'
  hr : H' pr = some (.lst (as.map V.ref))
  hb : H' pb = some (.lst (bfL rk))
  la : as.length = k
  nd : as.Nodup
  at_ : ∀ j a, as[j]? = some a → H' a = some (.lst (vN (rw_ rk j)))
  fr : ∀ a ∈ as, H a = none ∧ a ≠ pr ∧ a ≠ pb
theorem PS.same {G H : Hp} {turn : List Nat} {pr pb : Addr} {rk : List Nat} {k : Nat} {as : List Addr} {H1 H2 : Hp} (S : PS G H turn pr pb rk k as H1) (s : Same H1 H2) : PS G H turn pr pb rk k as H2 :=
  ⟨S.g.trans s, S.h.trans s, s _ _ S.hr, s _ _ S.hb, S.la, S.nd, fun j a e => s _ _ (S.at_ j a e), S.fr⟩
theorem dats_refs {K : PySem.W.Frag} {G : Hp} : ∀ (as : List Addr) (rs : List (List Nat)), as.length = rs.length → (∀ (j : Nat) a r, as[j]? = some a → rs[j]? = some r → G a = some (.lst (vN r))) → Dats K G (as.map V.ref) (rs.map dL)
  | [], [], _, _ => dats_nil
  | a :: as, r :: rs, hl, h => dats_cons (dat_lst (h 0 a r rfl rfl) (dats_nats _)) (dats_refs as rs (by simpa using hl) fun j a' r' e1 e2 => h (j + 1) a' r' (by simpa using e1) (by simpa using e2))
  | [], _ :: _, hl, _ => by simp at hl
  | _ :: _, [], hl, _ => by simp at hl
theorem PS.dat {K : PySem.W.Frag} {G H : Hp} {turn : List Nat} {pr pb : Addr} {rk : List Nat} {k : Nat} {as : List Addr} {H1 : Hp} (S : PS G H turn pr pb rk k as H1) : Dat K H1 (.ref pr) (.list ((rowsL rk k).map dL)) :=
  dat_lst S.hr (dats_refs as (rowsL rk k) (by unfold rowsL; rw [List.length_map, List.length_range, S.la]) fun j a r e1 e2 => by
    have := S.at_ j a e1
    have hj : j < k := by
      have := (List.getElem?_eq_some_iff.mp e1).1
      rw [S.la] at this; exact this
    unfold rowsL at e2
    rw [List.getElem?_map, List.getElem?_range hj] at e2
    have e3 : rw_ rk j = r := Option.some.inj e2
    rw [← e3]; exact this)
theorem last_get {l : List Nat} (h : l ≠ []) : l[l.length - 1]? = some (l.getLastD 0) := by
  have hl : 0 < l.length := List.length_pos_iff.mpr h
  rw [List.getElem?_eq_getElem (by omega)]
  congr 1
  rw [← List.getLast_eq_getElem h]
  cases l with
  | nil => exact absurd rfl h
  | cons a l => rw [List.getLastD_cons]; exact (List.getLast_eq_getLastD ..)
theorem ixN_last {n : Nat} (h : 1 ≤ n) : ixN n (-1) = some (n - 1) := by
  unfold ixN
  rw [if_neg (by decide), if_pos (by omega)]
  congr 1; omega
section
variable {P : Program} {w : World} {K : PySem.W.Frag} {mg : Str → Option Value} {base : Heap}
theorem ev_neg {σ : St} {G : Hp} {ta : TE} {i : Int} (h : Ev K ta σ G (.int i)) : Ev K (tUn (rU fun i => .int (-i)) ta) σ G (.int (-i)) :=
  fun G1 H s1 s2 Q k => h G1 H s1 s2 _ fun v G2 H2 g2 hv => ⟨i, hv.int, k _ G2 H2 g2 (dat_int _)⟩
/-- rows[j][-1] -/
theorem ev_last {σ : St} {G : Hp} {ta tb : TE} {rk : List Nat} {k j : Nat} (ha : Ev K ta σ G (.list ((rowsL rk k).map dL))) (hb : Ev K tb σ G (.int (j : Nat))) (hj : j < k) (hne : rw_ rk j ≠ []) : Ev K (tOp (rIxL K) (tOp (rIxL K) ta tb) (tUn (rU fun i => .int (-i)) (tC (.int 1)))) σ G (.int (tp rk j : Nat)) := by
  have hl : 0 < (rw_ rk j).length := List.length_pos_iff.mpr hne
  refine ev_ixL (n := (rw_ rk j).length - 1) (ev_ixL (n := j) (d := dL (rw_ rk j)) ha hb ?_ ?_) (ev_neg ev_int) ?_ ?_
  · rw [List.length_map]; unfold rowsL; rw [List.length_map, List.length_range]; exact ixN_nat hj
  · unfold rowsL; rw [List.getElem?_map, List.getElem?_map, List.getElem?_range hj]; rfl
  · rw [List.length_map]; exact ixN_last hl
  · rw [List.getElem?_map, last_get hne]; rfl
theorem ok_paper (T : Top K mg) (M : Bs K mg base) : FnOk P w K mg base CX0 5 T.f_paper_of T.fd_paper_of ["turn"] (spPT K T.P_paper_of crPO RPaper) := by
  have G_many_ahead : FnOkS P w K mg base 4 T.f_many_ahead T.fd_many_ahead ["places", "lies_ahead"] (spMA P w K mg base 1) := ok_ma T 1
  refine T.F_paper_of.okC sc_paper_of (fun vs H Q E h => ?_) (fun cdv A outer s H vs Q E hcd hr h => ?_)
  · obtain ⟨G, as, d, hT, sg, hv, ⟨p, rfl, _⟩, _⟩ := h
    rw [hv.length]; rfl
  · obtain ⟨G, as, d, hT, sg, hv, ⟨turn, rfl, l1, rfl⟩, k⟩ := h
    have hu := hr.units
    obtain ⟨v1, r1, rfl, h1, hv⟩ := hv.cons
    cases hv.nil
    obtain ⟨a, xs, rfl, ha, hxs⟩ := h1.tup
    have ex := hxs.nats
    subst ex
    have zz : (1000 : Nat) < sizeLine := by decide
    refine ⟨_, (pss_cons (ps_set (i := 1) sc_paper_of.nd rfl (Or.inr rfl) (pe_lst pa_nil))
      (pss_cons (ps_set (i := 2) sc_paper_of.nd rfl (Or.inl rfl) (pe_lst pa_nil))
      (pss_cons (ps_for PassesOwn.never rfl (pi_enumT (by rfl) T.enumerate_ (pa_cons (pv 0) pa_nil st_Name)) (pg_tup (n := 2) rfl (pgs_cons (pg_name (i := 3) sc_paper_of.nd rfl (Or.inl rfl)) (pgs_cons (pg_name (i := 4) sc_paper_of.nd rfl (Or.inr rfl)) pgs_nil)) (by rfl)) (pss_cons (ps_set (i := 5) sc_paper_of.nd rfl (Or.inl rfl) (pe_ma (kk := 1) (y := "spot") (cap := ["turn", "rows", "number"]) (js := [0, 1, 4]) (q := lq_paper_of) (cr := fun _ _ => some lq_paper_of) G_many_ahead (hr.mono (by decide)) (by rfl) T.m_many_ahead T.F_many_ahead.kp T.b_many_ahead (fun _ _ h => h) ⟨rfl, rfl, rfl, by decide +kernel, by decide +kernel, (by show ∀ p ∈ (_ : List (Str × NameKind)), p.2 = NameKind.free → List.lookup p.1 (defScope s_paper_of).names = some NameKind.cell; decide +kernel), by decide +kernel, by decide +kernel, by decide +kernel⟩ rfl (hcd.trans T.cd_paper_of) (PySem.W.codeHd_of_K M.kin T.ch_paper_of) M.bm rfl rfl (fun _ _ _ _ _ => rfl) (pe_callB (call_lenK (K := K) rfl) (by rfl) T.len_ PySem.boot_len (pa_cons (pv 1) pa_nil st_Name)) (fun _ _ _ _ _ _ _ hr2 => (pe_cmpR op_lt (pe_ix (ix_tupK (K := K) rfl) (pv 1) (pe_ix (ix_listK (K := K) rfl) (pe_ix (ix_listK (K := K) rfl) (pv 2) (pv 0) (fun _ _ => rfl)) (pe_un un_neg pe_int) (fun _ _ => rfl)) (fun _ _ => rfl)) (pv 3) (nomark _)))))
      (pss_cons (ps_expr (pe_bm PySem.F.plainAttrs_list PySem.F.slot_list_append PySem.F.type_list_append mt_append (pv 2) (pa_cons (pe_ifExp (pt_cmpR op_gt (pv 5) pe_int (nomark _)) (pe_ix (ix_listK (K := K) rfl) (pe_ix (ix_listK (K := K) rfl) (pv 1) (pe_op op_sub (pv 5) pe_int) (fun _ _ => rfl)) (pe_un un_neg pe_int) (fun _ _ => rfl)) pe_non) pa_nil st_IfExp)))
      (pss_cons (ps_if (pt_cmpR op_eq (pv 5) (pe_callB (call_lenK (K := K) rfl) (by rfl) T.len_ PySem.boot_len (pa_cons (pv 1) pa_nil st_Name)) (nomark _)) (pss_one (ps_expr (pe_bm PySem.F.plainAttrs_list PySem.F.slot_list_append PySem.F.type_list_append mt_append (pv 1) (pa_cons (pe_lst pa_nil) pa_nil st_List)))) pss_nil)
      (pss_one (ps_expr (pe_bm PySem.F.plainAttrs_list PySem.F.slot_list_append PySem.F.type_list_append mt_append (pe_ix (ix_listK (K := K) rfl) (pv 1) (pv 5) (fun _ _ => rfl)) (pa_cons (pv 3) pa_nil st_Name))))))))
      (pss_cons (ps_set (i := 6) sc_paper_of.nd rfl (Or.inl rfl) (pe_lst pa_nil))
      (pss_cons (ps_set (i := 7) sc_paper_of.nd rfl (Or.inl rfl) (pe_ifExp (pt_cmpR (op_neDK (K := K) rfl hu) (pv 1) (pe_lst pa_nil) (nomark _)) (pe_ix (ix_listK (K := K) rfl) (pe_ix (ix_listK (K := K) rfl) (pv 1) (pe_un un_neg pe_int) (fun _ _ => rfl)) (pe_un un_neg pe_int) (fun _ _ => rfl)) pe_non))
      (pss_cons (ps_while PassesOwn.never (pt_cmpR op_notN (pv 7) pe_non (nomark _)) (pss_cons (ps_expr (pe_bm PySem.F.plainAttrs_list PySem.F.slot_list_insert PySem.F.type_list_insert mt_insert (pv 6) (pa_cons pe_int (pa_cons (pv 7) pa_nil st_Name) st_Constant)))
      (pss_one (ps_set (i := 7) sc_paper_of.nd rfl (Or.inl rfl) (pe_ix (ix_listK (K := K) rfl) (pv 2) (pv 7) (fun _ _ => rfl))))))
      (pss_one (ps_ret (pe_tup (pa_cons (pe_callTy (call_tupleK (K := K) rfl) (by rfl) T.tuple_ bTup (pa_cons (pv 6) pa_nil st_Name)) (pa_cons (pe_callTy (call_tupleK (K := K) rfl) (by rfl) T.tuple_ bTup (pa_cons (pe_lc (x := "row") (cap := []) (js := []) ⟨rfl, by decide +kernel, by decide +kernel, rfl, (by show ∀ p ∈ (_ : List (Str × NameKind)), p.2 = NameKind.free → List.lookup p.1 (defScope s_paper_of).names = some NameKind.cell; decide +kernel), by decide +kernel, by decide +kernel, by decide +kernel⟩ rfl rfl (fun _ _ h => h) (pi_list (pv 1)) (fun _ _ _ _ => ⟨pif_nil, (pe_callTy (call_tupleK (K := K) rfl) (by rfl) T.tuple_ bTup (pa_cons (pv 0) pa_nil st_Name))⟩)) pa_nil st_ListComp)) pa_nil st_Call) st_Call)))))))))) , ?_⟩
    refine ⟨(by show 0 ≤ sizeLine; decide), fun pr hpr => ⟨(by show 0 ≤ sizeLine; decide), fun pb hpb => ?_⟩⟩
    have s0 := same_new (o := .lst []) hpr
    have s1 := s0.trans (same_new (o := .lst []) hpb)
    have nrb : pr ≠ pb := ne_of_none (H := upd H pr (.lst [])) upd_same hpb
    have hpb0 : H pb = none := s0.free hpb
    refine ⟨_, rfl, a, rfl, ⟨_, (sg.trans s1).tup ha⟩, for_enT (xs := turn.map fun n => V.int (n : Nat)) (fun i σ H' => ∃ (v3 v4 v5 v6 v7 : Option V) (as : List Addr), σ = [some (.ref a), some (.ref pr), some (.ref pb), v3, v4, v5, v6, v7] ∧ PS G H turn pr pb (rkS turn i).1 (rkS turn i).2 as H')
      ⟨_, _, _, _, _, [], rfl, sg.trans s1, s1, by rw [upd_ne nrb, upd_same]; rfl, by rw [upd_same]; rfl, rfl, List.nodup_nil, fun j a e => by simp at e, fun a e => by cases e⟩ ?_ ?_ ?_⟩
    · rintro i σ H' _ ⟨v3, v4, v5, v6, v7, as, rfl, S⟩
      exact S.g.tup ha
    · rintro i x r σ H' hx ⟨v3, v4, v5, v6, v7, as, rfl, S⟩ hr'
      rw [List.getElem?_map] at hx
      have hi : i < turn.length := by
        cases e : turn[i]? with
        | none => rw [e] at hx; cases hx
        | some n => exact (List.getElem?_eq_some_iff.mp e).1
      have ex : x = V.int (vl turn i : Nat) := by
        rw [List.getElem?_eq_getElem hi] at hx
        unfold vl
        rw [List.getD_eq_getElem?_getD, List.getElem?_eq_getElem hi]
        exact (Option.some.inj hx).symm
      subst ex
      have R := ri turn i
      show gTup _ _ _ _ _ _ _
      refine ⟨r, _, rfl, SqT.of upd_same, rfl, _, _, rfl, _, _, rfl, rfl, ?_⟩
      have S1 := S.same (same_new (o := .tup [V.int (i : Nat), V.int (vl turn i : Nat)]) hr')
      have eR : rkS turn (i + 1) = ((rkS turn i).1 ++ [wi turn (rkS turn i).1 (rkS turn i).2 i], max (rkS turn i).2 (wi turn (rkS turn i).1 (rkS turn i).2 i + 1)) := rfl
      rw [eR]
      generalize (rkS turn i).1 = rk at R S S1
      generalize (rkS turn i).2 = kk at R S S1
      generalize upd H' r (.tup [V.int (i : Nat), V.int (vl turn i : Nat)]) = H1 at S1
      clear S hr' eR
      have hkl : kk ≤ 60 := by have := R.kle; omega
      have hT1 : Dat K H1 (.ref a) (dN turn) := h1.same S1.g
      have hP1 : H1 T.P_paper_of = some (.tbl crPO) := S1.g _ _ hT
      have hR1 : Dat K H1 (.ref pr) (.list ((rowsL rk kk).map dL)) := S1.dat
      have elen : ((rowsL rk kk).map dL).length = kk := by rw [List.length_map]; unfold rowsL; rw [List.length_map, List.length_range]
      -- which
      refine asg_ev (K := K) (G := H1) (ev_ma (n := kk) (g := gw turn rk i) hP1 (ev_d (ev_lenL (eva_cons (ev_var rfl hR1) eva_nil)) (by rw [elen])) (by omega) fun s hs => ?_) (Same.refl _) fun v5' G2 H2 g2 hv5 => ?_
      · have htp := R.tp_in hs
        refine ev_d (ev_lt (ev_at (ev_var rfl hT1) (ev_last (ev_var rfl hR1) (ev_var rfl (dat_int _)) hs (R.row_ne hs)) (by omega)) (ev_var rfl (dat_int (vl turn i : Nat)))) ?_
        unfold gw
        by_cases z : vl turn (tp rk s) < vl turn i
        · rw [decide_eq_true z, decide_eq_true (by omega)]
        · rw [decide_eq_false z, decide_eq_false (by omega)]
      rw [hv5.int]
      obtain ⟨w1, w2⟩ := R.w
      rw [show L2.hv (gw turn rk i) 0 kk = wi turn rk kk i from rfl]
      generalize wi turn rk kk i = ww at w1 w2
      have S2 := S1.same g2.hh
      have hT2 := hT1.same g2.hh
      have hR2 := hR1.same g2.hh
      clear S1 hT1 hR1 hP1 hv5
      -- before
      have ei : EvT (tTest (tOp (rI0 fun i j => V.bl (decide (j < i))) (tVar 5) (tC (V.int 0)))) [some (.ref a), some (.ref pr), some (.ref pb), some (V.int (i : Nat)), some (V.int (vl turn i : Nat)), some (V.int (ww : Nat)), v6, v7] H2 (decide (0 < ww)) := evt_c (evt_test (K := K) (ev_i0 (ev_var rfl (dat_int _)) ev_int (dat_bl _))) (by
        by_cases z : 0 < ww
        · rw [decide_eq_true z]; exact decide_eq_true (by omega)
        · rw [decide_eq_false z]; exact decide_eq_false (by omega))
      refine ⟨_, rfl, tyV_lst S2.hb, ?_⟩
      refine (ev_ite (K := K) (d := dO (if 0 < ww then some (tp rk (ww - 1)) else none)) ei (fun c => ?_) (fun c => ?_)).use (Same.refl _) fun v8 G3 H3 g3 hv8 => ?_
      · have c' := of_decide_eq_true c
        rw [if_pos c']
        refine ev_last (ev_var rfl hR2) (ev_d (ev_i0 (ev_var rfl (dat_int (ww : Nat))) ev_int (dat_int _)) ?_) (show ww - 1 < kk by omega) (R.row_ne (by omega))
        congr 1; omega
      · rw [if_neg (of_decide_eq_false c)]; exact ev_non
      rw [dat_O hv8]
      have S3 := S2.same g3.hh
      refine ⟨pb, _, _, rfl, rfl, S3.hb, by rw [bfL_len, R.len]; omega, ?_⟩
      have hR3 : Dat K (upd H3 pb (.lst (bfL rk ++ [vO (if 0 < ww then some (tp rk (ww - 1)) else none)]))) (.ref pr) (.list ((rowsL rk kk).map dL)) := by
        obtain ⟨p', xs', e', h1', h2'⟩ := (S3.dat (K := K)).lst
        cases e'
        refine dat_lst (by rw [upd_ne nrb]; exact S3.hr) (dats_refs as (rowsL rk kk) (by unfold rowsL; rw [List.length_map, List.length_range, S3.la]) fun j a r e1 e2 => ?_)
        have hj : j < kk := by
          have := (List.getElem?_eq_some_iff.mp e1).1
          rw [S3.la] at this; exact this
        unfold rowsL at e2
        rw [List.getElem?_map, List.getElem?_range hj] at e2
        have e3 : rw_ rk j = r := Option.some.inj e2
        rw [upd_ne (S3.fr a (List.mem_of_getElem? e1)).2.2, ← e3]
        exact S3.at_ j a e1
      have hb3 : upd H3 pb (.lst (bfL rk ++ [vO (if 0 < ww then some (tp rk (ww - 1)) else none)])) pb = some (.lst (bfL (rk ++ [ww]))) := by rw [upd_same, bfL_app]
      have hr3 : upd H3 pb (.lst (bfL rk ++ [vO (if 0 < ww then some (tp rk (ww - 1)) else none)])) pr = some (.lst (as.map V.ref)) := by rw [upd_ne nrb]; exact S3.hr
      have ha3 : ∀ (j : Nat) a, as[j]? = some a → upd H3 pb (.lst (bfL rk ++ [vO (if 0 < ww then some (tp rk (ww - 1)) else none)])) a = some (.lst (vN (rw_ rk j))) := fun j a e => by
        rw [upd_ne (S3.fr a (List.mem_of_getElem? e)).2.2]; exact S3.at_ j a e
      have hg3 : Same G (upd H3 pb (.lst (bfL rk ++ [vO (if 0 < ww then some (tp rk (ww - 1)) else none)]))) := same_upd S3.g (sg.free hpb0)
      have hh3 : Same H (upd H3 pb (.lst (bfL rk ++ [vO (if 0 < ww then some (tp rk (ww - 1)) else none)]))) := same_upd S3.h hpb0
      have la := S3.la
      have nd := S3.nd
      have fr := S3.fr
      clear S2 S3 hT2 hR2 ei hv8
      (try dsimp only)
      generalize upd H3 pb (.lst (bfL rk ++ [vO (if 0 < ww then some (tp rk (ww - 1)) else none)])) = H4 at hR3 hb3 hr3 ha3 hg3 hh3
      -- a row more
      refine seq_if (fun σ H' => ∃ (as' : List Addr), σ = [some (.ref a), some (.ref pr), some (.ref pb), some (V.int (i : Nat)), some (V.int (vl turn i : Nat)), some (V.int (ww : Nat)), v6, v7] ∧ Same G H' ∧ Same H H' ∧ H' pb = some (.lst (bfL (rk ++ [ww]))) ∧ H' pr = some (.lst (as'.map V.ref)) ∧ as'.length = max kk (ww + 1) ∧ as'.Nodup ∧ (∀ (j : Nat) a, as'[j]? = some a → H' a = some (.lst (vN (rw_ rk j)))) ∧ ∀ a ∈ as', H a = none ∧ a ≠ pr ∧ a ≠ pb) ?_ ?_
      · rintro σ H5 ⟨as', rfl, hg5, hh5, hb5, hr5, la5, nd5, ha5, fr5⟩
        obtain ⟨a5, e5⟩ : ∃ a5, as'[ww]? = some a5 := ⟨_, List.getElem?_eq_getElem (by omega)⟩
        have m5 := List.mem_of_getElem? e5
        have h5 := ha5 ww a5 e5
        have lrow : (rw_ rk ww).length ≤ i := by
          unfold rw_
          have := List.length_filter_le (fun p => rk.getD p 0 == ww) (List.range rk.length)
          rw [List.length_range] at this; have h3 := R.len; omega
        refine ⟨_, rfl, _, rfl, pr, _, _, V.ref a5, rfl, rfl, SqL.of hr5, ?_, tyV_lst h5, _, rfl, a5, _, _, rfl, rfl, h5, by rw [vN_len]; omega, ?_⟩
        · unfold atI
          rw [List.length_map, la5, ixN_nat (by omega)]
          show (as'.map V.ref)[ww]? = _
          rw [List.getElem?_map, e5]; rfl
        refine ⟨_, _, _, _, _, as', rfl, same_upd hg5 (sg.free (fr5 a5 m5).1), same_upd hh5 (fr5 a5 m5).1, by rw [upd_ne (Ne.symm (fr5 a5 m5).2.1)]; exact hr5, by rw [upd_ne (Ne.symm (fr5 a5 m5).2.2)]; exact hb5, la5, nd5, fun j b e => ?_, fr5⟩
        rw [rw_app]
        by_cases hj : ww = j
        · subst hj
          rw [e5] at e; cases e
          rw [upd_same, if_pos rfl, vN_app, R.len]; rfl
        · rw [if_neg hj]
          have hne : b ≠ a5 := fun z => by
            subst z
            have q1 := (List.getElem?_eq_some_iff.mp e5)
            have q2 := (List.getElem?_eq_some_iff.mp e)
            exact hj ((List.getElem_inj nd5).mp (q1.2.trans q2.2.symm))
          rw [upd_ne hne]; exact ha5 j b e
      · intro nx hnx
        refine (evt_test (K := K) (G := H4) (ev_eqI (ev_var rfl (dat_int (ww : Nat))) (ev_lenL (eva_cons (ev_var rfl hR3) eva_nil)))).use (Same.refl _) fun G5 H5 g5 => ?_
        rw [elen]
        by_cases hw : ww = kk
        · rw [decide_eq_true (by omega)]
          refine iteT ?_
          have hr5 := g5.hh _ _ hr3
          refine ⟨_, rfl, tyV_lst hr5, (by show 0 ≤ sizeLine; decide), fun e he => ?_⟩
          have s6 := g5.hh.trans (same_new (o := .lst []) he)
          have hr6 := s6 _ _ hr3
          refine ⟨pr, _, _, rfl, rfl, hr6, by rw [List.length_map]; omega, hnx _ _ ⟨as ++ [e], rfl, same_upd (hg3.trans s6) (sg.free hpr), same_upd (hh3.trans s6) hpr, by rw [upd_ne (Ne.symm nrb)]; exact s6 _ _ hb3, by rw [upd_same, List.map_append]; rfl, by rw [List.length_append, la]; show kk + 1 = _; omega, ?_, fun j b eb => ?_, fun b hb => ?_⟩⟩
          · refine List.nodup_append.mpr ⟨nd, List.pairwise_singleton _ _, fun x hx y hy z => ?_⟩
            rw [List.mem_singleton.mp hy] at z
            subst z
            obtain ⟨j, hj⟩ := List.mem_iff_getElem?.mp hx
            have := g5.hh _ _ (ha3 j _ hj)
            rw [this] at he; cases he
          · by_cases hj : j < as.length
            · rw [List.getElem?_append_left hj] at eb
              rw [upd_ne (fr b (List.mem_of_getElem? eb)).2.1]
              exact s6 _ _ (ha3 j b eb)
            · rw [List.getElem?_append_right (by omega)] at eb
              have hj' : j = as.length := by
                have := (List.getElem?_eq_some_iff.mp eb).1
                simp at this; omega
              subst hj'
              simp at eb
              subst eb
              have hne : e ≠ pr := Ne.symm (ne_of_none hr5 he)
              rw [upd_ne hne, upd_same, la, R.row_k]; rfl
          · rcases List.mem_append.mp hb with hb | hb
            · exact fr b hb
            · rw [List.mem_singleton.mp hb]
              refine ⟨(hh3.trans g5.hh).free he, Ne.symm (ne_of_none hr5 he), Ne.symm (ne_of_none (g5.hh _ _ hb3) he)⟩
        · rw [decide_eq_false (by omega)]
          refine iteF (hnx _ _ ⟨as, rfl, hg3.trans g5.hh, hh3.trans g5.hh, g5.hh _ _ hb3, g5.hh _ _ hr3, by omega, nd, fun j b eb => g5.hh _ _ (ha3 j b eb), fr⟩)
    · rintro σ H1 ⟨v3, v4, v5, v6, v7, as, rfl, S⟩
      rw [List.length_map] at S
      have R := ri turn turn.length
      generalize (rkS turn turn.length).1 = rk at R S k
      generalize (rkS turn turn.length).2 = kk at R S k
      have hkl : kk ≤ 60 := by have := R.kle; omega
      have Kp := kept_ok R
      have elen : ((rowsL rk kk).map dL).length = kk := by rw [List.length_map]; unfold rowsL; rw [List.length_map, List.length_range]
      refine ⟨(by show 0 ≤ sizeLine; decide), fun pk hpk => ?_⟩
      have S2 := S.same (same_new (o := .lst []) hpk)
      have hpk0 : H pk = none := S.h.free hpk
      have nkb : pb ≠ pk := ne_of_none S.hb hpk
      have nkr : pr ≠ pk := ne_of_none S.hr hpk
      have nka : ∀ b ∈ as, b ≠ pk := fun b hb => by
        obtain ⟨j, hj⟩ := List.mem_iff_getElem?.mp hb
        exact ne_of_none (S.at_ j b hj) hpk
      have hk2 : upd H1 pk (.lst []) pk = some (.lst (vN [])) := upd_same
      (try dsimp only)
      generalize upd H1 pk (.lst []) = H2 at S2 hk2
      clear S hpk
      -- last
      have hR2 : Dat K H2 (.ref pr) (.list ((rowsL rk kk).map dL)) := S2.dat
      have plr : Pl 3 (.list ((rowsL rk kk).map dL)) := pl_lst fun x hx => by
        obtain ⟨r, _, rfl⟩ := List.mem_map.mp hx
        exact pl_lst fun y hy => by
          obtain ⟨n, _, rfl⟩ := List.mem_map.mp hy
          exact pl_int _
      have pl0 : Pl 3 (.list []) := pl_lst fun x hx => by cases hx
      refine asg_ev (K := K) (G := H2) (ev_ite (K := K) (d := dO (if kk = 0 then none else some (tp rk (kk - 1)))) (evt_test (K := K) (ev_eqD (ev_var rfl hR2) (ev_lst eva_nil (by decide)) plr pl0 (by decide))) (fun c => ?_) (fun c => ?_)) (Same.refl _) fun v7' G3 H3 g3 hv7 => ?_
      · have hne : kk ≠ 0 := fun z => by
          subst z
          have e : (rowsL rk 0).map dL = [] := rfl
          rw [e, PySem.Spec.same_self] at c; cases c
        rw [if_neg hne]
        have hl : 0 < (rw_ rk (kk - 1)).length := List.length_pos_iff.mpr (R.row_ne (by omega))
        refine ev_ixL (n := (rw_ rk (kk - 1)).length - 1) (ev_ixL (n := kk - 1) (d := dL (rw_ rk (kk - 1))) (ev_var rfl hR2) (ev_neg ev_int) ?_ ?_) (ev_neg ev_int) ?_ ?_
        · rw [elen]; exact ixN_last (by omega)
        · unfold rowsL; rw [List.getElem?_map, List.getElem?_map, List.getElem?_range (by omega)]; rfl
        · rw [List.length_map]; exact ixN_last hl
        · rw [List.getElem?_map, last_get (R.row_ne (by omega))]; rfl
      · have he : kk = 0 := by
          by_cases z : kk = 0
          · exact z
          · have hne : PyData.list ((rowsL rk kk).map dL) ≠ .list [] := fun q => by
              injection q with q
              have := congrArg List.length q
              rw [elen] at this; exact z this
            rw [same_ne hne] at c; cases c
        rw [if_pos he]; exact ev_non
      rw [dat_O hv7]
      have S3 := S2.same g3.hh
      have hk3 := g3.hh _ _ hk2
      clear hR2 hv7 S2 hk2
      -- the places that are kept
      refine while_by (fun σ H' => ∃ (acc : List Nat) (o : Option Nat), σ = [some (.ref a), some (.ref pr), some (.ref pb), v3, v4, v5, some (.ref pk), some (vO o)] ∧ PS G H turn pr pb rk kk as H' ∧ H' pk = some (.lst (vN acc)) ∧ (o = none → acc = keptL rk kk) ∧ ∀ p, o = some p → p < turn.length ∧ acc.length + rk.getD p 0 + 1 = kk ∧ kc rk (rk.getD p 0) p acc = keptL rk kk) (fun σ _ => match σ with | [_, _, _, _, _, _, _, some (.int p)] => rk.getD p.toNat 0 + 1 | _ => 0)
        ⟨[], if kk = 0 then none else some (tp rk (kk - 1)), rfl, S3, hk3, fun e => ?_, fun p e => ?_⟩ ?_ ?_
      · by_cases z : kk = 0
        · subst z; rfl
        · rw [if_neg z] at e; cases e
      · by_cases z : kk = 0
        · rw [if_pos z] at e; cases e
        · rw [if_neg z] at e
          cases e
          obtain ⟨t1, t2⟩ := R.tp_in (j := kk - 1) (by omega)
          refine ⟨t1, by rw [t2]; show 0 + (kk - 1) + 1 = kk; omega, ?_⟩
          rw [t2]; unfold keptL; rw [if_neg z]
      · rintro σ H4 ⟨acc, o, rfl, S4, hk4, ho1, ho2⟩
        refine ⟨_, rfl, rfl, _, rfl, ?_⟩
        cases o with
        | none =>
          rw [show (!decide (vO none = V.non)) = false from rfl]
          refine iteF ?_
          have hacc := ho1 rfl
          subst hacc
          have gO := grow_own sg S4.g S4.h
          have hkD : Dat K (own G H H4) (.ref pk) (.list ((keptL rk kk).map fun n => PyData.int (n : Nat))) := dat_lst (by rw [own_new hpk0]; exact hk4) (dats_nats _)
          have hRD : Dat K (own G H H4) (.ref pr) (.list ((rowsL rk kk).map dL)) := dat_lst (by rw [own_new hpr]; exact S4.hr) (dats_refs as (rowsL rk kk) (by unfold rowsL; rw [List.length_map, List.length_range, S4.la]) fun j b r e1 e2 => by
            have hj : j < kk := by
              have := (List.getElem?_eq_some_iff.mp e1).1
              rw [S4.la] at this; exact this
            unfold rowsL at e2
            rw [List.getElem?_map, List.getElem?_range hj] at e2
            have e3 : rw_ rk j = r := Option.some.inj e2
            rw [own_new (S4.fr b (List.mem_of_getElem? e1)).1, ← e3]
            exact S4.at_ j b e1)
          refine ret_ev (K := K) (G := own G H H4) (ev_tup (eva_cons (ev_tupleL (eva_cons (ev_var rfl hkD) eva_nil)) (eva_cons (ev_tupleL (eva_cons (ev_lcL (rowsL rk kk) dL (fun r => some (dN r)) (ev_var rfl hRD) (by unfold rowsL; rw [List.length_map, List.length_range]; omega) fun G5 i r x s5 hr' hx => lc1 evt_noif (ev_tupleL (eva_cons (ev_var rfl hx) eva_nil))) eva_nil)) eva_nil)) (by show 2 ≤ sizeLine; decide)) gO.gh fun v G' H' g hv' => k v G' H' (gO.trans g) ?_
          rw [fm_some] at hv'; exact hv'
        | some p =>
          rw [show (!decide (vO (some p) = V.non)) = true from rfl]
          refine iteT ?_
          obtain ⟨p1, p2, p3⟩ := ho2 p rfl
          refine ⟨_, rfl, tyV_lst hk4, _, rfl, pk, vN acc, 0, _, rfl, rfl, hk4, by decide, by omega, by rw [vN_len]; omega, ?_⟩
          have hb5 : upd H4 pk (.lst ((vN acc).take (0 : Int).toNat ++ vO (some p) :: (vN acc).drop (0 : Int).toNat)) pb = some (.lst (bfL rk)) := by rw [upd_ne nkb]; exact S4.hb
          refine ⟨_, rfl, _, rfl, pb, _, _, vO (bf rk p), rfl, rfl, SqL.of hb5, ?_, ?_⟩
          · unfold atI
            rw [bfL_len, R.len, ixN_nat p1]
            show (bfL rk)[p]? = _
            unfold bfL
            rw [List.getElem?_map, List.getElem?_range (by rw [R.len]; exact p1)]; rfl
          refine ⟨⟨p :: acc, bf rk p, rfl, ⟨same_upd S4.g (sg.free hpk0), same_upd S4.h hpk0, by rw [upd_ne nkr]; exact S4.hr, hb5, S4.la, S4.nd, fun j b e => by rw [upd_ne (nka b (List.mem_of_getElem? e))]; exact S4.at_ j b e, S4.fr⟩, upd_same, fun e => ?_, fun q e => ?_⟩, ?_⟩
          · have h0 : rk.getD p 0 = 0 := by
              by_cases z : 0 < rk.getD p 0
              · obtain ⟨q, e', _⟩ := R.bf p1 z
                rw [e'] at e; cases e
              · omega
            rw [h0] at p3; exact p3
          · have h0 : 0 < rk.getD p 0 := by
              by_cases z : 0 < rk.getD p 0
              · exact z
              · unfold bf at e; rw [if_neg z] at e; cases e
            obtain ⟨q', e', q1, q2, q3⟩ := R.bf p1 h0
            rw [e'] at e; cases e
            refine ⟨by omega, by rw [List.length_cons]; omega, ?_⟩
            rw [← p3, ← q3]
            show _ = kc rk (rk.getD q 0) ((bf rk p).getD 0) (p :: acc)
            rw [e']; rfl
          · show (match [some (V.ref a), some (V.ref pr), some (V.ref pb), v3, v4, v5, some (V.ref pk), some (vO (bf rk p))] with | [_, _, _, _, _, _, _, some (.int p)] => rk.getD p.toNat 0 + 1 | _ => 0) < rk.getD ((p : Nat) : Int).toNat 0 + 1
            rw [Int.toNat_natCast]
            by_cases z : 0 < rk.getD p 0
            · obtain ⟨q', e', q1, q2, q3⟩ := R.bf p1 z
              rw [e']
              show rk.getD ((q' : Nat) : Int).toNat 0 + 1 < _
              rw [Int.toNat_natCast]; omega
            · have : bf rk p = none := by unfold bf; rw [if_neg z]
              rw [this]
              show 0 < _
              omega
      · rintro σ H1 Q1 Q2 hq ⟨a, e1, e2, c, e3, q⟩
        exact ⟨a, e1, e2, c, e3, hq _ _ q⟩
end
end K62

set_option maxHeartbeats 4000000
namespace K62
open PySem L2 Lw Mv Mvs Trn
def RMoves : List PyData → PyData → Prop := fun as d => ∃ turn : List Nat, as = [dN turn] ∧ Tn turn.length turn ∧ turn.length ≤ 60 ∧ d = .tuple ((movesL turn).map dP)
theorem inV_nat (i : Nat) : ∀ l : List Nat, inV (V.int (i : Nat)) (vN l) = decide (i ∈ l)
  | [] => by simp [inV]
  | a :: l => by
    have ih := inV_nat i l
    unfold inV at ih ⊢
    rw [show vN (a :: l) = V.int (a : Nat) :: vN l from rfl, List.any_cons, ih]
    by_cases h : i = a
    · subst h; simp [eqV]
    · have h1 : (i ∈ a :: l) ↔ i ∈ l := ⟨fun z => (List.mem_cons.mp z).resolve_left h, List.mem_cons_of_mem _⟩
      by_cases h2 : i ∈ l
      · simp [h2]
      · simp [eqV, h2, h, Ne.symm h]; omega
theorem flat_vN : ∀ l : List Nat, (vN l).all flatV = true
  | [] => rfl
  | a :: l => by
    show (flatV (V.int (a : Nat)) && (vN l).all flatV) = true
    rw [flat_vN l]; rfl
theorem dats_snocP {K : PySem.W.Frag} {G : Hp} {xs : List V} {ps : List (Nat × Nat)} {v : V} {p : Nat × Nat} (h : Dats K G xs (ps.map dP)) (hv : Dat K G v (dP p)) : Dats K G (xs ++ [v]) ((ps ++ [p]).map dP) := by
  rw [List.map_append]; exact dats_snoc h hv
section
variable {P : Program} {w : World} {K : PySem.W.Frag} {mg : Str → Option Value} {base : Heap}
theorem ok_moves (T : Top K mg) (M : Bs K mg base) : FnOk P w K mg base CX0 6 T.f_moves T.fd_moves ["turn"] (spPT K T.P_paper_of crPO RMoves) := by
  have G_paper_of : FnOk P w K mg base CX0 5 T.f_paper_of T.fd_paper_of ["turn"] (spPT K T.P_paper_of crPO RPaper) := ok_paper T M
  refine T.F_moves.ok sc_moves (fun vs H Q E h => ?_) (fun cdv A outer s H vs Q E hr h => ?_)
  · obtain ⟨G, as, d, hT, sg, hv, ⟨p, rfl, _⟩, _⟩ := h
    rw [hv.length]; rfl
  · obtain ⟨G, as, d, hT, sg, hv, ⟨turn, rfl, tn, l1, rfl⟩, k⟩ := h
    have hu := hr.units
    obtain ⟨v1, r1, rfl, h1, hv⟩ := hv.cons
    cases hv.nil
    have zz : (1000 : Nat) < sizeLine := by decide
    have R := ri turn turn.length
    have Kp := kept_ok R
    refine ⟨_, (pss_cons (ps_set (i := 1) sc_moves.nd rfl (Or.inl rfl) (pe_ix (ix_tupK (K := K) rfl) (pe_call G_paper_of hr (by rfl) T.m_paper_of T.F_paper_of.kp T.b_paper_of .nil pass0 (pa_cons (pv 0) pa_nil st_Name)) pe_int (fun _ _ => rfl)))
      (pss_cons (ps_set (i := 2) sc_moves.nd rfl (Or.inl rfl) (pe_lrange rfl (by rfl) T.list_ (by rfl) T.range_ (pa_cons (pe_callB (call_lenK (K := K) rfl) (by rfl) T.len_ PySem.boot_len (pa_cons (pv 0) pa_nil st_Name)) pa_nil st_Call)))
      (pss_cons (ps_set (i := 3) sc_moves.nd rfl (Or.inl rfl) (pe_lst pa_nil))
      (pss_cons (ps_for PassesOwn.never rfl (pi_enumT (by rfl) T.enumerate_ (pa_cons (pv 0) pa_nil st_Name)) (pg_tup (n := 2) rfl (pgs_cons (pg_name (i := 4) sc_moves.nd rfl (Or.inl rfl)) (pgs_cons (pg_name (i := 5) sc_moves.nd rfl (Or.inl rfl)) pgs_nil)) (by rfl)) (pss_one (ps_if (pt_cmpR (op_notInSK (K := K) rfl) (pv 4) (pv 1) (by rfl)) (pss_cons (ps_set (i := 6) sc_moves.nd rfl (Or.inl rfl) (pe_bm PySem.F.plainAttrs_list PySem.F.slot_list_index PySem.F.type_list_index mt_lindex (pv 2) (pa_cons (pv 5) pa_nil st_Name)))
      (pss_cons (ps_expr (pe_bm PySem.F.plainAttrs_list PySem.F.slot_list_pop PySem.F.type_list_pop mt_popAt (pv 2) (pa_cons (pv 6) pa_nil st_Name)))
      (pss_cons (ps_set (i := 7) sc_moves.nd rfl (Or.inl rfl) (pe_ifExp (pt_cmpR op_gt (pv 4) pe_int (nomark _)) (pe_op op_add (pe_bm PySem.F.plainAttrs_list PySem.F.slot_list_index PySem.F.type_list_index mt_lindex (pv 2) (pa_cons (pe_ix (ix_tupK (K := K) rfl) (pv 0) (pe_op op_sub (pv 4) pe_int) (fun _ _ => rfl)) pa_nil st_Subscript)) pe_int) pe_int))
      (pss_cons (ps_expr (pe_bm PySem.F.plainAttrs_list PySem.F.slot_list_insert PySem.F.type_list_insert mt_insert (pv 2) (pa_cons (pv 7) (pa_cons (pv 5) pa_nil st_Name) st_Name)))
      (pss_one (ps_expr (pe_bm PySem.F.plainAttrs_list PySem.F.slot_list_append PySem.F.type_list_append mt_append (pv 3) (pa_cons (pe_tup (pa_cons (pv 6) (pa_cons (pv 7) pa_nil st_Name) st_Name)) pa_nil st_Tuple)))))))) pss_nil)))
      (pss_one (ps_ret (pe_callTy (call_tupleK (K := K) rfl) (by rfl) T.tuple_ bTup (pa_cons (pv 3) pa_nil st_Name)))))))) , ?_⟩
    refine asg_ev (K := K) (ev_ixT (n := 0) (ev_callT hT (eva_cons (ev_var rfl h1) eva_nil) ⟨turn, rfl, l1, rfl⟩) ev_int rfl rfl) sg fun v2 G2 H2 g2 hv2 => ?_
    have hmv : ∀ i, i ≤ turn.length → MvOk turn (keptL (rkS turn turn.length).1 (rkS turn turn.length).2) i (mvL turn (keptL (rkS turn turn.length).1 (rkS turn turn.length).2) i) := mv_all R Kp tn
    have hkl : (keptL (rkS turn turn.length).1 (rkS turn turn.length).2).length ≤ 60 := by rw [Kp.len]; have := R.kle; omega
    have hfin : movesL turn = (mvL turn (keptL (rkS turn turn.length).1 (rkS turn turn.length).2) turn.length).2 := rfl
    rw [hfin] at k
    generalize keptL (rkS turn turn.length).1 (rkS turn turn.length).2 = kept at hv2 hmv hkl k
    clear hfin R Kp
    obtain ⟨a, xs, rfl, ha, hxs⟩ := h1.tup
    have ex := hxs.nats
    subst ex
    obtain ⟨b, ys, rfl, hb, hys⟩ := hv2.tup
    have ey := hys.nats
    subst ey
    have haH := g2.hh.tup (sg.tup ha)
    have hbH := g2.gh.tup hb
    refine ⟨_, rfl, a, _, rfl, .inr haH, (turn.length : Int), by rw [List.length_map], by omega, by rw [Int.toNat_natCast]; omega, fun t ht => ?_⟩
    rw [Int.toNat_natCast] at *
    have s3 := same_new (o := .lst ((List.range turn.length).map fun (i : Nat) => V.int i)) ht
    refine ⟨(by show 0 ≤ sizeLine; decide), fun q hq => ?_⟩
    have s4 := s3.trans (same_new (o := .lst []) hq)
    have ntq : t ≠ q := ne_of_none (H := upd H2 t (.lst ((List.range turn.length).map fun (i : Nat) => V.int i))) upd_same hq
    have hq2 : H2 q = none := s3.free hq
    refine ⟨_, rfl, a, rfl, ⟨_, s4.tup haH⟩, for_enT (xs := turn.map fun n => V.int (n : Nat)) (fun i σ H' => ∃ (v4 v5 v6 v7 : Option V) (G' : Hp) (zs : List V), σ = [some (.ref a), some (.ref b), some (.ref t), some (.ref q), v4, v5, v6, v7] ∧ Grow G2 H2 G' H' ∧ G' t = none ∧ G' q = none ∧ H' t = some (.lst (vN (mvL turn kept i).1)) ∧ H' q = some (.lst zs) ∧ Dats K G' zs ((mvL turn kept i).2.map dP))
      ⟨_, _, _, _, G2, [], rfl, grow_h g2.gh s4, g2.gh.free ht, g2.gh.free hq2, by rw [upd_ne ntq, upd_same]; rfl, upd_same, dats_nil⟩ ?_ ?_ ?_⟩
    · rintro i σ H' _ ⟨v4, v5, v6, v7, G', zs, rfl, g, _⟩
      exact g.hh.tup haH
    · rintro i x r σ H' hx ⟨v4, v5, v6, v7, G', zs, rfl, g, gt, gq, ht', hq', hzs⟩ hr'
      rw [List.getElem?_map] at hx
      have hi : i < turn.length := by
        cases e : turn[i]? with
        | none => rw [e] at hx; cases hx
        | some n => exact (List.getElem?_eq_some_iff.mp e).1
      have ex : x = V.int (vl turn i : Nat) := by
        rw [List.getElem?_eq_getElem hi] at hx
        unfold vl
        rw [List.getD_eq_getElem?_getD, List.getElem?_eq_getElem hi]
        exact (Option.some.inj hx).symm
      subst ex
      have O := hmv i (by omega)
      have eM : mvL turn kept (i + 1) = Mvs.stM turn kept (mvL turn kept i) i := rfl
      rw [eM]
      generalize mvL turn kept i = st at O ht' hzs
      show gTup _ _ _ _ _ _ _
      refine ⟨r, _, rfl, SqT.of upd_same, rfl, _, _, rfl, _, _, rfl, rfl, ?_⟩
      have sr := same_new (o := .tup [V.int (i : Nat), V.int (vl turn i : Nat)]) hr'
      have g1 := g.trans (grow_h g.gh sr)
      have ht1 := sr _ _ ht'
      have hq1 := sr _ _ hq'
      (try dsimp only)
      generalize upd H' r (.tup [V.int (i : Nat), V.int (vl turn i : Nat)]) = H1 at g1 ht1 hq1
      have hlen : st.1.length = turn.length := by rw [O.mi.perm.length_eq, List.length_range]
      have hzl : zs.length ≤ turn.length := by
        have := hzs.length
        rw [List.length_map] at this
        have := O.many
        omega
      refine ⟨_, rfl, _, rfl, b, _, rfl, .inr (g1.hh.tup hbH), rfl, flat_vN kept, _, rfl, ?_⟩
      rw [show inV (V.int (i : Nat)) (List.map (fun n => V.int (n : Nat)) kept) = decide (i ∈ kept) from inV_nat i kept]
      by_cases hk : i ∈ kept
      · rw [decide_eq_true hk]
        refine iteF ?_
        refine ⟨_, _, _, _, G', zs, rfl, g1, gt, gq, ?_, hq1, ?_⟩
        · unfold Mvs.stM; rw [if_pos hk]; exact ht1
        · unfold Mvs.stM; rw [if_pos hk]; exact hzs
      · rw [decide_eq_false hk]
        refine iteT ?_
        have hm := mem_now O.mi tn hi
        obtain ⟨A', B', eAB, hA, hne, hle, hpre, _⟩ := cut_in O.mi tn hi
        have hix := ix_lt hm
        -- start
        refine ⟨_, rfl, tyV_lst ht1, _, rfl, t, st.1, vl turn i, ix (vl turn i) st.1, rfl, rfl, ht1, ix_at hm, fun j hj => ix_first hj, ?_⟩
        -- pop
        refine ⟨_, rfl, tyV_lst ht1, _, rfl, t, vN st.1, _, ix (vl turn i) st.1, V.int (vl turn i : Nat), rfl, rfl, ht1, by omega, by omega, seqIndex_nat (by rw [vN_len]; exact hix), by rw [List.getElem?_map, ix_at hm]; rfl, ?_⟩
        rw [map_eraseN]
        have ht2 : upd H1 t (.lst (vN (st.1.eraseIdx (ix (vl turn i) st.1)))) t = some (.lst (vN (st.1.eraseIdx (ix (vl turn i) st.1)))) := upd_same
        have hq2' : upd H1 t (.lst (vN (st.1.eraseIdx (ix (vl turn i) st.1)))) q = some (.lst zs) := by rw [upd_ne (Ne.symm ntq)]; exact hq1
        have gm : Grow G2 H2 G' (upd H1 t (.lst (vN (st.1.eraseIdx (ix (vl turn i) st.1))))) := ⟨g1.gg, same_upd g1.gh gt, fun c u e => by rw [upd_ne (ne_of_none e ht)]; exact g1.hh c u e, g1.fr⟩
        have hel : endOf turn (st.1.eraseIdx (ix (vl turn i) st.1)) i ≤ (st.1.eraseIdx (ix (vl turn i) st.1)).length := by rw [← hA, eAB, List.length_append]; omega
        have hnl : (st.1.eraseIdx (ix (vl turn i) st.1)).length + 1 = turn.length := by rw [eAB]; exact hle
        have hmem : 0 < i → vl turn (i - 1) ∈ st.1.eraseIdx (ix (vl turn i) st.1) := fun h0 => by rw [eAB]; exact List.mem_append_left _ (hpre (i - 1) (by omega))
        have eSt : Mvs.stM turn kept st i = (ins (st.1.eraseIdx (ix (vl turn i) st.1)) (endOf turn (st.1.eraseIdx (ix (vl turn i) st.1)) i) (vl turn i), st.2 ++ [(ix (vl turn i) st.1, endOf turn (st.1.eraseIdx (ix (vl turn i) st.1)) i)]) := by unfold Mvs.stM; rw [if_neg hk]
        rw [eSt]
        (try dsimp only)
        generalize upd H1 t (.lst (vN (st.1.eraseIdx (ix (vl turn i) st.1)))) = H3 at ht2 hq2' gm
        have hT3 : Dat K H3 (.ref a) (dN turn) := dat_tup (gm.hh.tup haH) (dats_nats _)
        -- end
        have fin : ∀ (D : Ends) (e : Nat), e = endOf turn (st.1.eraseIdx (ix (vl turn i) st.1)) i → ∀ H4, Same H3 H4 → (∀ σ H', (∃ (v4 v5 v6 v7 : Option V) (G' : Hp) (zs : List V), σ = [some (.ref a), some (.ref b), some (.ref t), some (.ref q), v4, v5, v6, v7] ∧ Grow G2 H2 G' H' ∧ G' t = none ∧ G' q = none ∧ H' t = some (.lst (vN (ins (st.1.eraseIdx (ix (vl turn i) st.1)) (endOf turn (st.1.eraseIdx (ix (vl turn i) st.1)) i) (vl turn i)))) ∧ H' q = some (.lst zs) ∧ Dats K G' zs ((st.2 ++ [(ix (vl turn i) st.1, endOf turn (st.1.eraseIdx (ix (vl turn i) st.1)) i)]).map dP)) → D.nx σ H') → tSeq (tDrop (tBM K "list" rInsert (tVar 2) (tCons (tVar 7) (tCons (tVar 5) tNil)))) (tDrop (tBM K "list" rAppend (tVar 3) (tCons (tTup (tCons (tVar 6) (tCons (tVar 7) tNil))) tNil)))
            D
            [some (.ref a), some (.ref b), some (.ref t), some (.ref q), some (V.int (i : Nat)), some (V.int (vl turn i : Nat)), some (V.int (ix (vl turn i) st.1 : Nat)), some (V.int (e : Nat))] H4 := fun D e he H4 s5 hD => by
          subst he
          have ht4 := s5 _ _ ht2
          have hq4 := s5 _ _ hq2'
          refine ⟨_, rfl, tyV_lst ht4, _, rfl, _, rfl, t, _, _, _, rfl, rfl, ht4, by omega, by rw [vN_len]; omega, by rw [vN_len]; omega, ?_⟩
          have hq5 : ∀ o, upd H4 t o q = some (.lst zs) := fun o => by rw [upd_ne (Ne.symm ntq)]; exact hq4
          refine ⟨_, rfl, tyV_lst (hq5 _), _, rfl, _, rfl, (by show 2 ≤ sizeLine; decide), fun u hu' => ?_⟩
          have gm5 : Grow G2 H2 G' (upd H4 t (.lst (List.take ((endOf turn (st.1.eraseIdx (ix (vl turn i) st.1)) i : Nat) : Int).toNat (vN (st.1.eraseIdx (ix (vl turn i) st.1))) ++ V.int (vl turn i : Nat) :: List.drop ((endOf turn (st.1.eraseIdx (ix (vl turn i) st.1)) i : Nat) : Int).toNat (vN (st.1.eraseIdx (ix (vl turn i) st.1)))))) :=
            ⟨gm.gg, same_upd (gm.gh.trans s5) gt, fun c u e => by rw [upd_ne (ne_of_none e ht)]; exact s5 c u (gm.hh c u e), gm.fr⟩
          have gu := grow_new (o := .tup [V.int (ix (vl turn i) st.1 : Nat), V.int (endOf turn (st.1.eraseIdx (ix (vl turn i) st.1)) i : Nat)]) gm5.gh hu'
          have nqu : q ≠ u := ne_of_none (hq5 _) hu'
          have ntu : t ≠ u := ne_of_none (H := upd H4 t _) upd_same hu'
          refine ⟨q, zs, _, rfl, rfl, by rw [upd_ne nqu]; exact hq5 _, by omega, ?_⟩
          have gtu := gu.out (p := t) upd_same gt
          have gqu := gu.out (p := q) (hq5 _) gq
          refine hD _ _ ⟨_, _, _, _, _, _, rfl, ⟨gm5.gg.trans gu.gg, same_upd gu.gh gqu, fun c u' e => by rw [upd_ne (ne_of_none e hq2)]; exact gu.hh c u' (gm5.hh c u' e), (gm5.trans gu).fr⟩, gtu, gqu, ?_, upd_same, dats_snocP (hzs.same gu.gg) (dat_tup (SqT.of upd_same) (dats_cons (dat_int _) (dats_cons (dat_int _) dats_nil)))⟩
          rw [upd_ne ntq, upd_ne ntu, upd_same, Int.toNat_natCast]
          unfold ins
          have e1 : ∀ (l : List Nat) (e : Nat), vN (l.take e) = (vN l).take e := fun l e => List.map_take ..
          have e2 : ∀ (x : Nat) (l : List Nat) (e : Nat), vN (x :: l.drop e) = V.int (x : Nat) :: (vN l).drop e := fun x l e => by rw [← List.map_drop]; rfl
          rw [vN_app, e1, e2]
        refine (evt_test (K := K) (G := H3) (ev_i0 (ev_var rfl (dat_int (i : Nat))) ev_int (dat_bl _))).use (Same.refl _) fun G4 H4 g4 => ?_
        have ht4 := g4.hh _ _ ht2
        by_cases h0 : 0 < i
        · rw [show decide ((0 : Int) < (i : Nat)) = true from decide_eq_true (by omega)]
          refine iteT ?_
          refine ⟨_, rfl, tyV_lst ht4, ?_⟩
          refine (ev_at (K := K) (i := i - 1) (ev_var rfl (hT3.same g4.hh)) (ev_d (ev_i0 (ev_var rfl (dat_int (i : Nat))) ev_int (dat_int _)) (by congr 1; omega)) (by omega)).use (Same.refl _) fun v G5 H5 g5 hv5 => ?_
          rw [hv5.int]
          have ht5 := g5.hh _ _ ht4
          refine ⟨t, _, vl turn (i - 1), ix (vl turn (i - 1)) (st.1.eraseIdx (ix (vl turn i) st.1)), rfl, rfl, ht5, ix_at (hmem h0), fun j hj => ix_first hj, _, _, rfl, rfl, ?_⟩
          exact fin _ (ix (vl turn (i - 1)) (st.1.eraseIdx (ix (vl turn i) st.1)) + 1) (by unfold endOf; rw [if_pos h0]) H5 (g4.hh.trans g5.hh) fun σ H' z => z
        · rw [show decide ((0 : Int) < (i : Nat)) = false from decide_eq_false (by omega)]
          refine iteF ?_
          exact fin _ 0 (by unfold endOf; rw [if_neg h0]) H4 g4.hh fun σ H' z => z
    · rintro σ H' ⟨v4, v5, v6, v7, G', zs, rfl, g, gt, gq, ht', hq', hzs⟩
      rw [List.length_map] at hzs
      refine ⟨_, rfl, q, _, rfl, .inl ⟨SqL.of hq', fun l hl => ?_⟩⟩
      have g3 := grow_new (o := .tup zs) g.gh hl
      exact k _ _ _ ((g2.trans g).trans g3) (dat_tup (SqT.of upd_same) (hzs.same g3.gg))
end
end K62

set_option maxHeartbeats 4000000
namespace K62
open PySem L2 Lw Mv Mvs Trn
theorem cut_ints (ns : List Int) (j : Option Int) : ∃ ms : List Int, cutV (ns.map V.int) none j = ms.map V.int ∧ ms.length ≤ ns.length := by
  unfold cutV
  refine ⟨(ns.drop _).take _, by rw [List.map_take, List.map_drop], ?_⟩
  rw [List.length_take, List.length_drop]; omega
section
variable {P : Program} {w : World} {K : PySem.W.Frag} {mg : Str → Option Value} {base : Heap}
theorem ev_trng {σ : St} {G : Hp} {t : TA} {j : Int} (h : EvA K t σ G [.int j]) (h0 : 0 ≤ j) (h1 : j.toNat ≤ 2 ^ 24) : Ev K (tTRng t) σ G (dN (List.range j.toNat)) :=
  fun G1 H s1 s2 Q k => h G1 H s1 s2 _ fun vs G2 H2 g2 hv => by
    obtain ⟨y, ys, rfl, hy, r⟩ := hv.cons
    rw [r.nil, hy.int]
    refine ⟨j, rfl, h0, h1, fun l hl => ?_⟩
    have e : ((List.range j.toNat).map fun (i : Nat) => V.int (0 + i)) = vN (List.range j.toNat) := List.map_congr_left fun i _ => by congr 1; omega
    rw [e]
    have g := grow_new (o := .tup (vN (List.range j.toNat))) g2.gh hl
    exact k _ _ _ (g2.trans g) (dat_tup (SqT.of upd_same) (dats_nats _))
theorem ok_law {f : Addr} {fd : FuncData} (F : Fun K "law" "law" s_law f fd) (T : Top K mg) (M : Bs K mg base) : FnOk P w K mg base CX0 8 f fd ["script"] (spLawT K [(T.P_paper_of, fun _ _ => some lq_paper_of)]) := by
  have G__law_seed : FnOk P w K mg base CX0 7 T.f__law_seed T.fd__law_seed ["cell"] spSeed := (ok_seed T).mono (by decide)
  have G__law_many : FnOk P w K mg base CX0 7 T.f__law_many T.fd__law_many ["seed"] spMany := (ok_many T).mono (by decide)
  have G__law_turn : FnOk P w K mg base CX0 7 T.f__law_turn T.fd__law_turn ["seed", "many"] (spTurn K) := (ok_turn T).mono (by decide)
  have G_moves : FnOk P w K mg base CX0 7 T.f_moves T.fd_moves ["turn"] (spPT K T.P_paper_of crPO RMoves) := (ok_moves T M).mono (by decide)
  have G_moved : FnOk P w K mg base CX0 7 T.f_moved T.fd_moved ["row", "pairs"] (spP K RMoved) := (ok_moved T).mono (by decide)
  have G__law_leads : FnOk P w K mg base CX0 7 T.f__law_leads T.fd__law_leads ["turn", "found"] (spP K RLeads) := (ok_leads T).mono (by decide)
  have G__law_longest : FnOk P w K mg base CX0 7 T.f__law_longest T.fd__law_longest ["turn"] (spP K RLong) := (ok_long T).mono (by decide)
  refine F.ok sc_law (fun vs H Q E h => ?_) (fun cdv A outer s H vs Q E hr h => ?_)
  · obtain ⟨a, ns, rfl, _⟩ := h
    rfl
  · obtain ⟨a, ns, rfl, hS, hlen, hTs, fin⟩ := h
    have hT0 : H T.P_paper_of = some (.tbl crPO) := hTs _ List.mem_cons_self
    have hu := hr.units
    have zl : (1000 : Nat) < sizeLine := by decide
    refine ⟨_, (pss_cons (ps_for PassesOwn.never rfl (pi_list (pe_op op_cat (pe_slice (sl_listK (K := K) rfl) (pv 0) po_none (po_some pe_int)) (pe_lst (pa_cons (pe_callB (call_lenK (K := K) rfl) (by rfl) T.len_ PySem.boot_len (pa_cons (pv 0) pa_nil st_Name)) pa_nil st_Call)))) (pg_name (i := 1) sc_law.nd rfl (Or.inl rfl)) (pss_cons (ps_set (i := 2) sc_law.nd rfl (Or.inl rfl) (pe_call G__law_seed hr (by rfl) T.m__law_seed T.F__law_seed.kp T.b__law_seed .nil pass0 (pa_cons (pv 1) pa_nil st_Name)))
      (pss_cons (ps_set (i := 3) sc_law.nd rfl (Or.inl rfl) (pe_call G__law_turn hr (by rfl) T.m__law_turn T.F__law_turn.kp T.b__law_turn .nil pass0 (pa_cons (pv 2) (pa_cons (pe_call G__law_many hr (by rfl) T.m__law_many T.F__law_many.kp T.b__law_many .nil pass0 (pa_cons (pv 2) pa_nil st_Name)) pa_nil st_Call) st_Name)))
      (pss_cons (ps_set (i := 4) sc_law.nd rfl (Or.inl rfl) (pe_call G_moves hr (by rfl) T.m_moves T.F_moves.kp T.b_moves .nil pass0 (pa_cons (pv 3) pa_nil st_Name)))
      (pss_cons (ps_if ((pw_or (pt_not (pt_val (pe_callB (call_isD (K := K) rfl) (by rfl) T.isinstance_ bIsi (pa_cons (pv 4) (pa_cons (pe_bltn (v := .ty "tuple") (by rfl) T.tuple_ bTup rfl) pa_nil))))) (pw_or (pt_not (pt_val (pe_call G__law_leads hr (by rfl) T.m__law_leads T.F__law_leads.kp T.b__law_leads .nil pass0 (pa_cons (pv 3) (pa_cons (pv 4) pa_nil st_Name) st_Name)))) (pw_or1 (pt_not (pt_val (pe_call G__law_leads hr (by rfl) T.m__law_leads T.F__law_leads.kp T.b__law_leads .nil pass0 (pa_cons (pv 3) (pa_cons (pe_call G_moves hr (by rfl) T.m_moves T.F_moves.kp T.b_moves .nil pass0 (pa_cons (pv 3) pa_nil st_Name)) pa_nil st_Call) st_Name)))))))).pt (pss_one (ps_ret pe_bl)) pss_nil)
      (pss_one (ps_if ((pw_or (pt_cmpR op_ne (pe_callB (call_lenK (K := K) rfl) (by rfl) T.len_ PySem.boot_len (pa_cons (pv 4) pa_nil st_Name)) (pe_op op_sub (pe_callB (call_lenK (K := K) rfl) (by rfl) T.len_ PySem.boot_len (pa_cons (pv 3) pa_nil st_Name)) (pe_call G__law_longest hr (by rfl) T.m__law_longest T.F__law_longest.kp T.b__law_longest .nil pass0 (pa_cons (pv 3) pa_nil st_Name))) (nomark _)) (pw_or1 (pt_cmpR (op_neDK (K := K) rfl hu) (pe_call G_moved hr (by rfl) T.m_moved T.F_moved.kp T.b_moved .nil pass0 (pa_cons (pe_trange rfl (by rfl) T.tuple_ bTup (by rfl) T.range_ (pa_cons (pe_callB (call_lenK (K := K) rfl) (by rfl) T.len_ PySem.boot_len (pa_cons (pv 3) pa_nil st_Name)) pa_nil st_Call)) (pa_cons (pv 4) pa_nil st_Name) st_Call)) (pv 3) (nomark _))))).pt (pss_one (ps_ret pe_bl)) pss_nil)))))))
      (pss_one (ps_ret pe_bl))) , ?_⟩
    refine ⟨_, rfl, 12, rfl, a, _, rfl, hS, fun p hp => ?_⟩
    have s1 := same_new (o := .lst (cutV (ns.map V.int) none (some 12))) hp
    refine ⟨_, rfl, a, _, rfl, .inl (s1.seq hS), (by show 1 ≤ sizeLine; decide), fun q hq => ?_⟩
    have npq : p ≠ q := ne_of_none (H := upd H p (.lst (cutV (ns.map V.int) none (some 12)))) upd_same hq
    obtain ⟨ms, hms, hml⟩ := cut_ints ns (some 12)
    have s2 := s1.trans (same_new (o := .lst [V.int ((ns.map V.int).length : Nat)]) hq)
    refine ⟨p, q, _, _, rfl, rfl, (by rw [upd_ne npq, upd_same]), upd_same, ?_, fun c hc => ?_⟩
    · rw [hms, List.length_map]
      show ms.length + 1 ≤ sizeLine
      omega
    obtain ⟨cs, hcs⟩ : ∃ cs : List Int, cutV (ns.map V.int) none (some 12) ++ [V.int ((ns.map V.int).length : Nat)] = cs.map V.int := ⟨ms ++ [((ns.map V.int).length : Int)], by rw [hms, List.map_append]; rfl⟩
    refine ⟨c, rfl, ⟨_, SqL.of upd_same⟩, ?_⟩
    rw [hcs]
    have hT1 := (s2.trans (same_new (o := .lst (cs.map V.int)) hc)) _ _ hT0
    refine for_list (xs := cs.map V.int) (fun i σ H' => ∃ v1 v2 v3 v4 : Option V, σ = [some (.ref a), v1, v2, v3, v4] ∧ H' c = some (.lst (cs.map V.int)) ∧ H' T.P_paper_of = some (.tbl crPO)) ⟨_, _, _, _, rfl, upd_same, hT1⟩ ?_ ?_ ?_
    · rintro i σ H' _ ⟨v1, v2, v3, v4, rfl, h, _⟩
      exact SqL.of h
    · rintro i x σ H0 hx ⟨v1, v2, v3, v4, rfl, hc0, hP0⟩
      rw [List.getElem?_map] at hx
      obtain ⟨cell, rfl⟩ : ∃ cell : Int, x = .int cell := by
        cases e : cs[i]? with
        | none => rw [e] at hx; cases hx
        | some z => rw [e] at hx; cases hx; exact ⟨z, rfl⟩
      clear hx
      refine ⟨_, rfl, cell, rfl, fun d H1 hd0 S1 sH1 => ?_⟩
      have hcd : c ≠ d := ne_of_none hc0 hd0
      have hPd : T.P_paper_of ≠ d := ne_of_none hP0 hd0
      have hc1 := sH1 _ _ hc0
      have hP1 := sH1 _ _ hP0
      refine ⟨_, rfl, _, rfl, d, 0, rfl, S1, by decide, fun m H2 m0 m1 S2 B2 => ?_⟩
      refine ⟨d, m, _, rfl, S2, by decide, m0, m1, fun tn pt H3 tt hpt0 hpt S3 B3 => ?_⟩
      have hc3 := B3 _ _ (B2 _ _ hc1 hcd) hcd
      have hP3 := B3 _ _ (B2 _ _ hP1 hPd) hPd
      have tl : tn.length = m.toNat := tt.len
      have tt' : Tn tn.length tn := by rw [tl]; exact tt
      have ht3 : Dat K H3 (.ref pt) (dN tn) := dat_tup (SqT.of hpt) (dats_nats _)
      obtain ⟨mv1', mv2', mv3'⟩ := moves_ok tt'
      have RM : RMoves [dN tn] (.tuple ((movesL tn).map dP)) := ⟨tn, rfl, tt', by omega, rfl⟩
      have RL : RLeads [dN tn, .tuple ((movesL tn).map dP)] (.bool true) := ⟨tn, _, rfl, by omega, by omega, mv1', mv2', rfl⟩
      have RG : RLong [dN tn] (.int ((rkS tn tn.length).2 : Nat)) := ⟨tn, rfl, by omega, rfl⟩
      have RD : RMoved [dN (List.range ((tn.map fun n => PyData.int (n : Nat)).length : Int).toNat), .tuple ((movesL tn).map dP)] (dN tn) := by
        refine ⟨(List.range tn.length).map fun n => PyData.int (n : Nat), movesL tn, by rw [List.length_map, Int.toNat_natCast], fun p hp => ?_, ?_, by omega, ?_⟩
        · rw [List.length_map, List.length_range]; exact ⟨(mv1' p hp).1, (mv1' p hp).2.1⟩
        · rw [List.length_map, List.length_range]; omega
        · rw [mvs_map, mv2']
      generalize movesL tn = mvl at RM RL RD mv3'
      refine asg_ev (K := K) (G := H3) (ev_callT hP3 (eva_cons (ev_var rfl ht3) eva_nil) RM) (Same.refl _) fun v4' G4 H4 g4 hv4 => ?_
      have ht4 := ht3.same g4.gg
      have hP4 := g4.gg _ _ hP3
      refine if_no (evt_c (evt_or (evt_not (evt_b (K := K) (ev_isD (ev_var rfl hv4) T.tt))) fun _ => evt_or (evt_not (evt_b (K := K) (ev_call (eva_cons (ev_var rfl ht4) (eva_cons (ev_var rfl hv4) eva_nil)) RL))) fun _ => evt_not (evt_b (K := K) (ev_call (eva_cons (ev_var rfl ht4) (eva_cons (ev_callT hP4 (eva_cons (ev_var rfl ht4) eva_nil) RM) eva_nil)) RL))) rfl) g4.gh fun G5 H5 g5 => ?_
      have g45 := g4.trans g5
      have ht5 := ht4.same g5.gg
      have hv5 := hv4.same g5.gg
      have plt : Pl 3 (dN tn) := pl_nats (n := 2) _
      refine if_no (evt_c (evt_or (evt_test (K := K) (ev_ne (ev_lenT (eva_cons (ev_var rfl hv5) eva_nil)) (ev_i0 (ev_lenT (eva_cons (ev_var rfl ht5) eva_nil)) (ev_call (eva_cons (ev_var rfl ht5) eva_nil) RG) (dat_int _)))) fun _ => evt_test (K := K) (ev_eqD (ev_call (eva_cons (ev_trng (eva_cons (ev_lenT (eva_cons (ev_var rfl ht5) eva_nil)) eva_nil) (by omega) (by rw [List.length_map, Int.toNat_natCast]; omega)) (eva_cons (ev_var rfl hv5) eva_nil)) RD) (ev_var rfl ht5) plt plt (by decide))) ?_) g5.gh fun G6 H6 g6 => ?_
      · rw [PySem.Spec.same_self, List.length_map, List.length_map, decide_eq_true (by omega)]; rfl
      have g46 := g45.trans g6
      exact ⟨_, _, _, _, rfl, g46.hh _ _ hc3, g46.hh _ _ hP3⟩
    · rintro σ H1 ⟨v1, v2, v3, v4, rfl, h, _⟩
      exact fin H1
end
end K62

set_option maxHeartbeats 4000000
namespace K62
open PySem L2 Lw Mv Mvs Trn
/-! ### what the top has written, and the head -/
abbrev tabs : Tabs := [(37, fun _ _ => some lq_paper_of)]
theorem all_mk {l : PySem.W.OpenLaw} {w : World} {K : PySem.W.Frag} {h : Heap} {mg : Str → Option Value} {fa : Addr} {f_many_ahead f_moves f_moved f_paper_of f__law_seed f__law_draw f__law_turn f__law_many f__law_longest f__law_whole f__law_leads f_law : Addr} (X : K.In h) (G : h.Ns mainGlobals mg) (hfa : mg "law" = some (.ref fa))
    {od_many_ahead an_many_ahead od_moves an_moves od_moved an_moved od_paper_of an_paper_of od__law_seed an__law_seed od__law_draw an__law_draw od__law_turn an__law_turn od__law_many an__law_many od__law_longest an__law_longest od__law_whole an__law_whole od__law_leads an__law_leads od_law an_law : Option Addr} {sl_many_ahead sl_moves sl_moved sl_paper_of sl__law_seed sl__law_draw sl__law_turn sl__law_many sl__law_longest sl__law_whole sl__law_leads sl_law : Array (Option Value)} {oc_many_ahead kV_many_ahead dc_many_ahead pm_many_ahead cd_many_ahead ct_many_ahead oc_moves kV_moves dc_moves pm_moves cd_moves ct_moves oc_moved kV_moved dc_moved pm_moved cd_moved ct_moved oc_paper_of kV_paper_of dc_paper_of pm_paper_of cd_paper_of ct_paper_of oc__law_seed kV__law_seed dc__law_seed pm__law_seed cd__law_seed ct__law_seed oc__law_draw kV__law_draw dc__law_draw pm__law_draw cd__law_draw ct__law_draw oc__law_turn kV__law_turn dc__law_turn pm__law_turn cd__law_turn ct__law_turn oc__law_many kV__law_many dc__law_many pm__law_many cd__law_many ct__law_many oc__law_longest kV__law_longest dc__law_longest pm__law_longest cd__law_longest ct__law_longest oc__law_whole kV__law_whole dc__law_whole pm__law_whole cd__law_whole ct__law_whole oc__law_leads kV__law_leads dc__law_leads pm__law_leads cd__law_leads ct__law_leads oc_law kV_law dc_law pm_law cd_law ct_law : Value}
    (a_many_ahead : PySem.W.nsIn K mainGlobals "many_ahead" = some (some (.ref f_many_ahead))) (l_many_ahead : K.lookup f_many_ahead = some ⟨oc_many_ahead, od_many_ahead, .func (PySem.W.fnOf "many_ahead" "many_ahead" (defArgs s_many_ahead) (defBody s_many_ahead) (defScope s_many_ahead) .none kV_many_ahead dc_many_ahead pm_many_ahead an_many_ahead cd_many_ahead ct_many_ahead), sl_many_ahead⟩) (c_many_ahead : PySem.W.codeIn K cd_many_ahead "many_ahead" = true) (k_many_ahead : PySem.W.keepIn K (.ref f_many_ahead) = true)
    (a_moves : PySem.W.nsIn K mainGlobals "moves" = some (some (.ref f_moves))) (l_moves : K.lookup f_moves = some ⟨oc_moves, od_moves, .func (PySem.W.fnOf "moves" "moves" (defArgs s_moves) (defBody s_moves) (defScope s_moves) .none kV_moves dc_moves pm_moves an_moves cd_moves ct_moves), sl_moves⟩) (c_moves : PySem.W.codeIn K cd_moves "moves" = true) (k_moves : PySem.W.keepIn K (.ref f_moves) = true)
    (a_moved : PySem.W.nsIn K mainGlobals "moved" = some (some (.ref f_moved))) (l_moved : K.lookup f_moved = some ⟨oc_moved, od_moved, .func (PySem.W.fnOf "moved" "moved" (defArgs s_moved) (defBody s_moved) (defScope s_moved) .none kV_moved dc_moved pm_moved an_moved cd_moved ct_moved), sl_moved⟩) (c_moved : PySem.W.codeIn K cd_moved "moved" = true) (k_moved : PySem.W.keepIn K (.ref f_moved) = true)
    (a_paper_of : PySem.W.nsIn K mainGlobals "paper_of" = some (some (.ref f_paper_of))) (l_paper_of : K.lookup f_paper_of = some ⟨oc_paper_of, od_paper_of, .func (PySem.W.fnOf "paper_of" "paper_of" (defArgs s_paper_of) (defBody s_paper_of) (defScope s_paper_of) .none kV_paper_of dc_paper_of pm_paper_of an_paper_of cd_paper_of ct_paper_of), sl_paper_of⟩) (c_paper_of : PySem.W.codeIn K cd_paper_of "paper_of" = true) (k_paper_of : PySem.W.keepIn K (.ref f_paper_of) = true)
    (a__law_seed : PySem.W.nsIn K mainGlobals "_law_seed" = some (some (.ref f__law_seed))) (l__law_seed : K.lookup f__law_seed = some ⟨oc__law_seed, od__law_seed, .func (PySem.W.fnOf "_law_seed" "_law_seed" (defArgs s__law_seed) (defBody s__law_seed) (defScope s__law_seed) .none kV__law_seed dc__law_seed pm__law_seed an__law_seed cd__law_seed ct__law_seed), sl__law_seed⟩) (c__law_seed : PySem.W.codeIn K cd__law_seed "_law_seed" = true) (k__law_seed : PySem.W.keepIn K (.ref f__law_seed) = true)
    (a__law_draw : PySem.W.nsIn K mainGlobals "_law_draw" = some (some (.ref f__law_draw))) (l__law_draw : K.lookup f__law_draw = some ⟨oc__law_draw, od__law_draw, .func (PySem.W.fnOf "_law_draw" "_law_draw" (defArgs s__law_draw) (defBody s__law_draw) (defScope s__law_draw) .none kV__law_draw dc__law_draw pm__law_draw an__law_draw cd__law_draw ct__law_draw), sl__law_draw⟩) (c__law_draw : PySem.W.codeIn K cd__law_draw "_law_draw" = true) (k__law_draw : PySem.W.keepIn K (.ref f__law_draw) = true)
    (a__law_turn : PySem.W.nsIn K mainGlobals "_law_turn" = some (some (.ref f__law_turn))) (l__law_turn : K.lookup f__law_turn = some ⟨oc__law_turn, od__law_turn, .func (PySem.W.fnOf "_law_turn" "_law_turn" (defArgs s__law_turn) (defBody s__law_turn) (defScope s__law_turn) .none kV__law_turn dc__law_turn pm__law_turn an__law_turn cd__law_turn ct__law_turn), sl__law_turn⟩) (c__law_turn : PySem.W.codeIn K cd__law_turn "_law_turn" = true) (k__law_turn : PySem.W.keepIn K (.ref f__law_turn) = true)
    (a__law_many : PySem.W.nsIn K mainGlobals "_law_many" = some (some (.ref f__law_many))) (l__law_many : K.lookup f__law_many = some ⟨oc__law_many, od__law_many, .func (PySem.W.fnOf "_law_many" "_law_many" (defArgs s__law_many) (defBody s__law_many) (defScope s__law_many) .none kV__law_many dc__law_many pm__law_many an__law_many cd__law_many ct__law_many), sl__law_many⟩) (c__law_many : PySem.W.codeIn K cd__law_many "_law_many" = true) (k__law_many : PySem.W.keepIn K (.ref f__law_many) = true)
    (a__law_longest : PySem.W.nsIn K mainGlobals "_law_longest" = some (some (.ref f__law_longest))) (l__law_longest : K.lookup f__law_longest = some ⟨oc__law_longest, od__law_longest, .func (PySem.W.fnOf "_law_longest" "_law_longest" (defArgs s__law_longest) (defBody s__law_longest) (defScope s__law_longest) .none kV__law_longest dc__law_longest pm__law_longest an__law_longest cd__law_longest ct__law_longest), sl__law_longest⟩) (c__law_longest : PySem.W.codeIn K cd__law_longest "_law_longest" = true) (k__law_longest : PySem.W.keepIn K (.ref f__law_longest) = true)
    (a__law_whole : PySem.W.nsIn K mainGlobals "_law_whole" = some (some (.ref f__law_whole))) (l__law_whole : K.lookup f__law_whole = some ⟨oc__law_whole, od__law_whole, .func (PySem.W.fnOf "_law_whole" "_law_whole" (defArgs s__law_whole) (defBody s__law_whole) (defScope s__law_whole) .none kV__law_whole dc__law_whole pm__law_whole an__law_whole cd__law_whole ct__law_whole), sl__law_whole⟩) (c__law_whole : PySem.W.codeIn K cd__law_whole "_law_whole" = true) (k__law_whole : PySem.W.keepIn K (.ref f__law_whole) = true)
    (a__law_leads : PySem.W.nsIn K mainGlobals "_law_leads" = some (some (.ref f__law_leads))) (l__law_leads : K.lookup f__law_leads = some ⟨oc__law_leads, od__law_leads, .func (PySem.W.fnOf "_law_leads" "_law_leads" (defArgs s__law_leads) (defBody s__law_leads) (defScope s__law_leads) .none kV__law_leads dc__law_leads pm__law_leads an__law_leads cd__law_leads ct__law_leads), sl__law_leads⟩) (c__law_leads : PySem.W.codeIn K cd__law_leads "_law_leads" = true) (k__law_leads : PySem.W.keepIn K (.ref f__law_leads) = true)
    (a_law : PySem.W.nsIn K mainGlobals "law" = some (some (.ref f_law))) (l_law : K.lookup f_law = some ⟨oc_law, od_law, .func (PySem.W.fnOf "law" "law" (defArgs s_law) (defBody s_law) (defScope s_law) .none kV_law dc_law pm_law an_law cd_law ct_law), sl_law⟩) (c_law : PySem.W.codeIn K cd_law "law" = true) (k_law : PySem.W.keepIn K (.ref f_law) = true)
    (q_paper_of : cd_paper_of = .ref 39) (h_paper_of : PySem.W.codeHdIn K 39 37 = true) (n_paper_of : K.lookup 37 = none)
    (z_len : PySem.W.nsIn K mainGlobals "len" = some none)
    (z_range : PySem.W.nsIn K mainGlobals "range" = some none)
    (z_tuple : PySem.W.nsIn K mainGlobals "tuple" = some none)
    (z_isinstance : PySem.W.nsIn K mainGlobals "isinstance" = some none)
    (z_list : PySem.W.nsIn K mainGlobals "list" = some none)
    (z_int : PySem.W.nsIn K mainGlobals "int" = some none)
    (z_max : PySem.W.nsIn K mainGlobals "max" = some none)
    (z_enumerate : PySem.W.nsIn K mainGlobals "enumerate" = some none)
    (z_bool : PySem.W.nsIn K mainGlobals "bool" = some none)
    (tt : PySem.W.kitOne K (.type "tuple") (.type "tuple") = some true)
    (ii : PySem.W.kitOne K (.type "int") (.type "int") = some true)
    (ib : PySem.W.kitOne K (.type "int") (.type "bool") = some false) :
    ∃ fd : FuncData, (∀ (s : Shared) (v : Value), BindsTo s fd ⟨[v], []⟩ [("script", v)]) ∧ ((∀ p ∈ tabs, K.lookup p.1 = none) ∧ (∀ p ∈ tabs, isCodeTable h p.1) ∧ (tabs.map (·.1)).Nodup) ∧ ∀ base : Heap, K.In base → base.Ns mainGlobals mg → Bs K mg base → FnOk l.prog w K mg base CX0 8 fa fd ["script"] (spLawT K tabs) := by
  have e := hfa.symm.trans (PySem.W.mg_of X G a_law)
  cases e
  exact ⟨PySem.W.fnOf "law" "law" (defArgs s_law) (defBody s_law) (defScope s_law) .none kV_law dc_law pm_law an_law cd_law ct_law, fun s v => .of_eq rfl, ⟨(List.forall_mem_cons.mpr ⟨n_paper_of, (fun _ h => nomatch h)⟩), (List.forall_mem_cons.mpr ⟨isTab_of X h_paper_of, (fun _ h => nomatch h)⟩), by decide⟩, fun base _ _ M => ok_law (fun_mk (st := s_law) l_law c_law k_law)
    ⟨f_many_ahead, _, (fun_mk (st := s_many_ahead) l_many_ahead c_many_ahead k_many_ahead), (fun_mk (st := s_many_ahead) l_many_ahead c_many_ahead k_many_ahead).binds (ps := ["places", "lies_ahead"]) fun _ _ _ _ _ _ us hl => match us, hl with | [_, _], _ => rfl, PySem.W.mg_of X G a_many_ahead,
      f_moves, _, (fun_mk (st := s_moves) l_moves c_moves k_moves), (fun_mk (st := s_moves) l_moves c_moves k_moves).binds (ps := ["turn"]) fun _ _ _ _ _ _ us hl => match us, hl with | [_], _ => rfl, PySem.W.mg_of X G a_moves,
      f_moved, _, (fun_mk (st := s_moved) l_moved c_moved k_moved), (fun_mk (st := s_moved) l_moved c_moved k_moved).binds (ps := ["row", "pairs"]) fun _ _ _ _ _ _ us hl => match us, hl with | [_, _], _ => rfl, PySem.W.mg_of X G a_moved,
      f_paper_of, _, (fun_mk (st := s_paper_of) l_paper_of c_paper_of k_paper_of), (fun_mk (st := s_paper_of) l_paper_of c_paper_of k_paper_of).binds (ps := ["turn"]) fun _ _ _ _ _ _ us hl => match us, hl with | [_], _ => rfl, PySem.W.mg_of X G a_paper_of,
      f__law_seed, _, (fun_mk (st := s__law_seed) l__law_seed c__law_seed k__law_seed), (fun_mk (st := s__law_seed) l__law_seed c__law_seed k__law_seed).binds (ps := ["cell"]) fun _ _ _ _ _ _ us hl => match us, hl with | [_], _ => rfl, PySem.W.mg_of X G a__law_seed,
      f__law_draw, _, (fun_mk (st := s__law_draw) l__law_draw c__law_draw k__law_draw), (fun_mk (st := s__law_draw) l__law_draw c__law_draw k__law_draw).binds (ps := ["seed", "most"]) fun _ _ _ _ _ _ us hl => match us, hl with | [_, _], _ => rfl, PySem.W.mg_of X G a__law_draw,
      f__law_turn, _, (fun_mk (st := s__law_turn) l__law_turn c__law_turn k__law_turn), (fun_mk (st := s__law_turn) l__law_turn c__law_turn k__law_turn).binds (ps := ["seed", "many"]) fun _ _ _ _ _ _ us hl => match us, hl with | [_, _], _ => rfl, PySem.W.mg_of X G a__law_turn,
      f__law_many, _, (fun_mk (st := s__law_many) l__law_many c__law_many k__law_many), (fun_mk (st := s__law_many) l__law_many c__law_many k__law_many).binds (ps := ["seed"]) fun _ _ _ _ _ _ us hl => match us, hl with | [_], _ => rfl, PySem.W.mg_of X G a__law_many,
      f__law_longest, _, (fun_mk (st := s__law_longest) l__law_longest c__law_longest k__law_longest), (fun_mk (st := s__law_longest) l__law_longest c__law_longest k__law_longest).binds (ps := ["turn"]) fun _ _ _ _ _ _ us hl => match us, hl with | [_], _ => rfl, PySem.W.mg_of X G a__law_longest,
      f__law_whole, _, (fun_mk (st := s__law_whole) l__law_whole c__law_whole k__law_whole), (fun_mk (st := s__law_whole) l__law_whole c__law_whole k__law_whole).binds (ps := ["number", "most"]) fun _ _ _ _ _ _ us hl => match us, hl with | [_, _], _ => rfl, PySem.W.mg_of X G a__law_whole,
      f__law_leads, _, (fun_mk (st := s__law_leads) l__law_leads c__law_leads k__law_leads), (fun_mk (st := s__law_leads) l__law_leads c__law_leads k__law_leads).binds (ps := ["turn", "found"]) fun _ _ _ _ _ _ us hl => match us, hl with | [_, _], _ => rfl, PySem.W.mg_of X G a__law_leads,
      39, 37, q_paper_of, h_paper_of,
      PySem.W.mg_none_of X G z_len,
      PySem.W.mg_none_of X G z_range,
      PySem.W.mg_none_of X G z_tuple,
      PySem.W.mg_none_of X G z_isinstance,
      PySem.W.mg_none_of X G z_list,
      PySem.W.mg_none_of X G z_int,
      PySem.W.mg_none_of X G z_max,
      PySem.W.mg_none_of X G z_enumerate,
      PySem.W.mg_none_of X G z_bool,
      tt,
      ii,
      ib⟩ M⟩
theorem walk {l : PySem.W.OpenLaw} {q : Program} {loose : List Str} {XP : (Str → Option Value) → Heap → Prop} {YP : World → Heap → Prop} {d : DefRec} {K : Params → PySem.W.Frag} (hn : l.most = some 63) (hdf : d.params.defaults = [])
    (hY : ∀ (w : World) (h : Heap), YP w h → (K w.params).In h ∧ ∀ p ∈ tabs, h.get? p.1 = some { cls := .none, data := .fields #[] })
    (F : ∀ (w : World) (mg : Str → Option Value) (fa : Addr) (h : Heap), (K w.params).In h → h.Ns mainGlobals mg → mg d.name = some (.ref fa) →
      ∃ fd : FuncData, (∀ (s : Shared) (u : Value), BindsTo s fd ⟨[u], []⟩ [("script", u)]) ∧ ((∀ p ∈ tabs, (K w.params).lookup p.1 = none) ∧ (∀ p ∈ tabs, isCodeTable h p.1) ∧ (tabs.map (·.1)).Nodup) ∧ ∀ base : Heap, (K w.params).In base → base.Ns mainGlobals mg → Bs (K w.params) mg base → FnOk l.prog w (K w.params) mg base CX0 8 fa fd ["script"] (spLawT (K w.params) tabs)) :
    PySem.W.WalkO q loose XP YP l.row.toRowW d [] (fun f vs => PySem.call f vs) :=
  L2.walk_ofT (n := 63) (k := 8) (x := "script") (sp := fun w => spLawT (K w.params) tabs) (fun _ => tabs) hn (by decide) hdf ⟨rfl, by decide, by decide⟩ hY F (fun _ _ a ns hl hT hS => ⟨a, ns, rfl, hS, hl, hT, fun _ => rfl⟩)
end K62
open PySem PySem.W PyProof.Rows
set_option maxRecDepth 100000 in
set_option maxHeartbeats 0 in
theorem PySem.Challenge.cw_ordertext_k62_moves_lead_holds : PySem.Challenge.rw_ordertext_k62_moves_lead.Holds := by
  w_on; o_law; k_head; (case hw => w_witness2)
  k_fill
  refine K62.walk (l := PySem.Challenge.rw_ordertext_k62_moves_lead) rfl rfl (fun w h Y => ⟨PySem.W.km_in_of Y, (List.forall_mem_cons.mpr ⟨PySem.W.km_tabs_of Y _ (by first | k_mem | simp), (fun _ h => nomatch h)⟩)⟩) ?F
  case F =>
    intro w mg fa h KX G hmg
    refine' K62.all_mk KX G hmg ?a_many_ahead ?l_many_ahead ?c_many_ahead ?k_many_ahead ?a_moves ?l_moves ?c_moves ?k_moves ?a_moved ?l_moved ?c_moved ?k_moved ?a_paper_of ?l_paper_of ?c_paper_of ?k_paper_of ?a__law_seed ?l__law_seed ?c__law_seed ?k__law_seed ?a__law_draw ?l__law_draw ?c__law_draw ?k__law_draw ?a__law_turn ?l__law_turn ?c__law_turn ?k__law_turn ?a__law_many ?l__law_many ?c__law_many ?k__law_many ?a__law_longest ?l__law_longest ?c__law_longest ?k__law_longest ?a__law_whole ?l__law_whole ?c__law_whole ?k__law_whole ?a__law_leads ?l__law_leads ?c__law_leads ?k__law_leads ?a_law ?l_law ?c_law ?k_law ?q_paper_of ?h_paper_of ?n_paper_of ?z_len ?z_range ?z_tuple ?z_isinstance ?z_list ?z_int ?z_max ?z_enumerate ?z_bool ?tt ?ii ?ib
    (case a_many_ahead => k_is)
    (case l_many_ahead => k_is)
    (case c_many_ahead => k_is)
    (case k_many_ahead => k_is)
    (case a_moves => k_is)
    (case l_moves => k_is)
    (case c_moves => k_is)
    (case k_moves => k_is)
    (case a_moved => k_is)
    (case l_moved => k_is)
    (case c_moved => k_is)
    (case k_moved => k_is)
    (case a_paper_of => k_is)
    (case l_paper_of => k_is)
    (case c_paper_of => k_is)
    (case k_paper_of => k_is)
    (case a__law_seed => k_is)
    (case l__law_seed => k_is)
    (case c__law_seed => k_is)
    (case k__law_seed => k_is)
    (case a__law_draw => k_is)
    (case l__law_draw => k_is)
    (case c__law_draw => k_is)
    (case k__law_draw => k_is)
    (case a__law_turn => k_is)
    (case l__law_turn => k_is)
    (case c__law_turn => k_is)
    (case k__law_turn => k_is)
    (case a__law_many => k_is)
    (case l__law_many => k_is)
    (case c__law_many => k_is)
    (case k__law_many => k_is)
    (case a__law_longest => k_is)
    (case l__law_longest => k_is)
    (case c__law_longest => k_is)
    (case k__law_longest => k_is)
    (case a__law_whole => k_is)
    (case l__law_whole => k_is)
    (case c__law_whole => k_is)
    (case k__law_whole => k_is)
    (case a__law_leads => k_is)
    (case l__law_leads => k_is)
    (case c__law_leads => k_is)
    (case k__law_leads => k_is)
    (case a_law => k_is)
    (case l_law => k_is)
    (case c_law => k_is)
    (case k_law => k_is)
    (case q_paper_of => first | rfl | kernel_rfl | k_is)
    (case h_paper_of => first | rfl | kernel_rfl | k_is)
    (case n_paper_of => first | rfl | kernel_rfl | k_is)
    (case z_len => k_is)
    (case z_range => k_is)
    (case z_tuple => k_is)
    (case z_isinstance => k_is)
    (case z_list => k_is)
    (case z_int => k_is)
    (case z_max => k_is)
    (case z_enumerate => k_is)
    (case z_bool => k_is)
    (case tt => first | kit_is | k_is | rfl)
    (case ii => first | kit_is | k_is | rfl)
    (case ib => first | kit_is | k_is | rfl)

