import PyProof.Rows.All
import Wide.All
import OpenK.AllK
import Wide.FinOn
import Lean
import PyProof.EqAt
import PyProof.EqKinds
import PyProof.TupleCall
import PySem.Challenge.RW_ordertext_k64_paper_of_fewest
set_option Elab.async false
set_option linter.all false
set_option maxRecDepth 100000
namespace L2
open PySem PySem.Spec PyProof.Rows
abbrev Key := Sum Int Str
def keyIs : Key → Value → Bool
 | .inl k, v => Value.isInt k v
 | .inr x, v => Value.isStrOf x v
def keyH (w : World) : Key → Int
 | .inl k => hashInt k
 | .inr x => hashStr w x
theorem keyIs_shape : ∀ {k : Key} {v : Value}, keyIs k v = true → (∃ i t, k = Sum.inl i ∧ v = Value.int i t) ∨ (∃ x t, k = Sum.inr x ∧ v = Value.str x t)
 | .inl i, v, h => by
  obtain ⟨t, e⟩ := Value.isInt_shape (k := i) (v := v) h
  exact .inl ⟨i, t, rfl, e⟩
 | .inr x, v, h => by
  obtain ⟨t, e⟩ := Value.isStrOf_shape (x := x) (v := v) h
  exact .inr ⟨x, t, rfl, e⟩
theorem keyIs_int (i : Int) (t : Tok) : keyIs (.inl i) (.int i t) = true := by simp [keyIs, Value.isInt]
theorem keyIs_str (x : Str) (t : Tok) : keyIs (.inr x) (.str x t) = true := by simp [keyIs, Value.isStrOf]
theorem key_ll (a b : Int) : decide ((Sum.inl a : Key) = Sum.inl b) = (a == b) := by
 by_cases e : a = b
 ·subst e; simp
 ·have h : ¬ (Sum.inl a : Key) = Sum.inl b := fun q => e (Sum.inl.inj q)
  rw [decide_eq_false h]
  exact (beq_eq_false_iff_ne.mpr e).symm
theorem key_rr (a b : Str) : decide ((Sum.inr a : Key) = Sum.inr b) = decide (a = b) := by
 by_cases e : a = b
 ·subst e; simp
 ·have h : ¬ (Sum.inr a : Key) = Sum.inr b := fun q => e (Sum.inr.inj q)
  rw [decide_eq_false h, decide_eq_false e]
theorem key_lr (a : Int) (b : Str) : decide ((Sum.inl a : Key) = Sum.inr b) = false := decide_eq_false (fun q => nomatch q)
theorem key_rl (a : Str) (b : Int) : decide ((Sum.inr a : Key) = Sum.inl b) = false := decide_eq_false (fun q => nomatch q)
def mixKind (prog : Program) (w : World) : PySem.KeyKind prog w Key where
 is := keyIs
 hash := keyH w
 inj := fun v a b ha hb => by
  rcases keyIs_shape ha with ⟨i, t, rfl, rfl⟩ | ⟨x, t, rfl, rfl⟩
  ·rcases keyIs_shape hb with ⟨j, u, rfl, e⟩ | ⟨y, u, rfl, e⟩
   ·injection e with e1 _; rw [e1]
   ·exact nomatch e
  ·rcases keyIs_shape hb with ⟨j, u, rfl, e⟩ | ⟨y, u, rfl, e⟩
   ·exact nomatch e
   ·injection e with e1 _; rw [e1]
 byValue := fun k v h => by
  rcases keyIs_shape h with ⟨i, t, rfl, rfl⟩ | ⟨x, t, rfl, rfl⟩ <;> rfl
 pyHash := fun hv h => by
  rcases keyIs_shape hv with ⟨i, t, rfl, rfl⟩ | ⟨x, t, rfl, rfl⟩
  ·exact wpAny_pyHash_int h
  ·exact wpAny_pyHash_str h
 eqBool := fun hu hv h => by
  rcases keyIs_shape hu with ⟨i, t, rfl, rfl⟩ | ⟨x, t, rfl, rfl⟩
  ·rcases keyIs_shape hv with ⟨j, u, rfl, rfl⟩ | ⟨y, u, rfl, rfl⟩
   ·rw [key_ll] at h; exact wpAny_eqBool_int h
   ·rw [key_lr] at h; exact SeqAt.EqAt.int_str i t y u _ _ _ _ h
  ·rcases keyIs_shape hv with ⟨j, u, rfl, rfl⟩ | ⟨y, u, rfl, rfl⟩
   ·rw [key_rl] at h; exact SeqAt.EqAt.str_int x t j u _ _ _ _ h
   ·rw [key_rr] at h; exact wpAny_eqBool_str h
 «strs» := fun k x t v h => by
  rcases keyIs_shape h with ⟨i, u, rfl, e⟩ | ⟨y, u, rfl, e⟩
  ·exact nomatch e
  ·injection e with e1 _
   subst e1
   cases v <;> rfl
theorem mixKind_int (prog : Program) (w : World) (i : Int) (t : Tok) : (mixKind prog w).is (.inl i) (.int i t) = true := keyIs_int i t
theorem mixKind_str (prog : Program) (w : World) (x : Str) (t : Tok) : (mixKind prog w).is (.inr x) (.str x t) = true := keyIs_str x t
end L2
namespace L2
open PySem PySem.Spec PyProof.Rows
inductive V where
 | non | bl (b : Bool) | int (i : Int) | str (x : Str) | byt (b : Array UInt8) | flt (b : UInt64) | ref (a : Addr) | ty (n : String)
 deriving DecidableEq
def RelV : V → Value → Prop
 | .non, u => u = Value.none
 | .bl b, u => u = Value.bool b
 | .int i, u => ∃ t, u = Value.int i t
 | .str x, u => ∃ t, u = Value.str x t
 | .byt b, u => ∃ t, u = Value.bytes b t
 | .flt b, u => ∃ t, u = Value.float b t
 | .ref a, u => u = Value.ref a
 | .ty n, u => u = Value.type n
abbrev Vals : List V → List Value → Prop := Paired RelV
theorem Vals.length {xs : List V} {us : List Value} (r : Vals xs us) : xs.length = us.length := Paired.length r
theorem Vals.get : ∀ {xs : List V} {us : List Value} {i : Nat} {x : V}, Vals xs us → xs[i]? = some x → ∃ u, us[i]? = some u ∧ RelV x u
 | _, _, _, _, .nil, e => by simp at e
 | _, _, 0, _, .cons r _, e => by simp at e; subst e; exact ⟨_, rfl, r⟩
 | _, _, i + 1, x, .cons _ t, e => by
  obtain ⟨u, h1, h2⟩ := Vals.get (i := i) (x := x) t (by simpa using e)
  exact ⟨u, by simpa using h1, h2⟩
theorem Vals.set {x : V} {u : Value} (r : RelV x u) : ∀ {xs : List V} {us : List Value} (i : Nat), Vals xs us → Vals (xs.set i x) (us.set i u)
 | _, _, _, .nil => .nil
 | _, _, 0, .cons _ t => .cons r t
 | _, _, i + 1, .cons q t => .cons q (Vals.set r i t)
theorem Vals.append : ∀ {xs ys : List V} {us ws : List Value}, Vals xs us → Vals ys ws → Vals (xs ++ ys) (us ++ ws)
 | _, _, _, _, .nil, s => s
 | _, _, _, _, .cons r t, s => .cons r (Vals.append t s)
theorem Vals.take : ∀ {xs : List V} {us : List Value} (n : Nat), Vals xs us → Vals (xs.take n) (us.take n)
 | _, _, 0, _ => .nil
 | _, _, _ + 1, .nil => .nil
 | _, _, n + 1, .cons r t => .cons r (Vals.take n t)
theorem Vals.drop : ∀ {xs : List V} {us : List Value} (n : Nat), Vals xs us → Vals (xs.drop n) (us.drop n)
 | _, _, 0, r => r
 | _, _, _ + 1, .nil => .nil
 | _, _, n + 1, .cons _ t => Vals.drop n t
def RelO : Option V → Option Value → Prop
 | some v, some u => RelV v u
 | none, none => True
 | _, _ => False
def KV {κ : Type} : List (κ × V) → List (κ × Value) → Prop := Paired fun (p : κ × V) (q : κ × Value) => p.1 = q.1 ∧ RelV p.2 q.2
def kV : Key → V
 | .inl i => .int i
 | .inr x => .str x
inductive HO where
 
 | lst (xs : List V)
 
 | tup (xs : List V)
 
 | dK (kvs : List (Key × V)) | dT (kvs : List (List Key × V))
 
 | set (S : Int → Bool) (n : Nat)
 
 | ins (C dx : Addr) (fs : List (Str × V))
 
 | own (x : Addr)
 
 | xd (fs : List (Str × V))
 
 | met (f x : Addr)
 
 | rng (lo hi : Int)
 
 | frz (o : Obj) (u : HO)
 
 | tbl (cr : Nat → Nat → Option Str)
 
 | ext (φ : Heap → Prop)
abbrev Hp := Addr → Option HO
def upd (H : Hp) (a : Addr) (o : HO) : Hp := fun b => if b = a then some o else H b
theorem upd_same {H : Hp} {a : Addr} {o : HO} : upd H a o a = some o := by unfold upd; rw [if_pos rfl]
theorem upd_ne {H : Hp} {a b : Addr} {o : HO} (h : b ≠ a) : upd H a o b = H b := by unfold upd; rw [if_neg h]
theorem ne_of {H : Hp} {a b : Addr} {o u : HO} (h : H a = some o) (h' : H b = some u) (d : o ≠ u) : a ≠ b := by
 intro e; subst e; rw [h] at h'; exact d (Option.some.inj h')
theorem ne_of_none {H : Hp} {a b : Addr} {o : HO} (h : H a = some o) (h' : H b = none) : a ≠ b := by
 intro e; subst e; rw [h] at h'; cases h'
def CodeOf (oc : Obj) (q : Str) : Prop := ∃ (vs : Array Value) (t : Tok), oc.data = .fields vs ∧ vs[1]? = some (.str q t)
def NoDict (h : Heap) (a : Addr) : Prop := ∃ o, h.get? a = some o ∧ o.dict = none
section
variable (P : Program) (w : World)
def ObjOk (H : Hp) (h : Heap) (a : Addr) : HO → Prop
 | .lst xs => xs.length ≤ sizeLine ∧ ∃ (its : List Value) (n : Nat), Vals xs its ∧ h.get? a = some { cls := .type "list", data := .seq its.toArray n }
 | .tup xs => xs.length ≤ sizeLine ∧ ∃ its : List Value, Vals xs its ∧ IsTup h a its.toArray ∧ NoDict h a
 | .dK kvs => kvs.length ≤ sizeLine ∧ (a == sysModules) = false ∧ ∃ vs, KV kvs vs ∧ h.DictOf (mixKind P w) a vs
 | .dT kvs => kvs.length ≤ sizeLine ∧ (a == sysModules) = false ∧ ∃ xs : List (List Key × Addr × Value),
   Paired (fun (p : List Key × V) (q : List Key × Addr × Value) => p.1 = q.1 ∧ H q.2.1 = some (.tup (p.1.map kV)) ∧ RelV p.2 q.2.2) kvs xs ∧
   ∃ o es ep, h.get? a = some o ∧ o.ExactDict ∧ o.data = .dict es ep ∧ es.toList = xs.map (entryOfKey (tupleKind (mixKind P w))) ∧ (xs.map (·.1)).Nodup
 | .set S n => h.SetOf (intKind P w) a S n
 | .ins C dx fs => H dx = some (.own a) ∧ fs.length ≤ 1000 ∧ dx ≠ a ∧ h.get? a = some (PySem.W.instObj C dx) ∧
   ∃ mA, h.Ns1 dx mA ∧ (∀ f, RelO (fs.lookup f) (mA f)) ∧ PySem.Within mA (fs.map (·.1))
 | .own _ => ∃ o, h.get? a = some o
 | .xd fs => ∃ mA, h.Ns1 a mA ∧ ∀ f, RelO (fs.lookup f) (mA f)
 | .rng lo hi => ∃ t u v, h.get? a = some { cls := .type "range", data := .fields #[.int lo t, .int hi u, .int 1 v] }
 | .frz o u => h.get? a = some o ∧ ObjOk H h a u
 | .tbl cr => ∃ ps : Array Value, h.get? a = some { cls := .none, data := .fields ps } ∧ TriplesOk ps.toList ∧ ∀ (pos : Pos) (v : Value), codeAmong pos ps.toList = some v →
   ∃ (c : Addr) (oc : Obj) (q : Str), v = .ref c ∧ cr pos.line pos.col = some q ∧ H c = some (.frz oc (.own c)) ∧ CodeOf oc q
 | .met f x => h.get? a = some (PySem.W.methodObj (.ref f) (.ref x))
 | .ext φ => φ h ∧ (∃ o, h.get? a = some o) ∧ ∀ h1 h2 : Heap, φ h1 → (∀ o, h1.get? a = some o → h2.get? a = some o) → φ h2
def HOk (H : Hp) (h : Heap) : Prop := ∀ a o, H a = some o → ObjOk P w H h a o
end
section
variable {P : Program} {w : World} {H H' : Hp} {h h' : Heap} {a : Addr} {o : HO}
theorem ObjOk.lt (x : ObjOk P w H h a o) : a < h.objs.size := by
 cases o with
 | lst xs => obtain ⟨_, _, _, _, e⟩ := x; exact Heap.lt_size e
 | tup xs => obtain ⟨_, _, _, p, _⟩ := x; exact p.lt
 | dK kvs => obtain ⟨_, _, _, _, o, _, _, e, _⟩ := x; exact Heap.lt_size e
 | dT kvs => obtain ⟨_, _, _, _, o, _, _, e, _⟩ := x; exact Heap.lt_size e
 | set S n => obtain ⟨o, _, _, _, e, _⟩ := x; exact Heap.lt_size e
 | ins C dx fs => obtain ⟨_, _, _, e, _⟩ := x; exact Heap.lt_size e
 | own y => obtain ⟨_, e⟩ := x; exact Heap.lt_size e
 | xd fs => obtain ⟨_, ⟨_, _, _, e, _⟩, _⟩ := x; exact Heap.lt_size e
 | rng lo hi => obtain ⟨_, _, _, e⟩ := x; exact Heap.lt_size e
 | frz ob u => obtain ⟨e, _⟩ := x; exact Heap.lt_size e
 | tbl cr => obtain ⟨_, e, _⟩ := x; exact Heap.lt_size e
 | met f y => exact Heap.lt_size (show h.get? a = some _ from x)
 | ext φ => obtain ⟨_, ⟨_, e⟩, _⟩ := x; exact Heap.lt_size e
theorem Paired.mapP {α β : Type} {F G : α → β → Prop} : ∀ {l₁ : List α} {l₂ : List β}, Paired F l₁ l₂ → (∀ a b, F a b → G a b) → Paired G l₁ l₂
 | _, _, .nil, _ => .nil
 | _, _, .cons r t, f => .cons (f _ _ r) (Paired.mapP t f)
theorem ObjOk.stay (x : ObjOk P w H h a o) (k : ∀ b u, (b = a ∨ H b = some (.own a)) → h.get? b = some u → h'.get? b = some u)
  (ho : ∀ b, H b = some (.own a) → H' b = some (.own a)) (ht : ∀ b xs, H b = some (.tup xs) → H' b = some (.tup xs)) (hz : ∀ b o u, H b = some (.frz o u) → H' b = some (.frz o u)) : ObjOk P w H' h' a o := by
 induction o with
 | lst xs => obtain ⟨z, its, n, r, e⟩ := x; exact ⟨z, its, n, r, k _ _ (.inl rfl) e⟩
 | tup xs => obtain ⟨z, its, r, ⟨ob, e, c⟩, od, e', d'⟩ := x; exact ⟨z, its, r, ⟨ob, k _ _ (.inl rfl) e, c⟩, od, k _ _ (.inl rfl) e', d'⟩
 | dK kvs => obtain ⟨z, y, vs, r, ob, es, ep, e, c⟩ := x; exact ⟨z, y, vs, r, ob, es, ep, k _ _ (.inl rfl) e, c⟩
 | dT kvs =>
  obtain ⟨z, y, xs, r, ob, es, ep, e, c⟩ := x
  exact ⟨z, y, xs, Paired.mapP r fun p q z => ⟨z.1, ht _ _ z.2.1, z.2.2⟩, ob, es, ep, k _ _ (.inl rfl) e, c⟩
 | set S n => obtain ⟨ob, es, ep, t, e, c⟩ := x; exact ⟨ob, es, ep, t, k _ _ (.inl rfl) e, c⟩
 | ins C dx fs =>
  obtain ⟨d, z, ne, e, mA, ⟨od, es, ep, e2, c⟩, r⟩ := x
  exact ⟨ho _ d, z, ne, k _ _ (.inl rfl) e, mA, ⟨od, es, ep, k _ _ (.inr d) e2, c⟩, r⟩
 | own y => obtain ⟨ob, e⟩ := x; exact ⟨ob, k _ _ (.inl rfl) e⟩
 | xd fs => obtain ⟨mA, ⟨od, es, ep, e, c⟩, r⟩ := x; exact ⟨mA, ⟨od, es, ep, k _ _ (.inl rfl) e, c⟩, r⟩
 | rng lo hi => obtain ⟨t, u, v, e⟩ := x; exact ⟨t, u, v, k _ _ (.inl rfl) e⟩
 | frz ob u ih => obtain ⟨e, q⟩ := x; exact ⟨k _ _ (.inl rfl) e, ih q⟩
 | tbl cr =>
  obtain ⟨ps, e, ht3, hc⟩ := x
  exact ⟨ps, k a _ (.inl rfl) e, ht3, fun pos v q => let ⟨c, oc, z, h1, h2, h3, h4⟩ := hc pos v q; ⟨c, oc, z, h1, h2, hz _ _ _ h3, h4⟩⟩
 | met f y =>
  have e : h.get? a = some (PySem.W.methodObj (.ref f) (.ref y)) := x
  show h'.get? a = some (PySem.W.methodObj (.ref f) (.ref y))
  exact k a _ (.inl rfl) e
 | ext φ => obtain ⟨p, ⟨o, e⟩, st⟩ := x; exact ⟨st _ _ p fun o q => k _ _ (.inl rfl) q, ⟨o, k _ _ (.inl rfl) e⟩, st⟩
theorem HOk.lt (x : HOk P w H h) (e : H a = some o) : a < h.objs.size := (x a o e).lt
theorem HOk.fresh (x : HOk P w H h) (e : h.objs.size ≤ a) : H a = none := by
 cases q : H a with
 | none => rfl
 | some u => exact absurd (Nat.lt_of_lt_of_le (x.lt q) e) (Nat.lt_irrefl _)
theorem HOk.kept (x : HOk P w H h) (k : ∀ b u, h.get? b = some u → h'.get? b = some u) : HOk P w H h' := fun a o e =>
 (x a o e).stay (fun b u _ q => k b u q) (fun _ q => q) (fun _ _ q => q) fun _ _ _ q => q
theorem HOk.laid (x : HOk P w H h) (k : ∀ b u, h.get? b = some u → h'.get? b = some u) (hp : h.objs.size ≤ a) (new : ObjOk P w (upd H a o) h' a o) : HOk P w (upd H a o) h' := fun b u e => by
 have hn := x.fresh hp
 by_cases hb : b = a
 ·subst hb; rw [upd_same] at e; cases e; exact new
 ·rw [upd_ne hb] at e
  exact (x b u e).stay (fun c v _ q => k c v q) (fun c q => by rw [upd_ne (ne_of_none q hn)]; exact q) (fun c xs q => by rw [upd_ne (ne_of_none q hn)]; exact q) fun c o u q => by rw [upd_ne (ne_of_none q hn)]; exact q
end
def Rd (H : Hp) (a : Addr) (u : HO) : Prop := H a = some u ∨ ∃ o, H a = some (.frz o u)
theorem Rd.ok {P : Program} {w : World} {H : Hp} {h : Heap} {a : Addr} {u : HO} (r : Rd H a u) (x : HOk P w H h) : ObjOk P w H h a u := by
 rcases r with r | ⟨o, r⟩
 ·exact x a u r
 ·obtain ⟨_, q⟩ := x a _ r
  exact q
def Mut : Option HO → Prop
 | some (.lst _) => True
 | some (.dK _) => True
 | some (.dT _) => True
 | some (.set _ _) => True
 | some (.ins _ _ _) => True
 | some (.ext _) => True
 | _ => False
section
variable {P : Program} {w : World} {H : Hp} {h h' : Heap} {x e : Addr} {o' : HO}
theorem HOk.write (ok : HOk P w H h) (mu : Mut (H x)) (he : e = x ∨ H e = some (.own x)) (k : ∀ b u, b ≠ e → h.get? b = some u → h'.get? b = some u) (heo : ∃ u, h'.get? e = some u)
  (new : ObjOk P w (upd H x o') h' x o') : HOk P w (upd H x o') h' := fun b u q => by
 have nown : ∀ c y, H c = some (.own y) → c ≠ x := fun c y r z => by subst z; rw [r] at mu; exact mu
 have ntup : ∀ c xs, H c = some (.tup xs) → c ≠ x := fun c xs r z => by subst z; rw [r] at mu; exact mu
 have nfrz : ∀ c o u, H c = some (.frz o u) → c ≠ x := fun c o u r z => by subst z; rw [r] at mu; exact mu
 by_cases hb : b = x
 ·subst hb; rw [upd_same] at q; cases q; exact new
 ·rw [upd_ne hb] at q
  by_cases hbe : b = e
  ·have q' : H b = some (.own x) := by
    rcases he with z | z
    ·exact absurd (hbe.trans z) hb
    ·rw [hbe]; exact z
   rw [q] at q'; cases q'
   obtain ⟨v, hv⟩ := heo
   exact ⟨v, by rw [hbe]; exact hv⟩
  ·refine (ok b u q).stay (fun c v hc r => k c v ?_ r) (fun c r => by rw [upd_ne (nown c b r)]; exact r) (fun c xs r => by rw [upd_ne (ntup c xs r)]; exact r) fun c o u r => by rw [upd_ne (nfrz c o u r)]; exact r
   rcases hc with rfl | hc
   ·exact hbe
   ·rintro rfl
    rcases he with z | z
    ·exact nown c b hc z
    ·rw [hc] at z; cases z; exact hb rfl
end
structure Un (fs ex : List Addr) (H H' : Hp) (h h' : Heap) : Prop where
 keep : ∀ b o, h.get? b = some o → H b = none → b ∉ fs → b ∉ ex → h'.get? b = some o
 slot : ∀ b o, h.get? b = some o → H b = none → b ∈ fs → b ∉ ex → ∃ sl, h'.get? b = some { o with slots := sl }
 free : ∀ b o, h.get? b = some o → H b = none → b ∉ ex → H' b = none
 there : ∀ b o, h.get? b = some o → b ∉ ex → ∃ o', h'.get? b = some o'
 tups : ∀ b xs, H b = some (.tup xs) → H' b = some (.tup xs)
 frzs : ∀ b o u, H b = some (.frz o u) → H' b = some (.frz o u)
 tbls : ∀ b cr, H b = some (.tbl cr) → H' b = some (.tbl cr)
section
variable {fs fs' ex ex' : List Addr} {H H1 H2 : Hp} {h h1 h2 h' : Heap} {a x e : Addr} {o : HO}
theorem Un.any (u : Un fs ex H H1 h h1) {b : Addr} {ob : Obj} (q : h.get? b = some ob) (n : H b = none) (hx : b ∉ ex) : ∃ sl, h1.get? b = some { ob with slots := sl } := by
 by_cases hb : b ∈ fs
 ·exact u.slot b ob q n hb hx
 ·exact ⟨ob.slots, u.keep b ob q n hb hx⟩
theorem Un.kept (k : ∀ b u, h.get? b = some u → h'.get? b = some u) : Un fs ex H H h h' :=
 ⟨fun b ob q _ _ _ => k b ob q, fun b ob q _ _ _ => ⟨ob.slots, k b ob q⟩, fun _ _ _ n _ => n, fun b ob q _ => ⟨ob, k b ob q⟩, fun _ _ q => q, fun _ _ _ q => q, fun _ _ q => q⟩
theorem Un.refl : Un fs ex H H h h := Un.kept fun _ _ q => q
theorem Un.laid (k : ∀ b u, h.get? b = some u → h'.get? b = some u) (hp : h.objs.size ≤ a) (hn : H a = none) : Un fs ex H (upd H a o) h h' where
 keep := fun b u q _ _ _ => k b u q
 slot := fun b u q _ _ _ => ⟨u.slots, k b u q⟩
 free := fun b u q n _ => by rw [upd_ne (Nat.ne_of_lt (Nat.lt_of_lt_of_le (Heap.lt_size q) hp))]; exact n
 there := fun b u q _ => ⟨u, k b u q⟩
 tups := fun b xs q => by rw [upd_ne (ne_of_none q hn)]; exact q
 frzs := fun b u xs q => by rw [upd_ne (ne_of_none q hn)]; exact q
 tbls := fun b cr q => by rw [upd_ne (ne_of_none q hn)]; exact q
theorem Un.write (mu : Mut (H x)) (he : e = x ∨ H e = some (.own x)) (k : ∀ b u, b ≠ e → h.get? b = some u → h'.get? b = some u) (heo : ∃ u, h'.get? e = some u) : Un fs ex H (upd H x o) h h' := by
 have hx : ∀ b, H b = none → b ≠ x := fun b n z => by subst z; rw [n] at mu; exact mu
 have hb : ∀ b, H b = none → b ≠ e := fun b n z => by
  subst z
  rcases he with r | r
  ·exact hx b n r
  ·rw [n] at r; cases r
 have hm : ∀ b u, H b = some u → ¬ Mut (some u) → b ≠ x := fun b u q nm z => by subst z; rw [q] at mu; exact nm mu
 refine ⟨fun b u q n _ _ => k b u (hb b n) q, fun b u q n _ _ => ⟨u.slots, k b u (hb b n) q⟩, fun b u q n _ => by rw [upd_ne (hx b n)]; exact n, fun b u q _ => ?_,
  fun b xs q => by rw [upd_ne (hm b _ q fun z => z)]; exact q, fun b u xs q => by rw [upd_ne (hm b _ q fun z => z)]; exact q, fun b cr q => by rw [upd_ne (hm b _ q fun z => z)]; exact q⟩
 by_cases hbe : b = e
 ·subst hbe; exact heo
 ·exact ⟨u, k b u hbe q⟩
end
def trk (h : Heap) (H : Hp) : List Addr := (List.range h.objs.size).filter fun a => (H a).isSome
def hidT (h : Heap) (H : Hp) : Heap := PySem.W.hideAll h (trk h H)
theorem hidT_size (h : Heap) (H : Hp) : (hidT h H).objs.size = h.objs.size := PySem.W.hideAll_size _ _
theorem hidT_get {h : Heap} {H : Hp} {b : Addr} {o : Obj} (e : h.get? b = some o) (n : H b = none) : (hidT h H).get? b = some o :=
 PySem.W.hideAll_get _ e fun hm => by
  have q : (H b).isSome = true := (List.mem_filter.mp hm).2
  rw [n] at q; simp at q
theorem of_hidT {h : Heap} {H : Hp} {b : Addr} {o : Obj} (e : (hidT h H).get? b = some o) : h.get? b = some o ∧ H b = none := by
 have e' : h.get? b = some o := PySem.W.of_hideAll (trk h H) e
 refine ⟨e', ?_⟩
 cases q : H b with
 | none => rfl
 | some x =>
  have hm : b ∈ trk h H := List.mem_filter.mpr ⟨List.mem_range.mpr (Heap.lt_size e'), by simp [q]⟩
  have z : (hidT h H).get? b = none := PySem.W.hideAll_none (trk h H) hm
  rw [z] at e; cases e
end L2
namespace L2
open PySem PySem.Spec PyProof.Rows
structure Mod (K : PySem.W.Frag) (mg : Str → Option Value) (base : Heap) : Prop where
 kin : K.In base
 glob : base.Ns mainGlobals mg
 blt : ∃ mb, base.Ns builtinsNs mb ∧ ∀ x : Str, x ≠ "__name__" → mb x = bootBuiltins x
 nolimit : base.NoLimit
structure Cx where
 prog : Program
 w : World
 K : PySem.W.Frag
 mg : Str → Option Value
 base : Heap
 A : Around
 N : List Str
 s₀ : Shared
 H₀ : Hp
 env : Env
 outer : List Env
 stack : List Env
 ex : List Addr
 fn : Str → Bool
 calm : Bool
 pn : List (Addr × Obj)
 xe : Value → Shared → Prop
def frs (l : List Env) : List Addr := l.filterMap (·.frame)
abbrev Cx.fs (X : Cx) : List Addr := frs X.outer
def Vis (sc : Scope) (x : Str) : Prop := sc.names.lookup x = some .local ∨ sc.names.lookup x = some .cell ∨ sc.names.lookup x = some .free
def Loc (sc : Scope) (x : Str) : Prop := sc.names.lookup x = some .local ∨ sc.names.lookup x = some .cell
def Look (env : Env) (h : Heap) (m : Str → Option Value) (x : Str) (u : Value) : Prop :=
 (env.kindOf x = some .local ∧ m x = some u) ∨ ((env.kindOf x = some .cell ∨ env.kindOf x = some .free) ∧ ∃ c, env.cells.lookup x = some c ∧ h.IsCell c (some u))
structure Cx.Ok (X : Cx) : Prop where
 mod : Mod X.K X.mg X.base
 kind : X.env.scope.kind = .function
 glob : X.env.globals = mainGlobals
 blt : X.env.builtins = builtinsNs
 above : X.s₀.heap.objs.size ≤ X.env.locals
 inj : ∀ x y c, X.env.cells.lookup x = some c → X.env.cells.lookup y = some c → x = y
 has : ∀ x, (X.env.kindOf x = some .cell ∨ X.env.kindOf x = some .free) → ∃ c, X.env.cells.lookup x = some c
 cab : ∀ x c, X.fn x = true → X.env.cells.lookup x = some c → X.s₀.heap.objs.size ≤ c
 hd : X.calm = true → X.A.handled = none
 frames : X.A.frames = some X.stack
 stk : X.stack = X.outer ∨ (X.stack = X.env :: X.outer ∧ X.env.frame = some X.env.locals)
 exf : ∀ b ∈ X.ex, b ≠ X.env.locals ∧ ∀ x c, X.env.cells.lookup x = some c → c ≠ b
 bs : ∀ b o, X.base.get? b = some o → X.s₀.heap.get? b = some o ∧ X.H₀ b = none
 bsz : X.base.objs.size ≤ X.s₀.heap.objs.size
 noex : ∀ b o, X.base.get? b = some o → b ∉ X.ex
 exfs : ∀ b ∈ X.ex, b ∉ X.fs
 funs : X.s₀.heap.FunFrames X.base X.outer
 frf : ∀ b ∈ X.fs, X.H₀ b = none
structure Inv (X : Cx) (pins : List (Addr × Obj)) (σ : List (Option V)) (H : Hp) (s : Shared) : Prop where
 ok : X.Ok
 os : s.os = X.s₀.os
 bare : AllBare s.gens
 base : Un X.fs X.ex X.H₀ H X.s₀.heap s.heap
 loc : ∃ m, s.heap.Ns X.env.locals m ∧ ∀ (i : Nat) (x : Str) (v : V), X.N[i]? = some x → σ[i]? = some (some v) → Vis X.env.scope x → ∃ u, RelV v u ∧ Look X.env s.heap m x u
 cell : ∀ x c, X.env.cells.lookup x = some c → ∃ v, s.heap.IsCell c v
 free : H X.env.locals = none
 freeC : ∀ x c, X.env.cells.lookup x = some c → H c = none
 pin : ∀ p ∈ X.pn ++ pins, s.heap.get? p.1 = some p.2 ∧ H p.1 = none ∧ p.1 ≠ X.env.locals ∧ p.1 ∉ X.fs ∧ ∀ v, p.2.data ≠ .cell v
 hok : HOk X.prog X.w H s.heap
 len : σ.length = X.N.length
section
variable {X : Cx} {pins : List (Addr × Obj)} {σ : List (Option V)} {H H' : Hp} {s : Shared} {h' : Heap}
theorem Cx.Ok.nofr (ok : X.Ok) {b : Addr} {o : Obj} (e : X.base.get? b = some o) : b ∉ X.fs := fun hb => by
 have := (ok.funs.mem hb).1
 rw [e] at this; cases this
theorem Inv.bs (I : Inv X pins σ H s) : ∀ b o, X.base.get? b = some o → s.heap.get? b = some o ∧ H b = none := fun b o e =>
 ⟨I.base.keep b o (I.ok.bs b o e).1 (I.ok.bs b o e).2 (I.ok.nofr e) (I.ok.noex b o e), I.base.free b o (I.ok.bs b o e).1 (I.ok.bs b o e).2 (I.ok.noex b o e)⟩
theorem Inv.bk (I : Inv X pins σ H s) : ∀ b o, X.base.get? b = some o → s.heap.get? b = some o := fun b o e => (I.bs b o e).1
theorem Inv.mod (I : Inv X pins σ H s) : Mod X.K X.mg X.base := I.ok.mod
theorem Inv.kIn (I : Inv X pins σ H s) : X.K.In s.heap := I.ok.mod.kin.keeps I.bk
theorem Inv.lt (I : Inv X pins σ H s) : X.env.locals < s.heap.objs.size := let ⟨_, hn, _⟩ := I.loc; hn.lt
theorem Inv.sz (I : Inv X pins σ H s) : X.s₀.heap.objs.size ≤ s.heap.objs.size := Nat.le_trans I.ok.above (Nat.le_of_lt I.lt)
theorem Inv.nofs (I : Inv X pins σ H s) {a : Addr} (h : s.heap.objs.size ≤ a) : a ∉ X.fs := fun hb => by
 obtain ⟨_, o, ho, _⟩ := I.ok.funs.mem hb
 exact absurd (Nat.lt_of_lt_of_le (Heap.lt_size ho) (Nat.le_trans I.sz h)) (Nat.lt_irrefl _)
theorem Inv.cne (I : Inv X pins σ H s) : ∀ x c, X.env.cells.lookup x = some c → c ≠ X.env.locals := fun x c e z => by
 obtain ⟨v, o, ho, hd⟩ := I.cell x c e
 obtain ⟨m, ⟨o', es, ep, ho', hd', _⟩, _⟩ := I.loc
 rw [z, ho'] at ho; cases ho; rw [hd'] at hd; cases hd
theorem Inv.funs (I : Inv X pins σ H s) : s.heap.FunFrames X.base X.outer := by
 have all : ∀ (l : List Env), (∀ b ∈ frs l, b ∈ X.fs) → X.s₀.heap.FunFrames X.base l → s.heap.FunFrames X.base l := by
  intro l
  induction l with
  | nil => intro _ _; trivial
  | cons env r ih =>
   intro hs hl
   obtain ⟨hk, ⟨L, o, hf, hn, ho, hd⟩, hr⟩ := hl
   have hL : L ∈ X.fs := hs L (by unfold frs; rw [List.filterMap_cons, hf]; exact List.mem_cons_self)
   obtain ⟨sl, e⟩ := I.base.slot L o ho (I.ok.frf L hL) hL fun z => I.ok.exfs L z hL
   exact ⟨hk, ⟨L, _, hf, hn, e, hd⟩, ih (fun b hb => hs b (by unfold frs; rw [List.filterMap_cons, hf]; exact List.mem_cons_of_mem _ hb)) hr⟩
 exact all X.outer (fun _ hb => hb) I.ok.funs
theorem Inv.stack (I : Inv X pins σ H s) : s.heap.FunFrames X.base X.stack := by
 rcases I.ok.stk with e | ⟨e, hf⟩
 ·rw [e]; exact I.funs
 ·rw [e]
  obtain ⟨m, hn, _⟩ := I.loc
  refine .cons (by rw [I.ok.kind]; decide) hf hn ?_ I.funs
  exact Heap.get?_none_of_le (Nat.le_trans I.ok.bsz I.ok.above)
theorem Inv.stkSub (I : Inv X pins σ H s) : ∀ b ∈ frs X.stack, b ∈ X.env.locals :: X.fs := fun b hb => by
 rcases I.ok.stk with e | ⟨e, hf⟩
 ·rw [e] at hb; exact List.mem_cons_of_mem _ hb
 ·rw [e] at hb
  unfold frs at hb
  rw [List.filterMap_cons, hf] at hb
  exact hb
theorem Inv.stkFree (I : Inv X pins σ H s) : ∀ b ∈ frs X.stack, H b = none := fun b hb => by
 rcases List.mem_cons.mp (I.stkSub b hb) with e | hb
 ·rw [e]; exact I.free
 ·obtain ⟨_, o, ho, _⟩ := I.ok.funs.mem hb
  exact I.base.free b o ho (I.ok.frf b hb) fun z => I.ok.exfs b z hb
theorem Inv.step {g' : Array GenState} {t' : Nat} {d' : Drawn} {ch : List Addr} (I : Inv X pins σ H s)
  (hch : ∀ b ∈ ch, (b ∈ X.ex ∨ X.s₀.heap.objs.size ≤ b) ∧ b ≠ X.env.locals ∧ (∀ x c, X.env.cells.lookup x = some c → c ≠ b) ∧ ∀ p ∈ X.pn ++ pins, p.1 ≠ b)
  (keep : ∀ b o, b ≠ X.env.locals → b ∉ X.fs → b ∉ ch → s.heap.get? b = some o → H b = none → h'.get? b = some o)
  (slot : ∀ b o, b ≠ X.env.locals → b ∈ X.fs → b ∉ ch → s.heap.get? b = some o → H b = none → ∃ sl, h'.get? b = some { o with slots := sl }) (free : ∀ b o, b ∉ ch → s.heap.get? b = some o → H b = none → H' b = none)
  (there : ∀ b o, b ∉ ch → s.heap.get? b = some o → ∃ o', h'.get? b = some o')
  (tups : ∀ b xs, H b = some (.tup xs) → H' b = some (.tup xs)) (frzs : ∀ b o u, H b = some (.frz o u) → H' b = some (.frz o u)) (tbls : ∀ b cr, H b = some (.tbl cr) → H' b = some (.tbl cr))
  (ns : ∀ m, s.heap.Ns X.env.locals m → h'.Ns X.env.locals m) (hok : HOk X.prog X.w H' h') (hg : AllBare g') :
  Inv X pins σ H' { s with heap := h', gens := g', drawn := d', toks := t' } := by
 have neL : ∀ b o, X.s₀.heap.get? b = some o → b ≠ X.env.locals := fun b o e => Nat.ne_of_lt (Nat.lt_of_lt_of_le (Heap.lt_size e) I.ok.above)
 have neC : ∀ b o, X.s₀.heap.get? b = some o → b ∉ X.ex → b ∉ ch := fun b o e hx hb => by
  rcases (hch b hb).1 with z | z
  ·exact hx z
  ·exact absurd (Nat.lt_of_lt_of_le (Heap.lt_size e) z) (Nat.lt_irrefl _)
 have cellK : ∀ x c, X.env.cells.lookup x = some c → ∀ v, s.heap.IsCell c v → h'.IsCell c v := fun x c e v ⟨o, ho, hd⟩ => by
  have nch : c ∉ ch := fun z => (hch c z).2.2.1 x c e rfl
  by_cases hc : c ∈ X.fs
  ·obtain ⟨sl, q⟩ := slot c o (I.cne x c e) hc nch ho (I.freeC x c e)
   exact ⟨_, q, hd⟩
  ·exact ⟨o, keep c o (I.cne x c e) hc nch ho (I.freeC x c e), hd⟩
 refine ⟨I.ok, I.os, hg, ⟨fun b o e n hb hx => ?_, fun b o e n hb hx => ?_, fun b o e n hx => ?_, fun b o e hx => ?_, fun b xs e => tups b xs (I.base.tups b xs e), fun b o xs e => frzs b o xs (I.base.frzs b o xs e), fun b ps e => ?_⟩, ?_, fun x c e => ?_, ?_, fun x c e => ?_, fun p hp => ?_, hok, I.len⟩
 ·exact keep b o (neL b o e) hb (neC b o e hx) (I.base.keep b o e n hb hx) (I.base.free b o e n hx)
 ·obtain ⟨sl, e1⟩ := I.base.slot b o e n hb hx
  obtain ⟨sl', e2⟩ := slot b _ (neL b o e) hb (neC b o e hx) e1 (I.base.free b o e n hx)
  exact ⟨sl', e2⟩
 ·obtain ⟨o', e1⟩ := I.base.there b o e hx
  exact free b o' (neC b o e hx) e1 (I.base.free b o e n hx)
 ·obtain ⟨o', e1⟩ := I.base.there b o e hx
  exact there b o' (neC b o e hx) e1
 ·exact tbls b ps (I.base.tbls b ps e)
 ·obtain ⟨m, hn, hl⟩ := I.loc
  refine ⟨m, ns m hn, fun i x v e1 e2 e3 => ?_⟩
  obtain ⟨u, r, l⟩ := hl i x v e1 e2 e3
  refine ⟨u, r, ?_⟩
  rcases l with l | ⟨k, c, e, z⟩
  ·exact .inl l
  ·exact .inr ⟨k, c, e, cellK x c e _ z⟩
 ·obtain ⟨v, z⟩ := I.cell x c e
  exact ⟨v, cellK x c e v z⟩
 ·obtain ⟨m, ⟨o, _, _, ho, _⟩, _⟩ := I.loc
  exact free _ o (fun z => (hch _ z).2.1 rfl) ho I.free
 ·obtain ⟨v, o, ho, hd⟩ := I.cell x c e
  exact free c o (fun z => (hch c z).2.2.1 x c e rfl) ho (I.freeC x c e)
 ·obtain ⟨e, n, ne, nf, d⟩ := I.pin p hp
  have nch : p.1 ∉ ch := fun z => (hch p.1 z).2.2.2 p hp rfl
  exact ⟨keep p.1 p.2 ne nf nch e n, free p.1 p.2 nch e n, ne, nf, d⟩
theorem Inv.un {t' : Nat} (I : Inv X pins σ H s) (u : Un X.fs [] H H' s.heap h') (hok : HOk X.prog X.w H' h') : Inv X pins σ H' { s with heap := h', toks := t' } := by
 obtain ⟨m, ⟨o, es, ep, ho, r⟩, _⟩ := id I.loc
 obtain ⟨sl, hL⟩ := u.any ho I.free (by simp)
 exact I.step (g' := s.gens) (d' := s.drawn) (ch := []) (fun _ z => nomatch z) (fun b o _ hb _ e n => u.keep b o e n hb (by simp)) (fun b o _ hb _ e n => u.slot b o e n hb (by simp)) (fun b o _ e n => u.free b o e n (by simp)) (fun b o _ e => u.there b o e (by simp)) u.tups u.frzs u.tbls (fun m' hm => by
  obtain ⟨o', es', ep', ho', r'⟩ := hm
  rw [ho] at ho'; cases ho'
  exact ⟨_, es', ep', hL, r'⟩) hok I.bare
theorem Inv.call {g' : Array GenState} {t' : Nat} {d' : Drawn} {ch : List Addr} (I : Inv X pins σ H s) (u : Un (frs X.stack) ch H H' s.heap h') (hok : HOk X.prog X.w H' h') (hg : AllBare g')
  (hch : ∀ b ∈ ch, (b ∈ X.ex ∨ X.s₀.heap.objs.size ≤ b) ∧ b ≠ X.env.locals ∧ (∀ x c, X.env.cells.lookup x = some c → c ≠ b) ∧ ∀ p ∈ X.pn ++ pins, p.1 ≠ b) :
  Inv X pins σ H' { s with heap := h', gens := g', drawn := d', toks := t' } := by
 obtain ⟨m, ⟨o, es, ep, ho, r⟩, _⟩ := id I.loc
 obtain ⟨sl, hL⟩ := u.any ho I.free fun z => (hch _ z).2.1 rfl
 exact I.step (ch := ch) hch (fun b o hL hb hc e n => u.keep b o e n (fun z => (List.mem_cons.mp (I.stkSub b z)).elim hL hb) hc) (fun b o _ _ hc e n => u.any e n hc) (fun b o hc e n => u.free b o e n hc) (fun b o hc e => u.there b o e hc) u.tups u.frzs u.tbls (fun m' hm => by
  obtain ⟨o', es', ep', ho', r'⟩ := hm
  rw [ho] at ho'; cases ho'
  exact ⟨_, es', ep', hL, r'⟩) hok hg
theorem Inv.turned {t' : Nat} {it : Addr} (I : Inv X pins σ H s) (k : ∀ b o, b ≠ it → s.heap.get? b = some o → h'.get? b = some o) (hn : H it = none) (hL : it ≠ X.env.locals)
  (h1 : it ∈ X.ex ∨ X.s₀.heap.objs.size ≤ it) (h2 : ∀ x c, X.env.cells.lookup x = some c → c ≠ it) (h3 : ∀ p ∈ X.pn ++ pins, p.1 ≠ it) : Inv X pins σ H { s with heap := h', toks := t' } := by
 have nit : ∀ b u, H b = some u → b ≠ it := fun b u e z => by rw [z, hn] at e; cases e
 refine I.step (g' := s.gens) (d' := s.drawn) (ch := [it]) (fun b hb => ?_) (fun b o _ _ hc e _ => k b o (fun z => hc (by simp [z])) e) (fun b o _ _ hc e _ => ⟨o.slots, k b o (fun z => hc (by simp [z])) e⟩) (fun _ _ _ _ n => n)
  (fun b o hc e => ⟨o, k b o (fun z => hc (by simp [z])) e⟩) (fun _ _ e => e) (fun _ _ _ e => e) (fun _ _ e => e) (fun m hm => ?_) (fun b u e => ?_) I.bare
 ·have e : b = it := by simpa using hb
  subst e
  exact ⟨h1, hL, h2, h3⟩
 ·obtain ⟨o, es, ep, ho, r⟩ := hm
  exact ⟨o, es, ep, k _ o (Ne.symm hL) ho, r⟩
 ·refine (I.hok b u e).stay (fun c v hc q => k c v ?_ q) (fun _ q => q) (fun _ _ q => q) fun _ _ _ q => q
  rcases hc with z | z
  ·rw [z]; exact nit b u e
  ·exact nit c _ z
theorem Inv.tok (I : Inv X pins σ H s) (t : Nat) : Inv X pins σ H { s with toks := t } := I.un (h' := s.heap) (t' := t) Un.refl I.hok
theorem Inv.kept {t' : Nat} (I : Inv X pins σ H s) (k : ∀ b u, s.heap.get? b = some u → h'.get? b = some u) : Inv X pins σ H { s with heap := h', toks := t' } := I.un (Un.kept k) (I.hok.kept k)
theorem Inv.laid {a : Addr} {o : HO} {t' : Nat} (I : Inv X pins σ H s) (k : ∀ b u, s.heap.get? b = some u → h'.get? b = some u) (hp : s.heap.objs.size ≤ a) (new : ObjOk X.prog X.w (upd H a o) h' a o) :
  Inv X pins σ (upd H a o) { s with heap := h', toks := t' } := I.un (Un.laid k hp (I.hok.fresh hp)) (I.hok.laid k hp new)
theorem Inv.write {x e : Addr} {o : HO} {t' : Nat} (I : Inv X pins σ H s) (mu : Mut (H x)) (he : e = x ∨ H e = some (.own x)) (k : ∀ b u, b ≠ e → s.heap.get? b = some u → h'.get? b = some u) (heo : ∃ u, h'.get? e = some u)
  (new : ObjOk X.prog X.w (upd H x o) h' x o) : Inv X pins σ (upd H x o) { s with heap := h', toks := t' } := I.un (Un.write mu he k heo) (I.hok.write mu he k heo new)
theorem Inv.pins_of {pins' : List (Addr × Obj)} (I : Inv X pins σ H s) (h : ∀ p ∈ pins', s.heap.get? p.1 = some p.2 ∧ H p.1 = none ∧ p.1 ≠ X.env.locals ∧ p.1 ∉ X.fs ∧ ∀ v, p.2.data ≠ .cell v) : Inv X pins' σ H s :=
 ⟨I.ok, I.os, I.bare, I.base, I.loc, I.cell, I.free, I.freeC, fun p hp => (List.mem_append.mp hp).elim (fun z => I.pin p (List.mem_append_left _ z)) (h p), I.hok, I.len⟩
theorem nodup_ix {N : List Str} (hN : N.Nodup) {i j : Nat} {x : Str} (a : N[i]? = some x) (b : N[j]? = some x) : i = j := by
 obtain ⟨h1, e1⟩ := List.getElem?_eq_some_iff.mp a
 obtain ⟨h2, e2⟩ := List.getElem?_eq_some_iff.mp b
 exact (List.getElem_inj hN).mp (e1.trans e2.symm)
theorem store_ok2 {M : Model} {A : Around} {E : Value → Shared → Prop} {i : Nat} {x : Str} {v : V} {u : Value} {Q : Unit → Shared → Prop} (I : Inv X pins σ H s) (hN : X.N.Nodup) (hi : X.N[i]? = some x) (hx : Loc X.env.scope x) (r : RelV v u)
  (h : ∀ s', Inv X pins (σ.set i (some v)) H s' → (∃ a, Heap.SameBut a s.heap s'.heap ∧ (a = X.env.locals ∨ X.env.cells.lookup x = some a)) → Q () s') (hf : X.fn x = true ∨ X.env.scope.names.lookup x = some .local := by first | exact .inl rfl | exact .inr rfl | assumption) : wpAny M A (storeName X.env x u) Q E s := by
 obtain ⟨m, hn, hl⟩ := id I.loc
 have hcls : (X.env.scope.kind == .class || (X.env.scope.kind == .module && X.env.locals != X.env.globals)) = false := by rw [I.ok.kind]; rfl
 have hiσ : i < σ.length := by rw [I.len]; exact (List.getElem?_eq_some_iff.mp hi).1
 have cne := I.cne
 have tracked : ∀ {a : Addr} {h' : Heap}, (∃ o, s.heap.get? a = some o ∧ H a = none) → Heap.SameBut a s.heap h' → HOk X.prog X.w H h' := fun {a h'} ha hs b ob e => by
  obtain ⟨_, _, hfree⟩ := ha
  refine (I.hok b ob e).stay (fun c w' hc q => (hs.2 c ?_).trans q) (fun _ q => q) (fun _ _ q => q) fun _ _ _ q => q
  rintro rfl
  rcases hc with rfl | hc
  ·rw [hfree] at e; cases e
  ·rw [hfree] at hc; cases hc
 rcases hx with hk | hk
 ·refine wpAny_storeName_local hk hn (fun h' hn' hs => ?_) hcls
  obtain ⟨oL, _, _, hoL, _⟩ := id hn
  refine h _ ⟨I.ok, I.os, I.bare, ⟨fun b o e n hb hx => ?_, fun b o e n hb hx => ?_, I.base.free, fun b o e hx => ?_, I.base.tups, I.base.frzs, I.base.tbls⟩, ⟨_, hn', fun j y v' e1 e2 e3 => ?_⟩, fun y c e => ?_, I.free, I.freeC, fun p hp => ?_, tracked ⟨oL, hoL, I.free⟩ hs, by simpa using I.len⟩ ⟨_, hs, .inl rfl⟩
  ·exact (hs.2 b (Nat.ne_of_lt (Nat.lt_of_lt_of_le (Heap.lt_size e) I.ok.above))).trans (I.base.keep b o e n hb hx)
  ·obtain ⟨sl, e1⟩ := I.base.slot b o e n hb hx
   exact ⟨sl, (hs.2 b (Nat.ne_of_lt (Nat.lt_of_lt_of_le (Heap.lt_size e) I.ok.above))).trans e1⟩
  ·obtain ⟨o', e1⟩ := I.base.there b o e hx
   exact ⟨o', (hs.2 b (Nat.ne_of_lt (Nat.lt_of_lt_of_le (Heap.lt_size e) I.ok.above))).trans e1⟩
  ·by_cases hj : j = i
   ·subst hj
    rw [hi] at e1; cases e1
    rw [List.getElem?_set_self hiσ] at e2
    cases e2
    exact ⟨u, r, .inl ⟨hk, by simp⟩⟩
   ·rw [List.getElem?_set_ne (Ne.symm hj)] at e2
    obtain ⟨u', r', q⟩ := hl j y v' e1 e2 e3
    refine ⟨u', r', ?_⟩
    rcases q with ⟨k, e⟩ | ⟨k, c, e, z⟩
    ·refine .inl ⟨k, ?_⟩
     have : y ≠ x := fun e => hj (nodup_ix hN e1 (e ▸ hi))
     simp [this, e]
    ·exact .inr ⟨k, c, e, z.sameBut hs (cne y c e)⟩
  ·obtain ⟨w', z⟩ := I.cell y c e
   exact ⟨w', z.sameBut hs (cne y c e)⟩
  ·obtain ⟨e, n, ne, nf, d⟩ := I.pin p hp
   exact ⟨(hs.2 p.1 ne).trans e, n, ne, nf, d⟩
 ·have hfn : X.fn x = true := by
   rcases hf with z | z
   ·exact z
   ·rw [z] at hk; cases hk
  obtain ⟨c, hc⟩ := I.ok.has x (.inl hk)
  obtain ⟨w', z⟩ := I.cell x c hc
  refine wpAny_storeName_cell I.ok.kind hk hc z (fun h' hc' hs => ?_)
  obtain ⟨oc, hoc, hocd⟩ := id z
  refine h { s with heap := h' } ⟨I.ok, I.os, I.bare, ⟨fun b o e n hb hx => ?_, fun b o e n hb hx => ?_, I.base.free, fun b o e hx => ?_, I.base.tups, I.base.frzs, I.base.tbls⟩, ⟨m, hn.sameBut hs (Ne.symm (cne x c hc)), fun j y v' e1 e2 e3 => ?_⟩, fun y c' e => ?_, I.free, I.freeC, fun p hp => ?_, tracked ⟨oc, hoc, I.freeC x c hc⟩ hs, by simpa using I.len⟩ ⟨c, hs, .inr hc⟩
  ·exact (hs.2 b (Nat.ne_of_lt (Nat.lt_of_lt_of_le (Heap.lt_size e) (I.ok.cab x c hfn hc)))).trans (I.base.keep b o e n hb hx)
  ·obtain ⟨sl, e1⟩ := I.base.slot b o e n hb hx
   exact ⟨sl, (hs.2 b (Nat.ne_of_lt (Nat.lt_of_lt_of_le (Heap.lt_size e) (I.ok.cab x c hfn hc)))).trans e1⟩
  ·obtain ⟨o', e1⟩ := I.base.there b o e hx
   exact ⟨o', (hs.2 b (Nat.ne_of_lt (Nat.lt_of_lt_of_le (Heap.lt_size e) (I.ok.cab x c hfn hc)))).trans e1⟩
  ·by_cases hj : j = i
   ·subst hj
    rw [hi] at e1; cases e1
    rw [List.getElem?_set_self hiσ] at e2
    cases e2
    exact ⟨u, r, .inr ⟨.inl hk, c, hc, hc'⟩⟩
   ·rw [List.getElem?_set_ne (Ne.symm hj)] at e2
    obtain ⟨u', r', q⟩ := hl j y v' e1 e2 e3
    refine ⟨u', r', ?_⟩
    rcases q with q | ⟨k, c', e, z'⟩
    ·exact .inl q
    ·refine .inr ⟨k, c', e, z'.sameBut hs ?_⟩
     rintro rfl
     exact hj (nodup_ix hN e1 (I.ok.inj _ _ _ e hc ▸ hi))
  ·by_cases hcc : c' = c
   ·subst hcc; exact ⟨_, hc'⟩
   ·obtain ⟨w2, z2⟩ := I.cell y c' e
    exact ⟨w2, z2.sameBut hs hcc⟩
  ·obtain ⟨e, n, ne, nf, d⟩ := I.pin p hp
   refine ⟨(hs.2 p.1 ?_).trans e, n, ne, nf, d⟩
   intro q
   rw [q, hoc] at e
   have q' : oc = p.2 := Option.some.inj e
   exact d w' (by rw [← q']; exact hocd)
theorem store_ok {M : Model} {A : Around} {E : Value → Shared → Prop} {i : Nat} {x : Str} {v : V} {u : Value} {Q : Unit → Shared → Prop} (I : Inv X pins σ H s) (hN : X.N.Nodup) (hi : X.N[i]? = some x) (hx : Loc X.env.scope x) (r : RelV v u)
  (h : ∀ s', Inv X pins (σ.set i (some v)) H s' → Q () s') (hf : X.fn x = true ∨ X.env.scope.names.lookup x = some .local := by first | exact .inl rfl | exact .inr rfl | assumption) : wpAny M A (storeName X.env x u) Q E s :=
 store_ok2 I hN hi hx r (fun s' I' _ => h s' I') hf
theorem Inv.call' {s' : Shared} {ch : List Addr} (I : Inv X pins σ H s) (ho : s'.os = s.os) (u : Un (frs X.stack) ch H H' s.heap s'.heap) (hok : HOk X.prog X.w H' s'.heap) (hg : AllBare s'.gens)
  (hch : ∀ b ∈ ch, (b ∈ X.ex ∨ X.s₀.heap.objs.size ≤ b) ∧ b ≠ X.env.locals ∧ (∀ x c, X.env.cells.lookup x = some c → c ≠ b) ∧ ∀ p ∈ X.pn ++ pins, p.1 ≠ b) : Inv X pins σ H' s' := by
 obtain ⟨h', g', d', t', o'⟩ := s'
 have e : o' = s.os := ho
 subst e
 exact I.call (g' := g') (t' := t') (d' := d') u hok hg hch
end
abbrev XK := Value → Option Addr → Hp → Prop
abbrev St := List (Option V)
abbrev VK := V → Hp → Prop
abbrev TE := St → Hp → VK → Prop
abbrev TT := St → Hp → (Bool → Hp → Prop) → Prop
abbrev TA := St → Hp → (List V → Hp → Prop) → Prop
structure Ends where
 nx : St → Hp → Prop
 rt : VK
 bk : St → Hp → Prop := fun _ _ => False
 ct : St → Hp → Prop := fun _ _ => False
abbrev TS := Ends → St → Hp → Prop
def EP (X : Cx) (pins : List (Addr × Obj)) (σ : St) (Q : VK) (u : Value) (s' : Shared) : Prop := ∃ v H', Inv X pins σ H' s' ∧ RelV v u ∧ Q v H'
def TP (X : Cx) (pins : List (Addr × Obj)) (σ : St) (Q : Bool → Hp → Prop) (b : Bool) (s' : Shared) : Prop := ∃ H', Inv X pins σ H' s' ∧ Q b H'
def AP (X : Cx) (pins : List (Addr × Obj)) (σ : St) (Q : List V → Hp → Prop) (us : List Value) (s' : Shared) : Prop := ∃ vs H', Inv X pins σ H' s' ∧ Vals vs us ∧ Q vs H'
def SP (X : Cx) (pins : List (Addr × Obj)) (D : Ends) (f : Flow) (s' : Shared) : Prop :=
 match f with
 | .next => ∃ σ' H', Inv X pins σ' H' s' ∧ D.nx σ' H'
 | .brk => ∃ σ' H', Inv X pins σ' H' s' ∧ D.bk σ' H'
 | .cont => ∃ σ' H', Inv X pins σ' H' s' ∧ D.ct σ' H'
 | .ret u => ∃ v σ' H', Inv X pins σ' H' s' ∧ RelV v u ∧ D.rt v H'
def PE (X : Cx) (e : Expr) (t : TE) : Prop :=
 ∀ (pins : List (Addr × Obj)) (s : Shared) (σ : St) (H : Hp) (Q : VK), Inv X pins σ H s → t σ H Q → wpAny (model X.prog X.w) X.A (eval e X.env) (EP X pins σ Q) X.xe s
def PT (X : Cx) (e : Expr) (t : TT) : Prop :=
 ∀ (pins : List (Addr × Obj)) (s : Shared) (σ : St) (H : Hp) (Q : Bool → Hp → Prop), Inv X pins σ H s → t σ H Q → wpAny (model X.prog X.w) X.A (isTrue e X.env (eval e X.env)) (TP X pins σ Q) X.xe s
def PW (X : Cx) (e : Expr) (t : TT) : Prop :=
 ∀ (whole : Sem Value) (pins : List (Addr × Obj)) (s : Shared) (σ : St) (H : Hp) (Q : Bool → Hp → Prop), Inv X pins σ H s → t σ H Q → wpAny (model X.prog X.w) X.A (isTrue e X.env whole) (TP X pins σ Q) X.xe s
theorem PW.pt {X : Cx} {e : Expr} {t : TT} (h : PW X e t) : PT X e t := h _
def PA (X : Cx) (es : List Expr) (t : TA) : Prop :=
 ∀ (pos : Pos) (pins : List (Addr × Obj)) (s : Shared) (σ : St) (H : Hp) (Q : List V → Hp → Prop), Inv X pins σ H s → t σ H Q → wpAny (model X.prog X.w) X.A (spliced (backTo pos (starEach es X.env))) (AP X pins σ Q) X.xe s
def PS (X : Cx) (st : Stmt) (t : TS) : Prop :=
 ∀ (pins : List (Addr × Obj)) (s : Shared) (σ : St) (H : Hp) (D : Ends), Inv X pins σ H s → t D σ H → wpAny (model X.prog X.w) X.A (exec st X.env) (SP X pins D) X.xe s
def PSs (X : Cx) (st : List Stmt) (t : TS) : Prop :=
 ∀ (pins : List (Addr × Obj)) (s : Shared) (σ : St) (H : Hp) (D : Ends), Inv X pins σ H s → t D σ H → wpAny (model X.prog X.w) X.A (execs st X.env) (SP X pins D) X.xe s
theorem thn {α : Type} {t : Sem α} {Q Q' : α → Shared → Prop} {M : Model} {A : Around} {E : Value → Shared → Prop} {s : Shared} (h : wpAny M A t Q E s) (hQ : ∀ a s, Q a s → Q' a s) : wpAny M A t Q' E s := wpAny_mono h hQ fun _ _ x => x
end L2
namespace L2
open PySem PySem.Spec PyProof.Rows
section
variable {X : Cx}
def tVar (i : Nat) : TE := fun σ H Q => ∃ v, σ[i]? = some (some v) ∧ Q v H
def tC (v : V) : TE := fun _ H Q => Q v H
theorem pe_var {i : Nat} {x : Str} {pos : Pos} (hN : X.N[i]? = some x) (hv : Vis X.env.scope x) (hd : (x == ("__debug__" : Str)) = false := by decide) (hcd : (x == ("__classdict__" : Str)) = false := by decide) : PE X (.Name x pos) (tVar i) := by
 intro pins s σ H Q I h
 obtain ⟨v, e, h⟩ := h
 obtain ⟨m, hn, hl⟩ := I.loc
 obtain ⟨u, r, l⟩ := hl i x v hN e hv
 have fin : EP X pins σ Q u s := ⟨v, H, I, r, h⟩
 rcases l with ⟨hk, hm⟩ | ⟨hk, c, hc, hcell⟩
 ·exact wpAny_Name (wpAny_loadName_local I.ok.kind hk hn hm fin) hd
 ·rcases hk with hk | hk
  ·exact wpAny_Name (wpAny_loadName_cell I.ok.kind hk hc hcell fin) hd
  ·exact wpAny_Name (wpAny_loadName_free I.ok.kind hk hc hcell fin hcd) hd
theorem pe_int {i j pos} : PE X (.Constant (.int i) j pos) (tC (.int i)) := fun _ _ _ H _ I h => wpAny_Constant_int ⟨.int i, H, I.tok _, ⟨_, rfl⟩, h⟩
theorem pe_bl {b j pos} : PE X (.Constant (.bool b) j pos) (tC (.bl b)) := fun _ _ _ H _ I h => Constant_bool ⟨.bl b, H, I, rfl, h⟩
theorem pe_non {j pos} : PE X (.Constant .none j pos) (tC .non) := fun _ _ _ H _ I h => Constant_none ⟨.non, H, I, rfl, h⟩
def Gl (X : Cx) (x : Str) : Prop := X.env.kindOf x = some .globalImplicit
theorem ld_glob {E : Value → Shared → Prop} {pins : List (Addr × Obj)} {s : Shared} {σ : St} {H : Hp} {x : Str} {u : Value} {pos : Pos} {Q : Value → Shared → Prop} (I : Inv X pins σ H s) (hg : Gl X x) (hm : X.mg x = some u) (h : Q u s)
  (hd : (x == ("__debug__" : Str)) = false := by decide) : wpAny (model X.prog X.w) X.A (eval (.Name x pos) X.env) Q E s :=
 Calls.Name_function_global I.ok.kind hg (Calls.loadGlobal_global (by rw [I.ok.glob]; exact I.mod.glob.keeps I.bk) hm h) hd
theorem ld_blt {E : Value → Shared → Prop} {pins : List (Addr × Obj)} {s : Shared} {σ : St} {H : Hp} {x : Str} {u : Value} {pos : Pos} {Q : Value → Shared → Prop} (I : Inv X pins σ H s) (hg : Gl X x) (hm : X.mg x = none) (hv : bootBuiltins x = some u) (h : Q u s)
  (hn : x ≠ "__name__" := by decide) (hd : (x == ("__debug__" : Str)) = false := by decide) : wpAny (model X.prog X.w) X.A (eval (.Name x pos) X.env) Q E s := by
 obtain ⟨mb, h1, h2⟩ := I.mod.blt
 exact Calls.Name_function_global I.ok.kind hg (Calls.loadGlobal_builtin (by rw [I.ok.glob]; exact I.mod.glob.keeps I.bk) hm (by rw [I.ok.blt]; exact h1.keeps I.bk) ((h2 x hn).trans hv) h) hd
theorem pe_bltn {x : Str} {v : V} {u : Value} {pos : Pos} (hg : Gl X x) (hm : X.mg x = none) (hv : bootBuiltins x = some u) (r : RelV v u) (hn : x ≠ "__name__" := by decide) (hd : (x == ("__debug__" : Str)) = false := by decide) : PE X (.Name x pos) (tC v) :=
 fun _ _ _ H _ I h => ld_blt I hg hm hv ⟨v, H, I, r, h⟩ hn hd
variable {a b : Expr} {ta tb : TE} {pos : Pos}
def tB (t : TE) : TT := fun σ H Q => t σ H fun x H1 => ∃ c, x = .bl c ∧ Q c H1
theorem pt_val {e : Expr} {t : TE} (h : PE X e t) (he : ∀ whole, isTrue e X.env whole = (do let v ← whole; standAt e.pos; holding [v] (truthy v)) := by intro _; rfl) : PT X e (tB t) := by
 intro pins s σ H Q I hw
 refine isTrue_plain (thn (h pins s σ H _ I hw) fun v s1 ⟨x, H1, I1, r1, q1⟩ => ?_) (he _)
 obtain ⟨d, rfl, q⟩ := q1
 cases r1
 exact wpAny_truthy_bool ⟨H1, I1, q⟩
variable {tA tB' : TT} {rest : List Expr}
def tAnd (t u : TT) : TT := fun σ H Q => t σ H fun c H1 => if c = true then u σ H1 Q else Q false H1
def tOr (t u : TT) : TT := fun σ H Q => t σ H fun c H1 => if c = true then Q true H1 else u σ H1 Q
def tNot (t : TT) : TT := fun σ H Q => t σ H fun c H1 => Q (!c) H1
theorem pw_and1 (ha : PT X a tA) : PW X (.BoolOp .And [a] pos) tA := by
 intro wh pins s σ H Q I h
 refine isTrue_and (thn (ha pins s σ H Q I h) fun c s1 e => ?_)
 cases c with
 | true => exact isTrue_and_nil e
 | false => exact e
theorem pw_or1 (ha : PT X a tA) : PW X (.BoolOp .Or [a] pos) tA := by
 intro wh pins s σ H Q I h
 refine isTrue_or (thn (ha pins s σ H Q I h) fun c s1 e => ?_)
 cases c with
 | false => exact isTrue_or_nil e
 | true => exact e
theorem pw_and (ha : PT X a tA) (hb : PW X (.BoolOp .And (b :: rest) pos) tB') : PW X (.BoolOp .And (a :: b :: rest) pos) (tAnd tA tB') := by
 intro wh pins s σ H Q I h
 refine isTrue_and (thn (ha pins s σ H _ I h) fun c s1 ⟨H1, I1, q1⟩ => ?_)
 cases c with
 | true => exact hb wh pins s1 σ H1 Q I1 q1
 | false => exact ⟨H1, I1, q1⟩
theorem pw_or (ha : PT X a tA) (hb : PW X (.BoolOp .Or (b :: rest) pos) tB') : PW X (.BoolOp .Or (a :: b :: rest) pos) (tOr tA tB') := by
 intro wh pins s σ H Q I h
 refine isTrue_or (thn (ha pins s σ H _ I h) fun c s1 ⟨H1, I1, q1⟩ => ?_)
 cases c with
 | true => exact ⟨H1, I1, q1⟩
 | false => exact hb wh pins s1 σ H1 Q I1 q1
theorem pt_not (ha : PT X a tA) : PT X (.UnaryOp .Not a pos) (tNot tA) := by
 intro pins s σ H Q I h
 exact isTrue_not (ha pins s σ H (fun c H1 => Q (!c) H1) I h)
def tAndV (ta tb : TE) : TE := fun σ H Q => ta σ H fun x H1 => ∃ c, x = .bl c ∧ if c = true then tb σ H1 Q else Q (.bl false) H1
theorem pe_one {op} {t : TE} (h : PE X a t) : PE X (.BoolOp op [a] pos) t := fun pins s σ H Q I hw => BoolOp_one (h pins s σ H Q I hw)
theorem pe_and (ha : PE X a ta) (hb : PE X (.BoolOp .And (b :: rest) pos) tb) : PE X (.BoolOp .And (a :: b :: rest) pos) (tAndV ta tb) := by
 intro pins s σ H Q I h
 refine BoolOp_and (thn (ha pins s σ H _ I h) fun v s1 ⟨x, H1, I1, r1, q1⟩ => ?_)
 obtain ⟨c, rfl, q1⟩ := q1
 cases r1
 refine wpAny_truthy_bool ?_
 cases c with
 | true => exact hb pins s1 σ H1 Q I1 q1
 | false => exact ⟨.bl false, H1, I1, rfl, q1⟩
def tIf (t : TT) (ta tb : TE) : TE := fun σ H Q => t σ H fun c H1 => if c = true then ta σ H1 Q else tb σ H1 Q
theorem pe_ifExp {c : Expr} (hc : PT X c tA) (ha : PE X a ta) (hb : PE X b tb) : PE X (.IfExp c a b pos) (tIf tA ta tb) := by
 intro pins s σ H Q I h
 refine wpAny_IfExp (thn (hc pins s σ H _ I h) fun d s1 ⟨H1, I1, q1⟩ => ?_)
 cases d with
 | true => exact ha pins s1 σ H1 Q I1 q1
 | false => exact hb pins s1 σ H1 Q I1 q1
end
end L2
namespace L2
open PySem PySem.Spec PyProof.Rows
def SqL (K : PySem.W.Frag) (H : Hp) (a : Addr) (xs : List V) : Prop :=
 Rd H a (.lst xs) ∨
  ∃ (o : Obj) (its : Array Value) (n : Nat), K.lookup a = some o ∧ o.cls = .type "list" ∧ o.dict = none ∧ o.data = .seq its n ∧ its.size ≤ sizeLine ∧ Vals xs its.toList
def SqT (K : PySem.W.Frag) (H : Hp) (a : Addr) (xs : List V) : Prop :=
 Rd H a (.tup xs) ∨
  ∃ (o : Obj) (its : Array Value) (n : Nat), K.lookup a = some o ∧ o.cls = .type "tuple" ∧ o.data = .seq its n ∧ its.size ≤ sizeLine ∧ Vals xs its.toList
def absV : Value → Option V
 | .none => some .non
 | .bool b => some (.bl b)
 | .int i _ => some (.int i)
 | .str x _ => some (.str x)
 | .bytes b _ => some (.byt b)
 | .float b _ => some (.flt b)
 | .ref a => some (.ref a)
 | .type n => some (.ty n)
 | _ => none
theorem RelV.abs {x : V} {u : Value} (r : RelV x u) : absV u = some x := by
 cases x with
 | non => cases r; rfl
 | bl _ => cases r; rfl
 | int _ => obtain ⟨t, rfl⟩ := r; rfl
 | str _ => obtain ⟨t, rfl⟩ := r; rfl
 | byt _ => obtain ⟨t, rfl⟩ := r; rfl
 | flt _ => obtain ⟨t, rfl⟩ := r; rfl
 | ref _ => cases r; rfl
 | ty _ => cases r; rfl
theorem RelV.inj {x y : V} {u : Value} (r : RelV x u) (q : RelV y u) : x = y := Option.some.inj (r.abs.symm.trans q.abs)
theorem Vals.inj : ∀ {xs ys : List V} {us : List Value}, Vals xs us → Vals ys us → xs = ys
 | _, _, _, .nil, .nil => rfl
 | _, _, _, .cons r t, .cons r' t' => by rw [r.inj r', Vals.inj t t']
section
variable {X : Cx} {pins : List (Addr × Obj)} {σ : St} {H : Hp} {s : Shared} {a : Addr} {xs ys : List V}
theorem SqL.of {K : PySem.W.Frag} (h : H a = some (.lst xs)) : SqL K H a xs := .inl (.inl h)
theorem SqT.of {K : PySem.W.Frag} (h : H a = some (.tup xs)) : SqT K H a xs := .inl (.inl h)
theorem Inv.list (I : Inv X pins σ H s) (h : SqL X.K H a xs) : ∃ its : List Value, Vals xs its ∧ PlainL s.heap a its.toArray ∧ xs.length ≤ sizeLine := by
 rcases h with h | ⟨o, its, n, hk, hc, hd, hs, hz, r⟩
 ·obtain ⟨z, its, n, r, e⟩ := h.ok I.hok
  exact ⟨its, r, ⟨_, n, e, rfl, rfl, rfl⟩, z⟩
 ·refine ⟨its.toList, r, ⟨o, n, I.kIn a o hk, hc, hd, by simpa using hs⟩, ?_⟩
  have e := r.length
  simp only [Array.length_toList] at e
  omega
theorem Inv.tuple (I : Inv X pins σ H s) (h : SqT X.K H a xs) : ∃ its : List Value, Vals xs its ∧ IsTup s.heap a its.toArray ∧ xs.length ≤ sizeLine := by
 rcases h with h | ⟨o, its, n, hk, hc, hs, hz, r⟩
 ·obtain ⟨z, its, r, p, _⟩ := h.ok I.hok
  exact ⟨its, r, p, z⟩
 ·refine ⟨its.toList, r, ⟨o, I.kIn a o hk, hc, n, by simpa using hs⟩, ?_⟩
  have e := r.length
  simp only [Array.length_toList] at e
  omega
theorem Inv.list_inj (I : Inv X pins σ H s) (h : SqL X.K H a xs) (h' : SqL X.K H a ys) : xs = ys := by
 obtain ⟨its, r, ⟨o, n, e, _, _, d⟩, _⟩ := I.list h
 obtain ⟨its', r', ⟨o', n', e', _, _, d'⟩, _⟩ := I.list h'
 rw [e] at e'; cases e'
 rw [d] at d'
 injection d' with d1 _
 have : its = its' := by simpa using congrArg Array.toList d1
 subst this
 exact r.inj r'
theorem Inv.tuple_inj (I : Inv X pins σ H s) (h : SqT X.K H a xs) (h' : SqT X.K H a ys) : xs = ys := by
 obtain ⟨its, r, ⟨o, e, _, n, d⟩, _⟩ := I.tuple h
 obtain ⟨its', r', ⟨o', e', _, n', d'⟩, _⟩ := I.tuple h'
 rw [e] at e'; cases e'
 rw [d] at d'
 injection d' with d1 _
 have : its = its' := by simpa using congrArg Array.toList d1
 subst this
 exact r.inj r'
end
abbrev Cx.wish (X : Cx) (E : Value → Shared → Prop) : Cx := { X with xe := E }
abbrev Cx.nox (X : Cx) : Cx := X.wish fun _ _ => False
theorem Cx.Ok.wish {X : Cx} (ok : X.Ok) (E : Value → Shared → Prop) : (X.wish E).Ok :=
 ⟨ok.mod, ok.kind, ok.glob, ok.blt, ok.above, ok.inj, ok.has, ok.cab, ok.hd, ok.frames, ok.stk, ok.exf, ok.bs, ok.bsz, ok.noex, ok.exfs, ok.funs, ok.frf⟩
theorem Cx.Ok.unwish {X : Cx} {E : Value → Shared → Prop} (ok : (X.wish E).Ok) : X.Ok :=
 ⟨ok.mod, ok.kind, ok.glob, ok.blt, ok.above, ok.inj, ok.has, ok.cab, ok.hd, ok.frames, ok.stk, ok.exf, ok.bs, ok.bsz, ok.noex, ok.exfs, ok.funs, ok.frf⟩
section
variable {X : Cx} {pins : List (Addr × Obj)} {σ : St} {H : Hp} {s : Shared} {E : Value → Shared → Prop}
theorem Inv.wish (I : Inv X pins σ H s) (E : Value → Shared → Prop) : Inv (X.wish E) pins σ H s := ⟨I.ok.wish E, I.os, I.bare, I.base, I.loc, I.cell, I.free, I.freeC, I.pin, I.hok, I.len⟩
theorem Inv.unwish (I : Inv (X.wish E) pins σ H s) : Inv X pins σ H s := ⟨I.ok.unwish, I.os, I.bare, I.base, I.loc, I.cell, I.free, I.freeC, I.pin, I.hok, I.len⟩
theorem SP.unwish {D : Ends} {f : Flow} {s' : Shared} (h : SP (X.wish E) pins D f s') : SP X pins D f s' := by
 cases f with
 | next => obtain ⟨σ', H', I, q⟩ := h; exact ⟨σ', H', I.unwish, q⟩
 | brk => obtain ⟨σ', H', I, q⟩ := h; exact ⟨σ', H', I.unwish, q⟩
 | cont => obtain ⟨σ', H', I, q⟩ := h; exact ⟨σ', H', I.unwish, q⟩
 | ret u => obtain ⟨v, σ', H', I, r, q⟩ := h; exact ⟨v, σ', H', I.unwish, r, q⟩
theorem PSs.nox {st : List Stmt} {t : TS} (h : PSs X.nox st t) : PSs X st t := fun pins s σ H D I hw =>
 wpAny_mono (h pins s σ H D (I.wish _) hw) (fun _ _ q => q.unwish) fun _ _ z => False.elim z
end
section
variable {X : Cx} {st : Stmt} {rest : List Stmt} {t u : TS} {e : Expr} {te : TE} {pos : Pos}
def tNext : TS := fun D σ H => D.nx σ H
def tSeq (t u : TS) : TS := fun D σ H => t { D with nx := u D } σ H
theorem pss_nil : PSs X [] tNext := fun _ _ σ H _ I h => wpAny_execs_nil ⟨σ, H, I, h⟩
theorem pss_cons (h1 : PS X st t) (h2 : PSs X rest u) : PSs X (st :: rest) (tSeq t u) := by
 intro pins s σ H D I h
 refine wpAny_execs_cons (thn (h1 pins s σ H { D with nx := u D } I h) fun f s1 q => ?_)
 cases f with
 | next =>
  obtain ⟨σ', H', I', q⟩ := q
  exact h2 pins s1 σ' H' D I' q
 | ret v => exact q
 | brk => exact q
 | cont => exact q
theorem pss_one (h1 : PS X st t) : PSs X [st] t := by
 intro pins s σ H D I h
 refine wpAny_execs_cons (thn (h1 pins s σ H D I h) fun f s1 q => ?_)
 cases f with
 | next => exact wpAny_execs_nil q
 | ret v => exact q
 | brk => exact q
 | cont => exact q
theorem Inv.quiet {pins : List (Addr × Obj)} {σ : St} {H : Hp} {s : Shared} (I : Inv X pins σ H s) : interactive X.env = false := by simp [interactive, I.ok.kind]
def tDrop (te : TE) : TS := fun D σ H => te σ H fun _ H1 => D.nx σ H1
theorem ps_expr (he : PE X e te) (hs : swapsWith e none pos.line X.env = pure false := by rfl) : PS X (.Expr e pos) (tDrop te) := by
 intro pins s σ H D I h
 exact wpAny_Expr_any (thn (he pins s σ H _ I h) fun v s1 ⟨x, H1, I1, r1, q1⟩ => ⟨σ, H1, I1, q1⟩) I.quiet hs
def tRet (te : TE) : TS := fun D σ H => te σ H D.rt
theorem ps_ret (he : PE X e te) : PS X (.Return (some e) pos) (tRet te) := by
 intro pins s σ H D I h
 exact wpAny_Return_some (thn (he pins s σ H _ I h) fun v s1 ⟨x, H1, I1, r1, q1⟩ => ⟨x, σ, H1, I1, r1, q1⟩)
def tIfS (c : TT) (t u : TS) : TS := fun D σ H => c σ H fun b H1 => if b = true then t D σ H1 else u D σ H1
theorem ps_if {c : Expr} {a b : List Stmt} {tc : TT} (hc : PT X c tc) (ha : PSs X a t) (hb : PSs X b u) : PS X (.If c a b pos) (tIfS tc t u) := by
 intro pins s σ H D I h
 refine wpAny_If (thn (hc pins s σ H _ I h) fun d s1 ⟨H1, I1, q1⟩ => ?_)
 cases d with
 | true => exact ha pins s1 σ H1 D I1 q1
 | false => exact hb pins s1 σ H1 D I1 q1
end
abbrev TG := V → St → Hp → (St → Hp → Prop) → Prop
abbrev TGs := List V → St → Hp → (St → Hp → Prop) → Prop
def PG (X : Cx) (target : Expr) (t : TG) : Prop :=
 ∀ (pins : List (Addr × Obj)) (s : Shared) (σ : St) (H : Hp) (v : V) (u : Value) (Q : St → Hp → Prop), Inv X pins σ H s → RelV v u → t v σ H Q →
  wpAny (model X.prog X.w) X.A (assign target X.env u) (fun _ s' => ∃ σ' H', Inv X pins σ' H' s' ∧ Q σ' H') X.xe s
def PGs (X : Cx) (ts : List Expr) (t : TGs) : Prop :=
 ∀ (pins : List (Addr × Obj)) (s : Shared) (σ : St) (H : Hp) (vs : List V) (us : List Value) (Q : St → Hp → Prop), Inv X pins σ H s → Vals vs us → t vs σ H Q →
  wpAny (model X.prog X.w) X.A (assignInOrder ((assignEach ts X.env).map (·.2)) us) (fun _ s' => ∃ σ' H', Inv X pins σ' H' s' ∧ Q σ' H') X.xe s
abbrev TSet := V → V → V → Hp → (Hp → Prop) → Prop
def PSet (X : Cx) (t : TSet) : Prop :=
 ∀ (pins : List (Addr × Obj)) (s : Shared) (σ : St) (H : Hp) (o i v : V) (ov iv u : Value) (Q : Hp → Prop), Inv X pins σ H s → RelV o ov → RelV i iv → RelV v u → t o i v H Q →
  wpAny (model X.prog X.w) X.A (setItem ov iv u) (fun _ s' => ∃ H', Inv X pins σ H' s' ∧ Q H') X.xe s
section
variable {X : Cx} {pos : Pos}
def gName (i : Nat) : TG := fun v σ H Q => Q (σ.set i (some v)) H
theorem pg_name {i : Nat} {x : Str} (hN : X.N.Nodup) (hi : X.N[i]? = some x) (hx : Loc X.env.scope x) (hf : X.fn x = true ∨ X.env.scope.names.lookup x = some .local := by first | exact .inl rfl | exact .inr rfl | assumption) : PG X (.Name x pos) (gName i) := by
 intro pins s σ H v u Q I r h
 exact wpAny_assign_Name (store_ok I hN hi hx r (fun s' I' => ⟨_, H, I', h⟩) hf)
def gNil : TGs := fun vs σ H Q => vs = [] ∧ Q σ H
def gCons (t : TG) (u : TGs) : TGs := fun vs σ H Q => ∃ v r, vs = v :: r ∧ t v σ H fun σ' H' => u r σ' H' Q
theorem pgs_nil : PGs X [] gNil := by
 intro pins s σ H vs us Q I r h
 obtain ⟨e, h⟩ := h
 subst e
 cases r
 exact assignInOrder_nil ⟨σ, H, I, h⟩
theorem pgs_cons {e : Expr} {es : List Expr} {t : TG} {u : TGs} (h1 : PG X e t) (h2 : PGs X es u)
  (hs : (assignEach (e :: es) X.env).map (·.2) = assign e X.env :: (assignEach es X.env).map (·.2) := by rfl) : PGs X (e :: es) (gCons t u) := by
 intro pins s σ H vs us Q I r h
 obtain ⟨v, vr, e1, h⟩ := h
 subst e1
 cases r with
 | cons r rr =>
  rw [hs]
  refine assignInOrder_cons (thn (h1 pins s σ H _ _ _ I r h) fun _ s1 ⟨σ1, H1, I1, q1⟩ => ?_)
  exact h2 pins s1 σ1 H1 _ _ Q I1 rr q1
def gTup (K : PySem.W.Frag) (n : Nat) (t : TGs) : TG := fun v σ H Q => ∃ a xs, v = .ref a ∧ SqT K H a xs ∧ xs.length = n ∧ t xs σ H Q
theorem pg_tup {es : List Expr} {k : Nat} {t : TGs} {n : Nat} (hc : X.calm = true) (h : PGs X es t)
  (hn : (assignEach es X.env).length = n := by rfl) (hst : (assignEach es X.env).findIdx? (·.1) = none := by rfl) : PG X (.Tuple es k pos) (gTup X.K n t) := by
 intro pins s σ H v u Q I r hw
 obtain ⟨a, xs, e1, hq, hl, hw⟩ := hw
 subst e1
 cases r
 obtain ⟨its, rv, ht, hz⟩ := I.tuple hq
 refine assign_Tuple_tuple (I.ok.hd hc) ht (by simp [hn, ← hl, rv.length]) hst fun h' hx => ?_
 have I1 : Inv X pins σ H { s with heap := h' } := I.kept (t' := s.toks) fun b o e => hx b o (Nat.ne_of_lt (Heap.lt_size e)) e
 exact h pins _ σ H xs _ Q I1 (by simpa using rv) hw
def gSub (to ti : TE) (t : TSet) : TG := fun v σ H Q => to σ H fun o H1 => ti σ H1 fun i H2 => t o i v H2 fun H3 => Q σ H3
theorem pg_sub {o i : Expr} {to ti : TE} {t : TSet} (ho : PE X o to) (hi : PE X i ti) (hs : PSet X t)
  (ha : ∀ v, assign (.Subscript o i pos) X.env v = (do
   let ov ← holding [v] (eval o X.env)
   let iv ← holding [v, ov] (eval i X.env)
   standAt pos
   holding [v, ov, iv] (setItem ov iv v)
   release [v, ov, iv] []) := by intro _; rfl) : PG X (.Subscript o i pos) (gSub to ti t) := by
 intro pins s σ H v u Q I r h
 rw [ha]
 refine wpAny_bind (wpAny_holding (thn (ho pins s σ H _ I h) fun ov s1 ⟨x, H1, I1, r1, q1⟩ => ?_))
 refine wpAny_bind (wpAny_holding (thn (hi pins s1 σ H1 _ I1 q1) fun iv s2 ⟨y, H2, I2, r2, q2⟩ => ?_))
 refine wpAny_bind (wpAny_standAt (wpAny_bind (wpAny_holding (thn (hs pins s2 σ H2 x y v ov iv u _ I2 r1 r2 r q2) fun _ s3 ⟨H3, I3, q3⟩ => ?_))))
 exact wpAny_release ⟨σ, H3, I3, q3⟩
def tAsg (te : TE) (g : TG) : TS := fun D σ H => te σ H fun x H1 => g x σ H1 D.nx
theorem ps_asg {tg e : Expr} {te : TE} {g : TG} (he : PE X e te) (hg : PG X tg g) (hs : swapsWithSole [tg] e pos.line X.env = pure false := by rfl) (hw : swappedStores [tg] e X.env = pure none := by rfl)
  (h1 : (assignEach [tg] X.env).map (·.2) = [assign tg X.env] := by rfl) : PS X (.Assign [tg] e pos) (tAsg te g) := by
 intro pins s σ H D I h
 refine wpAny_Assign_stores (thn (he pins s σ H _ I h) fun v s1 ⟨x, H1, I1, r1, q1⟩ => ?_) hs hw
 rw [h1]
 exact thn (hg pins s1 σ H1 x v _ I1 r1 q1) fun _ s2 q => q
theorem ps_set {i : Nat} {x : Str} {e : Expr} {te : TE} {pos' : Pos} (hN : X.N.Nodup) (hi : X.N[i]? = some x) (hx : Loc X.env.scope x) (he : PE X e te) (hs : swapsWith e (some (.Name x pos')) pos.line X.env = pure false := by rfl) (hf : X.fn x = true ∨ X.env.scope.names.lookup x = some .local := by first | exact .inl rfl | exact .inr rfl | assumption) :
  PS X (.Assign [.Name x pos'] e pos) (tAsg te (gName i)) := by
 intro pins s σ H D I h
 refine wpAny_Assign_Name (thn (he pins s σ H _ I h) fun v s1 ⟨y, H1, I1, r1, q1⟩ => ?_) hs
 exact store_ok I1 hN hi hx r1 (fun s2 I2 => ⟨_, H1, I2, q1⟩) hf
end
section
variable {X : Cx} {pos : Pos}
def tWhile (c : TT) (tb : TS) : TS := fun D σ H => ∃ W : Nat → St → Hp → Prop, (∃ m, W m σ H) ∧ ∀ m σ H, W m σ H →
 c σ H fun b H1 => if b = true then ∃ N : St → Hp → Prop, (∀ σ' H', N σ' H' → ∃ m', m' < m ∧ W m' σ' H') ∧ tb { D with nx := N, ct := N, bk := D.nx } σ H1 else D.nx σ H1
theorem ps_while {c : Expr} {body : List Stmt} {tc : TT} {tb : TS} (hp : PassesOwn (model X.prog X.w) X.A X.env X.xe) (hc : PT X c tc) (hb : PSs X body tb) : PS X (.While c body [] pos) (tWhile tc tb) := by
 intro pins s σ H D I h
 obtain ⟨W, ⟨m0, w0⟩, turn⟩ := h
 refine wpAny_While (codeAny_whileLoop (fun n s' => ∃ σ' H', Inv X pins σ' H' s' ∧ W n σ' H') ?_ m0 ⟨σ, H, I, w0⟩)
 rintro n s1 ⟨σ1, H1, I1, w1⟩
 refine wpAny_passesOwn hp (thn (hc pins s1 σ1 H1 _ I1 (turn n σ1 H1 w1)) fun b s2 ⟨H2, I2, q2⟩ => ?_)
 cases b with
 | true =>
  obtain ⟨N, hN, q2⟩ := q2
  rw [if_pos rfl]
  refine wpAny_passesOwn hp (thn (hb pins s2 σ1 H2 _ I2 q2) fun f s3 q3 => ?_)
  cases f with
  | next =>
   obtain ⟨σ3, H3, I3, n3⟩ := q3
   obtain ⟨m', hm, w3⟩ := hN σ3 H3 n3
   exact ⟨m', hm, σ3, H3, I3, w3⟩
  | cont =>
   obtain ⟨σ3, H3, I3, n3⟩ := q3
   obtain ⟨m', hm, w3⟩ := hN σ3 H3 n3
   exact ⟨m', hm, σ3, H3, I3, w3⟩
  | brk => exact q3
  | ret v => exact q3
 | false =>
  rw [if_neg Bool.false_ne_true]
  exact wpAny_execs_nil ⟨σ1, H2, I2, q2⟩
end
structure It where
 go : Nat → Hp → Prop
 yld : Nat → Hp → V → Hp → Prop
 stop : Nat → Hp → Prop
def FpOk (X : Cx) (pins : List (Addr × Obj)) (H : Hp) (b : Addr) : Prop :=
 H b = none ∧ b ≠ X.env.locals ∧ b ∉ X.fs ∧ (b ∈ X.ex ∨ X.s₀.heap.objs.size ≤ b) ∧ (∀ x c, X.env.cells.lookup x = some c → c ≠ b) ∧ ∀ p ∈ X.pn ++ pins, p.1 ≠ b
theorem Inv.fpOk {X : Cx} {pins : List (Addr × Obj)} {σ : St} {H H' : Hp} {s : Shared} {b : Addr} (I : Inv X pins σ H s) (hb : s.heap.objs.size ≤ b) (hn : H' b = none) : FpOk X pins H' b := by
 refine ⟨hn, Nat.ne_of_gt (Nat.lt_of_lt_of_le I.lt hb), I.nofs hb, .inr (Nat.le_trans I.sz hb), fun x c e z => ?_, fun p hp z => ?_⟩
 ·obtain ⟨v, q⟩ := I.cell x c e
  exact absurd (Nat.lt_of_lt_of_le q.lt (by rw [z]; exact hb)) (Nat.lt_irrefl _)
 ·exact absurd (Nat.lt_of_lt_of_le (Heap.lt_size (I.pin p hp).1) (by rw [z]; exact hb)) (Nat.lt_irrefl _)
structure Turn (P : Program) (w : World) (K : PySem.W.Frag) (tg : Expr) (J : It) (fp : List Addr) (it : Addr) (tn : Nat → Heap → Prop) : Prop where
 mem : it ∈ fp
 obj : ∀ i h, tn i h → ∀ b ∈ fp, ∃ o, h.get? b = some o ∧ ∀ v, o.data ≠ .cell v
 keep : ∀ i h h', tn i h → (∀ b ∈ fp, ∀ o, h.get? b = some o → h'.get? b = some o) → tn i h'
 item : ∀ (X : Cx), X.prog = P → X.w = w → X.K = K → X.calm = true → ∀ (i : Nat) (pins : List (Addr × Obj)) (s : Shared) (σ : St) (H : Hp) (E : Value → Shared → Prop), Inv X pins σ H s → (∀ b ∈ fp, FpOk X pins H b) → tn i s.heap → J.go i H →
  wpAny (model P w) X.A (pyNext (.ref it)) (fun r s1 => ∃ u, r = some u ∧
   wpAny (model P w) X.A (letOwnedTupleGo tg (.ref it) u) (fun _ s2 => ∃ x H', Inv X pins σ H' s2 ∧ RelV x u ∧ J.yld i H x H' ∧ tn (i + 1) s2.heap ∧ ∀ b ∈ fp, H' b = none) E s1) E s
 done : ∀ (X : Cx), X.prog = P → X.w = w → X.K = K → X.calm = true → ∀ (i : Nat) (pins : List (Addr × Obj)) (s : Shared) (σ : St) (H : Hp) (E : Value → Shared → Prop), Inv X pins σ H s → (∀ b ∈ fp, FpOk X pins H b) → tn i s.heap → J.stop i H →
  wpAny (model P w) X.A (pyNext (.ref it)) (fun r s1 => r = none ∧ Inv X pins σ H s1) E s
 self : ∀ (A : Around) (i : Nat) (s : Shared) (Q : Value → Shared → Prop) (E : Value → Shared → Prop), tn i s.heap → Q (.ref it) s → wpAny (model P w) A (pyIter (.ref it)) Q E s
abbrev TI := St → Hp → (It → Hp → Prop) → Prop
def PIE (X : Cx) (pins : List (Addr × Obj)) (σ : St) (tg : Expr) (R : It → Hp → Prop) (itv : Value) (s2 : Shared) : Prop :=
 ∃ (it : Addr) (fp : List Addr) (tn : Nat → Heap → Prop) (J : It) (H' : Hp), itv = .ref it ∧ Inv X pins σ H' s2 ∧ Turn X.prog X.w X.K tg J fp it tn ∧ tn 0 s2.heap ∧ (∀ b ∈ fp, FpOk X pins H' b) ∧ R J H'
def PI (X : Cx) (tg iter : Expr) (wi : TI) : Prop :=
 ∀ (pins : List (Addr × Obj)) (s : Shared) (σ : St) (H : Hp) (R : It → Hp → Prop), Inv X pins σ H s → wi σ H R →
  wpAny (model X.prog X.w) X.A (eval iter X.env) (fun v s1 => wpAny (model X.prog X.w) X.A (pyIter v) (PIE X pins σ tg R) X.xe s1) X.xe s
theorem go_of {M : Model} {A : Around} {E : Value → Shared → Prop} {s : Shared} {tg : Expr} {it : Addr} {u : Value} {o : Obj} {n : String} {vs : Array Value} {Q : Unit → Shared → Prop} (ho : s.heap.get? it = some o) (hc : o.cls = .type n) (hd : o.data = .fields vs)
  (hn : ["enumerate", "zip", "dict_itemiterator", "dict_reverseitemiterator", "odict_iterator", "itertools.zip_longest", "itertools.pairwise"].contains n = false) (hQ : Q () s) : wpAny M A (letOwnedTupleGo tg (.ref it) u) Q E s := by
 unfold letOwnedTupleGo
 cases tg <;> first
  | exact wpAny_pure hQ
  | (cases u <;> first
    | exact wpAny_pure hQ
    | (refine wpAny_bind (wpAny_load ho ?_); rw [hc, hd]; show wpAny M A (if (["enumerate", "zip", "dict_itemiterator", "dict_reverseitemiterator", "odict_iterator", "itertools.zip_longest", "itertools.pairwise"].contains n && vs[0]? == some (rawInt _)) = true then _ else _) Q E s; rw [if_neg (by intro h; rw [hn, Bool.false_and] at h; cases h)]; exact wpAny_pure hQ))
def Itl (K : PySem.W.Frag) (a : Addr) : It :=
 ⟨fun i H => ∃ xs x, SqL K H a xs ∧ xs[i]? = some x, fun i H x H' => H' = H ∧ ∀ xs, SqL K H a xs → xs[i]? = some x, fun i H => ∃ xs, SqL K H a xs ∧ xs.length ≤ i⟩
def Itt (K : PySem.W.Frag) (a : Addr) : It :=
 ⟨fun i H => ∃ xs x, SqT K H a xs ∧ xs[i]? = some x, fun i H x H' => H' = H ∧ ∀ xs, SqT K H a xs → xs[i]? = some x, fun i H => ∃ xs, SqT K H a xs ∧ xs.length ≤ i⟩
def Itr (lo : Int) (n : Nat) : It := ⟨fun i _ => i < n, fun i H x H' => H' = H ∧ x = .int (lo + i), fun i _ => n ≤ i⟩
theorem turn_list {P : Program} {w : World} {K : PySem.W.Frag} {tg : Expr} (a it : Addr) : Turn P w K tg (Itl K a) [it] it (fun i h => h.IsListIter it a i) where
 mem := by simp
 obj := fun i h st b hb => by
  have e : b = it := by simpa using hb
  subst e
  obtain ⟨o, e, c, d⟩ := st
  exact ⟨o, e, fun v z => by rw [d] at z; cases z⟩
 keep := fun i h h' st k => st.at fun o e => k it (by simp) o e
 item := by
  intro X hP hw hK hc i pins s σ H E I hf st hg
  subst hP hw hK
  obtain ⟨xs, x, hq, hx⟩ := hg
  obtain ⟨its, rv, p, hz⟩ := I.list hq
  obtain ⟨u, hu, ru⟩ := rv.get hx
  obtain ⟨f0, f1, f2, f3, f4, f5⟩ := hf it (by simp)
  refine wpAny_pyNext_list_item st p.isList (x := u) (by simpa using hu) fun h' st' sb => ?_
  have I1 : Inv X pins σ H { s with heap := h' } := I.turned (t' := s.toks) (fun b o hb e => (sb.2 b hb).trans e) f0 f1 f3 f4 f5
  obtain ⟨o, e, c, d⟩ := id st'
  exact ⟨u, rfl, go_of (s := { s with heap := h' }) e c d (by decide) ⟨x, H, I1, ru, ⟨rfl, fun ys hy => by rw [I.list_inj hy hq]; exact hx⟩, st', fun b hb => (hf b hb).1⟩⟩
 done := by
  intro X hP hw hK hc i pins s σ H E I hf st hg
  subst hP hw hK
  obtain ⟨xs, hq, hx⟩ := hg
  obtain ⟨its, rv, p, hz⟩ := I.list hq
  obtain ⟨f0, f1, f2, f3, f4, f5⟩ := hf it (by simp)
  have hl := rv.length
  exact wpAny_pyNext_list_end (I.ok.hd hc) st p.isList (by simp; omega) fun h' eb => ⟨rfl, I.turned (t' := s.toks) (fun b o hb e => eb b o hb e) f0 f1 f3 f4 f5⟩
 self := fun _ _ _ _ _ st h => wpAny_pyIter_listiter st h
theorem turn_tuple {P : Program} {w : World} {K : PySem.W.Frag} {tg : Expr} (a it : Addr) : Turn P w K tg (Itt K a) [it] it (fun i h => h.IsTupleIter it a i) where
 mem := by simp
 obj := fun i h st b hb => by
  have e : b = it := by simpa using hb
  subst e
  obtain ⟨o, e, c, d⟩ := st
  exact ⟨o, e, fun v z => by rw [d] at z; cases z⟩
 keep := fun i h h' st k => st.at fun o e => k it (by simp) o e
 item := by
  intro X hP hw hK hc i pins s σ H E I hf st hg
  subst hP hw hK
  obtain ⟨xs, x, hq, hx⟩ := hg
  obtain ⟨its, rv, p, hz⟩ := I.tuple hq
  obtain ⟨u, hu, ru⟩ := rv.get hx
  obtain ⟨f0, f1, f2, f3, f4, f5⟩ := hf it (by simp)
  refine wpAny_pyNext_tuple_item st (show s.heap.IsTuple a its.toArray from p) (x := u) (by simpa using hu) fun h' st' sb => ?_
  have I1 : Inv X pins σ H { s with heap := h' } := I.turned (t' := s.toks) (fun b o hb e => (sb.2 b hb).trans e) f0 f1 f3 f4 f5
  obtain ⟨o, e, c, d⟩ := id st'
  exact ⟨u, rfl, go_of (s := { s with heap := h' }) e c d (by decide) ⟨x, H, I1, ru, ⟨rfl, fun ys hy => by rw [I.tuple_inj hy hq]; exact hx⟩, st', fun b hb => (hf b hb).1⟩⟩
 done := by
  intro X hP hw hK hc i pins s σ H E I hf st hg
  subst hP hw hK
  obtain ⟨xs, hq, hx⟩ := hg
  obtain ⟨its, rv, p, hz⟩ := I.tuple hq
  obtain ⟨f0, f1, f2, f3, f4, f5⟩ := hf it (by simp)
  have hl := rv.length
  exact wpAny_pyNext_tuple_end (I.ok.hd hc) st (show s.heap.IsTuple a its.toArray from p) (by simp; omega) fun h' eb => ⟨rfl, I.turned (t' := s.toks) (fun b o hb e => eb b o hb e) f0 f1 f3 f4 f5⟩
 self := fun _ _ _ _ _ st h => wpAny_pyIter_tupleiter st h
theorem turn_range {P : Program} {w : World} {K : PySem.W.Frag} {tg : Expr} (it : Addr) (lo : Int) (n : Nat) : Turn P w K tg (Itr lo n) [it] it (fun i h => IsRangeIter h it (lo + (i : Nat) * 1) ((n : Int) - (i : Nat)) 1) where
 mem := by simp
 obj := fun i h st b hb => by
  have e : b = it := by simpa using hb
  subst e
  exact ⟨_, st, fun v z => by
   have z' : Data.fields _ = Data.cell v := z
   cases z'⟩
 keep := fun i h h' st k => k it (by simp) _ st
 item := by
  intro X hP hw hK hc i pins s σ H E I hf st hg
  subst hP hw hK
  obtain ⟨f0, f1, f2, f3, f4, f5⟩ := hf it (by simp)
  have W := Walks.range (prog := X.prog) (w := X.w) (I.ok.hd hc) it lo 1 n
  refine W.item i s _ _ hg st fun v h' tk hv st' kk => ?_
  obtain ⟨t, rfl⟩ := hv
  have I1 : Inv X pins σ H { s with heap := h', toks := tk } := I.turned (fun b o hb e => kk b o (by simpa using hb) e) f0 f1 f3 f4 f5
  refine ⟨_, rfl, go_of (s := { s with heap := h', toks := tk }) (n := "range_iterator") st' rfl rfl (by decide) ⟨.int (lo + i), H, I1, ⟨t, ?_⟩, ⟨rfl, rfl⟩, st', fun b hb => (hf b hb).1⟩⟩
  rw [Int.mul_one]
 done := by
  intro X hP hw hK hc i pins s σ H E I hf st hg
  subst hP hw hK
  obtain ⟨f0, f1, f2, f3, f4, f5⟩ := hf it (by simp)
  exact wpAny_pyNext_range_end (I.ok.hd hc) st (by have : n ≤ i := hg; omega) fun h' eb => ⟨rfl, I.turned (t' := s.toks) (fun b o hb e => eb b o hb e) f0 f1 f3 f4 f5⟩
 self := fun _ _ _ _ _ st h => wpAny_pyIter_rangeiter st h
end L2
namespace L2
open PySem PySem.Spec PyProof.Rows
section
variable {X : Cx} {tg : Expr}
def iList (K : PySem.W.Frag) (tl : TE) : TI := fun σ H R => tl σ H fun x H1 => ∃ a, x = .ref a ∧ (∃ xs, SqL K H1 a xs) ∧ R (Itl K a) H1
def iTup (K : PySem.W.Frag) (tl : TE) : TI := fun σ H R => tl σ H fun x H1 => ∃ a, x = .ref a ∧ (∃ xs, SqT K H1 a xs) ∧ R (Itt K a) H1
theorem pi_list {l : Expr} {tl : TE} (hl : PE X l tl) : PI X tg l (iList X.K tl) := by
 intro pins s σ H R I h
 refine thn (hl pins s σ H _ I h) fun v s1 ⟨x, H1, I1, r1, q1⟩ => ?_
 obtain ⟨a, e, ⟨xs, hq⟩, q⟩ := q1
 subst e
 cases r1
 obtain ⟨its, rv, p, hz⟩ := I1.list hq
 refine wpAny_pyIter_list p.isList ?_
 refine ⟨s1.heap.objs.size, [s1.heap.objs.size], _, _, H1, rfl, I1.kept (t' := s1.toks) fun b o e => Heap.get?_push_of_some _ e, turn_list a _, ⟨_, Heap.get?_push_size _ rfl, rfl, rfl⟩, fun b hb => ?_, q⟩
 have e : b = s1.heap.objs.size := by simpa using hb
 subst e
 exact I1.fpOk (Nat.le_refl _) (I1.hok.fresh (Nat.le_refl _))
theorem pi_tup {l : Expr} {tl : TE} (hl : PE X l tl) : PI X tg l (iTup X.K tl) := by
 intro pins s σ H R I h
 refine thn (hl pins s σ H _ I h) fun v s1 ⟨x, H1, I1, r1, q1⟩ => ?_
 obtain ⟨a, e, ⟨xs, hq⟩, q⟩ := q1
 subst e
 cases r1
 obtain ⟨its, rv, p, hz⟩ := I1.tuple hq
 refine wpAny_pyIter_tuple (show s1.heap.IsTuple a its.toArray from p) ?_
 refine ⟨s1.heap.objs.size, [s1.heap.objs.size], _, _, H1, rfl, I1.kept (t' := s1.toks) fun b o e => Heap.get?_push_of_some _ e, turn_tuple a _, ⟨_, Heap.get?_push_size _ rfl, rfl, rfl⟩, fun b hb => ?_, q⟩
 have e : b = s1.heap.objs.size := by simpa using hb
 subst e
 exact I1.fpOk (Nat.le_refl _) (I1.hok.fresh (Nat.le_refl _))
theorem range_it {pins : List (Addr × Obj)} {σ : St} {H : Hp} {s : Shared} {R : It → Hp → Prop} {E : Value → Shared → Prop} {lo hi : Int} {t u v : Tok} {tk : Nat} (I : Inv X pins σ H s) (h1 : -(2 ^ 62) ≤ lo) (h2 : lo < 2 ^ 62) (h3 : -(2 ^ 62) ≤ hi) (h4 : hi < 2 ^ 62)
  (q : R (Itr lo (hi - lo).toNat) H) : wpAny (model X.prog X.w) X.A (pyIter (.ref s.heap.objs.size)) (PIE X pins σ tg R) E { s with heap := s.heap.push { cls := .type "range", data := .fields #[.int lo t, .int hi u, .int 1 v] }, toks := tk } := by
 refine wpAny_pyIter_range (IsRange.new ..) (small_one h1 h2 h3 h4) ?_
 have I1 : Inv X pins σ H { s with heap := s.heap.push { cls := .type "range", data := .fields #[.int lo t, .int hi u, .int 1 v] }, toks := tk } := I.kept fun b o e => Heap.get?_push_of_some _ e
 refine ⟨(s.heap.push { cls := .type "range", data := .fields #[.int lo t, .int hi u, .int 1 v] }).objs.size, [(s.heap.push { cls := .type "range", data := .fields #[.int lo t, .int hi u, .int 1 v] }).objs.size], _, _, H, rfl,
  I1.kept (t' := tk) fun b o e => Heap.get?_push_of_some _ e, turn_range _ lo (hi - lo).toNat, ?_, fun b hb => ?_, q⟩
 ·have e1 : lo + ((0 : Nat) : Int) * 1 = lo := by simp
  have e2 : (((hi - lo).toNat : Nat) : Int) - ((0 : Nat) : Int) = Builtin.Range.rangeSize lo hi 1 := by rw [rangeSize_one]; split <;> omega
  show IsRangeIter _ _ (lo + ((0 : Nat) : Int) * 1) ((((hi - lo).toNat : Nat) : Int) - ((0 : Nat) : Int)) 1
  rw [e1, e2]
  exact Heap.get?_push_size _ rfl
 ·have e : b = (s.heap.push { cls := .type "range", data := .fields #[.int lo t, .int hi u, .int 1 v] }).objs.size := by simpa using hb
  subst e
  exact I1.fpOk (Nat.le_refl _) (I1.hok.fresh (Nat.le_refl _))
def iRng1 (ta : TA) : TI := fun σ H R => ta σ H fun vs H1 => ∃ j : Int, vs = [.int j] ∧ -(2 ^ 62) ≤ j ∧ j < 2 ^ 62 ∧ R (Itr 0 j.toNat) H1
theorem pi_range1 {a : Expr} {ta : TA} {p pos : Pos} (hg : Gl X "range") (hm : X.mg "range" = none) (ha : PA X [a] ta) (hs : starEach [a] X.env = [(false, eval a X.env)] := by rfl) : PI X tg (.Call (.Name "range" p) [a] [] pos) (iRng1 ta) := by
 intro pins s σ H R I h
 refine Call_ (ld_blt I hg hm boot_range (PyProof.Rows.callWith_type1 (thn (ha pos pins s σ H _ I h) fun us s1 ⟨vs, H1, I1, r1, q1⟩ => ?_) hs rfl))
 obtain ⟨j, e, q1, q2, q⟩ := q1
 subst e
 cases r1 with
 | cons r rr =>
  cases rr
  obtain ⟨t, rfl⟩ := r
  exact call_range_1 (range_it I1 (by omega) (by omega) q1 q2 (by simpa using q))
def tFor (wi : TI) (g : TG) (tb : TS) : TS := fun D σ H => wi σ H fun J H1 => ∃ W : Nat → Nat → St → Hp → Prop, (∃ m, W 0 m σ H1) ∧ ∀ i m σ H, W i m σ H →
 (J.stop i H ∧ D.nx σ H) ∨ (J.go i H ∧ ∃ N : St → Hp → Prop, (∀ σ' H', N σ' H' → ∃ m', m' < m ∧ W (i + 1) m' σ' H') ∧ ∀ x H', J.yld i H x H' → g x σ H' fun σ2 H2 => tb { D with nx := N, ct := N, bk := D.nx } σ2 H2)
def pinsAt (fp : List Addr) (h : Heap) : List (Addr × Obj) := fp.filterMap fun b => (h.get? b).map fun o => (b, o)
theorem mem_pinsAt {fp : List Addr} {h : Heap} {b : Addr} {o : Obj} (hb : b ∈ fp) (e : h.get? b = some o) : (b, o) ∈ pinsAt fp h := List.mem_filterMap.mpr ⟨b, hb, by rw [e]; rfl⟩
theorem of_pinsAt {fp : List Addr} {h : Heap} {p : Addr × Obj} (hp : p ∈ pinsAt fp h) : p.1 ∈ fp ∧ h.get? p.1 = some p.2 := by
 obtain ⟨b, hb, e⟩ := List.mem_filterMap.mp hp
 cases q : h.get? b with
 | none => rw [q] at e; cases e
 | some o =>
  rw [q] at e
  have e' : (b, o) = p := Option.some.inj e
  subst e'
  exact ⟨hb, q⟩
theorem Inv.pinned {pins : List (Addr × Obj)} {σ : St} {H : Hp} {s : Shared} {fp : List Addr} (I : Inv X pins σ H s) (hf : ∀ b ∈ fp, FpOk X pins H b) (ho : ∀ b ∈ fp, ∃ o, s.heap.get? b = some o ∧ ∀ v, o.data ≠ .cell v) : Inv X (pins ++ pinsAt fp s.heap) σ H s :=
 I.pins_of fun p hp => (List.mem_append.mp hp).elim (fun z => I.pin p (List.mem_append_right _ z)) fun z => by
  obtain ⟨hb, e⟩ := of_pinsAt z
  obtain ⟨f0, f1, f2, _⟩ := hf p.1 hb
  obtain ⟨o, e', d⟩ := ho p.1 hb
  rw [e] at e'; cases e'
  exact ⟨e, f0, f1, f2, d⟩
theorem Inv.unpinned {pins pl : List (Addr × Obj)} {σ : St} {H : Hp} {s : Shared} (I : Inv X (pins ++ pl) σ H s) : Inv X pins σ H s := I.pins_of fun p hp => I.pin p (List.mem_append_right _ (List.mem_append_left _ hp))
theorem ps_for {iter : Expr} {body : List Stmt} {wi : TI} {g : TG} {tb : TS} {pos : Pos} (hp : PassesOwn (model X.prog X.w) X.A X.env X.xe) (hc : X.calm = true) (hi : PI X tg iter wi) (hg : PG X tg g) (hb : PSs X body tb)
  (hs : ∀ x, foldedSetIterable iter X.env x = pure x := by intro _; rfl) : PS X (.For tg iter body [] pos) (tFor wi g tb) := by
 intro pins s σ H D I h
 refine wpAny_For (thn (hi pins s σ H _ I h) fun v s1 h1 => thn h1 fun itv s2 h2 => ?_) hs
 obtain ⟨it, fp, tn, J, H2, e, I2, T, st2, f2, W, ⟨m0, w0⟩, turn⟩ := h2
 subst e
 have stat : ∀ {H' : Hp}, (∀ b ∈ fp, H' b = none) → ∀ b ∈ fp, FpOk X pins H' b := fun hn b hb => ⟨hn b hb, (f2 b hb).2⟩
 refine codeAny_forLoop_any (fun n s' => ∃ i σ' H', Inv X pins σ' H' s' ∧ tn i s'.heap ∧ (∀ b ∈ fp, H' b = none) ∧ W i n σ' H') ?_ m0 ⟨0, σ, H2, I2, st2, fun b hb => (f2 b hb).1, w0⟩
 rintro n s3 ⟨i, σ3, H3, I3, st3, fr3, w3⟩
 rcases turn i n σ3 H3 w3 with ⟨stop, qn⟩ | ⟨go, N, hN, step⟩
 ·refine wpAny_passesOwn hp (thn (T.done X rfl rfl rfl hc i pins s3 σ3 H3 X.xe I3 (stat fr3) st3 stop) fun r s4 ⟨hr, I4⟩ => ?_)
  subst hr
  exact wpAny_execs_nil ⟨σ3, H3, I4, qn⟩
 ·refine wpAny_passesOwn hp (thn (T.item X rfl rfl rfl hc i pins s3 σ3 H3 X.xe I3 (stat fr3) st3 go) fun r s4 ⟨u, hr, h4⟩ => ?_)
  subst hr
  refine wpAny_passesOwn hp (thn h4 fun _ s5 ⟨x, H5, I5, r5, y5, st5, fr5⟩ => ?_)
  have I5' := I5.pinned (stat fr5) (T.obj _ _ st5)
  refine wpAny_passesOwn hp (thn (hg _ s5 σ3 H5 x u _ I5' r5 (step x H5 y5)) fun _ s6 ⟨σ6, H6, I6, q6⟩ => ?_)
  refine wpAny_passesOwn hp (thn (hb _ s6 σ6 H6 _ I6 q6) fun f s7 q7 => ?_)
  have again : ∀ {σ7 : St} {H7 : Hp}, Inv X (pins ++ pinsAt fp s5.heap) σ7 H7 s7 → N σ7 H7 → ∃ m, m < n ∧ ∃ i σ' H', Inv X pins σ' H' s7 ∧ tn i s7.heap ∧ (∀ b ∈ fp, H' b = none) ∧ W i m σ' H' := fun {σ7 H7} I7 n7 => by
   obtain ⟨m', hm, w7⟩ := hN σ7 H7 n7
   refine ⟨m', hm, i + 1, σ7, H7, I7.unpinned, T.keep _ _ _ st5 fun b hb o e => (I7.pin (b, o) (List.mem_append_right _ (List.mem_append_right _ (mem_pinsAt hb e)))).1, fun b hb => ?_, w7⟩
   obtain ⟨o, e, d⟩ := T.obj _ _ st5 b hb
   exact (I7.pin (b, o) (List.mem_append_right _ (List.mem_append_right _ (mem_pinsAt hb e)))).2.1
  cases f with
  | next => obtain ⟨σ7, H7, I7, n7⟩ := q7; exact again I7 n7
  | cont => obtain ⟨σ7, H7, I7, n7⟩ := q7; exact again I7 n7
  | brk => obtain ⟨σ7, H7, I7, q7⟩ := q7; exact ⟨σ7, H7, I7.unpinned, q7⟩
  | ret v => obtain ⟨x7, σ7, H7, I7, r7, q7⟩ := q7; exact ⟨x7, σ7, H7, I7.unpinned, r7, q7⟩
end
theorem for_range {lo : Int} {n : Nat} {g : TG} {tb : TS} {D : Ends} {σ : St} {H : Hp} (Pv : Nat → St → Hp → Prop) (h0 : Pv 0 σ H)
  (hs : ∀ i σ H, i < n → Pv i σ H → g (.int (lo + i)) σ H fun σ2 H2 => tb { D with nx := Pv (i + 1), ct := Pv (i + 1), bk := D.nx } σ2 H2) (hd : ∀ σ H, Pv n σ H → D.nx σ H) :
  ∃ W : Nat → Nat → St → Hp → Prop, (∃ m, W 0 m σ H) ∧ ∀ i m σ H, W i m σ H →
   ((Itr lo n).stop i H ∧ D.nx σ H) ∨ ((Itr lo n).go i H ∧ ∃ N : St → Hp → Prop, (∀ σ' H', N σ' H' → ∃ m', m' < m ∧ W (i + 1) m' σ' H') ∧ ∀ x H', (Itr lo n).yld i H x H' → g x σ H' fun σ2 H2 => tb { D with nx := N, ct := N, bk := D.nx } σ2 H2) := by
 refine ⟨fun i m σ H => m = n - i ∧ i ≤ n ∧ Pv i σ H, ⟨n, by simp, Nat.zero_le _, h0⟩, ?_⟩
 rintro i m σ H ⟨rfl, hi, p⟩
 by_cases hlt : i < n
 ·refine .inr ⟨hlt, Pv (i + 1), fun σ' H' p' => ⟨n - (i + 1), by omega, rfl, hlt, p'⟩, fun x H' y => ?_⟩
  obtain ⟨e, y⟩ := y
  subst e y
  exact hs i σ _ hlt p
 ·have e : i = n := by omega
  subst e
  exact .inl ⟨Nat.le_refl _, hd σ H p⟩
theorem while_by {c : TT} {tb : TS} {D : Ends} {σ : St} {H : Hp} (Pv : St → Hp → Prop) (μ : St → Hp → Nat) (h0 : Pv σ H)
  (hs : ∀ σ H, Pv σ H → c σ H fun b H1 => if b = true then tb { D with nx := fun σ' H' => Pv σ' H' ∧ μ σ' H' < μ σ H, ct := fun σ' H' => Pv σ' H' ∧ μ σ' H' < μ σ H, bk := D.nx } σ H1 else D.nx σ H1)
  (mono : ∀ σ H Q Q', (∀ b H1, Q b H1 → Q' b H1) → c σ H Q → c σ H Q') : tWhile c tb D σ H := by
 refine ⟨fun m σ H => m = μ σ H ∧ Pv σ H, ⟨_, rfl, h0⟩, ?_⟩
 rintro m σ H ⟨rfl, p⟩
 refine mono σ H _ _ (fun b H1 q => ?_) (hs σ H p)
 cases b with
 | true => exact ⟨_, fun σ' H' ⟨p', l⟩ => ⟨_, l, rfl, p'⟩, q⟩
 | false => exact q
end L2
namespace L2
open PySem PySem.Spec PyProof.Rows
abbrev R2 := V → V → Hp → VK → Prop
def OpR (X : Cx) (f : Value → Value → Sem Value) (r : R2) : Prop :=
 ∀ (pins : List (Addr × Obj)) (s : Shared) (σ : St) (H : Hp) (x y : V) (v u : Value) (Q : VK), Inv X pins σ H s → RelV x v → RelV y u → r x y H Q →
  wpAny (model X.prog X.w) X.A (f v u) (EP X pins σ Q) X.xe s
def UnR (X : Cx) (f : Value → Sem Value) (r : V → Hp → VK → Prop) : Prop :=
 ∀ (pins : List (Addr × Obj)) (s : Shared) (σ : St) (H : Hp) (x : V) (v : Value) (Q : VK), Inv X pins σ H s → RelV x v → r x H Q →
  wpAny (model X.prog X.w) X.A (f v) (EP X pins σ Q) X.xe s
def CallR (X : Cx) (f : Value) (r : List V → Hp → VK → Prop) : Prop :=
 ∀ (pins : List (Addr × Obj)) (s : Shared) (σ : St) (H : Hp) (xs : List V) (us : List Value) (Q : VK), Inv X pins σ H s → Vals xs us → r xs H Q →
  wpAny (model X.prog X.w) X.A (call f us) (EP X pins σ Q) X.xe s
def tOp (r : R2) (ta tb : TE) : TE := fun σ H Q => ta σ H fun x H1 => tb σ H1 fun y H2 => r x y H2 Q
def tUn (r : V → Hp → VK → Prop) (ta : TE) : TE := fun σ H Q => ta σ H fun x H1 => r x H1 Q
def rI (C : Int → Int → Prop) (g : Int → Int → V) : R2 := fun x y H Q => ∃ i j, x = .int i ∧ y = .int j ∧ C i j ∧ Q (g i j) H
def rI0 (g : Int → Int → V) : R2 := fun x y H Q => ∃ i j, x = .int i ∧ y = .int j ∧ Q (g i j) H
def rU (g : Int → V) : V → Hp → VK → Prop := fun x H Q => ∃ i, x = .int i ∧ Q (g i) H
section
variable {X : Cx} {a b c : Expr} {ta tb tc : TE} {pos : Pos}
theorem binT (ha : PE X a ta) (hb : PE X b tb) {pins : List (Addr × Obj)} {s : Shared} {σ : St} {H : Hp} {R : V → V → Hp → Prop} (I : Inv X pins σ H s)
  (h : ta σ H fun x H1 => tb σ H1 fun y H2 => R x y H2) {Q : Value → Shared → Prop} {f : Value → Value → Sem Value}
  (hf : ∀ v u s2 x y H2, Inv X pins σ H2 s2 → RelV x v → RelV y u → R x y H2 → wpAny (model X.prog X.w) X.A (f v u) Q X.xe s2) :
  wpAny (model X.prog X.w) X.A (eval a X.env) (fun v s₁ => wpAny (model X.prog X.w) X.A (eval b X.env) (fun u s₂ => wpAny (model X.prog X.w) X.A (f v u) Q X.xe s₂) X.xe s₁) X.xe s := by
 refine thn (ha pins s σ H _ I h) fun v s1 ⟨x, H1, I1, r1, q1⟩ => ?_
 refine thn (hb pins s1 σ H1 _ I1 q1) fun u s2 ⟨y, H2, I2, r2, q2⟩ => ?_
 exact hf v u s2 x y H2 I2 r1 r2 q2
theorem pe_op {op : Operator} {r : R2} (ho : OpR X (binaryOp op) r) (ha : PE X a ta) (hb : PE X b tb) : PE X (.BinOp a op b pos) (tOp r ta tb) := by
 intro pins s σ H Q I h
 exact wpAny_BinOp (binT ha hb I h fun v u s2 x y H2 I2 rx ry q => ho pins s2 σ H2 x y v u Q I2 rx ry q)
theorem pe_un {op : UnaryOp} {r : V → Hp → VK → Prop} (ho : UnR X (unaryOp op) r) (ha : PE X a ta) : PE X (.UnaryOp op a pos) (tUn r ta) := by
 intro pins s σ H Q I h
 exact UnaryOp_ (thn (ha pins s σ H _ I h) fun v s1 ⟨x, H1, I1, r1, q1⟩ => ho pins s1 σ H1 x v Q I1 r1 q1)
theorem opI {f : Value → Value → Sem Value} {C : Int → Int → Prop} {g : Int → Int → Int}
  (rule : ∀ (i j : Int) (t u : Tok) (s : Shared) (Q : Value → Shared → Prop) (E : Value → Shared → Prop), C i j → Q (.int (g i j) s.toks) { s with toks := s.toks + 1 } → wpAny (model X.prog X.w) X.A (f (.int i t) (.int j u)) Q E s) :
  OpR X f (rI C fun i j => .int (g i j)) := by
 intro pins s σ H x y v u Q I rx ry h
 obtain ⟨i, j, rfl, rfl, hc, q⟩ := h
 obtain ⟨t, rfl⟩ := rx
 obtain ⟨t', rfl⟩ := ry
 exact rule i j t t' s _ _ hc ⟨.int (g i j), H, I.tok _, ⟨_, rfl⟩, q⟩
theorem opI0 {f : Value → Value → Sem Value} {g : Int → Int → Int}
  (rule : ∀ (i j : Int) (t u : Tok) (s : Shared) (Q : Value → Shared → Prop) (E : Value → Shared → Prop), Q (.int (g i j) s.toks) { s with toks := s.toks + 1 } → wpAny (model X.prog X.w) X.A (f (.int i t) (.int j u)) Q E s) :
  OpR X f (rI0 fun i j => .int (g i j)) := by
 intro pins s σ H x y v u Q I rx ry h
 obtain ⟨i, j, rfl, rfl, q⟩ := h
 obtain ⟨t, rfl⟩ := rx
 obtain ⟨t', rfl⟩ := ry
 exact rule i j t t' s _ _ ⟨.int (g i j), H, I.tok _, ⟨_, rfl⟩, q⟩
theorem opB0 {f : Value → Value → Sem Value} {g : Int → Int → Bool}
  (rule : ∀ (i j : Int) (t u : Tok) (s : Shared) (Q : Value → Shared → Prop) (E : Value → Shared → Prop), Q (.bool (g i j)) s → wpAny (model X.prog X.w) X.A (f (.int i t) (.int j u)) Q E s) :
  OpR X f (rI0 fun i j => .bl (g i j)) := by
 intro pins s σ H x y v u Q I rx ry h
 obtain ⟨i, j, rfl, rfl, q⟩ := h
 obtain ⟨t, rfl⟩ := rx
 obtain ⟨t', rfl⟩ := ry
 exact rule i j t t' s _ _ ⟨.bl (g i j), H, I, rfl, q⟩
def CPow (i j : Int) : Prop := 0 ≤ j ∧ j ≤ 1000000 ∧ i.natAbs < 2 ^ 64
theorem op_add : OpR X (binaryOp .Add) (rI0 fun i j => .int (i + j)) := opI0 fun _ _ _ _ _ _ _ q => add_int q
theorem op_sub : OpR X (binaryOp .Sub) (rI0 fun i j => .int (i - j)) := opI0 fun _ _ _ _ _ _ _ q => sub_int q
theorem op_mod : OpR X (binaryOp .Mod) (rI (fun _ j => 0 < j) fun i j => .int (i % j)) := opI fun i j _ _ _ _ _ hc q => by
 have h1 : (0 : Int) < j := hc
 exact mod_int' (by omega) (by rw [Int.fmod_eq_emod_of_nonneg i (by omega)]; exact q)
theorem op_pow : OpR X (binaryOp .Pow) (rI CPow fun i j => .int (i ^ j.toNat)) := opI fun _ _ _ _ _ _ _ hc q => pow_int_small hc.1 hc.2.1 hc.2.2 q
theorem unI {f : Value → Sem Value} {g : Int → Int}
  (rule : ∀ (i : Int) (t : Tok) (s : Shared) (Q : Value → Shared → Prop) (E : Value → Shared → Prop), Q (.int (g i) s.toks) { s with toks := s.toks + 1 } → wpAny (model X.prog X.w) X.A (f (.int i t)) Q E s) :
  UnR X f (rU fun i => .int (g i)) := by
 intro pins s σ H x v Q I rx h
 obtain ⟨i, rfl, q⟩ := h
 obtain ⟨t, rfl⟩ := rx
 exact rule i t s _ _ ⟨.int (g i), H, I.tok _, ⟨_, rfl⟩, q⟩
theorem un_neg : UnR X (unaryOp .USub) (rU fun i => .int (-i)) := unI fun _ _ _ _ _ q => neg_int q
end
def scal : V → V → Bool
 | .non, .non => true | .non, .int _ => true | .int _, .non => true | .non, .bl _ => true | .bl _, .non => true | .non, .str _ => true | .str _, .non => true
 | .int _, .int _ => true | .bl _, .bl _ => true | .str _, .str _ => true | .byt _, .byt _ => true
 | .int _, .str _ => true | .str _, .int _ => true | .bl _, .str _ => true | .str _, .bl _ => true
 | _, _ => false
def rEq : R2 := fun x y H Q => scal x y = true ∧ Q (.bl (decide (x = y))) H
def rNe : R2 := fun x y H Q => scal x y = true ∧ Q (.bl (!decide (x = y))) H
theorem dec_int {i j : Int} : decide (V.int i = V.int j) = (i == j) := by
 rw [Bool.eq_iff_iff]
 simp
theorem dec_bl {i j : Bool} : decide (V.bl i = V.bl j) = (i == j) := by
 rw [Bool.eq_iff_iff]
 simp
theorem dec_str {i j : Str} : decide (V.str i = V.str j) = (i == j) := by
 rw [Bool.eq_iff_iff]
 simp
theorem dec_byt {i j : Array UInt8} : decide (V.byt i = V.byt j) = (i.toList == j.toList) := by
 rw [Bool.eq_iff_iff]
 cases i
 cases j
 simp
section
variable {X : Cx} {a b c : Expr} {ta tb tc : TE} {pos : Pos}
theorem fin_bl {pins : List (Addr × Obj)} {σ : St} {H : Hp} {s : Shared} {Q : VK} {k k' : Bool} (I : Inv X pins σ H s) (q : Q (.bl k) H) (e : k = k') : EP X pins σ Q (.bool k') s := by
 subst e
 exact ⟨.bl k, H, I, rfl, q⟩
theorem op_eq : OpR X (compareOp .Eq) rEq := by
 intro pins s σ H x y v u Q I rx ry h
 obtain ⟨hs, q⟩ := h
 cases x with
 | non =>
  cases rx
  cases y with
  | non => cases ry; exact PySem.EqNone.eq_none_none (fin_bl I q (by simp))
  | bl j => cases ry; exact PySem.EqNone.eq_none_bool (fin_bl I q (by simp))
  | int j => obtain ⟨t', rfl⟩ := ry; exact PySem.EqNone.eq_none_int (fin_bl I q (by simp))
  | str j => obtain ⟨t', rfl⟩ := ry; exact PySem.EqNone.eq_none_str (fin_bl I q (by simp))
  | _ => exact absurd (show false = true from hs) Bool.false_ne_true
 | bl i =>
  cases rx
  cases y with
  | non => cases ry; exact PySem.EqNone.eq_bool_none (fin_bl I q (by simp))
  | bl j => cases ry; exact eq_bool (fin_bl I q dec_bl)
  | str j => obtain ⟨t', rfl⟩ := ry; exact PySem.EqMixed.eq_bool_str (fin_bl I q (by simp))
  | _ => exact absurd (show false = true from hs) Bool.false_ne_true
 | int i =>
  obtain ⟨t, rfl⟩ := rx
  cases y with
  | non => cases ry; exact PySem.EqNone.eq_int_none (fin_bl I q (by simp))
  | int j => obtain ⟨t', rfl⟩ := ry; exact eq_int (fin_bl I q dec_int)
  | str j => obtain ⟨t', rfl⟩ := ry; exact PySem.EqMixed.eq_int_str (fin_bl I q (by simp))
  | _ => exact absurd (show false = true from hs) Bool.false_ne_true
 | str i =>
  obtain ⟨t, rfl⟩ := rx
  cases y with
  | non => cases ry; exact PySem.EqNone.eq_str_none (fin_bl I q (by simp))
  | bl j => cases ry; exact PySem.EqMixed.eq_str_bool (fin_bl I q (by simp))
  | int j => obtain ⟨t', rfl⟩ := ry; exact PySem.EqMixed.eq_str_int (fin_bl I q (by simp))
  | str j => obtain ⟨t', rfl⟩ := ry; exact eq_str (fin_bl I q dec_str)
  | _ => exact absurd (show false = true from hs) Bool.false_ne_true
 | byt i =>
  obtain ⟨t, rfl⟩ := rx
  cases y with
  | byt j => obtain ⟨t', rfl⟩ := ry; exact PySem.W.eq_bytes (fin_bl I q dec_byt)
  | _ => exact absurd (show false = true from hs) Bool.false_ne_true
 | _ => cases y <;> exact absurd (show false = true from hs) Bool.false_ne_true
theorem op_ne : OpR X (compareOp .NotEq) rNe := by
 intro pins s σ H x y v u Q I rx ry h
 obtain ⟨hs, q⟩ := h
 cases x with
 | non =>
  cases rx
  cases y with
  | non => cases ry; exact PySem.EqNone.ne_none_none (fin_bl I q (by simp))
  | bl j => cases ry; exact PySem.EqNone.ne_none_bool (fin_bl I q (by simp))
  | int j => obtain ⟨t', rfl⟩ := ry; exact PySem.EqNone.ne_none_int (fin_bl I q (by simp))
  | str j => obtain ⟨t', rfl⟩ := ry; exact PySem.EqNone.ne_none_str (fin_bl I q (by simp))
  | _ => exact absurd (show false = true from hs) Bool.false_ne_true
 | bl i =>
  cases rx
  cases y with
  | non => cases ry; exact PySem.EqNone.ne_bool_none (fin_bl I q (by simp))
  | bl j => cases ry; exact ne_bool (fin_bl I q (congrArg not dec_bl))
  | str j => obtain ⟨t', rfl⟩ := ry; exact PySem.EqMixed.ne_bool_str (fin_bl I q (by simp))
  | _ => exact absurd (show false = true from hs) Bool.false_ne_true
 | int i =>
  obtain ⟨t, rfl⟩ := rx
  cases y with
  | non => cases ry; exact PySem.EqNone.ne_int_none (fin_bl I q (by simp))
  | int j => obtain ⟨t', rfl⟩ := ry; exact ne_int (fin_bl I q (congrArg not dec_int))
  | str j => obtain ⟨t', rfl⟩ := ry; exact PySem.EqMixed.ne_int_str (fin_bl I q (by simp))
  | _ => exact absurd (show false = true from hs) Bool.false_ne_true
 | str i =>
  obtain ⟨t, rfl⟩ := rx
  cases y with
  | non => cases ry; exact PySem.EqNone.ne_str_none (fin_bl I q (by simp))
  | bl j => cases ry; exact PySem.EqMixed.ne_str_bool (fin_bl I q (by simp))
  | int j => obtain ⟨t', rfl⟩ := ry; exact PySem.EqMixed.ne_str_int (fin_bl I q (by simp))
  | str j => obtain ⟨t', rfl⟩ := ry; exact ne_str (fin_bl I q (congrArg not dec_str))
  | _ => exact absurd (show false = true from hs) Bool.false_ne_true
 | byt i =>
  obtain ⟨t, rfl⟩ := rx
  cases y with
  | byt j => obtain ⟨t', rfl⟩ := ry; exact PySem.W.ne_bytes (fin_bl I q (congrArg not dec_byt))
  | _ => exact absurd (show false = true from hs) Bool.false_ne_true
 | _ => cases y <;> exact absurd (show false = true from hs) Bool.false_ne_true
theorem op_lt : OpR X (compareOp .Lt) (rI0 fun i j => .bl (decide (i < j))) := opB0 fun _ _ _ _ _ _ _ q => lt_int q
theorem op_le : OpR X (compareOp .LtE) (rI0 fun i j => .bl (decide (i ≤ j))) := opB0 fun _ _ _ _ _ _ _ q => le_int q
theorem op_gt : OpR X (compareOp .Gt) (rI0 fun i j => .bl (decide (j < i))) := opB0 fun _ _ _ _ _ _ _ q => gt_int q
theorem op_ge : OpR X (compareOp .GtE) (rI0 fun i j => .bl (decide (j ≤ i))) := opB0 fun _ _ _ _ _ _ _ q => ge_int q
theorem op_notN : OpR X (compareOp .IsNot) (fun x y H Q => y = .non ∧ Q (.bl (!decide (x = .non))) H) := by
 intro pins s σ H x y v u Q I rx ry h
 obtain ⟨rfl, q⟩ := h
 cases ry
 refine isnot_none_gen (fin_bl I q ?_)
 cases x <;> first
  | (cases rx; rfl)
  | (obtain ⟨t, rfl⟩ := rx; rfl)
theorem nomark (b : Expr) {op : CmpOp} (h : op ≠ .In := by decide) (h2 : op ≠ .NotIn := by decide) : behindInMarks op b = false := by
 have e1 : (op == CmpOp.In) = false := by cases op <;> first | rfl | exact absurd rfl h
 have e2 : (op == CmpOp.NotIn) = false := by cases op <;> first | rfl | exact absurd rfl h2
 cases b <;> simp [behindInMarks, e1, e2]
theorem pe_cmpR {op : CmpOp} {r : R2} (ho : OpR X (compareOp op) r) (ha : PE X a ta) (hb : PE X b tb) (hm : behindInMarks op b = false) : PE X (.Compare a [op] [b] pos) (tOp r ta tb) := by
 intro pins s σ H Q I h
 exact wpAny_Compare1 (binT ha hb I h fun v u s2 x y H2 I2 rx ry q => ho pins s2 σ H2 x y v u Q I2 rx ry q) hm
def tTest (t : TE) : TT := fun σ H Q => t σ H fun x H' => ∃ k, x = .bl k ∧ Q k H'
theorem pt_cmpR {op : CmpOp} {r : R2} (ho : OpR X (compareOp op) r) (ha : PE X a ta) (hb : PE X b tb) (hm : behindInMarks op b = false) : PT X (.Compare a [op] [b] pos) (tTest (tOp r ta tb)) := by
 intro pins s σ H Q I h
 refine wpAny_isTrue_Compare1 (thn (ha pins s σ H _ I h) fun v s1 ⟨x, H1, I1, r1, q1⟩ => thn (hb pins s1 σ H1 _ I1 q1) fun u s2 ⟨y, H2, I2, r2, q2⟩ =>
  thn (ho pins s2 σ H2 x y v u _ I2 r1 r2 q2) fun c s3 ⟨z, H3, I3, r3, k, e, q3⟩ => ?_) hm
 subst e
 cases r3
 exact wpAny_truthy_bool ⟨H3, I3, q3⟩
def tChain (r r' : R2) (ta tb tc : TE) : TE := fun σ H Q => ta σ H fun x H1 => tb σ H1 fun y H2 => r x y H2 fun z H3 => ∃ k, z = .bl k ∧
 (if k = true then tc σ H3 fun w' H4 => r' y w' H4 Q else Q (.bl false) H3)
theorem pe_chain {op op' : CmpOp} {r r' : R2} (ho : OpR X (compareOp op) r) (ho' : OpR X (compareOp op') r') (ha : PE X a ta) (hb : PE X b tb) (hc : PE X c tc)
  (hm : lastMarks [op, op'] [b, c] = false := by with_unfolding_all rfl) : PE X (.Compare a [op, op'] [b, c] pos) (tChain r r' ta tb tc) := by
 intro pins s σ H Q I h
 refine Compare_chain (thn (ha pins s σ H _ I h) fun v s1 ⟨x, H1, I1, r1, q1⟩ => chain_link (thn (hb pins s1 σ H1 _ I1 q1) fun u s2 ⟨y, H2, I2, r2, q2⟩ =>
  thn (ho pins s2 σ H2 x y v u _ I2 r1 r2 q2) fun d s3 ⟨z, H3, I3, r3, k, e, q3⟩ => ?_)) hm
 subst e
 cases r3
 refine wpAny_truthy_bool ?_
 cases k with
 | false => exact ite_ff ⟨.bl false, H3, I3, rfl, q3⟩
 | true => exact ite_tt (chain_last (thn (hc pins s3 σ H3 _ I3 q3) fun w' s4 ⟨z', H4, I4, r4, q4⟩ => ho' pins s4 σ H4 y z' u w' Q I4 r2 r4 q4))
theorem pt_chain {op op' : CmpOp} {r r' : R2} (ho : OpR X (compareOp op) r) (ho' : OpR X (compareOp op') r') (ha : PE X a ta) (hb : PE X b tb) (hc : PE X c tc)
  (hm : lastMarks [op, op'] [b, c] = false := by with_unfolding_all rfl) : PT X (.Compare a [op, op'] [b, c] pos) (tTest (tChain r r' ta tb tc)) := by
 intro pins s σ H Q I h
 refine isTrue_chain (thn (ha pins s σ H _ I h) fun v s1 ⟨x, H1, I1, r1, q1⟩ => test_link (thn (hb pins s1 σ H1 _ I1 q1) fun u s2 ⟨y, H2, I2, r2, q2⟩ =>
  thn (ho pins s2 σ H2 x y v u _ I2 r1 r2 q2) fun d s3 ⟨z, H3, I3, r3, k, e, q3⟩ => ?_)) hm
 subst e
 cases r3
 refine wpAny_truthy_bool ?_
 cases k with
 | false =>
  obtain ⟨k', e', q'⟩ := q3
  cases e'
  exact ite_ff ⟨H3, I3, q'⟩
 | true =>
  refine ite_tt (test_last (thn (hc pins s3 σ H3 _ I3 q3) fun w' s4 ⟨z', H4, I4, r4, q4⟩ => thn (ho' pins s4 σ H4 y z' u w' _ I4 r2 r4 q4) fun d' s5 ⟨z2, H5, I5, r5, k2, e2, q5⟩ => ?_))
  subst e2
  cases r5
  exact wpAny_truthy_bool ⟨H5, I5, q5⟩
theorem line63 : (sizeLine : Nat) < 2 ^ 63 := by rw [sizeLine_eq]; decide
theorem vals1 {x : V} {us : List Value} (r : Vals [x] us) : ∃ u, us = [u] ∧ RelV x u := by
 cases r with
 | cons r1 r2 => cases r2; exact ⟨_, rfl, r1⟩
theorem vals2 {x y : V} {us : List Value} (r : Vals [x, y] us) : ∃ u w', us = [u, w'] ∧ RelV x u ∧ RelV y w' := by
 cases r with
 | cons r1 r2 =>
  cases r2 with
  | cons r3 r4 => cases r4; exact ⟨_, _, rfl, r1, r3⟩
theorem call_max2 (hc : X.calm = true) : CallR X (.builtin "max") (fun xs H Q => ∃ i j, xs = [.int i, .int j] ∧ Q (.int (if j > i then j else i)) H) := by
 intro pins s σ H xs us Q I r h
 obtain ⟨i, j, rfl, q⟩ := h
 obtain ⟨u, w', rfl, ⟨t, rfl⟩, ⟨t', rfl⟩⟩ := vals2 r
 refine max_two_ints (I.ok.hd hc) fun h' tk k => ⟨_, H, I.kept k, ?_, q⟩
 by_cases hj : j > i
 ·rw [if_pos hj, if_pos hj]; exact ⟨_, rfl⟩
 ·rw [if_neg hj, if_neg hj]; exact ⟨_, rfl⟩
theorem call_int1 : CallR X (.type "int") (fun xs H Q => (∃ i, xs = [.int i] ∧ Q (.int i) H) ∨ ∃ k, xs = [.bl k] ∧ Q (.int (if k then 1 else 0)) H) := by
 intro pins s σ H xs us Q I r h
 rcases h with ⟨i, rfl, q⟩ | ⟨k, rfl, q⟩
 ·obtain ⟨u, rfl, t, rfl⟩ := vals1 r
  exact call_int_int ⟨.int i, H, I, ⟨_, rfl⟩, q⟩
 ·obtain ⟨u, rfl, r1⟩ := vals1 r
  cases r1
  exact call_int_bool ⟨.int (if k then 1 else 0), H, I.tok _, ⟨_, rfl⟩, q⟩
end
end L2
namespace L2
open PySem PySem.Spec PyProof.Rows
structure ObjM (h : Heap) (x dx C : Addr) (mA : Str → Option Value) : Prop where
 obj : h.get? x = some (PySem.W.instObj C dx)
 ns : h.Ns1 dx mA
 ne : dx ≠ x
theorem lookIn_ns {h : Heap} {dx : Addr} {mA : Str → Option Value} (n : h.Ns1 dx mA) : ∃ od, h.get? dx = some od ∧ ∀ name, PySem.W.lookIn name od = some (mA name) := by
 obtain ⟨o, es, ep, ho, hd, hk, _, hm⟩ := n
 refine ⟨o, ho, fun name => ?_⟩
 have e := hm name
 unfold nsFind findBy at e
 rw [← Array.find?_toList] at e
 unfold PySem.W.lookIn
 rw [hd]
 dsimp only
 split
 ·rename_i y q
  rw [q] at e
  exact congrArg some e
 ·rename_i q
  rw [q] at e
  have a : es.toList.any (·.refKey) = false := by
   rw [List.any_eq_false]
   intro y hy
   obtain ⟨z, t, hkey⟩ := hk y (Array.mem_toList_iff.mp hy)
   simp [DictEntry.refKey, hkey]
  have a' : ¬ es.toList.any (·.refKey) = true := by rw [a]; exact Bool.false_ne_true
  rw [if_neg a']
  exact congrArg some e
theorem ObjM.look {h : Heap} {x dx C : Addr} {mA : Str → Option Value} (I : ObjM h x dx C mA) : ∃ od, PySem.W.InstAt h x (PySem.W.instObj C dx) C (some od) ∧ ∀ name, PySem.W.lookIn name od = some (mA name) :=
 let ⟨od, ho, hl⟩ := lookIn_ns I.ns
 ⟨od, ⟨I.obj, rfl, rfl, ho⟩, hl⟩
section
variable {prog : Program} {w : World} {A : Around} {E : Value → Shared → Prop} {s : Shared} {K : PySem.W.Frag} {x dx C f : Addr} {mA : Str → Option Value} {name : Str} {v : Value}
end
section
variable {P : Program} {w : World} {H H' : Hp} {h h' : Heap} {a C dx : Addr} {fs fs' : List (Str × V)}
theorem ins_get (hok : HOk P w H h) (e : H a = some (.ins C dx fs)) : ∃ mA, ObjM h a dx C mA ∧ (∀ f, RelO (fs.lookup f) (mA f)) ∧ PySem.Within mA (fs.map (·.1)) ∧ fs.length ≤ 1000 ∧ H dx = some (.own a) := by
 obtain ⟨d, z, ne, ob, mA, n, r, q⟩ := (show ObjOk P w H h a (.ins C dx fs) from hok a _ e)
 exact ⟨mA, ⟨ob, n, ne⟩, r, q, z, d⟩
end
structure Cls (K : PySem.W.Frag) (C : Addr) : Prop where
 pg : PySem.W.plainGet K C Str.empty = true
 hd : PySem.W.hasDictIn K C = true
 po : PySem.W.plainOver K C = true
 sa : PySem.W.findIn K (.ref C) "__setattr__" = some (some (.builtin "object.__setattr__"))
theorem Cls.get {K : PySem.W.Frag} {C : Addr} (c : Cls K C) (f : Str) : PySem.W.plainGet K C f = true := c.pg
section
variable {X : Cx} {pins : List (Addr × Obj)} {σ : St} {H : Hp} {s : Shared} {a C dx : Addr} {fs : List (Str × V)} {f : Str} {v : V} {A : Around} {E : Value → Shared → Prop}
end
section
variable {X : Cx} {o e value : Expr} {f : Str} {pos pos' tpos : Pos} {ta tv : TE}
end
section
variable {X : Cx} {pins : List (Addr × Obj)} {σ : St} {H : Hp} {s : Shared} {A : Around} {E : Value → Shared → Prop} {Q : Value → Shared → Prop} {c : Value} {b : Bool}
inductive TyOf (K : PySem.W.Frag) (H : Hp) : V → Value → Prop where
 | non : TyOf K H .non (.type "NoneType")
 | bl (x : Bool) : TyOf K H (.bl x) (.type "bool")
 | int (i : Int) : TyOf K H (.int i) (.type "int")
 | str (x : Str) : TyOf K H (.str x) (.type "str")
 | flt (x : UInt64) : TyOf K H (.flt x) (.type "float")
 | lst {a : Addr} {xs : List V} (e : H a = some (.lst xs)) : TyOf K H (.ref a) (.type "list")
 | frz {a : Addr} {o : Obj} {xs : List V} (e : H a = some (.frz o (.lst xs))) : TyOf K H (.ref a) (.type "list")
 | tup {a : Addr} {xs : List V} (e : H a = some (.tup xs)) : TyOf K H (.ref a) (.type "tuple")
 | dK {a : Addr} {kvs : List (Key × V)} (e : H a = some (.dK kvs)) : TyOf K H (.ref a) (.type "dict")
 | dT {a : Addr} {kvs : List (List Key × V)} (e : H a = some (.dT kvs)) : TyOf K H (.ref a) (.type "dict")
 | ins {a C dx : Addr} {fs : List (Str × V)} (e : H a = some (.ins C dx fs)) (cl : Cls K C) (ha : PySem.W.findIn K (.ref C) "__class__" = some (some (.builtin "object.__class__")))
   (hn : PySem.W.specialIn K (.builtin "object.__class__") "__get__" = some (some (.builtin "getset_descriptor.__get__"))) (htk : PySem.W.takesIn K (.builtin "object.__class__") = some true)
   (hm : PySem.W.mroIn K C (.type "object") = some true) : TyOf K H (.ref a) (.ref C)
theorem isinst_ok {x : V} {u t : Value} (I : Inv X pins σ H s) (rx : RelV x u) (ty : TyOf X.K H x t) (e : PySem.W.kitOne X.K t c = some b) (h : ∀ tk, Q (.bool b) { s with toks := tk }) :
  wpAny (model X.prog X.w) A (call (.builtin "isinstance") [u, c]) Q E s := by
 cases ty with
 | non => cases (show u = Value.none from rx); exact PySem.W.kia_one PySem.W.kitx_none I.kIn True.intro e (fun z => nomatch z) h
 | bl y => cases (show u = Value.bool y from rx); exact PySem.W.kia_one PySem.W.kitx_bool I.kIn True.intro e (fun z => nomatch z) h
 | int i => obtain ⟨t, q⟩ := (show ∃ t, u = Value.int i t from rx); cases q; exact PySem.W.kia_one PySem.W.kitx_int I.kIn True.intro e (fun z => nomatch z) h
 | str y => obtain ⟨t, q⟩ := (show ∃ t, u = Value.str y t from rx); cases q; exact PySem.W.kia_one PySem.W.kitx_str I.kIn True.intro e (fun z => nomatch z) h
 | flt y => obtain ⟨t, q⟩ := (show ∃ t, u = Value.float y t from rx); cases q; exact PySem.W.kia_one PySem.W.kitx_float I.kIn True.intro e (fun z => nomatch z) h
 | @lst a xs ea =>
  cases (show u = Value.ref a from rx)
  obtain ⟨_, _, n, _, h1⟩ := (show ObjOk X.prog X.w H s.heap a (.lst xs) from I.hok a _ ea)
  exact PySem.W.kia_one PySem.W.kitx_list I.kIn ⟨_, h1, rfl⟩ e (fun z => nomatch z) h
 | @frz a ob xs ea =>
  cases (show u = Value.ref a from rx)
  obtain ⟨_, _, _, n, _, h1⟩ := (show ObjOk X.prog X.w H s.heap a (.frz ob (.lst xs)) from I.hok a _ ea)
  exact PySem.W.kia_one PySem.W.kitx_list I.kIn ⟨_, h1, rfl⟩ e (fun z => nomatch z) h
 | @tup a xs ea =>
  cases (show u = Value.ref a from rx)
  obtain ⟨_, _, _, p, _⟩ := (show ObjOk X.prog X.w H s.heap a (.tup xs) from I.hok a _ ea)
  obtain ⟨o, h1, h2, _⟩ := p
  exact PySem.W.kia_one PySem.W.kitx_tuple I.kIn ⟨o, h1, h2⟩ e (fun z => nomatch z) h
 | @dK a kvs ea =>
  cases (show u = Value.ref a from rx)
  obtain ⟨_, _, vs, _, p⟩ := (show ObjOk X.prog X.w H s.heap a (.dK kvs) from I.hok a _ ea)
  obtain ⟨o, es, ep, h1, h2, _⟩ := p
  exact PySem.W.kia_one PySem.W.kitx_dict I.kIn ⟨o, h1, h2.1⟩ e (fun z => nomatch z) h
 | @dT a kvs ea =>
  cases (show u = Value.ref a from rx)
  obtain ⟨_, _, xs, _, o, es, ep, h1, h2, _⟩ := (show ObjOk X.prog X.w H s.heap a (.dT kvs) from I.hok a _ ea)
  exact PySem.W.kia_one PySem.W.kitx_dict I.kIn ⟨o, h1, h2.1⟩ e (fun z => nomatch z) h
 | @ins a C dx fs ea cl ha hn htk hm =>
  cases (show u = Value.ref a from rx)
  obtain ⟨mA, O, _⟩ := ins_get I.hok ea
  obtain ⟨od, J, _⟩ := O.look
  exact PySem.W.kia_one (PySem.W.kitx_own (cl.get _) cl.hd ha hn htk hm) I.kIn J e (fun z => nomatch z) h
end
end L2
namespace L2
open PySem PySem.Spec PyProof.Rows
structure Room (k : Nat) (A : Around) : Prop where
 hd : A.handled = none
 dp : A.depth + 3 * k + 5 < recursionLimit
 un : A.units + 16 * k + 200 < cLine
theorem Room.mono {j k : Nat} {A : Around} (r : Room k A) (h : j ≤ k) : Room j A := ⟨r.hd, by have := r.dp; omega, by have := r.un; omega⟩
theorem Room.deeper {k : Nat} {A : Around} (r : Room (k + 1) A) (env : Env) : Room k (A.deeper env) :=
 ⟨r.hd, by have := r.dp; show A.depth + 1 + 3 * k + 5 < _; omega, by have := r.un; show A.units + 3 + 16 * k + 200 < _; omega⟩
theorem Room.depth {k : Nat} {A : Around} (r : Room k A) : A.depth < recursionLimit := by have := r.dp; omega
theorem Room.units {k : Nat} {A : Around} (r : Room k A) : A.units + 64 < cLine := by have := r.un; omega
def tNil : TA := fun _ H Q => Q [] H
def tCons (ta : TE) (tr : TA) : TA := fun σ H Q => ta σ H fun x H1 => tr σ H1 fun xs H2 => Q (x :: xs) H2
section
variable {X : Cx} {e : Expr} {es : List Expr} {te : TE} {t : TA} {pos : Pos}
theorem pa_nil : PA X [] tNil := fun _ _ _ _ H Q I h => Calls.spliced_nil ⟨[], H, I, .nil, h⟩
theorem pa_cons (ha : PE X e te) (hr : PA X es t) (hs : starEach (e :: es) X.env = (false, eval e X.env) :: starEach es X.env := by rfl) : PA X (e :: es) (tCons te t) := by
 intro pos pins s σ H Q I h
 rw [hs]
 show wpAny _ _ (spliced ((false, eval e X.env) :: backTo pos (starEach es X.env))) _ _ s
 refine Calls.spliced_cons (thn (ha pins s σ H _ I h) fun u s1 ⟨x, H1, I1, r1, q1⟩ => ?_)
 exact thn (hr pos pins s1 σ H1 _ I1 q1) fun us s2 ⟨xs, H2, I2, r2, q2⟩ => ⟨x :: xs, H2, I2, .cons r1 r2, q2⟩
def tTup (t : TA) : TE := fun σ H Q => t σ H fun xs H1 => xs.length ≤ sizeLine ∧ ∀ p, H1 p = none → Q (.ref p) (upd H1 p (.tup xs))
def tLst (t : TA) : TE := fun σ H Q => t σ H fun xs H1 => xs.length ≤ sizeLine ∧ ∀ p, H1 p = none → Q (.ref p) (upd H1 p (.lst xs))
theorem pe_tup {x1} (h : PA X es t) : PE X (.Tuple es x1 pos) (tTup t) := by
 intro pins s σ H Q I hq
 refine wpAny_Tuple_spliced (thn (h pos pins s σ H _ I hq) fun us s1 ⟨xs, H1, I1, r, z, q⟩ => ⟨by rw [← r.length]; exact z, ?_⟩)
 have hf : H1 s1.heap.objs.size = none := I1.hok.fresh (Nat.le_refl _)
 refine ⟨.ref s1.heap.objs.size, upd H1 s1.heap.objs.size (.tup xs), I1.laid (t' := s1.toks) (fun b u e => Heap.get?_push_of_some _ e) (Nat.le_refl _) ?_, rfl, q _ hf⟩
 exact ⟨z, us, r, ⟨_, Heap.get?_push_size _ rfl, rfl, _, rfl⟩, _, Heap.get?_push_size _ rfl, rfl⟩
theorem pe_lst (h : PA X es t) : PE X (.List es pos) (tLst t) := by
 intro pins s σ H Q I hq
 refine wpAny_List_spliced (thn (h pos pins s σ H _ I hq) fun us s1 ⟨xs, H1, I1, r, z, q⟩ => ⟨by rw [← r.length]; exact z, ?_⟩)
 have hf : H1 s1.heap.objs.size = none := I1.hok.fresh (Nat.le_refl _)
 refine ⟨.ref s1.heap.objs.size, upd H1 s1.heap.objs.size (.lst xs), I1.laid (t' := s1.toks) (fun b u e => Heap.get?_push_of_some _ e) (Nat.le_refl _) ?_, rfl, q _ hf⟩
 exact ⟨z, us, 0, r, Heap.get?_push_size _ rfl⟩
end
abbrev Sp := List V → Hp → VK → XK → Prop
abbrev CXT := List Env → Hp → Shared → XK → Value → Shared → Prop
structure Env0 (P : Program) (w : World) (K : PySem.W.Frag) (mg : Str → Option Value) (base : Heap) (A : Around) (outer : List Env) (s : Shared) (H : Hp) : Prop where
 frames : A.frames = some outer
 mod : Mod K mg base
 bs : ∀ b o, base.get? b = some o → s.heap.get? b = some o ∧ H b = none
 bsz : base.objs.size ≤ s.heap.objs.size
 funs : s.heap.FunFrames base outer
 frf : ∀ b ∈ frs outer, H b = none
 hok : HOk P w H s.heap
 bare : AllBare s.gens
def CE (outer : List Env) (P : Program) (w : World) (H : Hp) (s : Shared) (Q : VK) (u : Value) (s' : Shared) : Prop :=
 ∃ v H', s'.os = s.os ∧ AllBare s'.gens ∧ Un (frs outer) [] H H' s.heap s'.heap ∧ HOk P w H' s'.heap ∧ RelV v u ∧ Q v H'
def CR (CX : CXT) (outer : List Env) (P : Program) (w : World) (H : Hp) (s : Shared) (Q : VK) (E : XK) (r : Result) (s' : Shared) : Prop :=
 match r with
 | .ok (.ret u) => CE outer P w H s Q u s'
 | .ok _ => False
 | .error e => CX outer H s E e s'
structure FnOk (P : Program) (w : World) (K : PySem.W.Frag) (mg : Str → Option Value) (base : Heap) (CX : CXT) (k : Nat) (f : Addr) (fd : FuncData) (ps : List Str) (sp : Sp) : Prop where
 len : ∀ vs H Q E, sp vs H Q E → vs.length = ps.length
 run : ∀ (A : Around) (outer : List Env) (s : Shared) (H : Hp) (args : Args) (us : List Value) (vs : List V) (Q : VK) (E : XK), Room k A → Env0 P w K mg base A outer s H → BindsTo s fd args (ps.zip us) → Vals vs us → sp vs H Q E →
  codeAny (model P w) A (.call (.ref f) args) (CR CX outer P w H s Q E) s
theorem FnOk.mono {P : Program} {w : World} {K : PySem.W.Frag} {mg : Str → Option Value} {base : Heap} {CX : CXT} {j k : Nat} {f : Addr} {fd : FuncData} {ps : List Str} {sp : Sp} (F : FnOk P w K mg base CX j f fd ps sp) (h : j ≤ k) :
  FnOk P w K mg base CX k f fd ps sp := ⟨F.len, fun A outer s H args us vs Q E hr => F.run A outer s H args us vs Q E (hr.mono h)⟩
theorem FnOk.imp {P : Program} {w : World} {K : PySem.W.Frag} {mg : Str → Option Value} {base : Heap} {CX : CXT} {k : Nat} {f : Addr} {fd : FuncData} {ps : List Str} {sp sp' : Sp} (F : FnOk P w K mg base CX k f fd ps sp)
  (h : ∀ vs H Q E, sp' vs H Q E → sp vs H Q E) : FnOk P w K mg base CX k f fd ps sp' :=
 ⟨fun vs H Q E q => F.len vs H Q E (h _ _ _ _ q), fun A outer s H args us vs Q E hr he hb hv hs => F.run A outer s H args us vs Q E hr he hb hv (h _ _ _ _ hs)⟩
section
variable {X : Cx} {pins : List (Addr × Obj)} {σ : St} {H : Hp} {s s' : Shared}
theorem Inv.env0 (I : Inv X pins σ H s) : Env0 X.prog X.w X.K X.mg X.base X.A X.stack s H :=
 ⟨I.ok.frames, I.ok.mod, I.bs, Nat.le_trans I.ok.bsz I.sz, I.stack, I.stkFree, I.hok, I.bare⟩
theorem Inv.after {Q : VK} {u : Value} (I : Inv X pins σ H s) (h : CE X.stack X.prog X.w H s Q u s') : EP X pins σ Q u s' := by
 obtain ⟨v, H', os, bare, un, hok, r, q⟩ := h
 obtain ⟨hh, g, d, t, os'⟩ := s'
 obtain rfl : os' = s.os := os
 exact ⟨v, H', I.call (h' := hh) (g' := g) (d' := d) (t' := t) (ch := []) un hok bare (fun b z => absurd z (by simp)), r, q⟩
end
def tCall (sp : Sp) (dvs : List V) (E : XK) (t : TA) : TE := fun σ H Q => t σ H fun vs H1 => sp (vs ++ dvs) H1 Q E
def Binds (K : PySem.W.Frag) (fd : FuncData) (ps : List Str) (ds : List Value) : Prop :=
 ∀ (s : Shared) (us : List Value), K.In s.heap → (us ++ ds).length = ps.length → BindsTo s fd ⟨us, []⟩ (ps.zip (us ++ ds))
theorem Binds.all {K : PySem.W.Frag} {fd : FuncData} {ps : List Str} (h : ∀ us : List Value, us.length = ps.length → bindArgs fd ⟨us, []⟩ = pure (ps.zip us)) : Binds K fd ps [] := fun s us _ hl => by
 rw [List.append_nil] at hl ⊢
 exact .of_eq (h us hl)
def Passes (CX : CXT) (X : Cx) (E : XK) : Prop := ∀ (pins : List (Addr × Obj)) (σ : St) (H : Hp) (s : Shared) (e : Value) (s' : Shared), Inv X pins σ H s → CX X.stack H s E e s' → X.xe e s'
section
variable {X : Cx} {CX : CXT} {k : Nat} {f C : Addr} {fd : FuncData} {ps : List Str} {sp : Sp} {dvs : List V} {ds : List Value} {E : XK} {x m : Str} {p pos apos : Pos} {e o : Expr} {es : List Expr} {ta : TE} {t : TA}
theorem run_fn {pins : List (Addr × Obj)} {σ : St} {H : Hp} {s : Shared} {Q : VK} {us : List Value} {vs : List V} (F : FnOk X.prog X.w X.K X.mg X.base CX k f fd ps sp) (hr : Room k X.A) (hb : Binds X.K fd ps ds) (hd : Vals dvs ds) (hx : Passes CX X E)
  (I : Inv X pins σ H s) (r : Vals vs us) (h : sp (vs ++ dvs) H Q E) : wpAny (model X.prog X.w) X.A (call (.ref f) us) (EP X pins σ Q) X.xe s := by
 have r2 : Vals (vs ++ dvs) (us ++ ds) := r.append hd
 have hl : (us ++ ds).length = ps.length := by rw [← r2.length]; exact F.len _ _ _ _ h
 refine wpAny_call (codeAny_mono (F.run X.A X.stack s H ⟨us, []⟩ (us ++ ds) (vs ++ dvs) Q E hr I.env0 (hb s us I.kIn hl) r2 h) fun r s' hq => ?_)
 cases r with
 | error e => exact hx pins σ H s e s' I hq
 | ok fl =>
  cases fl with
  | ret u => exact I.after hq
  | next => exact False.elim hq
  | brk => exact False.elim hq
  | cont => exact False.elim hq
theorem pe_call (F : FnOk X.prog X.w X.K X.mg X.base CX k f fd ps sp) (hr : Room k X.A) (hg : Gl X x) (hm : X.mg x = some (.ref f)) (hk : PySem.W.keepIn X.K (.ref f) = true) (hb : Binds X.K fd ps ds) (hd : Vals dvs ds) (hx : Passes CX X E)
  (ha : PA X (e :: es) t) (hdb : (x == ("__debug__" : Str)) = false := by decide) (he : starEach (e :: es) X.env = (false, eval e X.env) :: starEach es X.env := by rfl) (hpl : (backTo pos (starEach es X.env)).any (·.1) = false := by rfl) :
  PE X (.Call (.Name x p) (e :: es) [] pos) (tCall sp dvs E t) := by
 intro pins s σ H Q I h
 refine wpAny_Call_Name_kw (ld_glob I hg hm ?_ hdb)
 refine PySem.W.callWith_K (h₀ := X.base) I.ok.mod.kin hk (thn (ha pos pins s σ H _ I h) fun us s1 ⟨vs, H1, I1, r, q⟩ => ⟨I1.kIn, ?_⟩) he hpl
 exact run_fn F hr hb hd hx I1 r q
end
section
variable {X : Cx} {CX : CXT} {k : Nat} {f C : Addr} {fd : FuncData} {ps ks : List Str} {sp : Sp} {E : XK} {x m : Str} {p pos apos kpos : Pos} {e o : Expr} {es : List Expr} {kws : List Keyword} {te ta : TE} {t tk : TA} {nm : Option Str}
variable {g : List Value → List Value → List Value} {gV : List V → List V → List V}
end
structure FnScope (N P : List Str) (sc : Scope) : Prop where
 kind : sc.kind = .function
 co : sc.isCoroutine = false
 gen : sc.isGenerator = false
 nd : N.Nodup
 pre : N.take P.length = P
 par : ∀ x ∈ P, sc.names.lookup x = some .local ∨ sc.names.lookup x = some .cell
 nofree : ∀ y ∈ sc.names, y.2 ≠ .free
theorem bindL_out {kindOf : Str → Option NameKind} {x : Str} : ∀ {binds : List (Str × Value)} {m : Str → Option Value}, (∀ v, (x, v) ∉ binds) → bindL kindOf binds m x = m x
 | [], _, _ => rfl
 | (n, v) :: r, m, h => by
  unfold bindL
  rw [bindL_out fun w hw => h w (List.mem_cons_of_mem _ hw)]
  split
  ·have : x ≠ n := by rintro rfl; exact h v List.mem_cons_self
   simp [this]
  ·rfl
theorem bindC_out {kindOf : Str → Option NameKind} {x : Str} : ∀ {binds : List (Str × Value)} {m : Str → Option Value}, (∀ v, (x, v) ∉ binds) → bindC kindOf binds m x = m x
 | [], _, _ => rfl
 | (n, v) :: r, m, h => by
  unfold bindC
  rw [bindC_out fun w hw => h w (List.mem_cons_of_mem _ hw)]
  split
  ·rfl
  ·have : x ≠ n := by rintro rfl; exact h v List.mem_cons_self
   simp [this]
theorem bindL_get {kindOf : Str → Option NameKind} {x : Str} {v : Value} : ∀ {P : List Str} {vs : List Value} {i : Nat} {m : Str → Option Value}, P.Nodup → P[i]? = some x → vs[i]? = some v → kindOf x = some .local →
  bindL kindOf (P.zip vs) m x = some v
 | [], _, _, _, _, h, _, _ => by simp at h
 | _ :: _, [], _, _, _, _, h, _ => by simp at h
 | p :: P, w :: vs, 0, m, nd, h1, h2, hk => by
  simp at h1 h2; subst h1; subst h2
  show bindL kindOf ((p, w) :: P.zip vs) m p = _
  unfold bindL
  rw [bindL_out fun v hv => (List.nodup_cons.mp nd).1 (List.of_mem_zip hv).1, if_pos hk]
  simp
 | p :: P, w :: vs, i + 1, m, nd, h1, h2, hk => by
  show bindL kindOf ((p, w) :: P.zip vs) m x = _
  unfold bindL
  exact bindL_get (i := i) (List.nodup_cons.mp nd).2 (by simpa using h1) (by simpa using h2) hk
theorem bindC_get {kindOf : Str → Option NameKind} {x : Str} {v : Value} : ∀ {P : List Str} {vs : List Value} {i : Nat} {m : Str → Option Value}, P.Nodup → P[i]? = some x → vs[i]? = some v → kindOf x ≠ some .local →
  bindC kindOf (P.zip vs) m x = some v
 | [], _, _, _, _, h, _, _ => by simp at h
 | _ :: _, [], _, _, _, _, h, _ => by simp at h
 | p :: P, w :: vs, 0, m, nd, h1, h2, hk => by
  simp at h1 h2; subst h1; subst h2
  show bindC kindOf ((p, w) :: P.zip vs) m p = _
  unfold bindC
  rw [bindC_out fun v hv => (List.nodup_cons.mp nd).1 (List.of_mem_zip hv).1, if_neg hk]
  simp
 | p :: P, w :: vs, i + 1, m, nd, h1, h2, hk => by
  show bindC kindOf ((p, w) :: P.zip vs) m x = _
  unfold bindC
  exact bindC_get (i := i) (List.nodup_cons.mp nd).2 (by simpa using h1) (by simpa using h2) hk
def start (N : List Str) (vs : List V) : St := vs.map some ++ List.replicate (N.length - vs.length) none
def cxOf (CX : CXT) (P : Program) (w : World) (K : PySem.W.Frag) (mg : Str → Option Value) (base : Heap) (N : List Str) (qual : Str) (scope : Scope) (f : Addr) (cd : Value) (A : Around) (outer : List Env) (s : Shared) (H : Hp) (E : XK) : Cx where
 prog := P
 w := w
 K := K
 mg := mg
 base := base
 A := A.deeper (envOfC qual scope s.heap.objs.size f cd)
 N := N
 s₀ := s
 H₀ := H
 env := envOfC qual scope s.heap.objs.size f cd
 outer := outer
 stack := envOfC qual scope s.heap.objs.size f cd :: outer
 ex := []
 calm := true
 fn := fun _ => true
 pn := []
 xe := fun e s' => wpAny (model P w) (A.deeper (envOfC qual scope s.heap.objs.size f cd)) (leaving (envOfC qual scope s.heap.objs.size f cd) e) (fun _ s'' => CX outer H s E e s'') (fun e' s'' => CX outer H s E e' s'') s'
theorem cell_has {sc : Scope} {n : Nat} {x : Str} (h : sc.names.lookup x = some .cell) : ∃ c, (cellsFrom n sc.names []).lookup x = some c := by
 have q := PySem.W.cellsFrom_some sc.names n [] (.inl h)
 exact Option.isSome_iff_exists.mp q
theorem inv_start {CX : CXT} {P : Program} {w : World} {K : PySem.W.Frag} {mg : Str → Option Value} {base : Heap} {N ps : List Str} {qual : Str} {scope : Scope} {f : Addr} {cd : Value} {A : Around} {outer : List Env} {s s1 : Shared} {H : Hp} {E : XK} {us : List Value} {vs : List V}
  (S : FnScope N ps scope) (hd : A.handled = none) (e0 : Env0 P w K mg base A outer s H) (hl : vs.length = ps.length) (r : Vals vs us)
  (x : InCallC s s.heap.objs.size (bindL (envOfC qual scope s.heap.objs.size f cd).kindOf (ps.zip us) fun _ => none) (cellsFrom (s.heap.objs.size + 1) scope.names []) (bindC (envOfC qual scope s.heap.objs.size f cd).kindOf (ps.zip us) fun _ => none) s1) :
  Inv (cxOf CX P w K mg base N qual scope f cd A outer s H E) [] (start N vs) H s1 := by
 have hpl : ps.length ≤ N.length := by have := congrArg List.length S.pre; rw [List.length_take] at this; omega
 obtain ⟨h1, tk, rfl, hk⟩ := x.done
 have noA : ∀ b : Addr, b ∉ (cxOf CX P w K mg base N qual scope f cd A outer s H E).ex := fun b z => absurd (show b ∈ ([] : List Addr) from z) (by simp)
 refine ⟨⟨e0.mod, S.kind, rfl, rfl, Nat.le_refl _, fun y z c h1 h2 => ?_, fun y hy => ?_, fun y c _ h => ?_, fun _ => hd, Around.frames_deeper e0.frames, .inr ⟨rfl, rfl⟩, fun b z => absurd z (noA b), e0.bs, e0.bsz, fun b _ _ => noA b, fun b z => absurd z (noA b), e0.funs, e0.frf⟩,
  rfl, e0.bare, Un.kept hk, ⟨_, x.toInCall.ns, fun i y v h1 h2 h3 => ?_⟩, fun y c h => ⟨_, x.cell y c h⟩, e0.hok.fresh (Nat.le_refl _), fun y c h => ?_, fun p hp => absurd (show p ∈ ([] : List (Addr × Obj)) from hp) (by simp), e0.hok.kept hk, ?_⟩
 ·exact name_of_addr x.apart (PySem.mem_of_lookup h1) (PySem.mem_of_lookup h2)
 ·have hy : scope.names.lookup y = some .cell ∨ scope.names.lookup y = some .free := hy
  rcases hy with hy | hy
  ·exact cell_has hy
  ·exact absurd rfl (S.nofree _ (PySem.mem_of_lookup hy))
 ·exact Nat.le_of_lt (x.above y c (PySem.mem_of_lookup h))
 ·have hi : i < vs.length := by
   unfold start at h2
   by_cases hi : i < vs.length
   ·exact hi
   ·rw [List.getElem?_append_right (by simpa using hi)] at h2
    rw [List.getElem?_replicate] at h2
    split at h2 <;> cases h2
  have ha : vs[i]? = some v := by
   unfold start at h2
   rw [List.getElem?_append_left (by simpa using hi), List.getElem?_map] at h2
   cases e : vs[i]? with
   | none => rw [e] at h2; cases h2
   | some a => rw [e] at h2; cases h2; rfl
  obtain ⟨u, hu, rv⟩ := r.get ha
  have hp : ps[i]? = some y := by
   rw [← S.pre, List.getElem?_take_of_lt (by omega)]; exact h1
  have ndP : ps.Nodup := by rw [← S.pre]; exact S.nd.sublist (List.take_sublist _ _)
  refine ⟨u, rv, ?_⟩
  rcases S.par y (List.mem_of_getElem? hp) with k | k
  ·exact .inl ⟨k, bindL_get ndP hp hu k⟩
  ·obtain ⟨c, e⟩ := cell_has (n := s.heap.objs.size + 1) k
   refine .inr ⟨.inl k, c, e, ?_⟩
   have q := x.cell y c e
   rw [bindC_get ndP hp hu (by show scope.names.lookup y ≠ _; rw [k]; decide)] at q
   exact q
 ·exact e0.hok.fresh (Nat.le_of_lt (x.above y c (PySem.mem_of_lookup h)))
 ·unfold start
  show _ = N.length
  rw [List.length_append, List.length_map, List.length_replicate]
  omega
theorem fn_of {CX : CXT} {P : Program} {w : World} {K : PySem.W.Frag} {mg : Str → Option Value} {base : Heap} {k : Nat} {f : Addr} {name qual : Str} {params : Arguments} {body : List Stmt} {scope : Scope} {dV kV doc pm cdv ct oc : Value} {an od : Option Addr}
  {osl : Array (Option Value)} {N ps : List Str} {sp : Sp} (lk : K.lookup f = some ⟨oc, od, .func (PySem.W.fnOf name qual params body scope dV kV doc pm an cdv ct), osl⟩) (hcd : PySem.W.codeIn K cdv qual = true) (S : FnScope N ps scope)
  (len : ∀ vs H Q E, sp vs H Q E → vs.length = ps.length)
  (hbody : ∀ (A : Around) (outer : List Env) (s : Shared) (H : Hp) (vs : List V) (Q : VK) (E : XK), Room k (A.deeper (envOfC qual scope s.heap.objs.size f cdv)) → sp vs H Q E →
   ∃ t, PSs (cxOf CX P w K mg base N qual scope f cdv A outer s H E) body t ∧ t { nx := fun _ H' => Q .non H', rt := Q } (start N vs) H) :
  FnOk P w K mg base CX (k + 1) f (PySem.W.fnOf name qual params body scope dV kV doc pm an cdv ct) ps sp := by
 refine ⟨len, fun A outer s H args us vs Q E hr e0 hb r hsp => ?_⟩
 have hl := len _ _ _ _ hsp
 have KX : K.In s.heap := e0.mod.kin.keeps fun b o e => (e0.bs b o e).1
 have lim : s.heap.NoLimit := e0.mod.nolimit.keeps fun b o e => (e0.bs b o e).1
 have hkind : ∀ y ∈ ps.zip us, scope.names.lookup y.1 = some .local ∨ (scope.names.lookup y.1 = some .cell ∧ ((cellsFrom (s.heap.objs.size + 1) scope.names []).lookup y.1).isSome = true) := fun ⟨n, v⟩ hy => by
  rcases S.par n (List.of_mem_zip hy).1 with q | q
  ·exact .inl q
  ·exact .inr ⟨q, PySem.W.cellsFrom_some _ _ _ (.inl q)⟩
 refine codeAny_call_function hr.depth (KX _ _ lk) rfl S.co S.gen rfl (PySem.W.codeRec_of KX hcd) (hb _ _ _ _ ?_)
 refine wpAny_newFunctionEnv_cells S.kind hkind fun env he s1 x => ?_
 subst he
 refine ⟨lim.keeps x.toInCall.keep, codeAny_func ?_⟩
 obtain ⟨t, ht, hq⟩ := hbody A outer s H vs Q E (hr.deeper _) hsp
 have I : Inv (cxOf CX P w K mg base N qual scope f cdv A outer s H E) [] (start N vs) H s1 := inv_start S hr.hd e0 hl r x
 refine wpAny_mono (ht [] s1 (start N vs) H _ I hq) (fun fl s' hs => ?_) fun e s' hs => hs
 have fin : ∀ {σ' : St} {H' : Hp} {v : V} {u : Value}, Inv (cxOf CX P w K mg base N qual scope f cdv A outer s H E) [] σ' H' s' → RelV v u → Q v H' → CE outer P w H s Q u s' :=
  fun {σ' H' v u} J rv q => ⟨v, H', J.os, J.bare, J.base, J.hok, rv, q⟩
 cases fl with
 | ret u =>
  obtain ⟨v, σ', H', J, rv, q⟩ := hs
  exact fin J rv q
 | next =>
  obtain ⟨σ', H', J, q⟩ := hs
  exact fin (v := V.non) (u := Value.none) J rfl q
 | brk =>
  obtain ⟨_, _, _, q⟩ := hs
  exact False.elim q
 | cont =>
  obtain ⟨_, _, _, q⟩ := hs
  exact False.elim q
end L2
namespace L2
open PySem PySem.Spec PyProof.Rows
section
variable {X : Cx} {x : Str} {p pos : Pos} {e : Expr} {es : List Expr} {t : TA} {id T : String} {r : List V → Hp → VK → Prop}
def tCB (r : List V → Hp → VK → Prop) (t : TA) : TE := fun σ H Q => t σ H fun vs H1 => r vs H1 Q
theorem pe_callB (hc : CallR X (.builtin id) r) (hg : Gl X x) (hm : X.mg x = none) (hv : bootBuiltins x = some (.builtin id)) (ha : PA X (e :: es) t) (hn : x ≠ "__name__" := by decide) (hdb : (x == ("__debug__" : Str)) = false := by decide)
  (he : starEach (e :: es) X.env = (false, eval e X.env) :: starEach es X.env := by rfl) (hpl : (backTo pos (starEach es X.env)).any (·.1) = false := by rfl) : PE X (.Call (.Name x p) (e :: es) [] pos) (tCB r t) := by
 intro pins s σ H Q I h
 refine wpAny_Call_Name_kw (ld_blt I hg hm hv ?_ hn hdb)
 exact PyProof.Rows.callWith_builtin1 (thn (ha pos pins s σ H _ I h) fun us s1 ⟨vs, H1, I1, r1, q1⟩ => hc pins s1 σ H1 vs us Q I1 r1 q1) he hpl
theorem pe_callTy (hc : CallR X (.type T) r) (hg : Gl X x) (hm : X.mg x = none) (hv : bootBuiltins x = some (.type T)) (ha : PA X (e :: es) t) (hn : x ≠ "__name__" := by decide) (hdb : (x == ("__debug__" : Str)) = false := by decide)
  (he : starEach (e :: es) X.env = (false, eval e X.env) :: starEach es X.env := by rfl) (hpl : (backTo pos (starEach es X.env)).any (·.1) = false := by rfl) : PE X (.Call (.Name x p) (e :: es) [] pos) (tCB r t) := by
 intro pins s σ H Q I h
 refine wpAny_Call_Name_kw (ld_blt I hg hm hv ?_ hn hdb)
 exact PyProof.Rows.callWith_type1 (thn (ha pos pins s σ H _ I h) fun us s1 ⟨vs, H1, I1, r1, q1⟩ => hc pins s1 σ H1 vs us Q I1 r1 q1) he hpl
end
end L2
namespace HT
open PySem PyProof.Rows
section
open PySem.SeqAt
open PySem.AutoSeq1 (wpAny_loadPart')
open PySem.MeetsSeq PySem.MeetsSeq2 PySem.MeetsSeq3
end
section
variable {prog : Program} {w : World} {A : Around} {E : Value → Shared → Prop} {s : Shared}
theorem cat_tup {t b : Addr} {vs ws : List Value} {Q : Value → Shared → Prop} (ht : IsTup s.heap t vs.toArray) (hb : IsTup s.heap b ws.toArray) (hv : vs ≠ [])
  (h1 : ws = [] → Q (.ref t) s) (h2 : ws ≠ [] → Q (.ref s.heap.objs.size) { s with heap := s.heap.push { cls := .type "tuple", data := .seq (vs ++ ws).toArray } })
  (hsz : vs.length + ws.length ≤ sizeLine) : wpAny (model prog w) A (binaryOp .Add (.ref t) (.ref b)) Q E s := by
 obtain ⟨⟨cls, dd, data, sl⟩, ho, hc, n, hd⟩ := id ht
 obtain ⟨⟨cls2, dd2, data2, sl2⟩, ho2, hc2, n2, hd2⟩ := id hb
 simp only at hc hd hc2 hd2
 subst hc hd hc2 hd2
 have e : vs.toArray ++ ws.toArray = (vs ++ ws).toArray := by simp
 by_cases hw : ws = []
 ·exact concat_meets ⟨_, ho, rfl⟩ ⟨_, ho2, rfl⟩ noFill_tuple_add seq_tuple_add PySem.F.slot_tuple_add PySem.F.entry_tuple_add (PySem.F.args_tuple_add_2 _ _)
   (tuple_addW1 t b vs.toArray ws.toArray n n2 dd dd2 sl sl2 (by simpa using hv) (by simp [hw])) ⟨ho, ho2, h1 hw⟩
 ·refine concat_meets ⟨_, ho, rfl⟩ ⟨_, ho2, rfl⟩ noFill_tuple_add seq_tuple_add PySem.F.slot_tuple_add PySem.F.entry_tuple_add (PySem.F.args_tuple_add_2 _ _)
   (tuple_addW2 t b vs.toArray ws.toArray n n2 dd dd2 sl sl2 (by simpa using hv) (by simpa using hw) (by rw [List.size_toArray, List.size_toArray]; exact hsz)) ⟨ho, ho2, ?_⟩
  rw [e]
  exact h2 hw
def sIx (n d : Nat) : Option Int → Nat
 | none => d
 | some v => if v < 0 then (v + (n : Int)).toNat else min v.toNat n
theorem sIx_none (n d : Nat) : sIx n d none = d := rfl
theorem sIx_nat (n d k : Nat) : sIx n d (some (k : Int)) = min k n := by
 show (if (k : Int) < 0 then ((k : Int) + (n : Int)).toNat else min (k : Int).toNat n) = min k n
 rw [if_neg (by omega), Int.toNat_natCast]
theorem sIx_le (n d : Nat) (hd : d ≤ n) (o : Option Int) : sIx n d o ≤ n := by
 cases o with
 | none => exact hd
 | some v =>
  show (if v < 0 then (v + (n : Int)).toNat else min v.toNat n) ≤ n
  by_cases hv : v < 0
  ·rw [if_pos hv]; omega
  ·rw [if_neg hv]; exact Nat.min_le_right _ _
theorem clip_eq (v : Int) (n d : Nat) : (if v < 0 then max (v + (n : Int)) 0 else min v (n : Int)) = ((sIx n d (some v) : Nat) : Int) := by
 show (if v < 0 then max (v + (n : Int)) 0 else min v (n : Int)) = (((if v < 0 then (v + (n : Int)).toNat else min v.toNat n) : Nat) : Int)
 by_cases hv : v < 0
 ·simp only [if_pos hv]; omega
 ·simp only [if_neg hv]; omega
theorem adjust_gen (lo hi : Option Int) (n : Nat) : Builtin.Slice.sliceAdjust lo hi 1 (n : Int) = (((sIx n 0 lo : Nat) : Int), ((sIx n n hi : Nat) : Int)) := by
 have h1 : ¬ ((1 : Int) < 0) := by omega
 unfold Builtin.Slice.sliceAdjust
 simp only [h1, if_false]
 refine Prod.ext ?_ ?_
 ·cases lo with
  | none => rfl
  | some v => exact clip_eq v n 0
 ·cases hi with
  | none => rfl
  | some v => exact clip_eq v n n
theorem places_gen (i j : Nat) : Builtin.Slice.slicePlaces (i : Int) (j : Int) 1 = j - i := by
 unfold Builtin.Slice.slicePlaces
 have h1 : (1 : Int) > 0 := by omega
 simp only [h1, if_true, Int.ediv_one]
 split <;> omega
theorem slicePart_ {v : Value} {o : Option Int} {Q : Option Int → Shared → Prop} (p : IsPart v o) (h : Q o s) : wpAny (model prog w) A (Builtin.Slice.slicePartIndex v) Q E s := by
 cases p with
 | none => exact slicePart_none h
 | int i t => exact slicePart_int h
theorem sliceApplied_gen {sl : Addr} {vl vu : Value} {lo hi : Option Int} {n : Nat} {Q : Int × Int × Nat → Shared → Prop} (hs : s.heap.IsSliceOf sl vl vu .none) (pl : IsPart vl lo) (pu : IsPart vu hi)
  (h : Q (((sIx n 0 lo : Nat) : Int), 1, sIx n n hi - sIx n 0 lo) s) : wpAny (model prog w) A (Builtin.Slice.sliceApplied (.ref sl) (pure (n : Int))) Q E s := by
 obtain ⟨os, hos, hcs, hds⟩ := id hs
 unfold Builtin.Slice.sliceApplied Builtin.Slice.sliceFields
 refine wpAny_bind (wpAny_bind (wpAny_field hos hds (x := vl) rfl (wpAny_bind (wpAny_field hos hds (x := vu) rfl (wpAny_bind (wpAny_field hos hds (x := .none) rfl (wpAny_pure ?_)))))))
 refine wpAny_bind (slicePart_none ?_)
 show wpAny _ _ (if ((1 : Int) == 0) = true then _ else _) _ _ s
 rw [if_neg (by decide)]
 refine wpAny_bind (slicePart_ pl (wpAny_bind (slicePart_ pu (wpAny_bind (wpAny_pure ?_)))))
 show wpAny _ _ (match Builtin.Slice.sliceAdjust lo hi 1 (n : Int) with | (lo, hi) => pure (lo, (1 : Int), Builtin.Slice.slicePlaces lo hi 1)) _ _ s
 rw [adjust_gen lo hi n]
 show wpAny _ _ (pure (((sIx n 0 lo : Nat) : Int), (1 : Int), Builtin.Slice.slicePlaces ((sIx n 0 lo : Nat) : Int) ((sIx n n hi : Nat) : Int) 1)) _ _ s
 rw [places_gen]
 exact wpAny_pure h
theorem pick_gen (xs : Array Value) (i k : Nat) : ((List.range k).filterMap fun (m : Nat) => xs[((i : Int) + (m : Int) * 1).toNat]?).toArray = ((xs.toList.drop i).take k).toArray := by
 have e : (fun (m : Nat) => xs[((i : Int) + (m : Int) * 1).toNat]?) = fun m => xs[i + m]? := by
  funext m
  have : ((i : Int) + (m : Int) * 1).toNat = i + m := by omega
  rw [this]
 rw [e]
 have := pick_run xs i k
 rw [List.filterMap_map] at this
 have e2 : ((fun x => xs[x]?) ∘ fun x => i + x) = fun m => xs[i + m]? := rfl
 rw [e2] at this
 rw [this]
theorem getItem_tuple_cut {t sl : Addr} {items : Array Value} {vl vu : Value} {lo hi : Option Int} {Q : Value → Shared → Prop} (ht : IsTup s.heap t items) (hs : s.heap.IsSliceOf sl vl vu .none) (pl : IsPart vl lo) (pu : IsPart vu hi)
  (hw : ¬ (sIx items.size 0 lo = 0 ∧ sIx items.size items.size hi = items.size))
  (h : Q (.ref s.heap.objs.size) { s with heap := s.heap.push { cls := .type "tuple", data := .seq ((items.toList.drop (sIx items.size 0 lo)).take (sIx items.size items.size hi - sIx items.size 0 lo)).toArray } })
  (hsz : items.size ≤ sizeLine) : wpAny (model prog w) A (getItem (.ref t) (.ref sl)) Q E s := by
 have htake : sizeOk (.seq ((items.toList.drop (sIx items.size 0 lo)).take (sIx items.size items.size hi - sIx items.size 0 lo)).toArray) := by
  show ((items.toList.drop (sIx items.size 0 lo)).take (sIx items.size items.size hi - sIx items.size 0 lo)).toArray.size ≤ sizeLine
  rw [List.size_toArray, List.length_take, List.length_drop, Array.length_toList]
  omega
 have hj : sIx items.size items.size hi ≤ items.size := sIx_le _ _ (Nat.le_refl _) hi
 obtain ⟨os, hos, hcs, hds⟩ := id hs
 have hTs : s.TypeIs (.ref sl) "slice" := ⟨os, hos, hcs⟩
 unfold getItem
 try with_reducible refine wpAny_holding ?_
 first | refine wpAny_bind (wpAny_pure ?_) | skip
 refine wpAny_bind (wpAny_sequenceKey ht.typeIs (by decide) ?_)
 refine wpAny_bind (wpAny_callSpecial?_slot (name := Str.ofString "__getitem__") ht.typeIs PyProof.Rows.slot_tuple_getitem
  (wpAny_call_entry PyProof.Rows.slot_tuple_getitem ht.typeIs entry_tuple_getitem ?_ (args_tuple_getitem _ _)))
 show wpAny _ _ (Builtin.Tuple.tupleItemsOf (.ref t) >>= _) _ _ s
 refine wpAny_bind (tupleItemsOf_ ht ?_)
 refine wpAny_bind (wpAny_typeOf hTs ?_)
 rw [if_pos (by decide)]
 refine wpAny_bind (sliceApplied_gen hs pl pu ?_)
 have hno : ¬ ((((sIx items.size 0 lo : Nat) : Int) == 0 && (1 : Int) == 1 && (sIx items.size items.size hi - sIx items.size 0 lo) == items.size) = true) := by
  intro q
  rw [Bool.and_eq_true, Bool.and_eq_true] at q
  have q1 : ((sIx items.size 0 lo : Nat) : Int) = 0 := eq_of_beq q.1.1
  have q2 : sIx items.size items.size hi - sIx items.size 0 lo = items.size := eq_of_beq q.2
  exact hw ⟨by omega, by omega⟩
 show wpAny _ _ (if (((sIx items.size 0 lo : Nat) : Int) == 0 && (1 : Int) == 1 && (sIx items.size items.size hi - sIx items.size 0 lo) == items.size) = true then _ else _) _ _ s
 rw [if_neg hno, pick_gen]
 first
  | exact wpAny_bind (m := Builtin.Tuple.tupleExact _) (wpAny_newObj_type (wpAny_pure ⟨_, rfl, wpAny_pure h⟩) htake)
  | exact wpAny_bind (m := Builtin.Tuple.tupleExact _) (wpAny_newObj_type (wpAny_bind (wpAny_pure (wpAny_pure ⟨_, rfl, wpAny_pure h⟩))) htake)
  | exact wpAny_bind (wpAny_bind (m := Builtin.Tuple.tupleExact _) (wpAny_newObj_type (wpAny_pure (wpAny_pure ⟨_, rfl, wpAny_pure h⟩)) htake))
  | exact wpAny_bind (wpAny_bind (m := Builtin.Tuple.tupleExact _) (wpAny_newObj_type (wpAny_pure ⟨_, rfl, wpAny_pure h⟩) htake))
end
end HT
namespace L2
open PySem PySem.Spec PyProof.Rows
abbrev TO := St → Hp → (Option Int → Hp → Prop) → Prop
def PO (X : Cx) (e : Option Expr) (t : TO) : Prop :=
 ∀ (pins : List (Addr × Obj)) (s : Shared) (σ : St) (H : Hp) (Q : Option Int → Hp → Prop), Inv X pins σ H s → t σ H Q →
  wpAny (model X.prog X.w) X.A (evalPart e X.env) (fun u s' => ∃ o H', Inv X pins σ H' s' ∧ IsPart u o ∧ Q o H') X.xe s
def tNoPart : TO := fun _ H Q => Q none H
def tPart (t : TE) : TO := fun σ H Q => t σ H fun x H1 => ∃ i, x = .int i ∧ Q (some i) H1
theorem intsAre_of {ns : List Int} : ∀ {us : List Value}, Vals (ns.map V.int) us → IntsAre us ns := by
 induction ns with
 | nil => intro us r; rw [List.map_nil] at r; cases r; exact .nil
 | cons n ns ih =>
  intro us r
  rw [List.map_cons] at r
  cases r with
  | cons r1 r2 =>
   obtain ⟨t, e⟩ := r1
   subst e
   exact .cons n t (ih r2)
section
variable {X : Cx} {e : Expr} {te : TE} {lo hi : Option Expr} {tl th : TO} {pos p2 : Pos}
theorem po_none : PO X none tNoPart := by
 intro pins s σ H Q I h
 rw [evalPart_none]
 exact wpAny_pure ⟨none, H, I, .none, h⟩
theorem po_some (h : PE X e te) : PO X (some e) (tPart te) := by
 intro pins s σ H Q I hw
 rw [evalPart_some]
 refine thn (h pins s σ H _ I hw) fun u s1 ⟨x, H1, I1, r1, q1⟩ => ?_
 obtain ⟨i, rfl, q⟩ := q1
 obtain ⟨t, rfl⟩ := r1
 exact ⟨some i, H1, I1, .int i t, q⟩
def SlR (X : Cx) (r : V → Option Int → Option Int → Hp → VK → Prop) : Prop :=
 ∀ (pins : List (Addr × Obj)) (s : Shared) (σ : St) (H : Hp) (x : V) (v vl vu : Value) (lo hi : Option Int) (sl : Addr) (Q : VK), Inv X pins σ H s → RelV x v → s.heap.IsSliceOf sl vl vu .none → IsPart vl lo → IsPart vu hi → r x lo hi H Q →
  ∃ T id, typeLookup (.type T) "__getitem__" = pure (some (.builtin id)) ∧ s.TypeIs v T ∧ wpAny (model X.prog X.w) X.A (getItem v (.ref sl)) (EP X pins σ Q) X.xe s
def tSl (r : V → Option Int → Option Int → Hp → VK → Prop) (te : TE) (tl th : TO) : TE := fun σ H Q => te σ H fun x H1 => tl σ H1 fun l H2 => th σ H2 fun u H3 => r x l u H3 Q
theorem pe_slice {r : V → Option Int → Option Int → Hp → VK → Prop} (hr : SlR X r) (he : PE X e te) (hl : PO X lo tl) (hu : PO X hi th) : PE X (.Subscript e (.Slice lo hi none p2) pos) (tSl r te tl th) := by
 intro pins s σ H Q I h
 refine Subscript_ (thn (he pins s σ H _ I h) fun v s1 ⟨x, H1, I1, r1, q1⟩ => ?_)
 refine wpAny_Slice (thn (hl pins s1 σ H1 _ I1 q1) fun vl s2 ⟨l, H2, I2, pl, q2⟩ => thn (hu pins s2 σ H2 _ I2 q2) fun vu s3 ⟨u, H3, I3, pu, q3⟩ => ?_)
 rw [evalPart_none]
 refine wpAny_pure ?_
 have I4 : Inv X pins σ H3 { s3 with heap := s3.heap.push { cls := .type "slice", data := .fields #[vl, vu, .none] } } := I3.kept (t' := s3.toks) fun b ob q => Heap.get?_push_of_some _ q
 obtain ⟨T, id, hT, ht, hg⟩ := hr pins { s3 with heap := s3.heap.push { cls := .type "slice", data := .fields #[vl, vu, .none] } } σ H3 x v vl vu l u s3.heap.objs.size Q I4 r1 (Heap.IsSliceOf.new ..) pl pu q3
 show wpAny (model X.prog X.w) X.A (subscriptTail e (.Slice lo hi none p2) v (.ref s3.heap.objs.size)) (EP X pins σ Q) X.xe { s3 with heap := s3.heap.push { cls := .type "slice", data := .fields #[vl, vu, .none] } }
 exact tail_any (ops := [.ref s3.heap.objs.size, v]) ht hT hg (by with_unfolding_all rfl)
def cutV (xs : List V) (lo hi : Option Int) : List V := (xs.drop (HT.sIx xs.length 0 lo)).take (HT.sIx xs.length xs.length hi - HT.sIx xs.length 0 lo)
theorem cutV_length (xs : List V) (lo hi : Option Int) : (cutV xs lo hi).length ≤ xs.length := by
 unfold cutV
 rw [List.length_take, List.length_drop]
 omega
def rSlT (K : PySem.W.Frag) : V → Option Int → Option Int → Hp → VK → Prop := fun x lo hi H Q => ∃ a xs, x = .ref a ∧ SqT K H a xs ∧
 ¬ (HT.sIx xs.length 0 lo = 0 ∧ HT.sIx xs.length xs.length hi = xs.length) ∧ ∀ p, H p = none → Q (.ref p) (upd H p (.tup (cutV xs lo hi)))
theorem sl_tup : SlR X (rSlT X.K) := by
 intro pins s σ H x v vl vu lo hi sl Q I rx hs pl pu h
 obtain ⟨a, xs, rfl, hx, hw, q⟩ := h
 cases rx
 obtain ⟨its, r, ht, hz⟩ := I.tuple hx
 have hlen : its.toArray.size = xs.length := by rw [List.size_toArray]; exact r.length.symm
 refine ⟨"tuple", _, PyProof.Rows.slot_tuple_getitem.lookup, ht.typeIs, ?_⟩
 refine HT.getItem_tuple_cut ht hs pl pu (by rw [hlen]; exact hw) ?_ (by rw [hlen]; exact hz)
 rw [hlen]
 refine ⟨.ref s.heap.objs.size, _, I.laid (t' := s.toks) (o := .tup (cutV xs lo hi)) (fun b ob q => Heap.get?_push_of_some _ q) (Nat.le_refl _) ?_, rfl, q _ (I.hok.fresh (Nat.le_refl _))⟩
 exact ⟨Nat.le_trans (cutV_length xs lo hi) hz, _, (r.drop (HT.sIx xs.length 0 lo)).take (HT.sIx xs.length xs.length hi - HT.sIx xs.length 0 lo), IsTup.new _ _, _, Heap.get?_push_size _ rfl, rfl⟩
def rCatT (K : PySem.W.Frag) : R2 := fun x y H Q => ∃ a b xs ys, x = .ref a ∧ y = .ref b ∧ SqT K H a xs ∧ SqT K H b ys ∧ xs ≠ [] ∧ xs.length + ys.length ≤ sizeLine ∧
 (ys = [] → Q (.ref a) H) ∧ (ys ≠ [] → ∀ p, H p = none → Q (.ref p) (upd H p (.tup (xs ++ ys))))
theorem Vals.nil_iff {xs : List V} {us : List Value} (r : Vals xs us) : us = [] ↔ xs = [] := by
 cases r with
 | nil => simp
 | cons _ _ => simp
theorem op_catT : OpR X (binaryOp .Add) (rCatT X.K) := by
 intro pins s σ H x y v u Q I rx ry h
 obtain ⟨a, b, xs, ys, rfl, rfl, ha, hb, hx, hz, q1, q2⟩ := h
 cases rx
 cases ry
 obtain ⟨its, r1, p1, _⟩ := I.tuple ha
 obtain ⟨its2, r2, p2, _⟩ := I.tuple hb
 refine HT.cat_tup p1 p2 (fun z => hx (r1.nil_iff.mp z)) (fun z => ⟨.ref a, H, I, rfl, q1 (r2.nil_iff.mp z)⟩) (fun z => ?_) (by rw [← r1.length, ← r2.length]; exact hz)
 refine ⟨.ref s.heap.objs.size, _, I.laid (t' := s.toks) (o := .tup (xs ++ ys)) (fun b ob q => Heap.get?_push_of_some _ q) (Nat.le_refl _) ?_, rfl, q2 (fun w => z (r2.nil_iff.mpr w)) _ (I.hok.fresh (Nat.le_refl _))⟩
 exact ⟨by rw [List.length_append]; exact hz, _, r1.append r2, IsTup.new _ _, _, Heap.get?_push_size _ rfl, rfl⟩
end
end L2
namespace L2
open PySem PySem.Spec PyProof.Rows
def ixN (n : Nat) (i : Int) : Option Nat := if 0 ≤ i then (if i < n then some i.toNat else none) else if -(n : Int) ≤ i then some (i + n).toNat else none
def atI {α : Type} (xs : List α) (i : Int) : Option α := (ixN xs.length i).bind fun j => xs[j]?
theorem ixN_seq {n : Nat} {i : Int} {j : Nat} (h : ixN n i = some j) : seqIndex? i n = some j ∧ j < n ∧ -(n : Int) ≤ i ∧ i < n := by
 unfold ixN at h
 by_cases h0 : 0 ≤ i
 ·rw [if_pos h0] at h
  by_cases h1 : i < n
  ·rw [if_pos h1] at h
   have e : i.toNat = j := Option.some.inj h
   exact ⟨by rw [seqIndex_of h0 h1, e], by omega, by omega, h1⟩
  ·rw [if_neg h1] at h; cases h
 ·rw [if_neg h0] at h
  by_cases h1 : -(n : Int) ≤ i
  ·rw [if_pos h1] at h
   have e : (i + n).toNat = j := Option.some.inj h
   exact ⟨by rw [seqIndex_neg (by omega) h1, e], by omega, h1, by omega⟩
  ·rw [if_neg h1] at h; cases h
theorem atI_get {α : Type} {xs : List α} {i : Int} {v : α} (h : atI xs i = some v) : ∃ j, seqIndex? i xs.length = some j ∧ xs[j]? = some v ∧ j < xs.length ∧ -(xs.length : Int) ≤ i ∧ i < xs.length := by
 unfold atI at h
 cases e : ixN xs.length i with
 | none => rw [e] at h; cases h
 | some j =>
  rw [e] at h
  obtain ⟨h1, h2, h3, h4⟩ := ixN_seq e
  exact ⟨j, h1, h, h2, h3, h4⟩
def PlainIx (b : Expr) : Prop := ∀ o i, subscripted b false o i = operate [o, i] (getItem o i)
def IxR (X : Cx) (r : R2) : Prop :=
 ∀ (value slice : Expr) (pins : List (Addr × Obj)) (s : Shared) (σ : St) (H : Hp) (x y : V) (v u : Value) (Q : VK), Inv X pins σ H s → RelV x v → RelV y u → r x y H Q →
  subscripted slice false v u = operate [v, u] (getItem v u) → wpAny (model X.prog X.w) X.A (subscriptTail value slice v u) (EP X pins σ Q) X.xe s
def MtR (X : Cx) (id : String) (r : V → List V → Hp → VK → Prop) : Prop :=
 ∀ (pins : List (Addr × Obj)) (s : Shared) (σ : St) (H : Hp) (x : V) (xs : List V) (v : Value) (us : List Value) (Q : VK), Inv X pins σ H s → RelV x v → Vals xs us → r x xs H Q →
  wpAny (model X.prog X.w) X.A (call (.builtin id) (v :: us)) (EP X pins σ Q) X.xe s
section
variable {X : Cx} {a b : Expr} {ta tb : TE} {pos : Pos}
theorem pe_ix {r : R2} (hr : IxR X r) (ha : PE X a ta) (hb : PE X b tb) (hs : PlainIx b) : PE X (.Subscript a b pos) (tOp r ta tb) := by
 intro pins s σ H Q I h
 exact Subscript_ (binT ha hb I h fun v u s2 x y H2 I2 rx ry q => hr a b pins s2 σ H2 x y v u Q I2 rx ry q (hs _ _))
def rIxL (K : PySem.W.Frag) : R2 := fun x y H Q => ∃ p xs i v, x = .ref p ∧ y = .int i ∧ SqL K H p xs ∧ atI xs i = some v ∧ Q v H
def rIxT (K : PySem.W.Frag) : R2 := fun x y H Q => ∃ p xs i v, x = .ref p ∧ y = .int i ∧ SqT K H p xs ∧ atI xs i = some v ∧ Q v H
theorem ix_list : IxR X (rIxL X.K) := by
 intro value slice pins s σ H x y v u Q I rx ry h hs
 obtain ⟨p, xs, i, z, rfl, rfl, hq, he, q⟩ := h
 cases rx
 obtain ⟨t, rfl⟩ := ry
 obtain ⟨its, r, pl, hz⟩ := I.list hq
 obtain ⟨j, h1, h2, h3, h4, h5⟩ := atI_get he
 obtain ⟨w, ew, rw'⟩ := r.get h2
 have hl := r.length
 have hn := line63
 have fin : EP X pins σ Q w s := ⟨z, H, I, rw', q⟩
 by_cases h0 : 0 ≤ i
 ·have hj : i.toNat = j := by
   rw [seqIndex_of h0 h5] at h1
   exact Option.some.inj h1
  exact item_listR pl.isList h0 (by omega) (by rw [hj]; simpa using ew) fin hs
 ·have hj : (i + (its.toArray.size : Int)).toNat = j := by
   rw [seqIndex_neg (by omega) h4] at h1
   rw [List.size_toArray, ← hl]
   exact Option.some.inj h1
  exact subscriptTail_builtinR (x := w) pl.isList.typeIs slot_list_getitem.lookup
   (wpAny_getItem_list_neg (Q := fun r s' => r = w ∧ EP X pins σ Q r s') pl.isList (by omega) (by rw [List.size_toArray] <;> omega) (by omega) (by rw [hj]; simpa using ew) ⟨rfl, fin⟩) hs
theorem ix_tup : IxR X (rIxT X.K) := by
 intro value slice pins s σ H x y v u Q I rx ry h hs
 obtain ⟨p, xs, i, z, rfl, rfl, hq, he, q⟩ := h
 cases rx
 obtain ⟨t, rfl⟩ := ry
 obtain ⟨its, r, pl, hz⟩ := I.tuple hq
 obtain ⟨j, h1, h2, h3, h4, h5⟩ := atI_get he
 obtain ⟨w, ew, rw'⟩ := r.get h2
 have hl := r.length
 have hn := line63
 have fin : EP X pins σ Q w s := ⟨z, H, I, rw', q⟩
 exact subscriptTail_builtinR (x := w) pl.typeIs slot_tuple_getitem.lookup
  (getItem_tuple (j := j) (Q := fun r s' => r = w ∧ EP X pins σ Q r s') pl (by omega) (by omega) (by rw [List.size_toArray, ← hl]; exact h1) (by simpa using ew) ⟨rfl, fin⟩) hs
theorem mapSeq_set (its : List Value) (n j : Nat) (u : Value) : Obj.mapSeq (·.setIfInBounds j u) { cls := .type "list", data := .seq its.toArray n } = { cls := .type "list", data := .seq (its.set j u).toArray n } := by
 simp [Obj.mapSeq]
theorem Inv.lst {pins : List (Addr × Obj)} {σ : St} {H : Hp} {s : Shared} {p : Addr} {xs : List V} (I : Inv X pins σ H s) (h : H p = some (.lst xs)) :
  ∃ (its : List Value) (n : Nat), Vals xs its ∧ s.heap.get? p = some { cls := .type "list", data := .seq its.toArray n } ∧ xs.length ≤ sizeLine := by
 obtain ⟨z, its, n, r, e⟩ := I.hok p _ h
 exact ⟨its, n, r, e, z⟩
theorem Inv.lstUpd {pins : List (Addr × Obj)} {σ : St} {H : Hp} {s : Shared} {p : Addr} {xs ys : List V} {its its' : List Value} {n n' : Nat} {f : Obj → Obj} (I : Inv X pins σ H s) (h : H p = some (.lst xs))
  (ho : s.heap.get? p = some { cls := .type "list", data := .seq its.toArray n }) (hf : f { cls := .type "list", data := .seq its.toArray n } = { cls := .type "list", data := .seq its'.toArray n' }) (r : Vals ys its') (hz : ys.length ≤ sizeLine) (t : Nat) :
  Inv X pins σ (upd H p (.lst ys)) { s with heap := s.heap.update p f, toks := t } := by
 have e : (s.heap.update p f).get? p = some { cls := .type "list", data := .seq its'.toArray n' } := by
  rw [Heap.get?_update_self f ho (by rw [hf] <;> rfl), hf]
 refine I.write (x := p) (e := p) (by rw [h]; trivial) (.inl rfl) (fun b u hb q => (Heap.get?_update_other _ _ (Ne.symm hb)).trans q) ⟨_, e⟩ ?_
 exact ⟨hz, its', n', r, e⟩
def rSetL : V → V → V → Hp → (Hp → Prop) → Prop := fun o i v H Q => ∃ p xs k j, o = .ref p ∧ i = .int k ∧ H p = some (.lst xs) ∧ ixN xs.length k = some j ∧ Q (upd H p (.lst (xs.set j v)))
theorem set_list : PSet X rSetL := by
 intro pins s σ H o i v ov iv u Q I ro ri rv h
 obtain ⟨p, xs, k, j, rfl, rfl, hp, hj, q⟩ := h
 cases ro
 obtain ⟨t, rfl⟩ := ri
 obtain ⟨its, n, r, ho, hz⟩ := I.lst hp
 obtain ⟨h1, h2, h3, h4⟩ := ixN_seq hj
 have hl := r.length
 have hn := line63
 have I' : Inv X pins σ (upd H p (.lst (xs.set j v))) { s with heap := s.heap.update p (Obj.mapSeq (·.setIfInBounds j u)) } :=
  I.lstUpd hp ho (mapSeq_set its n j u) (r.set rv j) (by rw [List.length_set]; exact hz) s.toks
 by_cases h0 : 0 ≤ k
 ·have hk : k.toNat = j := by
   rw [seqIndex_of h0 h4] at h1
   exact Option.some.inj h1
  exact PySem.W.ki_setAt ho h0 (by omega) (by rw [List.size_toArray, ← hl]; exact h4) (by rw [hk]; exact ⟨_, I', q⟩)
 ·have hk : (k + (its.toArray.size : Int)).toNat = j := by
   rw [seqIndex_neg (by omega) h3] at h1
   rw [List.size_toArray, ← hl]
   exact Option.some.inj h1
  exact PySem.W.ki_setBack ho (by omega) (by rw [List.size_toArray, ← hl]; exact h3) (by omega) (by rw [hk]; exact ⟨_, I', q⟩)
theorem slice_bounds (lo hi : Option Int) (n : Nat) : (sliceBounds lo hi none n).1 = ((HT.sIx n 0 lo : Nat) : Int) ∧ (sliceBounds lo hi none n).2.1 = ((HT.sIx n n hi : Nat) : Int) ∧ (sliceBounds lo hi none n).2.2 = 1 := by
 refine ⟨?_, ?_, rfl⟩
 ·cases lo with
  | none => simp [sliceBounds, HT.sIx]
  | some i =>
   simp only [sliceBounds, HT.sIx, Option.getD_none, show (1 : Int) > 0 by decide, if_true]
   by_cases h : i < 0
   ·simp only [h, if_true] <;> omega
   ·simp only [h, if_false] <;> omega
 ·cases hi with
  | none => simp [sliceBounds, HT.sIx]
  | some i =>
   simp only [sliceBounds, HT.sIx, Option.getD_none, show (1 : Int) > 0 by decide, if_true]
   by_cases h : i < 0
   ·simp only [h, if_true] <;> omega
   ·simp only [h, if_false] <;> omega
theorem slicePick_cut (its : List Value) (lo hi : Option Int) : slicePick its.toArray lo hi none = ((its.drop (HT.sIx its.length 0 lo)).take (HT.sIx its.length its.length hi - HT.sIx its.length 0 lo)).toArray := by
 obtain ⟨h1, h2, h3⟩ := slice_bounds lo hi its.toArray.size
 unfold slicePick
 rw [h1, h2, h3]
 simp only [sliceRange_one, pick_run, List.size_toArray] <;> rfl
def rSlL (K : PySem.W.Frag) : V → Option Int → Option Int → Hp → VK → Prop := fun x lo hi H Q => ∃ a xs, x = .ref a ∧ SqL K H a xs ∧ ∀ p, H p = none → Q (.ref p) (upd H p (.lst (cutV xs lo hi)))
theorem sl_list : SlR X (rSlL X.K) := by
 intro pins s σ H x v vl vu lo hi sl Q I rx hs pl pu h
 obtain ⟨a, xs, rfl, hx, q⟩ := h
 cases rx
 obtain ⟨its, r, ht, hz⟩ := I.list hx
 have hlen := r.length
 refine ⟨"list", _, slot_list_getitem.lookup, ht.isList.typeIs, ?_⟩
 refine wpAny_getItem_list_slice ht.isList hs pl pu .none (by simp) ?_ (by rw [List.size_toArray] <;> omega)
 rw [slicePick_cut, ← hlen]
 refine ⟨.ref s.heap.objs.size, _, I.laid (t' := s.toks) (o := .lst (cutV xs lo hi)) (fun b ob q => Heap.get?_push_of_some _ q) (Nat.le_refl _) ?_, rfl, q _ (I.hok.fresh (Nat.le_refl _))⟩
 exact ⟨Nat.le_trans (cutV_length xs lo hi) hz, _, 0, (r.drop (HT.sIx xs.length 0 lo)).take (HT.sIx xs.length xs.length hi - HT.sIx xs.length 0 lo), Heap.get?_push_size _ rfl⟩
theorem call_len_seq : CallR X (.builtin "len") (fun xs H Q => ∃ p ys, xs = [.ref p] ∧ (SqL X.K H p ys ∨ SqT X.K H p ys) ∧ Q (.int ys.length) H) := by
 intro pins s σ H xs us Q I r h
 obtain ⟨p, ys, rfl, hq, q⟩ := h
 obtain ⟨u, rfl, rx⟩ := vals1 r
 cases rx
 have hn := line63
 rcases hq with hq | hq
 ·obtain ⟨its, r', pl, hz⟩ := I.list hq
  have hlen := r'.length
  exact Calls.call_len_list pl.isList (by simp only [List.size_toArray] <;> omega) ⟨.int ys.length, H, I.tok _, ⟨s.toks + 1, by rw [List.size_toArray, hlen]⟩, q⟩
 ·obtain ⟨its, r', pl, hz⟩ := I.tuple hq
  have hlen := r'.length
  exact len_tuple pl (by simp only [List.size_toArray] <;> omega) ⟨.int ys.length, H, I.tok _, ⟨s.toks + 1, by rw [List.size_toArray, hlen]⟩, q⟩
theorem call_list_of : CallR X (.type "list") (fun xs H Q => ∃ p ys, xs = [.ref p] ∧ (SqL X.K H p ys ∨ SqT X.K H p ys) ∧ ∀ l, H l = none → Q (.ref l) (upd H l (.lst ys))) := by
 intro pins s σ H xs us Q I r h
 obtain ⟨p, ys, rfl, hq, q⟩ := h
 obtain ⟨u, rfl, rx⟩ := vals1 r
 cases rx
 have fin : ∀ (its : List Value), Vals ys its → ys.length ≤ sizeLine → ∀ (h' : Heap) (c' : Nat), (∀ b o', s.heap.get? b = some o' → h'.get? b = some o') →
   h'.get? s.heap.objs.size = some { cls := .type "list", dict := none, data := .seq its.toArray c', slots := #[] } → EP X pins σ Q (.ref s.heap.objs.size) { s with heap := h' } := fun its r' hz h' c' kp e =>
  ⟨.ref s.heap.objs.size, _, I.laid (t' := s.toks) kp (Nat.le_refl _) (show ObjOk X.prog X.w _ h' _ (.lst ys) from ⟨hz, its, c', r', e⟩), rfl, q _ (I.hok.fresh (Nat.le_refl _))⟩
 rcases hq with hq | hq
 ·obtain ⟨its, r', pl, hz⟩ := I.list hq
  have hlen := r'.length
  obtain ⟨o, ho, hc, n, hd⟩ := pl.isList
  exact call_list_seq p (.inl rfl) ho hc hd (fun h' c' kp e => fin its r' hz h' c' kp e) (by simp only [List.size_toArray] <;> omega)
 ·obtain ⟨its, r', pl, hz⟩ := I.tuple hq
  have hlen := r'.length
  obtain ⟨o, ho, hc, n, hd⟩ := pl
  exact call_list_seq p (.inr rfl) ho hc hd (fun h' c' kp e => fin its r' hz h' c' kp e) (by simp only [List.size_toArray] <;> omega)
theorem call_tuple_of : CallR X (.type "tuple") (fun xs H Q => ∃ p ys, xs = [.ref p] ∧ ((SqL X.K H p ys ∧ ∀ l, H l = none → Q (.ref l) (upd H l (.tup ys))) ∨ (SqT X.K H p ys ∧ Q (.ref p) H))) := by
 intro pins s σ H xs us Q I r h
 obtain ⟨p, ys, rfl, h⟩ := h
 obtain ⟨u, rfl, rx⟩ := vals1 r
 cases rx
 rcases h with ⟨hq, q⟩ | ⟨hq, q⟩
 ·obtain ⟨its, r', pl, hz⟩ := I.list hq
  have hlen := r'.length
  refine call_tuple_list pl.isList (fun h' kp => ?_) (by simp only [List.size_toArray] <;> omega)
  have I1 : Inv X pins σ H { s with heap := h' } := I.kept (t' := s.toks) kp
  have I2 : Inv X pins σ (upd H h'.objs.size (.tup ys)) { s with heap := h'.push { cls := .type "tuple", data := .seq its.toArray } } :=
   I1.laid (t' := s.toks) (fun b o e => Heap.get?_push_of_some _ e) (Nat.le_refl _) (show ObjOk X.prog X.w _ _ _ (.tup ys) from ⟨hz, its, r', IsTup.new _ _, _, Heap.get?_push_size _ rfl, rfl⟩)
  exact ⟨.ref h'.objs.size, _, I2, rfl, q _ (I1.hok.fresh (Nat.le_refl _))⟩
 ·obtain ⟨its, r', pl, hz⟩ := I.tuple hq
  exact call_tuple_same pl ⟨.ref p, H, I, rfl, q⟩
def tyV (K : PySem.W.Frag) (T : String) (x : V) (H : Hp) : Prop := match x with
 | .str _ => T = "str"
 | .int _ => T = "int"
 | .ref p => (T = "list" ∧ ∃ xs, SqL K H p xs) ∨ (T = "tuple" ∧ ∃ o, K.lookup p = some o ∧ o.cls = .type "tuple" ∧ o.dict = none) ∨
   (T = "dict" ∧ ((∃ kvs, H p = some (.dK kvs)) ∨ ∃ kvs, H p = some (.dT kvs))) ∨ (T = "set" ∧ ∃ S n, H p = some (.set S n))
 | _ => False
theorem tyV_is {pins : List (Addr × Obj)} {σ : St} {H : Hp} {s : Shared} {T : String} {x : V} {v : Value} (I : Inv X pins σ H s) (r : RelV x v) (ty : tyV X.K T x H) :
  s.TypeIs v T ∧ ∀ a, v = .ref a → ∃ ob, s.heap.get? a = some ob ∧ ob.dict = none := by
 cases x with
 | str z =>
  obtain ⟨t, rfl⟩ := r
  cases (show T = "str" from ty)
  exact ⟨typeIs_str s z t, fun _ e => nomatch e⟩
 | int i =>
  obtain ⟨t, rfl⟩ := r
  cases (show T = "int" from ty)
  exact ⟨typeIs_int s i t, fun _ e => nomatch e⟩
 | ref p =>
  cases r
  rcases ty with ⟨rfl, xs, hq⟩ | ⟨rfl, o, hk, hc, hd⟩ | ⟨rfl, hk⟩ | ⟨rfl, S, n, hk⟩
  ·obtain ⟨its, _, pl, _⟩ := I.list hq
   refine ⟨pl.isList.typeIs, fun a e => ?_⟩
   cases e
   obtain ⟨o, n, e, c, hd, _⟩ := pl
   exact ⟨o, e, hd⟩
  ·refine ⟨⟨o, I.kIn p o hk, hc⟩, fun a e => ?_⟩
   cases e
   exact ⟨o, I.kIn _ o hk, hd⟩
  ·have z : ∃ o, s.heap.get? p = some o ∧ o.ExactDict := by
    rcases hk with ⟨kvs, hk⟩ | ⟨kvs, hk⟩
    ·obtain ⟨_, _, _, _, o, _, _, e, ex, _⟩ := I.hok p _ hk
     exact ⟨o, e, ex⟩
    ·obtain ⟨_, _, _, _, o, _, _, e, ex, _⟩ := I.hok p _ hk
     exact ⟨o, e, ex⟩
   obtain ⟨o, e, ex⟩ := z
   refine ⟨⟨o, e, ex.1⟩, fun a e2 => ?_⟩
   cases e2
   exact ⟨o, e, ex.2.1⟩
  ·obtain ⟨o, _, _, _, e, ex, _⟩ := I.hok p _ hk
   refine ⟨⟨o, e, ex.1⟩, fun a e2 => ?_⟩
   cases e2
   exact ⟨o, e, ex.2.1⟩
 | _ => exact False.elim ty
def tBM (K : PySem.W.Frag) (T : String) (r : V → List V → Hp → VK → Prop) (to : TE) (t : TA) : TE := fun σ H Q => to σ H fun x H1 => tyV K T x H1 ∧ t σ H1 fun xs H2 => r x xs H2 Q
variable {o e : Expr} {es : List Expr} {to : TE} {t : TA} {name : Str} {apos cpos : Pos} {T id : String} {r : V → List V → Hp → VK → Prop}
theorem pe_bm (pa : PlainAttrs T) (slot : Slot T name id) (hty : typeOf (.builtin id) = pure (.type "method_descriptor")) (hm : MtR X id r) (ho : PE X o to) (ha : PA X (e :: es) t)
  (hbase : attributeBase o name X.env (eval o X.env) = eval o X.env := by rfl)
  (hfew : ((backTo cpos (starEach (e :: es) X.env)).all (fun x => !x.1) && (backToKw cpos (keywordEach [] X.env)).all (fun x => x.1.isSome)
   && decide ((e :: es).length + ([] : List Keyword).length + (if ([] : List Keyword).isEmpty then 0 else 1) < 30)) = true := by rfl)
  (hline : (apos.endLine == cpos.line) = true := by rfl) (hs : starEach (e :: es) X.env = (false, eval e X.env) :: starEach es X.env := by rfl) (hplain : (backTo cpos (starEach es X.env)).any (·.1) = false := by rfl) :
  PE X (.Call (.Attribute o name apos) (e :: es) [] cpos) (tBM X.K T r to t) := by
 intro pins s σ H Q I h
 refine wpAny_Call_method_late hbase hfew hline rfl (thn (ho pins s σ H _ I h) fun v s1 ⟨x, H1, I1, r1, ty, q1⟩ => ?_)
 obtain ⟨h1, h2⟩ := tyV_is I1 r1 ty
 refine ⟨T, id, pa, slot, hty, h1, h2, ?_⟩
 have hA := ha cpos pins s1 σ H1 _ I1 q1
 rw [hs] at hA ⊢
 refine Calls.callWith_builtin (by show (false || (backTo cpos (starEach es X.env)).any (·.1)) = false; rw [hplain] <;> rfl) (Calls.evalArgs_plain ?_)
 exact thn hA fun us s2 ⟨vs, H2, I2, r2, q2⟩ => hm pins s2 σ H2 x vs v us Q I2 r1 r2 q2
end
end L2
namespace L2
open PySem PySem.Spec PyProof.Rows
def MtM (X : Cx) (id : String) (r : V → List V → Hp → VK → Prop) : Prop :=
 ∀ (pins : List (Addr × Obj)) (s : Shared) (σ : St) (H : Hp) (x : V) (xs : List V) (v : Value) (us : List Value) (Q : VK), Inv X pins σ H s → RelV x v → Vals xs us → r x xs H Q →
  wpAny (model X.prog X.w) X.A (call (.builtin id) (v :: us)) (EP X pins σ Q) X.xe s
theorem Vals.one : ∀ {x : V} {us : List Value}, Vals [x] us → ∃ u, us = [u] ∧ RelV x u
 | _, _, .cons r .nil => ⟨_, rfl, r⟩
theorem Vals.two : ∀ {x y : V} {us : List Value}, Vals [x, y] us → ∃ u v, us = [u, v] ∧ RelV x u ∧ RelV y v
 | _, _, _, .cons r (.cons q .nil) => ⟨_, _, rfl, r, q⟩
theorem Vals.eraseIdx : ∀ {xs : List V} {us : List Value} (i : Nat), Vals xs us → Vals (xs.eraseIdx i) (us.eraseIdx i)
 | _, _, _, .nil => .nil
 | _, _, 0, .cons _ t => t
 | _, _, i + 1, .cons r t => .cons r (Vals.eraseIdx i t)
theorem Vals.reverse {xs : List V} {us : List Value} (h : Vals xs us) : Vals xs.reverse us.reverse := by
 induction h with
 | nil => exact .nil
 | cons r t ih => rw [List.reverse_cons, List.reverse_cons]; exact Vals.append ih (.cons r .nil)
theorem len_erase {α : Type} : ∀ (l : List α) (i : Nat), (l.eraseIdx i).length ≤ l.length
 | [], _ => Nat.le_refl _
 | _ :: _, 0 => Nat.le_succ _
 | _ :: r, i + 1 => Nat.succ_le_succ (len_erase r i)
section
variable {X : Cx} {pins : List (Addr × Obj)} {σ : St} {H : Hp} {s : Shared} {l b : Addr} {xs ys zs : List V}
theorem Inv.lset {its its' : List Value} {n : Nat} {f : Array Value → Array Value} {t' : Nat} (I : Inv X pins σ H s) (hH : H l = some (.lst xs))
  (e : s.heap.get? l = some { cls := .type "list", data := .seq its.toArray n }) (hf : f its.toArray = its'.toArray) (hv : Vals ys its') (hz : ys.length ≤ sizeLine) :
  Inv X pins σ (upd H l (.lst ys)) { s with heap := s.heap.update l (Obj.mapSeq f), toks := t' } := by
 have q := PySem.IsL.update e f
 rw [hf] at q
 refine I.write (x := l) (e := l) (by rw [hH]; exact trivial) (.inl rfl) (fun b' u hb hu => (Heap.get?_update_other s.heap (Obj.mapSeq f) (Ne.symm hb)).trans hu) ⟨_, q⟩ ?_
 exact ⟨hz, its', _, hv, q⟩
theorem Inv.lnew {its : List Value} {t' : Nat} (I : Inv X pins σ H s) (hv : Vals ys its) (hz : ys.length ≤ sizeLine) :
  Inv X pins σ (upd H s.heap.objs.size (.lst ys)) { s with heap := s.heap.push { cls := .type "list", data := .seq its.toArray }, toks := t' } :=
 I.laid (fun _ _ q => Heap.get?_push_of_some _ q) (Nat.le_refl _) ⟨hz, its, 0, hv, Heap.get?_push_size _ rfl⟩
theorem Inv.fresh (I : Inv X pins σ H s) : H s.heap.objs.size = none := I.hok.fresh (Nat.le_refl _)
theorem Inv.lstM (I : Inv X pins σ H s) (hH : H l = some (.lst xs)) : xs.length ≤ sizeLine ∧ ∃ (its : List Value) (n : Nat), Vals xs its ∧ xs.length = its.length ∧ s.heap.get? l = some { cls := .type "list", data := .seq its.toArray n } := by
 obtain ⟨z, its, n, r, e⟩ := I.hok l _ hH
 exact ⟨z, its, n, r, r.length, e⟩
theorem notLongL {n : Nat} (h : n ≤ sizeLine) : Builtin.List.listTooLong n = false := by
 unfold Builtin.List.listTooLong
 exact decide_eq_false (by omega)
end
section
variable {X : Cx}
def rAppend : V → List V → Hp → VK → Prop := fun x vs H Q => ∃ l xs y, x = .ref l ∧ vs = [y] ∧ H l = some (.lst xs) ∧ xs.length < sizeLine ∧ Q .non (upd H l (.lst (xs ++ [y])))
theorem mt_append : MtM X "list.append" rAppend := by
 intro pins s σ H x vs v us Q I rx rv h
 obtain ⟨l, xs, y, rfl, rfl, hH, hz, q⟩ := h
 cases rx
 obtain ⟨u, rfl, ru⟩ := rv.one
 obtain ⟨z, its, n, r, hl, e⟩ := I.lstM hH
 refine call_meets F.slot_list_append ⟨_, e, rfl⟩ F.entry_list_append (F.args_list_append_2 _ _) (PySem.list_append l its.toArray n u (by rw [List.size_toArray]; omega)) ⟨e, ?_⟩
 refine ⟨.non, _, I.lset (its' := its ++ [u]) hH e (by simp) (r.append (.cons ru .nil)) ?_, rfl, q⟩
 rw [List.length_append, List.length_singleton]
 omega
def rPopAt : V → List V → Hp → VK → Prop := fun x vs H Q => ∃ l xs i k y, x = .ref l ∧ vs = [.int i] ∧ H l = some (.lst xs) ∧ -(2 ^ 63) ≤ i ∧ i < 2 ^ 63 ∧ seqIndex? i xs.length = some k ∧ xs[k]? = some y ∧ Q y (upd H l (.lst (xs.eraseIdx k)))
theorem mt_popAt : MtM X "list.pop" rPopAt := by
 intro pins s σ H x vs v us Q I rx rv h
 obtain ⟨l, xs, i, k, y, rfl, rfl, hH, h1, h2, hk, hy, q⟩ := h
 cases rx
 obtain ⟨u, rfl, ru⟩ := rv.one
 obtain ⟨t, rfl⟩ := ru
 obtain ⟨z, its, n, r, hl, e⟩ := I.lstM hH
 obtain ⟨w, hw, rw'⟩ := r.get hy
 refine call_meets F.slot_list_pop ⟨_, e, rfl⟩ F.entry_list_pop (F.args_list_pop_2 _ _)
  (MeetsSeq.list_pop_at l its.toArray n i t k w (fitsIndex_both h1 h2) (by rw [List.size_toArray, ← hl]; exact hk) (by rw [← Array.getElem?_toList]; exact hw) (by rw [List.size_toArray]; omega)) ⟨e, ?_⟩
 refine ⟨y, _, I.lset (its' := its.eraseIdx k) hH e ?_ (r.eraseIdx k) ?_, rw', q⟩
 ·show its.toArray.eraseIdxIfInBounds k = (its.eraseIdx k).toArray
  rw [List.eraseIdxIfInBounds_toArray]
 ·have := len_erase xs k
  omega
def rCat : R2 := fun x y H Q => ∃ l b xs zs, x = .ref l ∧ y = .ref b ∧ H l = some (.lst xs) ∧ H b = some (.lst zs) ∧ xs.length + zs.length ≤ sizeLine ∧ ∀ p, H p = none → Q (.ref p) (upd H p (.lst (xs ++ zs)))
theorem op_cat : OpR X (binaryOp .Add) rCat := by
 intro pins s σ H x y v u Q I rx ry h
 obtain ⟨l, b, xs, zs, rfl, rfl, hH, hB, hz, q⟩ := h
 cases rx
 cases ry
 obtain ⟨z, its, n, r, hl, e⟩ := I.lstM hH
 obtain ⟨z2, its2, n2, r2, hl2, e2⟩ := I.lstM hB
 refine PySem.P.add_list e e2 ?_ (by rw [List.size_toArray, List.size_toArray]; omega)
 have ea : its.toArray ++ its2.toArray = (its ++ its2).toArray := by simp
 rw [ea]
 exact ⟨.ref _, _, I.lnew (t' := s.toks) (r.append r2) (by rw [List.length_append]; omega), rfl, q _ I.fresh⟩
end
section
variable {prog : Program} {w : World} {A : Around} {E : Value → Shared → Prop} {s : Shared}
set_option maxRecDepth 100000 in
end
section
variable {X : Cx}
end
end L2
namespace Att
open PySem PySem.W PySem.Calls PyProof.Rows
theorem ints_of_wellAll {P : Params} {h : Heap} : ∀ (ns : List Int) (vs : List Value), WellAll P h vs (ns.map WData.int) → IntsAre vs ns := by
 intro ns
 induction ns with
 | nil =>
  intro vs w
  rw [List.map_nil] at w
  cases w
  exact .nil
 | cons n ns ih =>
  intro vs w
  rw [List.map_cons] at w
  cases w with
  | cons a b =>
   cases a
   exact .cons _ _ (ih _ b)
theorem script_of {l : OpenLaw} {n : Nat} (hn : l.most = some n) {P : Params} {h : Heap} {args : List WData} {vals : List Value}
  (hpre : l.row.toRowW.claim.pre args = true) (hwl : WellAll P h vals args) :
  ∃ a vs ns, vals = [Value.ref a] ∧ args = [WData.list (ns.map WData.int)] ∧ h.get? a = some { cls := .type "list", data := .seq vs.toArray } ∧ IntsAre vs ns ∧ ns.length ≤ n := by
 have hsh : WShape.hasAll [] args [.list .int] = true := (pre_splitW hpre).1
 have hc : l.pre.holds [] { args := args } = true := (pre_splitW hpre).2
 obtain ⟨d, r, rfl, h1, h2⟩ := hasAllW_cons hsh
 obtain rfl := hasAllW_nil h2
 obtain ⟨xs, rfl, h3⟩ := hasW_list h1
 obtain ⟨ns, rfl⟩ := items_int h3
 have hlen : ns.length ≤ n := by
  unfold OpenLaw.pre at hc
  have h4 : (WTm.not (.lt (.lit (.int (n : Int))) (.len (.arg 0)))).holds [] { args := [.list (ns.map .int)] } = true := by
   have h4 := (holds_andW hc).1
   rw [hn] at h4
   exact h4
  have h5 := condW_of h4 (w_not (w_lt w_lit (w_len_list (w_arg rfl))))
  rw [List.length_map] at h5
  refine Nat.le_of_not_lt fun q => ?_
  have q' : (n : Int) < ((ns.length : Nat) : Int) := by omega
  first
   | (rw [decide_eq_true q'] at h5; exact absurd h5 (by decide))
   | (simp at h5; omega)
 cases hwl with
 | cons w1 w2 =>
  cases w2
  cases w1 with
  | list ho hall => exact ⟨_, _, ns, rfl, rfl, ho, ints_of_wellAll ns _ hall, hlen⟩
theorem post_true (l : OpenLaw) (args : List WData) : l.row.toRowW.claim.post args (.bool true) args = true :=
 postW_of (r := l.row.toRowW) (X := (true == true))
  (show WShape.has [] (.bool true) .bool = true by first | rfl | decide | simp [WShape.has, WShape.arms, WShape.armsAll])
  (show (WTm.eq .res (.lit (.bool true))).value [] { args := args, res := some (.bool true), after := args } = some (.bool (true == true)) from w_eq_bool (w_res rfl) w_lit) rfl
theorem attach_call {l : OpenLaw} {n : Nat} {q : Program} {loose : List Str} {XP : (Str → Option Value) → Heap → Prop} {YP : World → Heap → Prop} {d : DefRec}
  (hn : l.most = some n) (hdf : d.params.defaults = [])
  (call : ∀ (w : World) (s₀ s₁ : Shared) (mg mb : Str → Option Value) (fa : Addr) (o : Obj) (pm cd doc : Value) (a : Addr) (vs : List Value) (ns : List Int),
   Ground q loose [] XP w s₀ mg mb s₁.heap → YP w s₁.heap →
   s₁.heap.get? fa = some o → o.data = .func (docDef d.name d.params d.body d.scope pm cd doc) → s₁.heap.CodeRec cd d.name → mg d.name = some (.ref fa) →
   s₁.heap.get? a = some { cls := .type "list", data := .seq vs.toArray } → IntsAre vs ns → ns.length ≤ n → s₁.gens = #[] →
   codeAny (model l.prog w) callerA (.call (.ref fa) ⟨[.ref a], []⟩) (fun r s' => r = .ok (.ret (.bool true)) ∧ OldK s₁.heap s'.heap ∧ s'.os = s₁.os ∧ AllBare s'.gens) s₁) :
  WalkO q loose XP YP l.row.toRowW d [] (fun f vs => PySem.call f vs) := by
 intro w s₀ s₁ mg mb G Y fa o pm cd doc dV kV ho hd hcd hD hmg hg args vals as hpre hlay hrd hwl hlo
 obtain rfl : dV = .none := Dflts.none hD hdf
 obtain rfl : kV = .none := Dflts.noKw hD
 obtain ⟨a, vs, ns, rfl, rfl, hobj, hints, hlen⟩ := script_of hn hpre hwl
 refine enter_call (codeAny_mono (call w s₀ s₁ mg mb fa o pm cd doc a vs ns G Y ho (fd_plain hd) hcd hmg hobj hints hlen hg) fun r s' hq => ?_)
 obtain ⟨rfl, h2, h3, h4⟩ := hq
 exact ⟨.inl ⟨.bool true, .bool true, [], rfl, fun _ => rfl, .bool true, post_true l _, fun _ => ⟨List.Pairwise.nil, fun _ hm => (nomatch hm)⟩⟩, h2, h3, h4⟩
section
variable {prog : Program} {w : World} {A : Around} {E : Value → Shared → Prop} {s : Shared} {K : Frag}
end
end Att
namespace L2
open PySem PySem.Spec PyProof.Rows
theorem vals_ints : ∀ {vs : List Value} {ns : List Int}, IntsAre vs ns → Vals (ns.map V.int) vs
 | _, _, .nil => .nil
 | _, _, .cons n t h => .cons ⟨t, rfl⟩ (vals_ints h)
end L2
namespace L2
open PySem PySem.Spec PyProof.Rows
end L2
namespace L2
open PySem PySem.Spec PyProof.Rows
def defArgs (s : Stmt) : Arguments := match s with
 | .FunctionDef _ a _ _ _ _ _ _ _ _ => a
 | _ => { posonlyargs := [], args := [], vararg := none, kwonlyargs := [], kw_defaults := [], kwarg := none, defaults := [] }
def defBody (s : Stmt) : List Stmt := match s with
 | .FunctionDef _ _ b _ _ _ _ _ _ _ => b
 | _ => []
def defScope (s : Stmt) : Scope := match s with
 | .FunctionDef _ _ _ _ _ _ sc _ _ _ => sc
 | _ => { kind := .function, names := [], isGenerator := false, isCoroutine := false }
abbrev CX0 : CXT := fun _ _ _ _ _ _ => False
abbrev E0 : XK := fun _ _ _ => False
theorem pass0 {X : Cx} : Passes CX0 X E0 := fun _ _ _ _ _ _ _ h => h.elim
structure Fun (K : PySem.W.Frag) (x qual : Str) (st : Stmt) (f : Addr) (fd : FuncData) : Prop where
 ex : ∃ (oc : Value) (od : Option Addr) (kV doc pm : Value) (an : Option Addr) (cdv ct : Value) (osl : Array (Option Value)),
  fd = PySem.W.fnOf x qual (defArgs st) (defBody st) (defScope st) .none kV doc pm an cdv ct ∧ K.lookup f = some ⟨oc, od, .func fd, osl⟩ ∧ PySem.W.codeIn K cdv qual = true
 kp : PySem.W.keepIn K (.ref f) = true
section
variable {P : Program} {w : World} {K : PySem.W.Frag} {mg : Str → Option Value} {base : Heap}
theorem Fun.ok {x qual : Str} {st : Stmt} {f : Addr} {fd : FuncData} {N ps : List Str} {k : Nat} {sp : Sp} (F : Fun K x qual st f fd) (S : FnScope N ps (defScope st)) (len : ∀ vs H Q E, sp vs H Q E → vs.length = ps.length)
  (hbody : ∀ (cdv : Value) (A : Around) (outer : List Env) (s : Shared) (H : Hp) (vs : List V) (Q : VK) (E : XK), Room k (A.deeper (envOfC qual (defScope st) s.heap.objs.size f cdv)) → sp vs H Q E →
   ∃ t, PSs (cxOf CX0 P w K mg base N qual (defScope st) f cdv A outer s H E).nox (defBody st) t ∧ t { nx := fun _ H' => Q .non H', rt := Q } (start N vs) H) : FnOk P w K mg base CX0 (k + 1) f fd ps sp := by
 obtain ⟨oc, od, kV, doc, pm, an, cdv, ct, osl, rfl, lk, hcd⟩ := F.ex
 refine fn_of lk hcd S len fun A outer s H vs Q E hr hsp => ?_
 obtain ⟨t, h, q⟩ := hbody cdv A outer s H vs Q E hr hsp
 exact ⟨t, h.nox, q⟩
theorem Fun.binds {x qual : Str} {st : Stmt} {f : Addr} {fd : FuncData} {ps : List Str} (F : Fun K x qual st f fd)
  (h : ∀ (kV doc pm : Value) (an : Option Addr) (cdv ct : Value) (us : List Value), us.length = ps.length → bindArgs (PySem.W.fnOf x qual (defArgs st) (defBody st) (defScope st) .none kV doc pm an cdv ct) ⟨us, []⟩ = pure (ps.zip us)) : Binds K fd ps [] := by
 obtain ⟨oc, od, kV, doc, pm, an, cdv, ct, osl, rfl, lk, hcd⟩ := F.ex
 exact .all (h kV doc pm an cdv ct)
theorem fun_mk {x qual : Str} {st : Stmt} {f : Addr} {oc : Value} {od an : Option Addr} {osl : Array (Option Value)} {kV doc pm cdv ct : Value} (l : K.lookup f = some ⟨oc, od, .func (PySem.W.fnOf x qual (defArgs st) (defBody st) (defScope st) .none kV doc pm an cdv ct), osl⟩)
  (c : PySem.W.codeIn K cdv qual = true) (k : PySem.W.keepIn K (.ref f) = true) : Fun K x qual st f (PySem.W.fnOf x qual (defArgs st) (defBody st) (defScope st) .none kV doc pm an cdv ct) := ⟨⟨oc, od, kV, doc, pm, an, cdv, ct, osl, rfl, l, c⟩, k⟩
end
section
variable {X : Cx}
theorem pv (i : Nat) {x : Str} {pos : Pos} (hN : X.N[i]? = some x := by rfl) (hv : Vis X.env.scope x := by first | exact Or.inl rfl | exact Or.inr (Or.inl rfl) | exact Or.inr (Or.inr rfl)) (hd : (x == ("__debug__" : Str)) = false := by decide)
  (hcd : (x == ("__classdict__" : Str)) = false := by decide) : PE X (.Name x pos) (tVar i) := pe_var hN hv hd hcd
end
theorem iteF {A B : Prop} (h : B) : if false = true then A else B := by
 rw [if_neg Bool.false_ne_true]
 exact h
theorem iteT {A B : Prop} (h : A) : if true = true then A else B := by
 rw [if_pos rfl]
 exact h
def Same (H H' : Hp) : Prop := ∀ b o, H b = some o → H' b = some o
theorem Same.refl (H : Hp) : Same H H := fun _ _ h => h
theorem Same.trans {H H1 H2 : Hp} (a : Same H H1) (b : Same H1 H2) : Same H H2 := fun c o h => b c o (a c o h)
theorem Same.free {H H' : Hp} (e : Same H H') {l : Addr} (h : H' l = Option.none) : H l = Option.none := by
 cases q : H l with
 | none => rfl
 | some o =>
  rw [e l o q] at h
  cases h
theorem Same.seq {K : PySem.W.Frag} {H H' : Hp} {a : Addr} {xs : List V} (e : Same H H') (h : SqL K H a xs) : SqL K H' a xs := by
 rcases h with (h | ⟨o, h⟩) | h
 ·exact .inl (.inl (e _ _ h))
 ·exact .inl (.inr ⟨o, e _ _ h⟩)
 ·exact .inr h
end L2
set_option maxHeartbeats 4000000
namespace L2
open PySem PySem.Spec PyProof.Rows
section
variable {X : Cx}
def CMulW (i j : Int) : Prop := i.natAbs < 2 ^ 4000 ∧ j.natAbs < 2 ^ 4000
theorem CMulW.ok {i j : Int} (h : CMulW i j) : IntMulOk i j :=
 IntMulOk.of_le (m := 4000) (n := 4000) (intBits_le_iff.mpr h.1) (intBits_le_iff.mpr h.2) (by decide)
theorem op_mulW : OpR X (binaryOp .Mult) (rI CMulW fun i j => .int (i * j)) := opI fun _ _ _ _ _ _ _ hc q => mul_int q hc.ok
def CDivW (i j : Int) : Prop := j ≠ 0 ∧ j.natAbs < 2 ^ 4000
theorem noPy {i j : Int} (h : CDivW i j) : Builtin.divisionGoesByPylong i j = false := by
 refine PyProof.noPylong_of_log2 ?_
 have h0 : j.natAbs ≠ 0 := by have := h.1; omega
 have := (Nat.log2_lt h0).mpr h.2
 omega
def CDivP (i j : Int) : Prop := 0 < j ∧ j.natAbs < 2 ^ 4000
theorem op_fdivP : OpR X (binaryOp .FloorDiv) (rI CDivP fun i j => .int (i / j)) := opI fun i j _ _ _ _ _ hc q => by
 refine floordiv_int (by have := hc.1; omega) ?_ (.inl (noPy ⟨by have := hc.1; omega, hc.2⟩))
 rw [Int.fdiv_eq_ediv_of_nonneg i (by have := hc.1; omega)]
 exact q
theorem plainIs {h : Heap} {p : Addr} {its : Array Value} (pl : PlainL h p its) : h.IsList p its := by
 obtain ⟨o, n, e, c, _, d⟩ := pl
 exact ⟨o, e, c, n, d⟩
end
end L2
namespace L2
open PySem PySem.Spec PyProof.Rows
def clOf (env : Env) : List (Str × NameKind) → List (Str × Addr) → List (Str × Addr)
 | [], acc => acc
 | (n, k) :: r, acc => clOf env r (if (k == NameKind.free) = true then (n, (env.cells.lookup n).getD 0) :: acc else acc)
theorem closure_eq {env : Env} : ∀ (names : List (Str × NameKind)) (acc : List (Str × Addr)), (∀ p ∈ names, p.2 = .free → ∃ c, env.cells.lookup p.1 = some c) →
  (forIn names acc fun (x : Str × NameKind) (cs : List (Str × Addr)) => (match x with
   | (name, kind) => if (kind == NameKind.free) = true then (do let __do_lift ← cellOf env name; pure (ForInStep.yield ((name, __do_lift) :: cs))) else pure (ForInStep.yield cs) : Sem (ForInStep (List (Str × Addr))))) = pure (clOf env names acc) := by
 intro names
 induction names with
 | nil => intro acc _; rfl
 | cons p r ih =>
  intro acc h
  obtain ⟨n, k⟩ := p
  rw [List.forIn_cons]
  have hr := fun acc => ih acc fun q hq => h q (List.mem_cons_of_mem _ hq)
  by_cases hk : k = .free
  ·subst hk
   obtain ⟨c, hc⟩ := h (n, .free) List.mem_cons_self rfl
   have e : cellOf env n = pure c := by unfold cellOf; rw [hc]
   simp only [beq_self_eq_true, if_true, e, pure_bind]
   rw [hr]
   simp only [clOf, beq_self_eq_true, if_true, hc, Option.getD_some]
  ·have hb : (k == NameKind.free) = false := by simpa using hk
   simp only [hb, Bool.false_eq_true, if_false, pure_bind]
   rw [hr]
   simp only [clOf, hb, Bool.false_eq_true, if_false]
theorem closureFor_eq {env : Env} {scope : Scope} (h : ∀ p ∈ scope.names, p.2 = .free → ∃ c, env.cells.lookup p.1 = some c) : closureFor scope env = pure (clOf env scope.names []) := by
 unfold closureFor
 have e := closure_eq (env := env) scope.names [] h
 simp only [e, pure_bind]
theorem clOf_mem {env : Env} {y : Str} {c : Addr} : ∀ {names : List (Str × NameKind)} {acc : List (Str × Addr)}, (∀ p ∈ names, p.2 = .free → ∃ c, env.cells.lookup p.1 = some c) → (∀ y c, acc.lookup y = some c → env.cells.lookup y = some c) →
  (clOf env names acc).lookup y = some c → env.cells.lookup y = some c
 | [], _, _, ha, e => ha _ _ e
 | (n, k) :: r, acc, h, ha, e => by
  refine clOf_mem (names := r) (fun p hp => h p (List.mem_cons_of_mem _ hp)) (fun y c q => ?_) e
  by_cases hk : (k == NameKind.free) = true
  ·rw [if_pos hk] at q
   obtain ⟨c', hc'⟩ := h (n, k) List.mem_cons_self (by simpa using hk)
   rw [List.lookup_cons] at q
   cases hy : y == n with
   | true =>
    rw [hy] at q
    have hy' : y = n := by simpa using hy
    subst hy'
    rw [hc'] at q
    cases q
    exact hc'
   | false =>
    rw [hy] at q
    exact ha y c q
  ·rw [if_neg hk] at q
   exact ha y c q
theorem clOf_acc {env : Env} {y : Str} : ∀ {names : List (Str × NameKind)} {acc : List (Str × Addr)}, (acc.lookup y).isSome = true → ((clOf env names acc).lookup y).isSome = true
 | [], _, h => h
 | (n, k) :: r, acc, h => by
  refine clOf_acc (names := r) ?_
  split
  ·rw [List.lookup_cons]
   split
   ·rfl
   ·exact h
  ·exact h
theorem clOf_has {env : Env} {y : Str} : ∀ {names : List (Str × NameKind)} {acc : List (Str × Addr)}, (y, NameKind.free) ∈ names → ((clOf env names acc).lookup y).isSome = true
 | (n, k) :: r, acc, h => by
  rcases List.mem_cons.mp h with e | h
  ·cases e
   refine clOf_acc (names := r) ?_
   rw [if_pos (by simp), List.lookup_cons]
   simp
  ·exact clOf_has (names := r) h
abbrev compCx (X : Cx) (scope : Scope) (Nc : List Str) (C : Addr) (s0 : Shared) (H0 : Hp) (ex : List Addr) : Cx :=
 { X with N := Nc, s₀ := s0, H₀ := H0, env := compEnvC scope (clOf X.env scope.names []) C X.env, outer := X.stack, ex := ex, fn := fun _ => false, pn := [], xe := fun _ _ => False }
structure CompScope (fr sc : Scope) (x : Str) (cap : List Str) : Prop where
 kind : sc.kind = .function
 cell : ∀ p ∈ sc.names, p.2 ≠ .cell
 names : ∀ p ∈ sc.names, p.2 = .local → sc.names.lookup p.1 = some .local
 tgt : sc.names.lookup x = some .local
 free : ∀ p ∈ sc.names, p.2 = .free → fr.names.lookup p.1 = some .cell
 caps : ∀ y ∈ cap, (y, NameKind.free) ∈ sc.names
 nd : (x :: cap).Nodup
 noboth : ∀ y ∈ cap, sc.names.lookup y ≠ some .local
theorem relabel_mem {sc : Scope} {env : Env} {y : Str} {k : NameKind} (h : (y, k) ∈ (relabel sc env).names) : ∃ k', (y, k') ∈ sc.names ∧ (k = k' ∨ (k' = .free ∧ k = .cell)) := by
 unfold relabel at h
 obtain ⟨⟨n, k'⟩, hm, e⟩ := List.mem_map.mp h
 by_cases hc : (k' == NameKind.free && env.scope.kind == .function && env.kindOf n == some .cell) = true
 ·have e : (n, NameKind.cell) = (y, k) := by simpa [hc] using e
  cases e
  refine ⟨k', hm, .inr ⟨?_, rfl⟩⟩
  rw [Bool.and_eq_true, Bool.and_eq_true] at hc
  simpa using hc.1.1
 ·have e : (n, k') = (y, k) := by simpa [hc] using e
  cases e
  exact ⟨k, hm, .inl rfl⟩
section
variable {X : Cx} {pins : List (Addr × Obj)} {σ : St} {H : Hp} {s : Shared} {sc : Scope} {x : Str} {cap : List Str}
theorem CompScope.cells (S : CompScope X.env.scope sc x cap) (ok : X.Ok) : ∀ p ∈ sc.names, p.2 = .free → ∃ c, X.env.cells.lookup p.1 = some c :=
 fun p hp e => ok.has p.1 (.inl (S.free p hp e))
theorem CompScope.sub (S : CompScope X.env.scope sc x cap) (ok : X.Ok) {y : Str} {c : Addr} (h : (clOf X.env sc.names []).lookup y = some c) : X.env.cells.lookup y = some c :=
 clOf_mem (S.cells ok) (fun _ _ z => by simp at z) h
theorem neLt {a b : Addr} (h : a < b) : a ≠ b := Nat.ne_of_lt h
def capV (σ : St) (js : List Nat) : St := js.map fun j => (σ[j]?).join
theorem comp_inv (S : CompScope X.env.scope sc x cap) {js : List Nat} (hjs : js.map (fun j => X.N[j]?) = cap.map some) (I : Inv X pins σ H s) {fp : List Addr} (hf : ∀ b ∈ fp, FpOk X pins H b) (hlt : ∀ b ∈ fp, b < s.heap.objs.size)
  {h1 : Heap} {tk : Nat} {D C : Addr} {oD : Obj} {m : Str → Option Value} (hD : D = s.heap.objs.size) (hC : C = s.heap.objs.size + 1) (keep : ∀ b o, s.heap.get? b = some o → h1.get? b = some o) (hoD : h1.get? D = some oD) (hnc : ∀ v, oD.data ≠ .cell v) (hns : h1.Ns C m) :
  Inv (compCx X sc (x :: cap) C s H fp) [(D, oD)] (none :: capV σ js) H { s with heap := h1, toks := tk } := by
 subst hD hC
 have lenJ : js.length = cap.length := by have := congrArg List.length hjs; simpa using this
 have ok := I.ok
 refine ⟨⟨ok.mod, S.kind, ok.glob, ok.blt, ?_, fun y z c h1 h2 => ok.inj y z c (S.sub ok h1) (S.sub ok h2), fun y hy => ?_, (fun y c h => Bool.noConfusion h), ok.hd, ok.frames, .inl rfl, fun b hb => ⟨?_, fun y c e => (hf b hb).2.2.2.2.1 y c (S.sub ok e)⟩, I.bs, Nat.le_trans ok.bsz I.sz, fun b o e hb => ?_, fun b hb hb' => ?_, I.stack, I.stkFree⟩,
  rfl, I.bare, Un.kept keep, ⟨m, hns, fun i y v e1 e2 e3 => ?_⟩, fun y c e => ?_, I.hok.fresh (Nat.le_succ _), fun y c e => I.freeC y c (S.sub ok e), fun p hp => ?_, I.hok.kept keep, ?_⟩
 ·exact Nat.le_succ _
 ·have hy' : ∃ k, (y, k) ∈ (relabel sc X.env).names ∧ (k = .cell ∨ k = .free) := by
   rcases hy with hy | hy
   ·exact ⟨_, PySem.mem_of_lookup hy, .inl rfl⟩
   ·exact ⟨_, PySem.mem_of_lookup hy, .inr rfl⟩
  obtain ⟨k, hm, hk⟩ := hy'
  obtain ⟨k', hm', hk'⟩ := relabel_mem hm
  have hfree : k' = .free := by
   rcases hk' with e | ⟨e, _⟩
   ·subst e
    rcases hk with e | e
    ·exact absurd e (S.cell _ hm')
    ·exact e
   ·exact e
  subst hfree
  exact Option.isSome_iff_exists.mp (clOf_has hm')
 ·exact neLt (Nat.lt_succ_of_lt (hlt b hb))
 ·obtain ⟨_, _, _, z, _⟩ := hf b hb
  rcases z with z | z
  ·exact ok.noex b o e z
  ·have := Heap.lt_size (ok.bs b o e).1
   exact absurd (Nat.lt_of_lt_of_le this z) (Nat.lt_irrefl _)
 ·obtain ⟨_, z1, z2, _⟩ := hf b hb
  rcases List.mem_cons.mp (I.stkSub b hb') with z | z
  ·exact z1 z
  ·exact z2 z
 ·cases i with
  | zero =>
   have e2' : (none : Option V) = some v := by simpa using e2
   cases e2'
  | succ i =>
   have e1' : cap[i]? = some y := by simpa using e1
   have e2' : (capV σ js)[i]? = some (some v) := by simpa using e2
   have hy : y ∈ cap := List.mem_of_getElem? e1'
   unfold capV at e2'
   rw [List.getElem?_map] at e2'
   cases ej : js[i]? with
   | none => rw [ej] at e2'; cases e2'
   | some j =>
    rw [ej] at e2'
    have e2'' : (σ[j]?).join = some v := Option.some.inj e2'
    have eN : X.N[j]? = some y := by
     have := congrArg (fun l => l[i]?) hjs
     simp only [List.getElem?_map, ej, e1', Option.map_some] at this
     exact Option.some.inj this
    have eσ : σ[j]? = some (some v) := by
     cases q : σ[j]? with
     | none => rw [q] at e2''; cases e2''
     | some w' =>
      rw [q] at e2''
      have : w' = some v := by simpa using e2''
      rw [this]
    have kc : X.env.scope.names.lookup y = some .cell := S.free (y, .free) (S.caps y hy) rfl
    obtain ⟨m0, hn0, hl0⟩ := I.loc
    obtain ⟨u, ru, lk⟩ := hl0 j y v eN eσ (.inr (.inl kc))
    refine ⟨u, ru, ?_⟩
    rcases lk with ⟨k, _⟩ | ⟨_, c, ec, hc⟩
    ·have k' : X.env.scope.names.lookup y = some .local := k
     rw [kc] at k'; cases k'
    ·obtain ⟨c', hc'⟩ := Option.isSome_iff_exists.mp (clOf_has (env := X.env) (acc := []) (S.caps y hy))
     have hcc : c' = c := Option.some.inj ((S.sub ok hc').symm.trans ec)
     subst hcc
     refine .inr ⟨?_, c', hc', ?_⟩
     ·rcases e3 with e3 | e3 | e3
      ·exfalso
       have hm := PySem.mem_of_lookup e3
       obtain ⟨k', hm', hk'⟩ := relabel_mem hm
       rcases hk' with e | ⟨_, e⟩
       ·subst e
        exact S.noboth y hy (S.names _ hm' rfl)
       ·cases e
      ·exact .inl e3
      ·exact .inr e3
     ·obtain ⟨o, ho, hd⟩ := hc
      exact ⟨o, keep _ o ho, hd⟩
 ·obtain ⟨v, o, ho, hd⟩ := I.cell y c (S.sub ok e)
  exact ⟨v, o, keep _ o ho, hd⟩
 ·have hp' : p = (s.heap.objs.size, oD) := by simpa using hp
  subst hp'
  refine ⟨hoD, I.hok.fresh (Nat.le_refl _), neLt (Nat.lt_succ_self _), fun hb => ?_, hnc⟩
  obtain ⟨_, o, ho, _⟩ := I.stack.mem hb
  exact Nat.lt_irrefl _ (Heap.lt_size ho)
 ·show (none :: capV σ js).length = (x :: cap).length
  unfold capV
  simp [lenJ]
theorem comp_end (S : CompScope X.env.scope sc x cap) (I : Inv X pins σ H s) {fp : List Addr} (hf : ∀ b ∈ fp, FpOk X pins H b) {D C : Addr} {pn' : List (Addr × Obj)} {σ' : St} {H' : Hp} {s' : Shared} {ys : List V} {its : List Value} {k : Nat} {h' : Heap}
  (hD : D = s.heap.objs.size) (hC : C = s.heap.objs.size + 1) (J : Inv (compCx X sc (x :: cap) C s H fp) pn' σ' H' s') (hnD : H' D = none) (hoD : s'.heap.get? D = some { cls := .type "list", data := .seq its.toArray k }) (rv : Vals ys its) (hz : ys.length ≤ sizeLine)
  (hs : Heap.SameBut C s'.heap h') : Inv X pins σ (upd H' D (.lst ys)) { s' with heap := h' } := by
 subst hD hC
 have base : Un (frs X.stack) fp H H' s.heap s'.heap := J.base
 have hnC : H' (s.heap.objs.size + 1) = none := J.free
 have neC : ∀ {b : Addr} {o : Obj}, s.heap.get? b = some o → b ≠ s.heap.objs.size + 1 := fun e => neLt (Nat.lt_succ_of_lt (Heap.lt_size e))
 have neD : ∀ {b : Addr} {o : Obj}, s.heap.get? b = some o → b ≠ s.heap.objs.size := fun e => neLt (Heap.lt_size e)
 have neDH : ∀ {b : Addr} {o : HO}, H b = some o → b ≠ s.heap.objs.size := fun e => neLt (I.hok.lt e)
 refine I.call' (s' := { s' with heap := h' }) (ch := fp) J.os ⟨fun b o e n hb hx => ?_, fun b o e n hb hx => ?_, fun b o e n hx => ?_, fun b o e hx => ?_, fun b xs e => ?_, fun b o u e => ?_, fun b ps e => ?_⟩ (fun b u e => ?_) J.bare fun b hb => ?_
 ·exact (hs.2 b (neC e)).trans (base.keep b o e n hb hx)
 ·obtain ⟨sl, q⟩ := base.slot b o e n hb hx
  exact ⟨sl, (hs.2 b (neC e)).trans q⟩
 ·rw [upd_ne (neD e)]; exact base.free b o e n hx
 ·obtain ⟨o', q⟩ := base.there b o e hx
  exact ⟨o', (hs.2 b (neC e)).trans q⟩
 ·rw [upd_ne (neDH e)]; exact base.tups b xs e
 ·rw [upd_ne (neDH e)]; exact base.frzs b o u e
 ·rw [upd_ne (neDH e)]; exact base.tbls b ps e
 ·by_cases hb : b = s.heap.objs.size
  ·subst hb
   rw [upd_same] at e
   cases e
   exact ⟨hz, its, k, rv, (hs.2 _ (neLt (Nat.lt_succ_self _))).trans hoD⟩
  ·rw [upd_ne hb] at e
   have J' : ObjOk X.prog X.w H' s'.heap b u := J.hok b u e
   refine J'.stay (fun c v hc q => (hs.2 c ?_).trans q) (fun c q => ?_) (fun c xs q => ?_) fun c o u q => ?_
   ·rintro rfl
    rcases hc with rfl | hc
    ·rw [hnC] at e; cases e
    ·rw [hnC] at hc; cases hc
   ·rw [upd_ne (ne_of_none q hnD)]; exact q
   ·rw [upd_ne (ne_of_none q hnD)]; exact q
   ·rw [upd_ne (ne_of_none q hnD)]; exact q
 ·obtain ⟨_, z1, _, z3, z4, z5⟩ := hf b hb
  exact ⟨z3, z1, z4, z5⟩
def PIf (X : Cx) (ifs : List Expr) (t : TT) : Prop :=
 ∀ (pins : List (Addr × Obj)) (s : Shared) (σ : St) (H : Hp) (Q : Bool → Hp → Prop), Inv X pins σ H s → t σ H Q →
  wpAny (model X.prog X.w) X.A (forIn ifs true fun c r => if r = true then do let ok ← isTrue c X.env (eval c X.env); pure (ForInStep.yield ok) else pure (ForInStep.yield r)) (TP X pins σ Q) X.xe s
def tNoIf : TT := fun _ H Q => Q true H
theorem tNoIf_of {σ : St} {H : Hp} {A B : Hp → Prop} (h : A H) : tNoIf σ H (fun b H2 => if b = true then A H2 else B H2) := by
 unfold tNoIf
 exact iteT h
theorem pif_nil {X : Cx} : PIf X [] tNoIf := fun _ _ _ H _ I h => wpAny_tests_nil ⟨H, I, h⟩
theorem pif_one {X : Cx} {c : Expr} {t : TT} (h : PT X c t) : PIf X [c] t := fun pins s σ H Q I q => wpAny_tests_one (h pins s σ H Q I q)
end
section
variable {prog : Program} {w : World} {A : Around} {R : Result → Shared → Prop} {s : Shared}
theorem comp_turns {elt target iter : Expr} {ifs : List Expr} {scope : Scope} {pos : Pos} {it acc : Value} {env : Env} (J : Nat → Shared → Prop)
  (turn : ∀ n s, J n s → wpAny (model prog w) A (pyNext it) (fun r s₁ => match r with
   | none => R (.ok .next) s₁
   | some v => wpAny (model prog w) A (letOwnedTupleGo target it v) (fun _ s₂ => wpAny (model prog w) A (assign target env v) (fun _ s₃ =>
     wpAny (model prog w) A (forIn ifs true fun c r => if r = true then do let ok ← isTrue c env (eval c env); pure (ForInStep.yield ok) else pure (ForInStep.yield r)) (fun ok s₄ =>
      if ok = true then wpAny (model prog w) A (eval elt env) (fun x s₅ =>
       wpAny (model prog w) A (call (.builtin "list.append") [acc, x]) (fun _ s₆ => ∃ m, m < n ∧ J m s₆) (fun _ _ => False) s₅) (fun _ _ => False) s₄
      else ∃ m, m < n ∧ J m s₄) (fun _ _ => False) s₃) (fun _ _ => False) s₂) (fun _ _ => False) s₁) (fun _ _ => False) s)
  (n : Nat) (h : J n s) : codeAny (model prog w) A (.compLoop (.ListComp elt [⟨target, iter, ifs, 0⟩] scope pos) 0 it acc env) R s := by
 refine codeAny_loop rfl J (fun n s hJ => ?_) n h
 show wpAny _ A ((compTurn (.ListComp elt [⟨target, iter, ifs, 0⟩] scope pos) 0 it acc env).onRaise (fun x => do noteFrame x env; theTreesLotGoes x)) _ _ s
 refine wpAny_noted ?_
 rw [compTurn_list]
 refine wpAny_bind (wpAny_standAt (wpAny_bind (wpAny_mono (turn n s hJ) (fun r s₁ h₁ => ?_) fun _ _ z => z.elim)))
 cases r with
 | none => exact wpAny_pure h₁
 | some v =>
  refine wpAny_bind (wpAny_mono h₁ (fun _ s₂ h₂ => ?_) fun _ _ z => z.elim)
  refine wpAny_bind (wpAny_mono h₂ (fun _ s₃ h₃ => wpAny_bind (wpAny_mono h₃ (fun ok s₄ h₄ => ?_) fun _ _ z => z.elim)) fun _ _ z => z.elim)
  cases ok with
  | false => exact wpAny_pure ⟨rfl, h₄⟩
  | true =>
   exact wpAny_bind (wpAny_bind (wpAny_mono h₄ (fun x s₅ h₅ => wpAny_bind (wpAny_mono h₅ (fun _ s₆ h₆ => wpAny_pure (wpAny_pure ⟨rfl, h₆⟩)) fun _ _ z => z.elim)) fun _ _ z => z.elim))
end
section
variable {X : Cx} {pins : List (Addr × Obj)} {σ : St} {H : Hp} {s : Shared} {sc : Scope} {x : Str} {cap : List Str}
def LCw (J : It) (js : List Nat) (σ : St) (tt : TT) (te : TE) (Q : VK) (W : Nat → Nat → List V → Hp → Prop) : Prop :=
 ∀ i m ys H, W i m ys H → ys.length < sizeLine ∧
  ((J.stop i H ∧ ∀ p, H p = none → Q (.ref p) (upd H p (.lst ys))) ∨
   (J.go i H ∧ ∀ x H', J.yld i H x H' → tt (some x :: capV σ js) H' fun b H2 => if b = true then te (some x :: capV σ js) H2 fun v H3 => ∃ m', m' < m ∧ W (i + 1) m' (ys ++ [v]) H3 else ∃ m', m' < m ∧ W (i + 1) m' ys H2))
def tLC (wi : TI) (js : List Nat) (tt : TT) (te : TE) : TE := fun σ H Q => wi σ H fun J H1 => ∃ W : Nat → Nat → List V → Hp → Prop, (∃ m, W 0 m [] H1) ∧ LCw J js σ tt te Q W
theorem comp_run (S : CompScope X.env.scope sc x cap) {js : List Nat} (hjs : js.map (fun j => X.N[j]?) = cap.map some) (hc : X.calm = true) {elt iter : Expr} {ifs : List Expr} {pos px : Pos} {tt : TT} {te : TE}
  (hb : ∀ C s0 H0 ex, PIf (compCx X sc (x :: cap) C s0 H0 ex) ifs tt ∧ PE (compCx X sc (x :: cap) C s0 H0 ex) elt te)
  (I : Inv X pins σ H s) {J : It} {fp : List Addr} {it : Addr} {tn : Nat → Heap → Prop} (T : Turn X.prog X.w X.K (.Name x px) J fp it tn) (st : tn 0 s.heap) (hf : ∀ b ∈ fp, FpOk X pins H b)
  {Q : VK} {W : Nat → Nat → List V → Hp → Prop} (w0 : ∃ m, W 0 m [] H) (turn : LCw J js σ tt te Q W) {RR : Value → Addr → Result → Shared → Prop} {E : Value → Shared → Prop}
  (hR : ∀ D C s' σ' H' ys its k, D = s.heap.objs.size → C = s.heap.objs.size + 1 → Inv (compCx X sc (x :: cap) C s H fp) [(D, { cls := .type "list", data := .seq its.toArray k })] σ' H' s' → Vals ys its → ys.length ≤ sizeLine → (∀ p, H' p = none → Q (.ref p) (upd H' p (.lst ys))) → RR (.ref D) C (.ok .next) s') :
  wpAny (model X.prog X.w) X.A (newList []) (fun acc s₃ => wpAny (model X.prog X.w) X.A (newFunctionEnv sc X.env.globals (clOf X.env sc.names []) [] X.env.qual none .none (some X.env)) (fun cenv s₄ =>
   codeAny (model X.prog X.w) X.A (.compStart (.ListComp elt [⟨.Name x px, iter, ifs, 0⟩] sc pos) 0 (.ref it) acc { cenv with scope := relabel sc X.env }) (RR acc cenv.locals) s₄) E s₃) E s := by
 refine wpAny_newObj_type (wpAny_newFunctionEnv S.cell (by intro y hy; simp at hy) (fun h₁ hns₁ hsb₁ => ?_) S.kind)
 dsimp only at hns₁ hsb₁ ⊢
 have hlt : ∀ b ∈ fp, b < s.heap.objs.size := fun b hb' => by
  obtain ⟨o, e, _⟩ := T.obj 0 _ st b hb'
  exact Heap.lt_size e
 generalize hH2 : s.heap.push { cls := .type "list", dict := none, data := .seq ([] : List Value).toArray } = H2 at hns₁ hsb₁ ⊢
 have hC : H2.objs.size = s.heap.objs.size + 1 := by rw [← hH2, Heap.size_push]
 have old : ∀ b o, s.heap.get? b = some o → h₁.get? b = some o := fun b o e =>
  hsb₁.extBut b o (by rw [hC]; exact neLt (Nat.lt_succ_of_lt (Heap.lt_size e))) (Heap.get?_push_of_some _ (hH2 ▸ Heap.get?_push_of_some _ e))
 have hacc : h₁.get? s.heap.objs.size = some { cls := .type "list", data := .seq ([] : List Value).toArray } :=
  hsb₁.extBut _ _ (by rw [hC]; exact neLt (Nat.lt_succ_self _)) (Heap.get?_push_of_some _ (hH2 ▸ Heap.get?_push_size _ rfl))
 have st₁ : tn 0 h₁ := T.keep _ _ _ st fun b _ o e => old b o e
 obtain ⟨m0, w0⟩ := w0
 rw [hC] at hns₁ hsb₁ ⊢
 generalize hCe : s.heap.objs.size + 1 = C at hns₁ hsb₁ hR ⊢
 generalize hDe : s.heap.objs.size = D at hacc hR ⊢
 have hDe' := hDe.symm
 have hC' : C = s.heap.objs.size + 1 := hCe.symm
 have ltD : ∀ {b : Addr}, b < s.heap.objs.size → b ≠ D := fun h => by rw [← hDe]; exact neLt h
 have loop : ∀ s₃ : Shared, s₃ = { s with heap := h₁, toks := s.toks + ([] : List (Str × Value)).length } →
   codeAny (model X.prog X.w) X.A (.compLoop (.ListComp elt [⟨.Name x px, iter, ifs, 0⟩] sc pos) 0 (.ref it) (.ref D) (compEnvC sc (clOf X.env sc.names []) C X.env)) (RR (.ref D) C) s₃ := by
  rintro s₃ rfl
  have I0 : Inv (compCx X sc (x :: cap) C s H fp) [(D, { cls := .type "list", data := .seq ([] : List Value).toArray })] (none :: capV σ js) H { s with heap := h₁, toks := s.toks + ([] : List (Str × Value)).length } :=
   comp_inv S hjs I hf hlt hDe' hC' old hacc (fun v z => by cases z) hns₁
  have ndN : (compCx X sc (x :: cap) C s H fp).N.Nodup := S.nd
  have hxl : (compCx X sc (x :: cap) C s H fp).env.scope.names.lookup x = some .local := lookup_relabel_local S.tgt
  have fpD : ∀ b ∈ fp, b ≠ D := fun b hb' => ltD (hlt b hb')
  refine comp_turns (fun n s' => ∃ i v0 H' ys its k, Inv (compCx X sc (x :: cap) C s H fp) [(D, { cls := .type "list", data := .seq its.toArray k })] (v0 :: capV σ js) H' s' ∧ tn i s'.heap ∧ (∀ b ∈ fp, H' b = none) ∧ Vals ys its ∧ W i n ys H')
   ?_ m0 ⟨0, none, H, [], [], 0, I0, st₁, fun b hb' => (hf b hb').1, .nil, w0⟩
  rintro n s3 ⟨i, v0, H3, ys, its, k, I3, st3, fr3, rv, w3⟩
  obtain ⟨hlen, hor⟩ := turn i n ys H3 w3
  have stat : ∀ {H' : Hp} {o : Obj}, (∀ b ∈ fp, H' b = none) → ∀ b ∈ fp, FpOk (compCx X sc (x :: cap) C s H fp) [(D, o)] H' b := fun {H' o} hn b hb' =>
   ⟨hn b hb', (I3.ok.exf b hb').1, I3.ok.exfs b hb', .inl hb', (I3.ok.exf b hb').2, fun p hp => by
    have hp' : p = (D, o) := by simpa using hp
    rw [hp']
    exact Ne.symm (fpD b hb')⟩
  rcases hor with ⟨stop, qn⟩ | ⟨go, step⟩
  ·refine thn (T.done (compCx X sc (x :: cap) C s H fp) rfl rfl rfl hc i _ s3 _ H3 _ I3 (stat fr3) st3 stop) fun r s4 ⟨hr, I4⟩ => ?_
   subst hr
   exact hR D C s4 _ H3 ys its k rfl rfl I4 rv (Nat.le_of_lt hlen) qn
  ·refine thn (T.item (compCx X sc (x :: cap) C s H fp) rfl rfl rfl hc i _ s3 _ H3 _ I3 (stat fr3) st3 go) fun r s4 ⟨u, hr, h4⟩ => ?_
   subst hr
   refine thn h4 fun _ s5 ⟨xv, H5, I5, r5, y5, st5, fr5⟩ => ?_
   have I5' := I5.pinned (stat fr5) (T.obj _ _ st5)
   have hg : PG (compCx X sc (x :: cap) C s H fp) (.Name x px) (gName 0) := pg_name ndN rfl (.inl hxl) (.inr hxl)
   refine thn (hg _ s5 _ H5 xv u (fun σ2 H2 => σ2 = some xv :: capV σ js ∧ H2 = H5) I5' r5 ⟨rfl, rfl⟩) fun _ s6 ⟨σ6, H6, I6, e6, e6'⟩ => ?_
   subst e6 e6'
   refine thn ((hb C s H fp).1 _ s6 _ H6 _ I6 (step xv H6 y5)) fun ok s7 ⟨H7, I7, q7⟩ => ?_
   have fin : ∀ {s8 : Shared} {H8 : Hp} {v8 : Option V}, Inv (compCx X sc (x :: cap) C s H fp) ([(D, { cls := .type "list", data := .seq its.toArray k })] ++ pinsAt fp s5.heap) (v8 :: capV σ js) H8 s8 → tn (i + 1) s8.heap ∧ (∀ b ∈ fp, H8 b = none) ∧ s8.heap.get? D = some { cls := .type "list", data := .seq its.toArray k } ∧ H8 D = none ∧ D ≠ C := fun {s8 H8 v8} I8 => by
    have pinD := I8.pin (D, { cls := .type "list", data := .seq its.toArray k }) (List.mem_append_right _ (List.mem_append_left _ (List.mem_singleton.mpr rfl)))
    have pinF : ∀ b ∈ fp, ∀ o, s5.heap.get? b = some o → s8.heap.get? b = some o ∧ H8 b = none := fun b hb' o e =>
     have z := I8.pin (b, o) (List.mem_append_right _ (List.mem_append_right _ (mem_pinsAt hb' e)))
     ⟨z.1, z.2.1⟩
    refine ⟨T.keep _ _ _ st5 fun b hb' o e => (pinF b hb' o e).1, fun b hb' => ?_, pinD.1, pinD.2.1, pinD.2.2.1⟩
    obtain ⟨o, e, _⟩ := T.obj _ _ st5 b hb'
    exact (pinF b hb' o e).2
   cases ok with
   | false =>
    rw [if_neg Bool.false_ne_true] at q7 ⊢
    obtain ⟨m', hm, w7⟩ := q7
    obtain ⟨f1, f2, _⟩ := fin I7
    exact ⟨m', hm, i + 1, some xv, H7, ys, its, k, I7.unpinned, f1, f2, rv, w7⟩
   | true =>
    rw [if_pos rfl] at q7 ⊢
    refine thn ((hb C s H fp).2 _ s7 _ H7 _ I7 q7) fun u8 s8 ⟨v, H8, I8, r8, q8⟩ => ?_
    obtain ⟨f1, f2, f3, f4, f5⟩ := fin I8
    obtain ⟨m', hm, w8⟩ := q8
    have rv' : Vals (ys ++ [v]) (its ++ [u8]) := rv.append (.cons r8 .nil)
    refine wpAny_list_append_plain ⟨k, f3⟩ (fun h9 hl9 hs9 => ?_) (by rw [List.size_toArray, ← rv.length]; exact Nat.le_of_lt hlen)
    obtain ⟨k9, e9⟩ := hl9
    have e9' : h9.get? D = some { cls := .type "list", data := .seq (its ++ [u8]).toArray k9 } := by rw [e9]; simp
    have In : Inv (compCx X sc (x :: cap) C s H fp) (pinsAt fp s5.heap) (some xv :: capV σ js) H8 s8 := I8.pins_of fun p hp => I8.pin p (List.mem_append_right _ (List.mem_append_right _ hp))
    have It' : Inv (compCx X sc (x :: cap) C s H fp) (pinsAt fp s5.heap) (some xv :: capV σ js) H8 { s8 with heap := h9 } :=
     In.turned (it := D) (h' := h9) (t' := s8.toks) (fun b o hb' e => hs9.extBut b o hb' e) f4 f5 (.inr (Nat.le_of_eq hDe)) (fun y c e z => by
      obtain ⟨v', o, ho, _⟩ := I.cell y c (S.sub I.ok e)
      exact ltD (Heap.lt_size ho) z) fun p hp z => by
      have hp' : p ∈ pinsAt fp s5.heap := by simpa using hp
      exact fpD p.1 (of_pinsAt hp').1 z
    refine ⟨m', hm, i + 1, some xv, H8, ys ++ [v], its ++ [u8], k9, It'.pins_of fun p hp => ?_, T.keep _ _ _ f1 fun b hb' o e => hs9.extBut b o (fpD b hb') e, f2, rv', w8⟩
    have hp' : p = (D, { cls := .type "list", data := .seq (its ++ [u8]).toArray k9 }) := by simpa using hp
    subst hp'
    refine ⟨e9', f4, f5, fun hb' => ?_, fun v z => by cases z⟩
    obtain ⟨_, o, ho, _⟩ := I.stack.mem hb'
    exact ltD (Heap.lt_size ho) rfl
 exact codeAny_compStart_list (loop _ rfl) (T.self X.A 0 _ _ _ st₁ (loop _ rfl))
theorem pe_lc (S : CompScope X.env.scope sc x cap) {js : List Nat} (hjs : js.map (fun j => X.N[j]?) = cap.map some) (hc : X.calm = true) (hxe : ∀ e s, ¬ X.xe e s) {elt iter : Expr} {ifs : List Expr} {pos px : Pos} {wi : TI} {tt : TT} {te : TE}
  (hi : PI X (.Name x px) iter wi) (hb : ∀ C s0 H0 ex, PIf (compCx X sc (x :: cap) C s0 H0 ex) ifs tt ∧ PE (compCx X sc (x :: cap) C s0 H0 ex) elt te)
  (hs : ∀ x, foldedSetIterable iter X.env x = pure x := by intro _; rfl) : PE X (.ListComp elt [⟨.Name x px, iter, ifs, 0⟩] sc pos) (tLC wi js tt te) := by
 intro pins s σ H Q I h
 rw [eval_ListComp]
 refine wpAny_comprehension_free (use := none) rfl hs (closureFor_eq (S.cells I.ok)) S.kind S.names (thn (hi pins s σ H _ I h) fun xv s₁ h₁ => thn h₁ fun itv s₂ h₂ => ?_)
 obtain ⟨it, fp, tn, J, H2, e, I2, T, st2, f2, W, w0, turn⟩ := h₂
 subst e
 refine comp_run (Q := Q) (RR := fun acc C => compPost (model X.prog X.w) X.A X.xe none (EP X pins σ Q) acc C) S hjs hc hb I2 T st2 f2 w0 turn ?_
 intro D C s' σ' H' ys its k hD hC J' rv hz q
 obtain ⟨m, hn, _⟩ := J'.loc
 have pinD := J'.pin (D, { cls := .type "list", data := .seq its.toArray k }) (List.mem_append_right _ (List.mem_singleton.mpr rfl))
 exact ⟨m, hn, fun h' hs' => ⟨.ref D, _, comp_end S I2 f2 hD hC J' pinD.2.1 pinD.1 rv hz hs', rfl, q D pinD.2.1⟩⟩
end
end L2
namespace L2
open PySem PySem.Spec PyProof.Rows
section
variable {X : Cx} {pins : List (Addr × Obj)} {σ : St} {H : Hp} {s : Shared} {sc : Scope} {x : Str} {cap : List Str}
end
section
variable {X : Cx}
theorem call_all (hc : X.calm = true) : CallR X (.builtin "all") (fun xs H Q => ∃ (p : Addr) (bs : List Bool), xs = [.ref p] ∧ SqL X.K H p (bs.map V.bl) ∧ Q (.bl (bs.all id)) H) := by
 intro pins s σ H xs us Q I r h
 obtain ⟨p, bs, rfl, hq, q⟩ := h
 obtain ⟨u, rfl, r1⟩ := vals1 r
 cases r1
 obtain ⟨its, rv, pl, hz⟩ := I.list hq
 have hl := plainIs pl
 have hlt : p < s.heap.objs.size := by obtain ⟨_, e, _⟩ := hl; exact Heap.lt_size e
 have hlen : its.length = bs.length := by rw [← rv.length, List.length_map]
 refine call_all_walk (wpAny_pyIter_list hl ?_)
 refine ⟨s.heap.objs.size, [s.heap.objs.size, p], [s.heap.objs.size], its.toArray.size, _, _, fun i => (bs[i]?).getD true, rfl, Walks.list (A := X.A.in1) (I.ok.hd hc) _ p (Nat.ne_of_lt hlt) its.toArray,
  ⟨⟨_, Heap.get?_push_size _ rfl, rfl, rfl⟩, hl.push _⟩, fun i v s' Q' E' hP hQ => ?_, fun h' tk hk => ?_⟩
 ·have hP' : its[i]? = some v := by simpa using hP
  have hi : i < bs.length := by rw [← hlen]; exact (List.getElem?_eq_some_iff.mp hP').1
  obtain ⟨u, hu, ru⟩ := rv.get (i := i) (x := V.bl bs[i]) (by rw [List.getElem?_map, List.getElem?_eq_getElem hi]; rfl)
  rw [hP'] at hu
  cases hu
  cases (show v = Value.bool bs[i] from ru)
  simp only [List.getElem?_eq_getElem hi, Option.getD_some] at hQ
  exact wpAny_truthy_bool hQ
 ·have e : ((List.range its.toArray.size).all fun i => (bs[i]?).getD true) = bs.all id := by
   rw [List.size_toArray, hlen]; exact PyProof.Rows.LSm.range_all bs
  rw [e]
  exact ⟨.bl (bs.all id), H, I.kept fun b o e => hk b o (fun hm => by rw [List.mem_singleton.mp hm] at e; exact Nat.lt_irrefl _ (Heap.lt_size e)) (Heap.get?_push_of_some _ e), rfl, q⟩
end
end L2
namespace L2
open PySem PySem.Spec PyProof.Rows
mutual
def Dat (K : PySem.W.Frag) (G : Hp) : V → PyData → Prop
 | v, .none => v = .non
 | v, .bool b => v = .bl b
 | v, .int i => v = .int i
 | v, .str x => v = .str x
 | v, .list ds => ∃ p xs, v = .ref p ∧ G p = some (.lst xs) ∧ Dats K G xs ds
 | v, .tuple ds => ∃ p xs, v = .ref p ∧ SqT K G p xs ∧ Dats K G xs ds
 | _, .dict _ => False
def Dats (K : PySem.W.Frag) (G : Hp) : List V → List PyData → Prop
 | xs, [] => xs = []
 | xs, d :: ds => ∃ y ys, xs = y :: ys ∧ Dat K G y d ∧ Dats K G ys ds
end
theorem Same.tup {K : PySem.W.Frag} {H H' : Hp} {a : Addr} {xs : List V} (e : Same H H') (h : SqT K H a xs) : SqT K H' a xs := by
 rcases h with (h | ⟨o, h⟩) | h
 ·exact .inl (.inl (e _ _ h))
 ·exact .inl (.inr ⟨o, e _ _ h⟩)
 ·exact .inr h
section
variable {K : PySem.W.Frag} {G G' : Hp}
theorem dat_int (i : Int) : Dat K G (.int i) (.int i) := by unfold Dat; rfl
theorem dat_str (x : Str) : Dat K G (.str x) (.str x) := by unfold Dat; rfl
theorem dat_bl (b : Bool) : Dat K G (.bl b) (.bool b) := by unfold Dat; rfl
theorem dat_non : Dat K G .non .none := by unfold Dat; rfl
theorem dat_tup {p : Addr} {xs : List V} {ds : List PyData} (h : SqT K G p xs) (r : Dats K G xs ds) : Dat K G (.ref p) (.tuple ds) := by unfold Dat; exact ⟨p, xs, rfl, h, r⟩
theorem dat_lst {p : Addr} {xs : List V} {ds : List PyData} (h : G p = some (.lst xs)) (r : Dats K G xs ds) : Dat K G (.ref p) (.list ds) := by unfold Dat; exact ⟨p, xs, rfl, h, r⟩
theorem dats_nil : Dats K G [] [] := by unfold Dats; rfl
theorem dats_cons {x : V} {xs : List V} {d : PyData} {ds : List PyData} (h : Dat K G x d) (r : Dats K G xs ds) : Dats K G (x :: xs) (d :: ds) := by
 unfold Dats; exact ⟨x, xs, rfl, h, r⟩
theorem Dat.int {v : V} {i : Int} (h : Dat K G v (.int i)) : v = .int i := by unfold Dat at h; exact h
theorem Dat.str {v : V} {x : Str} (h : Dat K G v (.str x)) : v = .str x := by unfold Dat at h; exact h
theorem Dat.bl {v : V} {x : Bool} (h : Dat K G v (.bool x)) : v = .bl x := by unfold Dat at h; exact h
theorem Dat.non {v : V} (h : Dat K G v .none) : v = .non := by unfold Dat at h; exact h
theorem Dat.tup {v : V} {ds : List PyData} (h : Dat K G v (.tuple ds)) : ∃ p xs, v = .ref p ∧ SqT K G p xs ∧ Dats K G xs ds := by unfold Dat at h; exact h
theorem Dat.lst {v : V} {ds : List PyData} (h : Dat K G v (.list ds)) : ∃ p xs, v = .ref p ∧ G p = some (.lst xs) ∧ Dats K G xs ds := by unfold Dat at h; exact h
theorem Dats.nil {xs : List V} (h : Dats K G xs []) : xs = [] := by unfold Dats at h; exact h
theorem Dats.cons {xs : List V} {d : PyData} {ds : List PyData} (h : Dats K G xs (d :: ds)) : ∃ y ys, xs = y :: ys ∧ Dat K G y d ∧ Dats K G ys ds := by unfold Dats at h; exact h
theorem Dats.length : ∀ {ds : List PyData} {xs : List V}, Dats K G xs ds → xs.length = ds.length
 | [], _, h => by rw [h.nil]; rfl
 | d :: ds, _, h => by
  obtain ⟨y, ys, rfl, _, r⟩ := h.cons
  show ys.length + 1 = ds.length + 1
  rw [r.length]
theorem Dats.get : ∀ {ds : List PyData} {xs : List V} {i : Nat} {d : PyData}, Dats K G xs ds → ds[i]? = some d → ∃ x, xs[i]? = some x ∧ Dat K G x d
 | [], _, _, _, _, e => by simp at e
 | d :: ds, _, 0, _, h, e => by
  obtain ⟨y, ys, rfl, hd, r⟩ := h.cons
  simp at e; subst e; exact ⟨y, rfl, hd⟩
 | d :: ds, _, i + 1, d', h, e => by
  obtain ⟨y, ys, rfl, hd, r⟩ := h.cons
  obtain ⟨x, h1, h2⟩ := Dats.get (i := i) (d := d') r (by simpa using e)
  exact ⟨x, by simpa using h1, h2⟩
theorem Dats.get' {ds : List PyData} {xs : List V} {i : Nat} {x : V} (h : Dats K G xs ds) (e : xs[i]? = some x) : ∃ d, ds[i]? = some d ∧ Dat K G x d := by
 have hl := h.length
 have hi : i < xs.length := (List.getElem?_eq_some_iff.mp e).1
 obtain ⟨y, h1, h2⟩ := h.get (List.getElem?_eq_getElem (show i < ds.length by omega))
 rw [e] at h1; cases h1
 exact ⟨_, List.getElem?_eq_getElem (by omega), h2⟩
theorem dats_append : ∀ {ds es : List PyData} {xs ys : List V}, Dats K G xs ds → Dats K G ys es → Dats K G (xs ++ ys) (ds ++ es)
 | [], _, _, _, h, r => by rw [h.nil]; exact r
 | d :: ds, _, _, _, h, r => by
  obtain ⟨y, ys, rfl, hd, r'⟩ := h.cons
  exact dats_cons hd (dats_append r' r)
theorem dats_snoc {ds : List PyData} {d : PyData} {xs : List V} {x : V} (h : Dats K G xs ds) (r : Dat K G x d) : Dats K G (xs ++ [x]) (ds ++ [d]) := dats_append h (dats_cons r dats_nil)
theorem dats_take : ∀ {ds : List PyData} {xs : List V} (n : Nat), Dats K G xs ds → Dats K G (xs.take n) (ds.take n)
 | _, _, 0, _ => dats_nil
 | [], _, n + 1, h => by rw [h.nil]; exact dats_nil
 | d :: ds, _, n + 1, h => by
  obtain ⟨y, ys, rfl, hd, r⟩ := h.cons
  exact dats_cons hd (dats_take n r)
theorem dats_drop : ∀ {ds : List PyData} {xs : List V} (n : Nat), Dats K G xs ds → Dats K G (xs.drop n) (ds.drop n)
 | _, _, 0, h => h
 | [], _, n + 1, h => by rw [h.nil]; exact dats_nil
 | d :: ds, _, n + 1, h => by
  obtain ⟨y, ys, rfl, hd, r⟩ := h.cons
  exact dats_drop n r
theorem dats_set : ∀ {ds : List PyData} {xs : List V} {x : V} {d : PyData} (n : Nat), Dats K G xs ds → Dat K G x d → Dats K G (xs.set n x) (ds.set n d)
 | [], _, _, _, _, h, _ => by rw [h.nil]; exact dats_nil
 | d :: ds, _, _, _, 0, h, e => by
  obtain ⟨y, ys, rfl, hd, r⟩ := h.cons
  exact dats_cons e r
 | d :: ds, _, _, _, n + 1, h, e => by
  obtain ⟨y, ys, rfl, hd, r⟩ := h.cons
  exact dats_cons hd (dats_set n r e)
theorem dats_rev : ∀ {ds : List PyData} {xs : List V}, Dats K G xs ds → Dats K G xs.reverse ds.reverse
 | [], _, h => by rw [h.nil]; exact dats_nil
 | d :: ds, _, h => by
  obtain ⟨y, ys, rfl, hd, r⟩ := h.cons
  rw [List.reverse_cons, List.reverse_cons]
  exact dats_snoc (dats_rev r) hd
theorem dats_ints : ∀ ns : List Int, Dats K G (ns.map V.int) (ns.map PyData.int)
 | [] => dats_nil
 | n :: ns => dats_cons (dat_int n) (dats_ints ns)
theorem Dats.ints : ∀ {ns : List Int} {xs : List V}, Dats K G xs (ns.map PyData.int) → xs = ns.map V.int
 | [], _, h => h.nil
 | n :: ns, _, h => by
  obtain ⟨y, ys, rfl, hd, r⟩ := h.cons
  rw [hd.int, Dats.ints r]; rfl
end
mutual
theorem Dat.same {K : PySem.W.Frag} {G G' : Hp} (e : Same G G') : ∀ {d : PyData} {v : V}, Dat K G v d → Dat K G' v d
 | .none, _, h => by rw [h.non]; exact dat_non
 | .bool b, _, h => by rw [h.bl]; exact dat_bl b
 | .int i, _, h => by rw [h.int]; exact dat_int i
 | .str x, _, h => by rw [h.str]; exact dat_str x
 | .list ds, _, h => by
  obtain ⟨p, xs, rfl, h1, h2⟩ := h.lst
  exact dat_lst (e _ _ h1) (Dats.same e h2)
 | .tuple ds, _, h => by
  obtain ⟨p, xs, rfl, h1, h2⟩ := h.tup
  exact dat_tup (e.tup h1) (Dats.same e h2)
 | .dict _, _, h => by unfold Dat at h; exact h.elim
theorem Dats.same {K : PySem.W.Frag} {G G' : Hp} (e : Same G G') : ∀ {ds : List PyData} {xs : List V}, Dats K G xs ds → Dats K G' xs ds
 | [], _, h => by rw [h.nil]; exact dats_nil
 | d :: ds, _, h => by
  obtain ⟨y, ys, rfl, hd, r⟩ := h.cons
  exact dats_cons (Dat.same e hd) (Dats.same e r)
end
section
variable {X : Cx} {pins : List (Addr × Obj)} {σ : St} {H G : Hp} {s : Shared}
mutual
theorem Dat.reads (I : Inv X pins σ H s) (e : Same G H) : ∀ {d : PyData} {v : V} {u : Value}, Dat X.K G v d → RelV v u → ∃ as, Reads s.heap u d as
 | .none, _, u, h, r => by
  rw [h.non] at r
  cases (show u = Value.none from r)
  exact ⟨_, .none⟩
 | .bool b, _, u, h, r => by
  rw [h.bl] at r
  cases (show u = Value.bool b from r)
  exact ⟨_, .bool b⟩
 | .int i, _, u, h, r => by
  rw [h.int] at r
  obtain ⟨t, q⟩ := (show ∃ t, u = Value.int i t from r)
  subst q
  exact ⟨_, .int i t⟩
 | .str x, _, u, h, r => by
  rw [h.str] at r
  obtain ⟨t, q⟩ := (show ∃ t, u = Value.str x t from r)
  subst q
  exact ⟨_, .str x t⟩
 | .list ds, _, u, h, r => by
  obtain ⟨p, xs, rfl, h1, h2⟩ := h.lst
  cases (show u = Value.ref p from r)
  obtain ⟨its, rv, ⟨o, n, e1, c, _, d1⟩, _⟩ := I.list (SqL.of (e _ _ h1))
  obtain ⟨as, ra⟩ := Dats.reads I e h2 rv
  exact ⟨_, Reads.list e1 c d1 (by simpa using ra)⟩
 | .tuple ds, _, u, h, r => by
  obtain ⟨p, xs, rfl, h1, h2⟩ := h.tup
  cases (show u = Value.ref p from r)
  obtain ⟨its, rv, ⟨o, e1, c, n, d1⟩, _⟩ := I.tuple (e.tup h1)
  obtain ⟨as, ra⟩ := Dats.reads I e h2 rv
  exact ⟨_, Reads.tuple e1 c d1 (by simpa using ra)⟩
 | .dict _, _, _, h, _ => by unfold Dat at h; exact h.elim
theorem Dats.reads (I : Inv X pins σ H s) (e : Same G H) : ∀ {ds : List PyData} {xs : List V} {us : List Value}, Dats X.K G xs ds → Vals xs us → ∃ as, ReadsAll s.heap us ds as
 | [], _, us, h, r => by
  rw [h.nil] at r
  cases r
  exact ⟨_, .nil⟩
 | d :: ds, _, us, h, r => by
  obtain ⟨y, ys, rfl, hd, hr⟩ := h.cons
  cases r with
  | cons r1 r2 =>
   obtain ⟨as, ra⟩ := Dat.reads I e hd r1
   obtain ⟨bs, rb⟩ := Dats.reads I e hr r2
   exact ⟨_, .cons ra rb⟩
end
end
mutual
def noBool : PyData → Bool
 | .bool _ => false
 | .dict _ => false
 | .list xs => noBools xs
 | .tuple xs => noBools xs
 | .none | .int _ | .str _ => true
def noBools : List PyData → Bool
 | [] => true
 | x :: xs => noBool x && noBools xs
end
mutual
theorem noMix_of : ∀ a b : PyData, noBool a = true → noBool b = true → SeqAt.noMix a b = true
 | .list xs, .list ys, h, k => by rw [SeqAt.noMix]; exact noMixs_of xs ys (by simpa [noBool] using h) (by simpa [noBool] using k)
 | .tuple xs, .tuple ys, h, k => by rw [SeqAt.noMix]; exact noMixs_of xs ys (by simpa [noBool] using h) (by simpa [noBool] using k)
 | .bool _, _, h, _ => by simp [noBool] at h
 | .dict _, _, h, _ => by simp [noBool] at h
 | .none, .bool _, _, k | .int _, .bool _, _, k | .str _, .bool _, _, k | .list _, .bool _, _, k | .tuple _, .bool _, _, k => by simp [noBool] at k
 | .none, .dict _, _, k | .int _, .dict _, _, k | .str _, .dict _, _, k | .list _, .dict _, _, k | .tuple _, .dict _, _, k => by simp [noBool] at k
 | .none, .none, _, _ | .none, .int _, _, _ | .none, .str _, _, _ | .none, .list _, _, _ | .none, .tuple _, _, _ => by simp [SeqAt.noMix]
 | .int _, .none, _, _ | .int _, .int _, _, _ | .int _, .str _, _, _ | .int _, .list _, _, _ | .int _, .tuple _, _, _ => by simp [SeqAt.noMix]
 | .str _, .none, _, _ | .str _, .int _, _, _ | .str _, .str _, _, _ | .str _, .list _, _, _ | .str _, .tuple _, _, _ => by simp [SeqAt.noMix]
 | .list _, .none, _, _ | .list _, .int _, _, _ | .list _, .str _, _, _ | .list _, .tuple _, _, _ => by simp [SeqAt.noMix]
 | .tuple _, .none, _, _ | .tuple _, .int _, _, _ | .tuple _, .str _, _, _ | .tuple _, .list _, _, _ => by simp [SeqAt.noMix]
theorem noMixs_of : ∀ a b : List PyData, noBools a = true → noBools b = true → SeqAt.noMixAll a b = true
 | [], [], _, _ | [], _ :: _, _, _ | _ :: _, [], _, _ => by simp [SeqAt.noMixAll]
 | x :: xs, y :: ys, h, k => by
  have h' : noBool x = true ∧ noBools xs = true := by simpa [noBools] using h
  have k' : noBool y = true ∧ noBools ys = true := by simpa [noBools] using k
  rw [SeqAt.noMixAll, noMix_of x y h'.1 k'.1, noMixs_of xs ys h'.2 k'.2]; rfl
end
structure Pl (n : Nat) (d : PyData) : Prop where
 lay : d.canLay0 = true
 dep : d.depth ≤ n
 nb : noBool d = true
theorem Pl.shaped {n : Nat} {d : PyData} (h : Pl n d) (k : n ≤ 64) : SeqAt.shaped d = true := by
 show (PyData.canLay0 d && decide (PyData.depth d ≤ 64)) = true
 rw [Bool.and_eq_true]
 exact ⟨h.lay, decide_eq_true (Nat.le_trans h.dep k)⟩
theorem Pl.mix {n : Nat} {a b : PyData} (h : Pl n a) (k : Pl n b) : SeqAt.noMix a b = true := noMix_of a b h.nb k.nb
mutual
theorem same_eq : ∀ {a b : PyData}, PySem.Spec.same a b = true → a = b
 | .none, b, h => by cases b <;> first | rfl | simp [PySem.Spec.same] at h
 | .bool x, b, h => by cases b <;> simp [PySem.Spec.same] at h <;> rw [h]
 | .int x, b, h => by cases b <;> simp [PySem.Spec.same] at h <;> rw [h]
 | .str x, b, h => by cases b <;> simp [PySem.Spec.same] at h <;> rw [h]
 | .list x, b, h => by
  cases b <;> simp [PySem.Spec.same] at h
  rw [sameAll_eq h]
 | .tuple x, b, h => by
  cases b <;> simp [PySem.Spec.same] at h
  rw [sameAll_eq h]
 | .dict x, b, h => by
  cases b <;> simp [PySem.Spec.same] at h
  rw [samePairs_eq h]
theorem sameAll_eq : ∀ {a b : List PyData}, PySem.Spec.sameAll a b = true → a = b
 | [], [], _ => rfl
 | [], _ :: _, h => by simp [PySem.Spec.sameAll] at h
 | _ :: _, [], h => by simp [PySem.Spec.sameAll] at h
 | x :: xs, y :: ys, h => by
  have h' : PySem.Spec.same x y = true ∧ PySem.Spec.sameAll xs ys = true := by simpa [PySem.Spec.sameAll] using h
  rw [same_eq h'.1, sameAll_eq h'.2]
theorem samePairs_eq : ∀ {a b : List (PyData × PyData)}, PySem.Spec.samePairs a b = true → a = b
 | [], [], _ => rfl
 | [], _ :: _, h => by simp [PySem.Spec.samePairs] at h
 | _ :: _, [], h => by simp [PySem.Spec.samePairs] at h
 | (x, z) :: xs, (y, w) :: ys, h => by
  have h' : (PySem.Spec.same x y = true ∧ PySem.Spec.same z w = true) ∧ PySem.Spec.samePairs xs ys = true := by simpa [PySem.Spec.samePairs] using h
  rw [same_eq h'.1.1, same_eq h'.1.2, samePairs_eq h'.2]
end
theorem same_iff {a b : PyData} : PySem.Spec.same a b = true ↔ a = b := ⟨same_eq, fun e => by rw [e]; exact PySem.Spec.same_self b⟩
theorem same_ne {a b : PyData} (h : a ≠ b) : PySem.Spec.same a b = false := by
 cases e : PySem.Spec.same a b with
 | false => rfl
 | true => exact absurd (same_eq e) h
section
variable {X : Cx}
def rEqD (K : PySem.W.Frag) (g : Bool → Bool) : R2 := fun x y H Q => ∃ (G : Hp) (a b : PyData), Same G H ∧ Dat K G x a ∧ Dat K G y b ∧ (SeqAt.shaped a = true ∧ SeqAt.shaped b = true ∧ SeqAt.noMix a b = true) ∧ Q (.bl (g (PySem.Spec.same a b))) H
theorem op_eqD (hu : X.A.units + 64 < cLine) : OpR X (compareOp .Eq) (rEqD X.K fun b => b) := by
 intro pins s σ H x y v u Q I rx ry h
 obtain ⟨G, a, b, e, ha, hb, ⟨sa, sb, nm⟩, q⟩ := h
 obtain ⟨as, ra⟩ := Dat.reads I e ha rx
 obtain ⟨bs, rb⟩ := Dat.reads I e hb ry
 exact eq_dataH_same ra rb sa sb hu nm ⟨.bl (PySem.Spec.same a b), H, I, rfl, q⟩
theorem op_neD (hu : X.A.units + 64 < cLine) : OpR X (compareOp .NotEq) (rEqD X.K fun b => !b) := by
 intro pins s σ H x y v u Q I rx ry h
 obtain ⟨G, a, b, e, ha, hb, ⟨sa, sb, nm⟩, q⟩ := h
 obtain ⟨as, ra⟩ := Dat.reads I e ha rx
 obtain ⟨bs, rb⟩ := Dat.reads I e hb ry
 exact ne_dataH_same ra rb sa sb hu nm ⟨.bl (!PySem.Spec.same a b), H, I, rfl, q⟩
end
theorem pl_int (i : Int) {n : Nat} : Pl n (.int i) := ⟨by unfold PyData.canLay0; rfl, by unfold PyData.depth; omega, by unfold noBool; rfl⟩
theorem canLayAll0_of : ∀ {ds : List PyData}, (∀ d ∈ ds, d.canLay0 = true) → PyData.canLayAll0 ds = true
 | [], _ => rfl
 | d :: ds, h => by
  unfold PyData.canLayAll0
  rw [h d (by simp), canLayAll0_of fun e he => h e (by simp [he])]; rfl
theorem depthAll_of : ∀ {ds : List PyData} {n : Nat}, (∀ d ∈ ds, d.depth ≤ n) → PyData.depthAll ds ≤ n
 | [], _, _ => by unfold PyData.depthAll; omega
 | d :: ds, n, h => by
  have h1 := h d (by simp)
  have h2 := depthAll_of (ds := ds) (n := n) fun e he => h e (by simp [he])
  unfold PyData.depthAll
  omega
theorem noBools_of : ∀ {ds : List PyData}, (∀ d ∈ ds, noBool d = true) → noBools ds = true
 | [], _ => rfl
 | d :: ds, h => by
  unfold noBools
  rw [h d (by simp), noBools_of fun e he => h e (by simp [he])]; rfl
theorem pl_tup {n : Nat} {ds : List PyData} (h : ∀ d ∈ ds, Pl n d) : Pl (n + 1) (.tuple ds) := by
 refine ⟨?_, ?_, ?_⟩
 ·unfold PyData.canLay0; exact canLayAll0_of fun d hd => (h d hd).lay
 ·have := depthAll_of fun d hd => (h d hd).dep
  unfold PyData.depth; omega
 ·unfold noBool; exact noBools_of fun d hd => (h d hd).nb
theorem pl_lst {n : Nat} {ds : List PyData} (h : ∀ d ∈ ds, Pl n d) : Pl (n + 1) (.list ds) := by
 refine ⟨?_, ?_, ?_⟩
 ·unfold PyData.canLay0; exact canLayAll0_of fun d hd => (h d hd).lay
 ·have := depthAll_of fun d hd => (h d hd).dep
  unfold PyData.depth; omega
 ·unfold noBool; exact noBools_of fun d hd => (h d hd).nb
end L2
namespace L2
open PySem PySem.Spec PyProof.Rows
structure Grow (G H G' H' : Hp) : Prop where
 gg : Same G G'
 gh : Same G' H'
 hh : Same H H'
 fr : ∀ b o, G' b = some o → G b = some o ∨ H b = none
theorem Grow.refl {G H : Hp} (s : Same G H) : Grow G H G H := ⟨Same.refl _, s, Same.refl _, fun _ _ h => .inl h⟩
theorem Grow.trans {G H G1 H1 G2 H2 : Hp} (a : Grow G H G1 H1) (b : Grow G1 H1 G2 H2) : Grow G H G2 H2 :=
 ⟨a.gg.trans b.gg, b.gh, a.hh.trans b.hh, fun x o h => by
  rcases b.fr x o h with h | h
  ·exact a.fr x o h
  ·exact .inr (a.hh.free h)⟩
theorem grow_new {G H : Hp} {p : Addr} {o : HO} (s : Same G H) (hp : H p = none) : Grow G H (upd G p o) (upd H p o) := by
 have hg : G p = none := s.free hp
 refine ⟨fun b u e => ?_, fun b u e => ?_, fun b u e => ?_, fun b u e => ?_⟩
 ·rw [upd_ne (ne_of_none e hg)]; exact e
 ·by_cases h : b = p
  ·subst h; rw [upd_same] at e ⊢; exact e
  ·rw [upd_ne h] at e ⊢; exact s b u e
 ·rw [upd_ne (ne_of_none e hp)]; exact e
 ·by_cases h : b = p
  ·subst h; exact .inr hp
  ·rw [upd_ne h] at e; exact .inl e
theorem grow_h {G H H' : Hp} (s : Same G H) (h : Same H H') : Grow G H G H' := ⟨Same.refl _, s.trans h, h, fun _ _ e => .inl e⟩
theorem Grow.out {G H G' H' : Hp} (a : Grow G H G' H') {p : Addr} {o : HO} (hp : H p = some o) (hg : G p = none) : G' p = none := by
 cases e : G' p with
 | none => rfl
 | some u =>
  rcases a.fr p u e with h | h
  ·rw [hg] at h; cases h
  ·rw [hp] at h; cases h
def Ev (K : PySem.W.Frag) (t : TE) (σ : St) (G : Hp) (d : PyData) : Prop :=
 ∀ G1 H, Same G G1 → Same G1 H → ∀ Q : VK, (∀ v G' H', Grow G1 H G' H' → Dat K G' v d → Q v H') → t σ H Q
def EvT (t : TT) (σ : St) (G : Hp) (b : Bool) : Prop :=
 ∀ G1 H, Same G G1 → Same G1 H → ∀ Q : Bool → Hp → Prop, (∀ G' H', Grow G1 H G' H' → Q b H') → t σ H Q
def EvA (K : PySem.W.Frag) (t : TA) (σ : St) (G : Hp) (ds : List PyData) : Prop :=
 ∀ G1 H, Same G G1 → Same G1 H → ∀ Q : List V → Hp → Prop, (∀ vs G' H', Grow G1 H G' H' → Dats K G' vs ds → Q vs H') → t σ H Q
section
variable {K : PySem.W.Frag} {σ : St} {G : Hp} {ta tb tc : TE} {a b d : PyData}
theorem Ev.mono {t : TE} {G' : Hp} (h : Ev K t σ G d) (s : Same G G') : Ev K t σ G' d := fun G1 H s1 s2 Q k => h G1 H (s.trans s1) s2 Q k
theorem Ev.use {t : TE} {H : Hp} {Q : VK} (h : Ev K t σ G d) (s : Same G H) (k : ∀ v G' H', Grow G H G' H' → Dat K G' v d → Q v H') : t σ H Q := h G H (Same.refl _) s Q k
theorem EvT.use {t : TT} {c : Bool} {H : Hp} {Q : Bool → Hp → Prop} (h : EvT t σ G c) (s : Same G H) (k : ∀ G' H', Grow G H G' H' → Q c H') : t σ H Q := h G H (Same.refl _) s Q k
theorem ev_var {i : Nat} {v : V} (h : σ[i]? = some (some v)) (hd : Dat K G v d) : Ev K (tVar i) σ G d := fun G1 H s1 s2 Q k => ⟨v, h, k v G1 H (Grow.refl s2) (hd.same s1)⟩
theorem ev_c {v : V} (hd : Dat K G v d) : Ev K (tC v) σ G d := fun G1 H s1 s2 Q k => k v G1 H (Grow.refl s2) (hd.same s1)
theorem ev_int {i : Int} : Ev K (tC (.int i)) σ G (.int i) := ev_c (dat_int i)
theorem ev_bl {x : Bool} : Ev K (tC (.bl x)) σ G (.bool x) := ev_c (dat_bl x)
theorem ev_non : Ev K (tC .non) σ G .none := ev_c dat_non
theorem ev_op {r : R2} (ha : Ev K ta σ G a) (hb : Ev K tb σ G b) (hr : ∀ G1 H x y (Q : VK), Same G G1 → Same G1 H → Dat K G1 x a → Dat K G1 y b → (∀ v G' H', Grow G1 H G' H' → Dat K G' v d → Q v H') → r x y H Q) : Ev K (tOp r ta tb) σ G d :=
 fun G1 H s1 s2 Q k => ha G1 H s1 s2 _ fun x G2 H2 g2 hx => hb G2 H2 (s1.trans g2.gg) g2.gh _ fun y G3 H3 g3 hy =>
  hr G3 H3 x y Q ((s1.trans g2.gg).trans g3.gg) g3.gh (hx.same g3.gg) hy fun v G' H' g hv => k v G' H' ((g2.trans g3).trans g) hv
theorem ev_i0 {g : Int → Int → V} {i j : Int} (ha : Ev K ta σ G (.int i)) (hb : Ev K tb σ G (.int j)) (hg : Dat K G (g i j) d) : Ev K (tOp (rI0 g) ta tb) σ G d :=
 ev_op ha hb fun G1 H x y Q s1 s2 hx hy k => by
  rw [hx.int, hy.int]
  exact ⟨i, j, rfl, rfl, k _ G1 H (Grow.refl s2) (hg.same s1)⟩
theorem ev_iC {C : Int → Int → Prop} {g : Int → Int → V} {i j : Int} (ha : Ev K ta σ G (.int i)) (hb : Ev K tb σ G (.int j)) (hc : C i j) (hg : Dat K G (g i j) d) : Ev K (tOp (rI C g) ta tb) σ G d :=
 ev_op ha hb fun G1 H x y Q s1 s2 hx hy k => by
  rw [hx.int, hy.int]
  exact ⟨i, j, rfl, rfl, hc, k _ G1 H (Grow.refl s2) (hg.same s1)⟩
theorem ev_ixT {ds : List PyData} {i : Int} {n : Nat} (ha : Ev K ta σ G (.tuple ds)) (hb : Ev K tb σ G (.int i)) (hn : ixN ds.length i = some n) (hd : ds[n]? = some d) : Ev K (tOp (rIxT K) ta tb) σ G d :=
 ev_op ha hb fun G1 H x y Q s1 s2 hx hy k => by
  obtain ⟨p, xs, rfl, hp, hxs⟩ := hx.tup
  obtain ⟨z, hz, hzd⟩ := hxs.get hd
  rw [hy.int]
  exact ⟨p, xs, i, z, rfl, rfl, s2.tup hp, by unfold atI; rw [hxs.length, hn]; exact hz, k z G1 H (Grow.refl s2) hzd⟩
theorem ev_ixL {ds : List PyData} {i : Int} {n : Nat} (ha : Ev K ta σ G (.list ds)) (hb : Ev K tb σ G (.int i)) (hn : ixN ds.length i = some n) (hd : ds[n]? = some d) : Ev K (tOp (rIxL K) ta tb) σ G d :=
 ev_op ha hb fun G1 H x y Q s1 s2 hx hy k => by
  obtain ⟨p, xs, rfl, hp, hxs⟩ := hx.lst
  obtain ⟨z, hz, hzd⟩ := hxs.get hd
  rw [hy.int]
  exact ⟨p, xs, i, z, rfl, rfl, SqL.of (s2 _ _ hp), by unfold atI; rw [hxs.length, hn]; exact hz, k z G1 H (Grow.refl s2) hzd⟩
theorem ev_eqD {g : Bool → Bool} {n : Nat} (ha : Ev K ta σ G a) (hb : Ev K tb σ G b) (pa : Pl n a) (pb : Pl n b) (hn : n ≤ 64) : Ev K (tOp (rEqD K g) ta tb) σ G (.bool (g (PySem.Spec.same a b))) :=
 ev_op ha hb fun G1 H x y Q s1 s2 hx hy k => ⟨G1, a, b, s2, hx, hy, ⟨pa.shaped hn, pb.shaped hn, pa.mix pb⟩, k _ G1 H (Grow.refl s2) (dat_bl _)⟩
theorem eva_nil : EvA K tNil σ G [] := fun G1 H s1 s2 Q k => k [] G1 H (Grow.refl s2) dats_nil
theorem eva_cons {t : TA} {ds : List PyData} (ha : Ev K ta σ G a) (hb : EvA K t σ G ds) : EvA K (tCons ta t) σ G (a :: ds) :=
 fun G1 H s1 s2 Q k => ha G1 H s1 s2 _ fun x G2 H2 g2 hx => hb G2 H2 (s1.trans g2.gg) g2.gh _ fun ys G3 H3 g3 hy => k (x :: ys) G3 H3 (g2.trans g3) (dats_cons (hx.same g3.gg) hy)
theorem ev_tup {t : TA} {ds : List PyData} (h : EvA K t σ G ds) (hl : ds.length ≤ sizeLine) : Ev K (tTup t) σ G (.tuple ds) :=
 fun G1 H s1 s2 Q k => h G1 H s1 s2 _ fun vs G2 H2 g2 hv => ⟨by rw [hv.length]; exact hl, fun p hp => by
  have g := grow_new (o := .tup vs) g2.gh hp
  exact k _ _ _ (g2.trans g) (dat_tup (SqT.of upd_same) (hv.same g.gg))⟩
theorem ev_lst {t : TA} {ds : List PyData} (h : EvA K t σ G ds) (hl : ds.length ≤ sizeLine) : Ev K (tLst t) σ G (.list ds) :=
 fun G1 H s1 s2 Q k => h G1 H s1 s2 _ fun vs G2 H2 g2 hv => ⟨by rw [hv.length]; exact hl, fun p hp => by
  have g := grow_new (o := .lst vs) g2.gh hp
  exact k _ _ _ (g2.trans g) (dat_lst upd_same (hv.same g.gg))⟩
theorem ev_cb {r : List V → Hp → VK → Prop} {t : TA} {ds : List PyData} (h : EvA K t σ G ds) (hr : ∀ G1 H xs (Q : VK), Same G G1 → Same G1 H → Dats K G1 xs ds → (∀ v G' H', Grow G1 H G' H' → Dat K G' v d → Q v H') → r xs H Q) : Ev K (tCB r t) σ G d :=
 fun G1 H s1 s2 Q k => h G1 H s1 s2 _ fun vs G2 H2 g2 hv => hr G2 H2 vs Q (s1.trans g2.gg) g2.gh hv fun v G' H' g hd => k v G' H' (g2.trans g) hd
theorem ev_lenL {t : TA} {ds : List PyData} (h : EvA K t σ G [.list ds]) : Ev K (tCB (fun xs H Q => ∃ p ys, xs = [.ref p] ∧ (SqL K H p ys ∨ SqT K H p ys) ∧ Q (.int ys.length) H) t) σ G (.int ds.length) :=
 ev_cb h fun G1 H xs Q s1 s2 hx k => by
  obtain ⟨y, ys, rfl, hy, r⟩ := hx.cons
  rw [r.nil]
  obtain ⟨p, zs, rfl, hp, hz⟩ := hy.lst
  refine ⟨p, zs, rfl, .inl (SqL.of (s2 _ _ hp)), ?_⟩
  rw [hz.length]
  exact k _ G1 H (Grow.refl s2) (dat_int _)
theorem ev_lenT {t : TA} {ds : List PyData} (h : EvA K t σ G [.tuple ds]) : Ev K (tCB (fun xs H Q => ∃ p ys, xs = [.ref p] ∧ (SqL K H p ys ∨ SqT K H p ys) ∧ Q (.int ys.length) H) t) σ G (.int ds.length) :=
 ev_cb h fun G1 H xs Q s1 s2 hx k => by
  obtain ⟨y, ys, rfl, hy, r⟩ := hx.cons
  rw [r.nil]
  obtain ⟨p, zs, rfl, hp, hz⟩ := hy.tup
  refine ⟨p, zs, rfl, .inr (s2.tup hp), ?_⟩
  rw [hz.length]
  exact k _ G1 H (Grow.refl s2) (dat_int _)
theorem ev_tupleL {t : TA} {ds : List PyData} (h : EvA K t σ G [.list ds]) : Ev K (tCB (fun xs H Q => ∃ p ys, xs = [.ref p] ∧ ((SqL K H p ys ∧ ∀ l, H l = none → Q (.ref l) (upd H l (.tup ys))) ∨ (SqT K H p ys ∧ Q (.ref p) H))) t) σ G (.tuple ds) :=
 ev_cb h fun G1 H xs Q s1 s2 hx k => by
  obtain ⟨y, ys, rfl, hy, r⟩ := hx.cons
  rw [r.nil]
  obtain ⟨p, zs, rfl, hp, hz⟩ := hy.lst
  refine ⟨p, zs, rfl, .inl ⟨SqL.of (s2 _ _ hp), fun l hl => ?_⟩⟩
  have g := grow_new (o := .tup zs) s2 hl
  exact k _ _ _ g (dat_tup (SqT.of upd_same) (hz.same g.gg))
theorem evt_test {t : TE} {c : Bool} (h : Ev K t σ G (.bool c)) : EvT (tTest t) σ G c := fun G1 H s1 s2 Q k => h G1 H s1 s2 _ fun v G' H' g hv => ⟨c, hv.bl, k G' H' g⟩
theorem evt_b {t : TE} {c : Bool} (h : Ev K t σ G (.bool c)) : EvT (tB t) σ G c := fun G1 H s1 s2 Q k => h G1 H s1 s2 _ fun v G' H' g hv => ⟨c, hv.bl, k G' H' g⟩
theorem evt_not {t : TT} {c : Bool} (h : EvT t σ G c) : EvT (tNot t) σ G (!c) := fun G1 H s1 s2 Q k => h G1 H s1 s2 _ fun G' H' g => k G' H' g
theorem evt_or {t u : TT} {c e : Bool} (h : EvT t σ G c) (h' : c = false → EvT u σ G e) : EvT (tOr t u) σ G (c || e) := fun G1 H s1 s2 Q k => h G1 H s1 s2 _ fun G' H' g => by
 cases c with
 | true => rw [if_pos rfl]; exact k G' H' g
 | false =>
  rw [if_neg Bool.false_ne_true]
  exact h' rfl G' H' (s1.trans g.gg) g.gh _ fun G2 H2 g2 => k G2 H2 (g.trans g2)
theorem evt_and {t u : TT} {c e : Bool} (h : EvT t σ G c) (h' : c = true → EvT u σ G e) : EvT (tAnd t u) σ G (c && e) := fun G1 H s1 s2 Q k => h G1 H s1 s2 _ fun G' H' g => by
 cases c with
 | false => rw [if_neg Bool.false_ne_true]; exact k G' H' g
 | true =>
  rw [if_pos rfl]
  exact h' rfl G' H' (s1.trans g.gg) g.gh _ fun G2 H2 g2 => k G2 H2 (g.trans g2)
theorem evt_c {t : TT} {c e : Bool} (h : EvT t σ G c) (q : c = e) : EvT t σ G e := q ▸ h
theorem ev_d {t : TE} {e : PyData} (h : Ev K t σ G d) (q : d = e) : Ev K t σ G e := q ▸ h
theorem ev_ite {t : TT} {c : Bool} (h : EvT t σ G c) (h1 : c = true → Ev K ta σ G d) (h2 : c = false → Ev K tb σ G d) : Ev K (tIf t ta tb) σ G d := fun G1 H s1 s2 Q k => h G1 H s1 s2 _ fun G' H' g => by
 cases c with
 | true => rw [if_pos rfl]; exact h1 rfl G' H' (s1.trans g.gg) g.gh _ fun v G2 H2 g2 hv => k v G2 H2 (g.trans g2) hv
 | false => rw [if_neg Bool.false_ne_true]; exact h2 rfl G' H' (s1.trans g.gg) g.gh _ fun v G2 H2 g2 hv => k v G2 H2 (g.trans g2) hv
theorem ev_and {c e : Bool} (h : Ev K ta σ G (.bool c)) (h' : c = true → Ev K tb σ G (.bool e)) : Ev K (tAndV ta tb) σ G (.bool (c && e)) := fun G1 H s1 s2 Q k => h G1 H s1 s2 _ fun v G' H' g hv => ⟨c, hv.bl, by
 cases c with
 | false => rw [if_neg Bool.false_ne_true]; exact k _ G' H' g (dat_bl _)
 | true => rw [if_pos rfl]; exact h' rfl G' H' (s1.trans g.gg) g.gh _ fun w G2 H2 g2 hw => k w G2 H2 (g.trans g2) hw⟩
def spP (K : PySem.W.Frag) (R : List PyData → PyData → Prop) : Sp := fun vs H Q _ => ∃ (G : Hp) (ds : List PyData) (d : PyData), Same G H ∧ Dats K G vs ds ∧ R ds d ∧ ∀ v G' H', Grow G H G' H' → Dat K G' v d → Q v H'
theorem ev_call {R : List PyData → PyData → Prop} {E : XK} {t : TA} {ds : List PyData} (h : EvA K t σ G ds) (hR : R ds d) : Ev K (tCall (spP K R) [] E t) σ G d :=
 fun G1 H s1 s2 Q k => h G1 H s1 s2 _ fun vs G2 H2 g2 hv => by
  refine ⟨G2, ds, d, g2.gh, ?_, hR, fun v G' H' g hd => k v G' H' (g2.trans g) hd⟩
  rw [List.append_nil]; exact hv
theorem range_bind {α β : Type} (f : α → Option β) : ∀ ds : List α, (List.range ds.length).filterMap (fun i => (ds[i]?).bind f) = ds.filterMap f
 | [] => rfl
 | d :: ds => by
  rw [List.length_cons, List.range_succ_eq_map, List.filterMap_cons, List.filterMap_map]
  have e : (fun i => ((d :: ds)[i]?).bind f) ∘ Nat.succ = fun i => (ds[i]?).bind f := by
   funext i; simp
  rw [e, range_bind f ds]
  rw [List.filterMap_cons]
  simp
structure Walk (J : It) (n : Nat) (H : Hp) (items : Nat → V → Prop) : Prop where
 go : ∀ i H', Same H H' → i < n → J.go i H'
 stop : ∀ i H', Same H H' → n ≤ i → J.stop i H'
 yld : ∀ i H' x H'', Same H H' → J.yld i H' x H'' → H'' = H' ∧ items i x
theorem walk_lst {a : Addr} {xs : List V} {H : Hp} (h : SqL K H a xs) : Walk (Itl K a) xs.length H (fun i x => xs[i]? = some x) :=
 ⟨fun i H' s hi => ⟨xs, _, s.seq h, List.getElem?_eq_getElem hi⟩, fun i H' s hi => ⟨xs, s.seq h, hi⟩, fun i H' x H'' s y => ⟨y.1, y.2 xs (s.seq h)⟩⟩
theorem lc_of {wi : TI} {js : List Nat} {tt : TT} {te : TE} {H : Hp} {Q : VK} {n : Nat} (f : Nat → Option PyData) (items : Hp → Nat → V → Prop) {G1 : Hp} (s2 : Same G1 H)
  (hw : ∀ R : It → Hp → Prop, (∀ J G2 H2, Grow G1 H G2 H2 → Walk J n H2 (items G2) → R J H2) → wi σ H R)
  (hn : n < sizeLine)
  (hc : ∀ G2 i x, Same G1 G2 → i < n → items G2 i x → (∃ d, f i = some d ∧ EvT tt (some x :: capV σ js) G2 true ∧ Ev K te (some x :: capV σ js) G2 d) ∨ (f i = none ∧ EvT tt (some x :: capV σ js) G2 false))
  (k : ∀ v G' H', Grow G1 H G' H' → Dat K G' v (.list ((List.range n).filterMap f)) → Q v H') : tLC wi js tt te σ H Q := by
 refine hw _ fun J G2 H2 g2 W => ?_
 refine ⟨fun i m ys H' => m = n - i ∧ i ≤ n ∧ ys.length ≤ i ∧ ∃ G', Grow G2 H2 G' H' ∧ Dats K G' ys ((List.range i).filterMap f), ⟨n, by omega, by omega, by simp, G2, Grow.refl g2.gh, by simpa using dats_nil⟩, ?_⟩
 rintro i m ys H' ⟨rfl, hi, hl, G', g', hys⟩
 refine ⟨by omega, ?_⟩
 by_cases h : i = n
 ·subst h
  refine .inl ⟨W.stop i H' g'.hh (Nat.le_refl _), fun p hp => ?_⟩
  have g3 := grow_new (o := .lst ys) g'.gh hp
  exact k _ _ _ ((g2.trans g').trans g3) (dat_lst upd_same (hys.same g3.gg))
 ·refine .inr ⟨W.go i H' g'.hh (by omega), fun x H'' hy => ?_⟩
  obtain ⟨rfl, hit⟩ := W.yld i H' x H'' g'.hh hy
  rcases hc G2 i x g2.gg (by omega) hit with ⟨d, hf, ht, he⟩ | ⟨hf, ht⟩
  ·refine ht G' H'' g'.gg g'.gh _ fun G4 H4 g4 => ?_
   rw [if_pos rfl]
   refine he G4 H4 (g'.gg.trans g4.gg) g4.gh _ fun v G5 H5 g5 hv => ⟨n - (i + 1), by omega, rfl, by omega, by rw [List.length_append]; show ys.length + 1 ≤ i + 1; omega, G5, (g'.trans g4).trans g5, ?_⟩
   rw [List.range_succ, List.filterMap_append]
   simp only [List.filterMap_cons, hf, List.filterMap_nil]
   exact dats_snoc (hys.same (g4.gg.trans g5.gg)) hv
  ·refine ht G' H'' g'.gg g'.gh _ fun G4 H4 g4 => ?_
   rw [if_neg Bool.false_ne_true]
   refine ⟨n - (i + 1), by omega, rfl, by omega, by omega, G4, g'.trans g4, ?_⟩
   rw [List.range_succ, List.filterMap_append]
   simp only [List.filterMap_cons, hf, List.filterMap_nil, List.append_nil]
   exact hys.same g4.gg
def Lc1 (K : PySem.W.Frag) (tt : TT) (te : TE) (σ' : St) (G : Hp) (o : Option PyData) : Prop :=
 (∃ d, o = some d ∧ EvT tt σ' G true ∧ Ev K te σ' G d) ∨ (o = none ∧ EvT tt σ' G false)
theorem ev_lcL {α : Type} {tl : TE} {js : List Nat} {tt : TT} {te : TE} (as : List α) (enc : α → PyData) (f : α → Option PyData) (h : Ev K tl σ G (.list (as.map enc))) (hj : as.length < sizeLine)
  (hc : ∀ G2 (i : Nat) (a : α) x, Same G G2 → as[i]? = some a → Dat K G2 x (enc a) → Lc1 K tt te (some x :: capV σ js) G2 (f a)) : Ev K (tLC (iList K tl) js tt te) σ G (.list (as.filterMap f)) :=
 fun G1 H s1 s2 Q k => lc_of (n := as.length) (fun i => (as[i]?).bind f) (fun G2 i x => ∃ a, as[i]? = some a ∧ Dat K G2 x (enc a)) s2 (fun R hR => h G1 H s1 s2 _ fun v G2 H2 g2 hv => by
  obtain ⟨p, xs, rfl, hp, hxs⟩ := hv.lst
  refine ⟨p, rfl, ⟨xs, SqL.of (g2.gh _ _ hp)⟩, hR _ G2 H2 g2 ?_⟩
  have W := walk_lst (K := K) (H := H2) (SqL.of (g2.gh _ _ hp))
  rw [hxs.length, List.length_map] at W
  refine ⟨W.go, W.stop, fun i H' x H'' s y => ⟨(W.yld i H' x H'' s y).1, ?_⟩⟩
  obtain ⟨d, hd, hx⟩ := hxs.get' (W.yld i H' x H'' s y).2
  rw [List.getElem?_map] at hd
  cases e : as[i]? with
  | none => rw [e] at hd; cases hd
  | some a => rw [e] at hd; cases hd; exact ⟨a, rfl, hx⟩) hj
  (fun G2 i x s3 hi ⟨a, ha, hx⟩ => by
   show Lc1 K tt te (some x :: capV σ js) G2 ((as[i]?).bind f)
   rw [ha]; exact hc G2 i a x (s1.trans s3) ha hx) (by rw [range_bind]; exact k)
theorem lc1 {tt : TT} {te : TE} {σ' : St} (ht : EvT tt σ' G true) (he : Ev K te σ' G d) : Lc1 K tt te σ' G (some d) := .inl ⟨d, rfl, ht, he⟩
theorem evt_noif : EvT tNoIf σ G true := fun G1 H s1 s2 Q k => k G1 H (Grow.refl s2)
end
end L2
namespace L2
open PySem PySem.Spec PyProof.Rows
section
variable {K : PySem.W.Frag} {σ : St} {G H : Hp} {te : TE} {d : PyData} {D : Ends}
theorem ret_ev (h : Ev K te σ G d) (s : Same G H) (k : ∀ v G' H', Grow G H G' H' → Dat K G' v d → D.rt v H') : tRet te D σ H := h.use s k
theorem asg_ev {i : Nat} (h : Ev K te σ G d) (s : Same G H) (k : ∀ v G' H', Grow G H G' H' → Dat K G' v d → D.nx (σ.set i (some v)) H') : tAsg te (gName i) D σ H := h.use s k
theorem if_ev {tc : TT} {t u : TS} {c : Bool} (h : EvT tc σ G c) (s : Same G H) (k1 : c = true → ∀ G' H', Grow G H G' H' → t D σ H') (k2 : c = false → ∀ G' H', Grow G H G' H' → u D σ H') : tIfS tc t u D σ H :=
 h.use s fun G' H' g => by
  cases c with
  | true => rw [if_pos rfl]; exact k1 rfl G' H' g
  | false => rw [if_neg Bool.false_ne_true]; exact k2 rfl G' H' g
theorem fm_some {α β : Type} (f : α → β) : ∀ l : List α, l.filterMap (fun x => some (f x)) = l.map f
 | [] => rfl
 | x :: l => by rw [List.filterMap_cons, List.map_cons, fm_some f l]
abbrev dN (ns : List Nat) : PyData := .tuple (ns.map fun n => PyData.int (n : Nat))
theorem dats_nats : ∀ ns : List Nat, Dats K G (ns.map fun n => V.int (n : Nat)) (ns.map fun n => PyData.int (n : Nat))
 | [] => dats_nil
 | n :: ns => dats_cons (dat_int _) (dats_nats ns)
theorem Dats.nats : ∀ {ns : List Nat} {xs : List V}, Dats K G xs (ns.map fun n => PyData.int (n : Nat)) → xs = ns.map fun n => V.int (n : Nat)
 | [], _, h => h.nil
 | n :: ns, _, h => by
  obtain ⟨y, ys, rfl, hd, r⟩ := h.cons
  rw [hd.int, Dats.nats r]; rfl
theorem ixN_nat {n i : Nat} (h : i < n) : ixN n (i : Int) = some i := by unfold ixN; rw [if_pos (by omega), if_pos (by omega)]; simp
end
end L2
namespace L2
open PySem PySem.Spec PyProof.Rows
section
variable {K : PySem.W.Frag} {σ : St} {G H : Hp} {ta tb : TE}
theorem ev_ne {i j : Int} (ha : Ev K ta σ G (.int i)) (hb : Ev K tb σ G (.int j)) : Ev K (tOp rNe ta tb) σ G (.bool (!decide (i = j))) :=
 ev_op ha hb fun G1 H x y Q s1 s2 hx hy k => by
  rw [hx.int, hy.int]
  refine ⟨rfl, ?_⟩
  have e : decide (V.int i = V.int j) = decide (i = j) := by
   by_cases h : i = j
   ·rw [decide_eq_true h, decide_eq_true (by rw [h])]
   ·rw [decide_eq_false h, decide_eq_false fun z => h (by injection z)]
  rw [e]
  exact k _ G1 H (Grow.refl s2) (dat_bl _)
theorem ev_eqI {i j : Int} (ha : Ev K ta σ G (.int i)) (hb : Ev K tb σ G (.int j)) : Ev K (tOp rEq ta tb) σ G (.bool (decide (i = j))) :=
 ev_op ha hb fun G1 H x y Q s1 s2 hx hy k => by
  rw [hx.int, hy.int]
  refine ⟨rfl, ?_⟩
  have e : decide (V.int i = V.int j) = decide (i = j) := by
   by_cases h : i = j
   ·rw [decide_eq_true h, decide_eq_true (by rw [h])]
   ·rw [decide_eq_false h, decide_eq_false fun z => h (by injection z)]
  rw [e]
  exact k _ G1 H (Grow.refl s2) (dat_bl _)
theorem same_upd {d : Addr} {o : HO} (s : Same G H) (n : G d = none) : Same G (upd H d o) := fun b u e => by
 rw [upd_ne (ne_of_none e n)]; exact s b u e
theorem upd_none {p d : Addr} {o : HO} (h : G d = none) (n : d ≠ p) : upd G p o d = none := by rw [upd_ne n]; exact h
end
end L2
namespace L2
open PySem PySem.Spec PyProof.Rows
section
variable {X : Cx} {pins : List (Addr × Obj)} {σ : St} {H : Hp} {s : Shared} {h' : Heap}
theorem Inv.turnsNew {t' : Nat} {fp : List Addr} {T : Addr} {o : HO} (I : Inv X pins σ H s) (k : ∀ b u, b ∉ fp → s.heap.get? b = some u → h'.get? b = some u) (hf : ∀ b ∈ fp, FpOk X pins H b)
  (hT : s.heap.objs.size ≤ T) (new : ObjOk X.prog X.w (upd H T o) h' T o) : Inv X pins σ (upd H T o) { s with heap := h', toks := t' } := by
 have nfp : ∀ b u, H b = some u → b ∉ fp := fun b u e z => by rw [(hf b z).1] at e; cases e
 have nT : ∀ b u, H b = some u → b ≠ T := fun b u e => Nat.ne_of_lt (Nat.lt_of_lt_of_le (I.hok.lt e) hT)
 have nT' : ∀ b u, s.heap.get? b = some u → b ≠ T := fun b u e => Nat.ne_of_lt (Nat.lt_of_lt_of_le (Heap.lt_size e) hT)
 refine I.step (g' := s.gens) (d' := s.drawn) (ch := fp) (fun b hb => ?_) (fun b u _ _ hc e _ => k b u hc e) (fun b u _ _ hc e _ => ⟨u.slots, k b u hc e⟩) (fun b u _ e n => by rw [upd_ne (nT' b u e)]; exact n)
  (fun b u hc e => ⟨u, k b u hc e⟩) (fun b xs e => by rw [upd_ne (nT b _ e)]; exact e) (fun b u v e => by rw [upd_ne (nT b _ e)]; exact e) (fun b cr e => by rw [upd_ne (nT b _ e)]; exact e) (fun m hm => ?_) (fun b u e => ?_) I.bare
 ·obtain ⟨f0, f1, f2, f3, f4, f5⟩ := hf b hb
  exact ⟨f3, f1, f4, f5⟩
 ·obtain ⟨ob, es, ep, ho, r⟩ := hm
  exact ⟨ob, es, ep, k _ ob (fun z => (hf _ z).2.1 rfl) ho, r⟩
 ·by_cases hb : b = T
  ·subst hb; rw [upd_same] at e; cases e; exact new
  ·rw [upd_ne hb] at e
   refine (I.hok b u e).stay (fun c v hc q => k c v ?_ q) (fun c q => by rw [upd_ne (nT c _ q)]; exact q) (fun c xs q => by rw [upd_ne (nT c _ q)]; exact q) fun c o u q => by rw [upd_ne (nT c _ q)]; exact q
   rcases hc with z | z
   ·rw [z]; exact nfp b u e
   ·exact nfp c _ z
theorem Inv.turns {t' : Nat} {fp : List Addr} (I : Inv X pins σ H s) (k : ∀ b u, b ∉ fp → s.heap.get? b = some u → h'.get? b = some u) (hf : ∀ b ∈ fp, FpOk X pins H b) : Inv X pins σ H { s with heap := h', toks := t' } := by
 have nfp : ∀ b u, H b = some u → b ∉ fp := fun b u e z => by rw [(hf b z).1] at e; cases e
 refine I.step (g' := s.gens) (d' := s.drawn) (ch := fp) (fun b hb => ?_) (fun b u _ _ hc e _ => k b u hc e) (fun b u _ _ hc e _ => ⟨u.slots, k b u hc e⟩) (fun b u _ e n => n)
  (fun b u hc e => ⟨u, k b u hc e⟩) (fun b xs e => e) (fun b u v e => e) (fun _ _ e => e) (fun m hm => ?_) (fun b u e => ?_) I.bare
 ·obtain ⟨f0, f1, f2, f3, f4, f5⟩ := hf b hb
  exact ⟨f3, f1, f4, f5⟩
 ·obtain ⟨ob, es, ep, ho, r⟩ := hm
  exact ⟨ob, es, ep, k _ ob (fun z => (hf _ z).2.1 rfl) ho, r⟩
 ·refine (I.hok b u e).stay (fun c v hc q => k c v ?_ q) (fun c q => q) (fun c xs q => q) fun c o u q => q
  rcases hc with z | z
  ·rw [z]; exact nfp b u e
  ·exact nfp c _ z
end
section
variable {prog : Program} {w : World} {A : Around} {E : Value → Shared → Prop} {s : Shared}
theorem tup_nextOf {it t : Addr} {i : Nat} {items : Array Value} {x : Value} {Q : Value → Shared → Prop} (q1 : s.heap.IsTupleIter it t i) (q2 : s.heap.IsTuple t items) (q3 : items[i]? = some x)
  (k : ∀ h', h'.IsTupleIter it t (i + 1) → Heap.SameBut it s.heap h' → Q x { s with heap := h' }) : wpAny (model prog w) A (Builtin.SmallTypes.nextOf (.ref it)) Q E s := by
 obtain ⟨oi, e1, e2, e3⟩ := id q1
 obtain ⟨ot, e4, _, nt, e5⟩ := q2
 unfold Builtin.SmallTypes.nextOf
 refine wpAny_bind (wpAny_callSpecial?_slot (name := Str.ofString "__next__") q1.typeIs F.slot_tuple_iterator_next (wpAny_call_entry F.slot_tuple_iterator_next q1.typeIs F.entry_tuple_iterator_next ?_ (F.args_tuple_iterator_next_1 _)))
 show wpAny (model prog w) _ (field (.ref it) 0 >>= _) _ _ s
 refine wpAny_bind (wpAny_field e1 e3 (x := .ref t) rfl ?_)
 rw [if_neg (show ¬ ((Value.ref t == Value.none) = true) from Bool.false_ne_true)]
 refine wpAny_bind (wpAny_field e1 e3 (x := .int i 0) rfl ?_)
 refine wpAny_bind (wpAny_seqItems e4 e5 ?_)
 simp only [Int.toNat_natCast, q3]
 refine wpAny_bind (wpAny_setField e1 e3 (by simp) (wpAny_pure ⟨x, rfl, wpAny_pure (k _ ⟨_, Heap.get?_update_self _ e1 (Obj.isFreed_of_fields (Obj.data_mapFields e3 _)), (Obj.cls_mapFields ..).trans e2, by rw [Obj.data_mapFields e3]; simp [rawInt]⟩ (Heap.SameBut.update ..))⟩))
theorem tup_nextOf_end {it t : Addr} {i : Nat} {items : Array Value} {Q : Value → Shared → Prop} (q0 : A.handled = none) (q1 : s.heap.IsTupleIter it t i) (q2 : s.heap.IsTuple t items) (q3 : items[i]? = none)
  (k : ∀ h' e, Heap.ExtBut it s.heap h' → (∃ o, h'.get? e = some o ∧ o.cls = .type "StopIteration") → E (.ref e) { s with heap := h' }) : wpAny (model prog w) A (Builtin.SmallTypes.nextOf (.ref it)) Q E s := by
 obtain ⟨oi, e1, e2, e3⟩ := id q1
 obtain ⟨ot, e4, _, nt, e5⟩ := q2
 unfold Builtin.SmallTypes.nextOf
 refine wpAny_bind (wpAny_callSpecial?_slot (name := Str.ofString "__next__") q1.typeIs F.slot_tuple_iterator_next (wpAny_call_entry F.slot_tuple_iterator_next q1.typeIs F.entry_tuple_iterator_next ?_ (F.args_tuple_iterator_next_1 _)))
 show wpAny (model prog w) _ (field (.ref it) 0 >>= _) _ _ s
 refine wpAny_bind (wpAny_field e1 e3 (x := .ref t) rfl ?_)
 rw [if_neg (show ¬ ((Value.ref t == Value.none) = true) from Bool.false_ne_true)]
 refine wpAny_bind (wpAny_field e1 e3 (x := .int i 0) rfl ?_)
 refine wpAny_bind (wpAny_seqItems e4 e5 ?_)
 simp only [Int.toNat_natCast, q3]
 refine wpAny_bind (wpAny_rule (wpAny_bind (wpAny_setField e1 e3 (by simp) (wpAny_bind ?_))))
 simp only [newExc, newTuple]
 refine wpAny_bind (wpAny_newObj_type (wpAny_bind (m := firstArgMember _ _) (wpAny_of_eq (a := Value.none) (by first | rfl | (simp only [firstArgMember]; rfl)) (wpAny_newObj_type ?_ (by size_fits)))) (by size_fits))
 simp only [raiseNew]
 refine wpAny_bind (wpAny_handled (?_ : wpAny _ _ _ _ _ _))
 first | rw [show A.in1.handled = none from q0] | rw [q0]
 exact wpAny_bind (wpAny_pure (wpAny_throw (k _ _ (((Heap.SameBut.update ..).extBut.push _).push _) ⟨_, Heap.get?_push_size _ rfl, rfl⟩)))
theorem draws_tup (hh : A.handled = none) (it l : Addr) (hne : l ≠ it) (items : Array Value) :
  Draws prog w A it [it, l] items.size (fun i v => items[i]? = some v) (fun i h => h.IsTupleIter it l i ∧ h.IsTuple l items) where
 live := fun _ _ st => let ⟨o, ho, _⟩ := st.1; ⟨o, ho⟩
 frame := fun _ _ _ st hk => ⟨let ⟨o, ho, r⟩ := st.1; ⟨o, hk it (by simp) o ho, r⟩, let ⟨o, ho, r⟩ := st.2; ⟨o, hk l (by simp) o ho, r⟩⟩
 item := fun i s Q E hi st hQ => tup_nextOf st.1 st.2 (x := items[i]) (by simp [hi]) fun h' hit' hs' => hQ _ h' s.toks (by simp [hi]) ⟨hit', let ⟨o, ho, r⟩ := st.2; ⟨o, (hs'.2 l hne).trans ho, r⟩⟩ hs'
 done := fun s Q E st hE => tup_nextOf_end hh st.1 st.2 (by simp) hE
end
def IteT (K : PySem.W.Frag) (a : Addr) : It :=
 ⟨fun i H => ∃ xs x, SqT K H a xs ∧ xs[i]? = some x, fun i H v H' => ∃ p x, H p = none ∧ v = .ref p ∧ H' = upd H p (.tup [.int i, x]) ∧ ∀ xs, SqT K H a xs → xs[i]? = some x, fun i H => ∃ xs, SqT K H a xs ∧ xs.length ≤ i⟩
theorem cls_ne {h : Heap} {a b : Addr} {o u : Obj} (e : h.get? a = some o) (e' : h.get? b = some u) (n : o.cls ≠ u.cls) : a ≠ b := by
 rintro rfl; rw [e] at e'; cases e'; exact n rfl
theorem turn_enumT {P : Program} {w : World} {K : PySem.W.Frag} {elts : List Expr} {tk : Nat} {tpos : Pos} (a e it : Addr) : Turn P w K (.Tuple elts tk tpos) (IteT K a) [e, it] e (fun i h => (∃ old, IsEnum h e it i old) ∧ h.IsTupleIter it a i) where
 mem := by simp
 obj := fun i h st b hb => by
  obtain ⟨⟨old, he⟩, o, ho, hc, hd⟩ := st
  rcases List.mem_cons.mp hb with rfl | hb
  ·exact ⟨_, he, fun v z => by cases z⟩
  ·have eb : b = it := by simpa using hb
   subst eb
   exact ⟨o, ho, fun v z => by rw [hd] at z; cases z⟩
 keep := fun i h h' st k => by
  obtain ⟨⟨old, he⟩, o, ho, r⟩ := st
  exact ⟨⟨old, k e (by simp) _ he⟩, o, k it (by simp) o ho, r⟩
 item := by
  intro X hP hw hK hc i pins s σ H E I hf st hg
  subst hP hw hK
  obtain ⟨xs, x, hq, hx⟩ := hg
  obtain ⟨its, rv, p, hz⟩ := I.tuple hq
  obtain ⟨u, hu, ru⟩ := rv.get hx
  obtain ⟨⟨old, he⟩, hit⟩ := st
  obtain ⟨oi, hoi, hci, hdi⟩ := id hit
  obtain ⟨ot, hot, hct, nt, hdt⟩ := id p
  have hei : e ≠ it := cls_ne he hoi (by rw [hci]; show Value.type "enumerate" ≠ Value.type "tuple_iterator"; decide)
  have hea : e ≠ a := cls_ne he hot (by rw [hct]; show Value.type "enumerate" ≠ Value.type "tuple"; decide)
  have hai : a ≠ it := cls_ne hot hoi (by rw [hci, hct]; decide)
  have hlt : i < its.toArray.size := by
   have := (List.getElem?_eq_some_iff.mp hu).1
   simpa using this
  refine wpAny_pyNext_enum_itemD (draws_tup (show X.A.in1.handled = none from I.ok.hd hc) it a hai its.toArray) he ⟨hit, p⟩ hlt hei (by simp [hei, hea]) fun x' h' tk' hP ho hs' hT hsz hk => ?_
  have ex : x' = u := by
   have hP' : its.toArray[i]? = some x' := hP
   have : its[i]? = some x' := by simpa using hP'
   rw [hu] at this; exact (Option.some.inj this).symm
  subst ex
  refine ⟨_, rfl, wpAny_letOwnedTupleGo_enum ho fun h2 he2 hs2 => ?_⟩
  have het : e ≠ s.heap.objs.size := Nat.ne_of_lt (Heap.lt_size he)
  have new : ObjOk X.prog X.w (upd H s.heap.objs.size (.tup [.int i, x])) h2 s.heap.objs.size (.tup [.int i, x]) :=
   ⟨by show 2 ≤ sizeLine; decide, [.int i tk', x'], .cons ⟨tk', rfl⟩ (.cons ru .nil), ⟨_, (hs2.2 _ (Ne.symm het)).trans hT, rfl, _, rfl⟩, _, (hs2.2 _ (Ne.symm het)).trans hT, rfl⟩
  have kk : ∀ b o, b ∉ [e, it] → s.heap.get? b = some o → h2.get? b = some o := fun b o hb q => by
   have h1 : b ≠ e := fun z => hb (by simp [z])
   have h2' : b ≠ it := fun z => hb (by simp [z])
   exact (hs2.2 b h1).trans (hk b o h1 h2' q)
  have fresh := I.hok.fresh (Nat.le_refl s.heap.objs.size)
  refine ⟨.ref s.heap.objs.size, _, I.turnsNew (t' := tk' + 1) kk hf (Nat.le_refl _) new, rfl, ⟨_, x, fresh, rfl, rfl, fun ys hy => by rw [I.tuple_inj hy hq]; exact hx⟩, ⟨⟨_, he2⟩, ?_⟩, fun b hb => ?_⟩
  ·obtain ⟨o3, g1, g2, g3⟩ := hs'.1
   exact ⟨o3, (hs2.2 it (Ne.symm hei)).trans g1, g2, g3⟩
  ·have hb' : b ≠ s.heap.objs.size := by
    rcases List.mem_cons.mp hb with rfl | hb
    ·exact het
    ·rw [List.mem_singleton.mp hb]; exact Nat.ne_of_lt (Heap.lt_size hoi)
   rw [upd_ne hb']; exact (hf b hb).1
 done := by
  intro X hP hw hK hc i pins s σ H E I hf st hg
  subst hP hw hK
  obtain ⟨xs, hq, hx⟩ := hg
  obtain ⟨its, rv, p, hz⟩ := I.tuple hq
  obtain ⟨⟨old, he⟩, hit⟩ := st
  obtain ⟨oi, hoi, hci, hdi⟩ := id hit
  obtain ⟨ot, hot, hct, nt, hdt⟩ := id p
  have hai : a ≠ it := cls_ne hot hoi (by rw [hci, hct]; decide)
  have hl := rv.length
  unfold pyNext
  have hTy : s.TypeIs (.ref e) "enumerate" := ⟨_, he, rfl⟩
  refine wpAny_bind (wpAny_attempt (wpAny_callSpecial?_slot (name := Str.ofString "__next__") hTy F.slot_enumerate_next (wpAny_call_entry F.slot_enumerate_next hTy F.entry_enumerate_next ?_ (F.args_enumerate_next_1 _))))
  show wpAny (model X.prog X.w) X.A.in1 (field (.ref e) 2 >>= _) _ _ s
  refine wpAny_bind (wpAny_field he rfl (x := .ref it) rfl (wpAny_bind (tup_nextOf_end (I.ok.hd hc) hit p (by simp; omega) fun h' y g1 g2 => ?_)))
  obtain ⟨o, ho, hcl⟩ := g2
  refine wpAny_bind (wpAny_isInstance (T := "StopIteration") (b := true) ⟨o, ho, hcl⟩ isSubtype_stop (wpAny_pure ?_))
  exact ⟨rfl, I.turns (t' := s.toks) (fun b u hb q => g1 b u (fun z => hb (by simp [z])) q) hf⟩
 self := fun _ _ _ _ _ st h => by
  obtain ⟨⟨old, he⟩, _⟩ := st
  exact wpAny_pyIter_enum he h
theorem enum_newT (l : Addr) (items : Array Value) (n : Nat) (dct : Option Addr) (sl : Array (Option Value)) :
  Meets (Builtin.«enumerate.__new__» ⟨[.type "enumerate", .ref l], []⟩) (fun _ R s => s.heap.get? l = some { cls := .type "tuple", dict := dct, data := .seq items n, slots := sl } ∧
   R (.ok (.ret (.ref (s.heap.push { cls := .type "tuple_iterator", data := .fields #[.ref l, .int 0 0] }).objs.size)))
    { s with heap := (s.heap.push { cls := .type "tuple_iterator", data := .fields #[.ref l, .int 0 0] }).push { cls := .type "enumerate", data := .fields #[.none, .bool false, .ref s.heap.objs.size, rawInt 0, .none, .none] } }) :=
 .of_wp fun prog w A R s h => by
  obtain ⟨hp, g, d, tk, os⟩ := s; obtain ⟨q1, h⟩ := h
  have q0 := sub_enumerate
  have q2 : Heap.IsTuple (Shared.heap ⟨hp, g, d, tk, os⟩) l items := ⟨_, q1, rfl, n, rfl⟩
  wp_walk using AutoSeq1.wpAny_loadPart' q1
  refine wpAny_stack_any fun st0 => wpAny_pure ?_
  split
  ·rename_i c0 _ _ _ _ _
   cases (c0 == Value.type "enumerate") <;> (wp_walk using AutoSeq1.wpAny_loadPart' q1, wpAny_pyIter_tuple q2; exact ⟨_, rfl, h⟩)
  ·wp_walk using AutoSeq1.wpAny_loadPart' q1, wpAny_pyIter_tuple q2
   exact ⟨_, rfl, h⟩
section
variable {prog : Program} {w : World} {A : Around} {E : Value → Shared → Prop} {s : Shared}
theorem call_enumT {l : Addr} {items : Array Value} {Q : Value → Shared → Prop} (q2 : s.heap.IsTuple l items)
  (h : ∀ h', IsEnum h' (s.heap.objs.size + 1) s.heap.objs.size 0 .none → h'.IsTupleIter s.heap.objs.size l 0 → (∀ b o, s.heap.get? b = some o → h'.get? b = some o) → Q (.ref (s.heap.objs.size + 1)) { s with heap := h' }) :
  wpAny (model prog w) A (call (.type "enumerate") [.ref l]) Q E s := by
 obtain ⟨⟨c, dct, dt, sl⟩, q1, e1, n, e2⟩ := q2
 replace e1 : c = .type "tuple" := e1
 replace e2 : dt = .seq items n := e2
 subst e1 e2
 refine callType_new F.called_enumerate (by decide) (F.typeCall_enumerate_1 _) (F.newCall_enumerate_1 _) (fun obj => F.args_object_init_2 obj _) F.entry_enumerate_new (enum_newT l items n dct sl) ⟨q1, ?_⟩
 have z1 : (s.heap.push { cls := .type "tuple_iterator", data := .fields #[.ref l, .int 0 0] }).objs.size = s.heap.objs.size + 1 := Heap.size_push ..
 show _ ∧ _
 rw [z1]
 have q3 : IsEnum ((s.heap.push { cls := .type "tuple_iterator", data := .fields #[.ref l, .int 0 0] }).push { cls := .type "enumerate", data := .fields #[.none, .bool false, .ref s.heap.objs.size, rawInt 0, .none, .none] }) (s.heap.objs.size + 1) s.heap.objs.size 0 .none := by
  have := Heap.get?_push_size (s.heap.push { cls := .type "tuple_iterator", data := .fields #[.ref l, .int 0 0] }) (o := { cls := .type "enumerate", data := .fields #[.none, .bool false, .ref s.heap.objs.size, rawInt 0, .none, .none] }) rfl
  rw [z1] at this; exact this
 exact ⟨⟨_, q3, rfl⟩, h _ q3 ⟨_, Heap.get?_push_of_some _ (Heap.get?_push_size _ rfl), rfl, rfl⟩ fun b o x => Heap.get?_push_of_some _ (Heap.get?_push_of_some _ x)⟩
end
section
variable {X : Cx}
def iEnT (K : PySem.W.Frag) (ta : TA) : TI := fun σ H R => ta σ H fun vs H1 => ∃ a, vs = [.ref a] ∧ (∃ xs, SqT K H1 a xs) ∧ R (IteT K a) H1
theorem boot_enum : bootBuiltins "enumerate" = some (.type "enumerate") := by decide +kernel
theorem pi_enumT {a : Expr} {ta : TA} {p pos : Pos} {elts : List Expr} {tk : Nat} {tpos : Pos} (hg : Gl X "enumerate") (hm : X.mg "enumerate" = none) (ha : PA X [a] ta) (hs : starEach [a] X.env = [(false, eval a X.env)] := by rfl) : PI X (.Tuple elts tk tpos) (.Call (.Name "enumerate" p) [a] [] pos) (iEnT X.K ta) := by
 intro pins s σ H R I h
 refine Call_ (ld_blt I hg hm boot_enum (PyProof.Rows.callWith_type1 (thn (ha pos pins s σ H _ I h) fun us s1 ⟨vs, H1, I1, r1, q1⟩ => ?_) hs rfl))
 obtain ⟨l, e, ⟨xs, hq⟩, q⟩ := q1
 subst e
 obtain ⟨u, rfl, r⟩ := Vals.one r1
 cases (show u = Value.ref l from r)
 obtain ⟨its, rv, pt, hz⟩ := I1.tuple hq
 refine call_enumT (show s1.heap.IsTuple l its.toArray from pt) fun h' he hi hk => ?_
 refine wpAny_pyIter_enum he ⟨s1.heap.objs.size + 1, [s1.heap.objs.size + 1, s1.heap.objs.size], _, _, H1, rfl, I1.kept (t' := s1.toks) hk, turn_enumT l _ _, ⟨⟨_, he⟩, hi⟩, fun b hb => ?_, q⟩
 have hb' : s1.heap.objs.size ≤ b := by
  rcases List.mem_cons.mp hb with rfl | hb
  ·exact Nat.le_succ _
  ·rw [List.mem_singleton.mp hb]; exact Nat.le_refl _
 exact I1.fpOk hb' (I1.hok.fresh hb')
end
end L2
namespace L2
open PySem PySem.Spec PyProof.Rows
section
variable {X : Cx}
end
end L2
namespace L2
open PySem PySem.Spec PyProof.Rows
section
variable {X : Cx} {tg : Expr}
end
section
variable {X : Cx} {tg : Expr}
end
section
variable {prog : Program} {w : World} {A : Around} {E : Value → Shared → Prop} {s : Shared}
variable {I : Addr} {fp wr : List Addr} {G : Array GenState → Array GenState → Prop} {n : Nat} {P : Nat → Value → Prop} {St : Nat → Shared → Prop}
end
section
variable {X : Cx}
theorem boot_lst : bootBuiltins "list" = some (.type "list") := by decide +kernel
end
end L2
namespace L2
open PySem PySem.Spec PyProof.Rows
section
variable {X : Cx} {K : PySem.W.Frag}
theorem ix_tupK (e : X.K = K) : IxR X (rIxT K) := by subst e; exact ix_tup
theorem ix_listK (e : X.K = K) : IxR X (rIxL K) := by subst e; exact ix_list
theorem sl_listK (e : X.K = K) : SlR X (rSlL K) := by subst e; exact sl_list
theorem op_eqDK (e : X.K = K) (hu : X.A.units + 64 < cLine) : OpR X (compareOp .Eq) (rEqD K fun b => b) := by subst e; exact op_eqD hu
theorem op_neDK (e : X.K = K) (hu : X.A.units + 64 < cLine) : OpR X (compareOp .NotEq) (rEqD K fun b => !b) := by subst e; exact op_neD hu
theorem call_lenK (e : X.K = K) : CallR X (.builtin "len") (fun xs H Q => ∃ p ys, xs = [.ref p] ∧ (SqL K H p ys ∨ SqT K H p ys) ∧ Q (.int ys.length) H) := by subst e; exact call_len_seq
theorem call_tupleK (e : X.K = K) : CallR X (.type "tuple") (fun xs H Q => ∃ p ys, xs = [.ref p] ∧ ((SqL K H p ys ∧ ∀ l, H l = none → Q (.ref l) (upd H l (.tup ys))) ∨ (SqT K H p ys ∧ Q (.ref p) H))) := by subst e; exact call_tuple_of
end
theorem st_BinOp {a : Expr} {op : Operator} {b : Expr} {p : Pos} {es : List Expr} {env : Env} : starEach (.BinOp a op b p :: es) env = (false, eval (.BinOp a op b p) env) :: starEach es env := rfl
theorem st_UnaryOp {op : UnaryOp} {a : Expr} {p : Pos} {es : List Expr} {env : Env} : starEach (.UnaryOp op a p :: es) env = (false, eval (.UnaryOp op a p) env) :: starEach es env := rfl
theorem st_IfExp {a b c : Expr} {p : Pos} {es : List Expr} {env : Env} : starEach (.IfExp a b c p :: es) env = (false, eval (.IfExp a b c p) env) :: starEach es env := rfl
theorem st_ListComp {a : Expr} {g : List Comprehension} {sc : Scope} {p : Pos} {es : List Expr} {env : Env} : starEach (.ListComp a g sc p :: es) env = (false, eval (.ListComp a g sc p) env) :: starEach es env := rfl
theorem st_Compare {a : Expr} {ops : List CmpOp} {cs : List Expr} {p : Pos} {es : List Expr} {env : Env} : starEach (.Compare a ops cs p :: es) env = (false, eval (.Compare a ops cs p) env) :: starEach es env := rfl
theorem st_Call {f : Expr} {as : List Expr} {kw : List Keyword} {p : Pos} {es : List Expr} {env : Env} : starEach (.Call f as kw p :: es) env = (false, eval (.Call f as kw p) env) :: starEach es env := rfl
theorem st_Constant {c : Const} {k : Nat} {p : Pos} {es : List Expr} {env : Env} : starEach (.Constant c k p :: es) env = (false, eval (.Constant c k p) env) :: starEach es env := rfl
theorem st_Subscript {a b : Expr} {p : Pos} {es : List Expr} {env : Env} : starEach (.Subscript a b p :: es) env = (false, eval (.Subscript a b p) env) :: starEach es env := rfl
theorem st_Name {n : Str} {p : Pos} {es : List Expr} {env : Env} : starEach (.Name n p :: es) env = (false, eval (.Name n p) env) :: starEach es env := rfl
theorem st_List {as : List Expr} {p : Pos} {es : List Expr} {env : Env} : starEach (.List as p :: es) env = (false, eval (.List as p) env) :: starEach es env := rfl
section
variable {X : Cx}
def tLRng (ta : TA) : TE := fun σ H Q => ta σ H fun vs H1 => ∃ j : Int, vs = [.int j] ∧ 0 ≤ j ∧ j.toNat ≤ 2 ^ 24 ∧ ∀ l, H1 l = none → Q (.ref l) (upd H1 l (.lst ((List.range j.toNat).map fun (i : Nat) => V.int i)))
theorem pe_lrange {a : Expr} {ta : TA} {p1 p2 q1 q2 : Pos} (hc : X.calm = true) (hg1 : Gl X "list") (hm1 : X.mg "list" = none) (hg2 : Gl X "range") (hm2 : X.mg "range" = none) (ha : PA X [a] ta)
  (hs1 : starEach [.Call (.Name "range" p2) [a] [] q2] X.env = [(false, eval (.Call (.Name "range" p2) [a] [] q2) X.env)] := by rfl) (hs2 : starEach [a] X.env = [(false, eval a X.env)] := by rfl) :
  PE X (.Call (.Name "list" p1) [.Call (.Name "range" p2) [a] [] q2] [] q1) (tLRng ta) := by
 intro pins s σ H Q I h
 refine wpAny_Call_Name_kw (ld_blt I hg1 hm1 boot_lst (PyProof.Rows.callWith_type1 ?_ hs1 rfl))
 rw [hs1]
 show wpAny _ _ (spliced [(false, eval (.Call (.Name "range" p2) [a] [] q2) X.env)]) _ _ s
 refine Calls.spliced_cons (wpAny_Call_Name_kw (ld_blt I hg2 hm2 boot_range (PyProof.Rows.callWith_type1 (thn (ha q2 pins s σ H _ I h) fun us s1 ⟨vs, H1, I1, r1, q1⟩ => ?_) hs2 rfl)))
 obtain ⟨j, e, j0, j1, q⟩ := q1
 subst e
 obtain ⟨u, rfl, r⟩ := Vals.one r1
 obtain ⟨t, rfl⟩ := r
 refine call_range_1 (Calls.spliced_nil ?_)
 have hsz : ∀ o : Obj, (s1.heap.push o).objs.size = s1.heap.objs.size + 1 := fun o => Heap.size_push ..
 refine call_list_range (n := j.toNat) (I.ok.hd hc) (IsRange.new ..) (small_one (by omega) (by omega) (by omega) (by omega)) (by rw [rangeSize_one]; split <;> omega) j1 fun h' tk acc c' hk hS hacc => ?_
 dsimp only at hk hS
 rw [hsz] at hS ⊢
 have hold : ∀ b o, s1.heap.get? b = some o → h'.get? b = some o := fun b o e => hk b o (Heap.get?_push_of_some _ e)
 have hv : Vals ((List.range j.toNat).map fun (i : Nat) => V.int i) acc.toList := by
  obtain ⟨z1, z2⟩ := hacc
  have key : ∀ (n : Nat) (l : List Value), l.length = n → (∀ i v, l[i]? = some v → ∃ t, v = Value.int (i : Nat) t) → Vals ((List.range n).map fun (i : Nat) => V.int i) l := by
   intro n
   induction n with
   | zero => intro l hl _; cases l with
    | nil => exact .nil
    | cons _ _ => cases hl
   | succ n ih =>
    intro l hl hi
    have e1 : l = l.dropLast ++ [l[n]'(by omega)] := by
     have hne : l ≠ [] := by intro z; subst z; cases hl
     have := (List.dropLast_concat_getLast hne).symm
     rw [List.getLast_eq_getElem] at this
     simpa [hl] using this
    rw [e1, List.range_succ, List.map_append]
    refine Vals.append (ih l.dropLast (by simp [hl]) fun i v hv => ?_) ?_
    ·refine hi i v ?_
     have hlt := (List.getElem?_eq_some_iff.mp hv).1
     rw [List.getElem?_dropLast] at hv
     split at hv
     ·exact hv
     ·cases hv
    ·obtain ⟨t, e⟩ := hi n (l[n]'(by omega)) (List.getElem?_eq_getElem (by omega))
     exact .cons ⟨t, e⟩ .nil
  refine key j.toNat acc.toList (by simp [z1]) fun i v hv => ?_
  obtain ⟨t, e⟩ := z2 i v (by simpa using hv)
  exact ⟨t, by rw [e]; simp⟩
 have hn := I1.hok.fresh (Nat.le_succ s1.heap.objs.size)
 have z24 : (2 : Nat) ^ 24 ≤ sizeLine := by decide
 exact ⟨.ref (s1.heap.objs.size + 1), _, I1.laid (h' := h') (t' := tk) (o := .lst ((List.range j.toNat).map fun (i : Nat) => V.int i)) hold (Nat.le_succ _) ⟨by simp; omega, acc.toList, c', hv, hS⟩, rfl, q _ hn⟩
theorem lrng_ev {K : PySem.W.Frag} {σ : St} {G : Hp} {t : TA} {j : Int} (h : EvA K t σ G [.int j]) (h0 : 0 ≤ j) (h1 : j.toNat ≤ 2 ^ 24) : Ev K (tLRng t) σ G (.list ((List.range j.toNat).map fun (i : Nat) => PyData.int i)) :=
 fun G1 H s1 s2 Q k => h G1 H s1 s2 _ fun vs G2 H2 g2 hv => by
  obtain ⟨y, ys, rfl, hy, r⟩ := hv.cons
  rw [r.nil, hy.int]
  refine ⟨j, rfl, h0, h1, fun l hl => ?_⟩
  have g := grow_new (o := .lst ((List.range j.toNat).map fun (i : Nat) => V.int i)) g2.gh hl
  refine k _ _ _ (g2.trans g) (dat_lst upd_same ?_)
  have e1 : ((List.range j.toNat).map fun (i : Nat) => V.int i) = ((List.range j.toNat).map fun (i : Nat) => (i : Int)).map V.int := by rw [List.map_map]; rfl
  have e2 : ((List.range j.toNat).map fun (i : Nat) => PyData.int i) = ((List.range j.toNat).map fun (i : Nat) => (i : Int)).map PyData.int := by rw [List.map_map]; rfl
  rw [e1, e2]; exact dats_ints _
end
def tyN : PyData → String
 | .none => "NoneType"
 | .bool _ => "bool"
 | .int _ => "int"
 | .str _ => "str"
 | .list _ => "list"
 | .tuple _ => "tuple"
 | .dict _ => "dict"
def rIsD (K : PySem.W.Frag) : List V → Hp → VK → Prop := fun xs H Q => ∃ G x d n b, xs = [x, .ty n] ∧ Same G H ∧ Dat K G x d ∧ PySem.W.kitOne K (.type (tyN d)) (.type n) = some b ∧ Q (.bl b) H
theorem call_isD {X : Cx} {K : PySem.W.Frag} (eK : X.K = K) : CallR X (.builtin "isinstance") (rIsD K) := by
 subst eK
 intro pins s σ H xs us Q I r h
 obtain ⟨G, x, d, n, b, rfl, sg, hd, e, q⟩ := h
 obtain ⟨u, w', rfl, rx, ry⟩ := vals2 r
 cases (show w' = Value.type n from ry)
 have fin : ∀ tk, EP X pins σ Q (.bool b) { s with toks := tk } := fun tk => ⟨.bl b, H, I.tok _, rfl, q⟩
 cases d with
 | none => rw [hd.non] at rx; exact isinst_ok I rx .non e fin
 | bool y => rw [hd.bl] at rx; exact isinst_ok I rx (.bl y) e fin
 | int i => rw [hd.int] at rx; exact isinst_ok I rx (.int i) e fin
 | str y => rw [hd.str] at rx; exact isinst_ok I rx (.str y) e fin
 | list ds =>
  obtain ⟨p, ys, rfl, hp, _⟩ := hd.lst
  cases (show u = Value.ref p from rx)
  obtain ⟨its, _, ⟨o, n', e1, c, _⟩, _⟩ := I.list (SqL.of (sg _ _ hp))
  exact PySem.W.kia_one PySem.W.kitx_list I.kIn ⟨o, e1, c⟩ e (fun z => nomatch z) fin
 | tuple ds =>
  obtain ⟨p, ys, rfl, hp, _⟩ := hd.tup
  cases (show u = Value.ref p from rx)
  obtain ⟨its, _, ⟨o, e1, c, _⟩, _⟩ := I.tuple (sg.tup hp)
  exact PySem.W.kia_one PySem.W.kitx_tuple I.kIn ⟨o, e1, c⟩ e (fun z => nomatch z) fin
 | dict _ => unfold Dat at hd; exact hd.elim
theorem ev_isD {K : PySem.W.Frag} {σ : St} {G : Hp} {ta : TE} {d : PyData} {n : String} {b : Bool} (ha : Ev K ta σ G d) (e : PySem.W.kitOne K (.type (tyN d)) (.type n) = some b) : Ev K (tCB (rIsD K) (tCons ta (tCons (tC (.ty n)) tNil))) σ G (.bool b) :=
 fun G1 H s1 s2 Q k => ha G1 H s1 s2 _ fun x G2 H2 g2 hx => ⟨G2, x, d, n, b, rfl, g2.gh, hx, e, k _ G2 H2 g2 (dat_bl b)⟩
section
variable {X : Cx}
end
theorem for_enT {K : PySem.W.Frag} {a : Addr} {xs : List V} {g : TG} {tb : TS} {D : Ends} {σ : St} {H : Hp} (Pv : Nat → St → Hp → Prop) (h0 : Pv 0 σ H) (hl : ∀ i σ H, i ≤ xs.length → Pv i σ H → SqT K H a xs)
  (hs : ∀ i x p σ H, xs[i]? = some x → Pv i σ H → H p = none → g (.ref p) σ (upd H p (.tup [.int (i : Nat), x])) fun σ2 H2 => tb { D with nx := Pv (i + 1), ct := Pv (i + 1), bk := D.nx } σ2 H2) (hd : ∀ σ H, Pv xs.length σ H → D.nx σ H) :
  ∃ W : Nat → Nat → St → Hp → Prop, (∃ m, W 0 m σ H) ∧ ∀ i m σ H, W i m σ H →
   ((IteT K a).stop i H ∧ D.nx σ H) ∨ ((IteT K a).go i H ∧ ∃ N : St → Hp → Prop, (∀ σ' H', N σ' H' → ∃ m', m' < m ∧ W (i + 1) m' σ' H') ∧ ∀ x H', (IteT K a).yld i H x H' → g x σ H' fun σ2 H2 => tb { D with nx := N, ct := N, bk := D.nx } σ2 H2) := by
 refine ⟨fun i m σ H => m = xs.length - i ∧ i ≤ xs.length ∧ Pv i σ H, ⟨xs.length, by simp, Nat.zero_le _, h0⟩, ?_⟩
 rintro i m σ H ⟨rfl, hi, p⟩
 have q := hl i σ H hi p
 by_cases hlt : i < xs.length
 ·refine .inr ⟨⟨xs, xs[i], q, by simp [hlt]⟩, Pv (i + 1), fun σ' H' p' => ⟨xs.length - (i + 1), by omega, rfl, hlt, p'⟩, fun x H' y => ?_⟩
  obtain ⟨r, z, hr, e1, e2, y⟩ := y
  subst e1 e2
  exact hs i z r σ _ (y xs q) p hr
 ·have e : i = xs.length := by omega
  subst e
  exact .inl ⟨⟨xs, q, Nat.le_refl _⟩, hd σ H p⟩
end L2
namespace L2
open PySem PySem.Spec PyProof.Rows
section
variable {X : Cx}
def rInsert : V → List V → Hp → VK → Prop := fun x vs H Q => ∃ l xs i y, x = .ref l ∧ vs = [.int i, y] ∧ H l = some (.lst xs) ∧ 0 ≤ i ∧ i ≤ xs.length ∧ xs.length + 1 ≤ sizeLine ∧ Q .non (upd H l (.lst (xs.take i.toNat ++ y :: xs.drop i.toNat)))
theorem mt_insert : MtM X "list.insert" rInsert := by
 intro pins s σ H x vs v us Q I rx rv h
 obtain ⟨l, xs, i, y, rfl, rfl, hH, h0, h1, hz, q⟩ := h
 cases rx
 obtain ⟨u, w, rfl, ru, rw'⟩ := rv.two
 obtain ⟨t, rfl⟩ := ru
 obtain ⟨z, its, n, r, hl, e⟩ := I.lstM hH
 have hs : xs.length ≤ 16777216 := by
  have := sizeLine_eq
  omega
 have hlen := r.length
 refine call_meets F.slot_list_insert ⟨_, e, rfl⟩ F.entry_list_insert (F.args_list_insert_3 _ _ _)
  (AutoListH.list_insert_list_int_val_1 l its.toArray n i t w (by rw [fitsIndex_both (by omega) (by omega)]; exact Bool.false_ne_true) (by rw [List.size_toArray]; omega)) ⟨e, ?_⟩
 refine ⟨.non, _, I.lset (its' := its.take i.toNat ++ w :: its.drop i.toNat) hH e ?_ ((r.take _).append (.cons rw' (r.drop _))) ?_, rfl, q⟩
 ·have hk : (if i < 0 then (i + ((its.toArray.size : Nat) : Int)).toNat else min i.toNat its.toArray.size) = i.toNat := by
   rw [if_neg (by omega), List.size_toArray]; omega
  show (its.toArray.extract 0 _).push w ++ its.toArray.extract _ = _
  rw [hk]
  apply Array.ext'
  simp [List.take_of_length_le]
 ·simp only [List.length_append, List.length_cons, List.length_take, List.length_drop]
  omega
end
end L2
namespace L2
open PySem PySem.Spec PyProof.Rows
section
variable {X : Cx}
end
end L2
namespace L2
open PySem PySem.Spec PyProof.Rows
section
variable {X : Cx} {e st : Expr} {lo hi : Option Expr} {te : TE} {tl th ts : TO} {p2 pos : Pos}
end
end L2
namespace L2
open PySem PySem.Spec PyProof.Rows
theorem adjust_rev (n : Nat) : Builtin.Slice.sliceAdjust none none (-1) (n : Int) = ((n : Int) - 1, -1) := by
 unfold Builtin.Slice.sliceAdjust
 simp
theorem places_rev (n : Nat) : Builtin.Slice.slicePlaces ((n : Int) - 1) (-1) (-1) = n := by
 unfold Builtin.Slice.slicePlaces
 simp <;> omega
theorem pick_rev1 (xs : Array Value) : ((List.range xs.size).filterMap fun (m : Nat) => xs[(((xs.size : Int) - 1) + (m : Int) * (-1)).toNat]?).toArray = xs.toList.reverse.toArray := by
 congr 1
 refine List.ext_getElem? fun i => ?_
 have e : ∀ m ∈ List.range xs.size, xs[(((xs.size : Int) - 1) + (m : Int) * (-1)).toNat]? = some ((xs.toList.reverse)[m]?.getD .none) := fun m hm => by
  have hm' := List.mem_range.mp hm
  have q : (((xs.size : Int) - 1) + (m : Int) * (-1)).toNat = xs.size - 1 - m := by omega
  rw [q, List.getElem?_reverse (by rw [Array.length_toList]; exact hm'), Array.length_toList, Array.getElem?_toList, Array.getElem?_eq_getElem (by omega)]
  rfl
 have e2 : ((List.range xs.size).filterMap fun (m : Nat) => xs[(((xs.size : Int) - 1) + (m : Int) * (-1)).toNat]?) = (List.range xs.size).map fun m => (xs.toList.reverse)[m]?.getD .none := by
  generalize List.range xs.size = L at e
  induction L with
  | nil => rfl
  | cons m r ih => rw [List.filterMap_cons, e m List.mem_cons_self, List.map_cons, ih fun k hk => e k (List.mem_cons_of_mem _ hk)]
 rw [e2, List.getElem?_map]
 by_cases hi : i < xs.size
 ·rw [List.getElem?_range hi]
  have : i < xs.toList.reverse.length := by simpa using hi
  rw [Option.map_some, List.getElem?_eq_getElem this]; rfl
 ·rw [List.getElem?_eq_none (by simpa using hi), List.getElem?_eq_none (by simpa using hi)]; rfl
section
variable {prog : Program} {w : World} {A : Around} {E : Value → Shared → Prop} {s : Shared}
theorem sliceApplied_rev {sl : Addr} {t : Tok} {n : Nat} {Q : Int × Int × Nat → Shared → Prop} (hs : s.heap.IsSliceOf sl .none .none (.int (-1) t))
  (h : Q ((n : Int) - 1, -1, n) s) : wpAny (model prog w) A (Builtin.Slice.sliceApplied (.ref sl) (pure (n : Int))) Q E s := by
 obtain ⟨os, hos, hcs, hds⟩ := id hs
 unfold Builtin.Slice.sliceApplied Builtin.Slice.sliceFields
 refine wpAny_bind (wpAny_bind (wpAny_field hos hds (x := .none) rfl (wpAny_bind (wpAny_field hos hds (x := .none) rfl (wpAny_bind (wpAny_field hos hds (x := .int (-1) t) rfl (wpAny_pure ?_)))))))
 refine wpAny_bind (slicePart_int ?_)
 show wpAny _ _ (if ((-1 : Int) == 0) = true then _ else _) _ _ s
 rw [if_neg (by decide)]
 refine wpAny_bind (slicePart_none (wpAny_bind (slicePart_none (wpAny_bind (wpAny_pure ?_)))))
 show wpAny _ _ (match Builtin.Slice.sliceAdjust none none (-1) (n : Int) with | (lo, hi) => pure (lo, (-1 : Int), Builtin.Slice.slicePlaces lo hi (-1))) _ _ s
 rw [adjust_rev]
 show wpAny _ _ (pure ((n : Int) - 1, (-1 : Int), Builtin.Slice.slicePlaces ((n : Int) - 1) (-1) (-1))) _ _ s
 rw [places_rev]
 exact wpAny_pure h
theorem getItem_tup_rev {t sl : Addr} {items : Array Value} {tk : Tok} {Q : Value → Shared → Prop} (ht : IsTup s.heap t items) (hs : s.heap.IsSliceOf sl .none .none (.int (-1) tk))
  (h : Q (.ref s.heap.objs.size) { s with heap := s.heap.push { cls := .type "tuple", data := .seq items.toList.reverse.toArray } })
  (hsz : items.size ≤ sizeLine) : wpAny (model prog w) A (getItem (.ref t) (.ref sl)) Q E s := by
 have htake : sizeOk (.seq items.toList.reverse.toArray) := by
  show items.toList.reverse.toArray.size ≤ sizeLine
  simpa using hsz
 obtain ⟨os, hos, hcs, hds⟩ := id hs
 have hTs : s.TypeIs (.ref sl) "slice" := ⟨os, hos, hcs⟩
 unfold getItem
 try with_reducible refine wpAny_holding ?_
 first | refine wpAny_bind (wpAny_pure ?_) | skip
 refine wpAny_bind (wpAny_sequenceKey ht.typeIs (by decide) ?_)
 refine wpAny_bind (wpAny_callSpecial?_slot (name := Str.ofString "__getitem__") ht.typeIs PyProof.Rows.slot_tuple_getitem
  (wpAny_call_entry PyProof.Rows.slot_tuple_getitem ht.typeIs entry_tuple_getitem ?_ (args_tuple_getitem _ _)))
 show wpAny _ _ (Builtin.Tuple.tupleItemsOf (.ref t) >>= _) _ _ s
 refine wpAny_bind (tupleItemsOf_ ht ?_)
 refine wpAny_bind (wpAny_typeOf hTs ?_)
 rw [if_pos (by decide)]
 refine wpAny_bind (sliceApplied_rev hs ?_)
 have hno : ¬ ((((items.size : Int) - 1) == 0 && (-1 : Int) == 1 && items.size == items.size) = true) := by
  intro q
  rw [Bool.and_eq_true, Bool.and_eq_true] at q
  exact absurd q.1.2 (by decide)
 show wpAny _ _ (if (((items.size : Int) - 1) == 0 && (-1 : Int) == 1 && items.size == items.size) = true then _ else _) _ _ s
 rw [if_neg hno, pick_rev1]
 first
  | exact wpAny_bind (m := Builtin.Tuple.tupleExact _) (wpAny_newObj_type (wpAny_pure ⟨_, rfl, wpAny_pure h⟩) htake)
  | exact wpAny_bind (m := Builtin.Tuple.tupleExact _) (wpAny_newObj_type (wpAny_bind (wpAny_pure (wpAny_pure ⟨_, rfl, wpAny_pure h⟩))) htake)
  | exact wpAny_bind (wpAny_bind (m := Builtin.Tuple.tupleExact _) (wpAny_newObj_type (wpAny_pure (wpAny_pure ⟨_, rfl, wpAny_pure h⟩)) htake))
  | exact wpAny_bind (wpAny_bind (m := Builtin.Tuple.tupleExact _) (wpAny_newObj_type (wpAny_pure ⟨_, rfl, wpAny_pure h⟩) htake))
end
section
variable {X : Cx} {K : PySem.W.Frag} {e st : Expr} {te : TE} {ts : TO} {p2 pos : Pos}
def tRevT (K : PySem.W.Frag) (te : TE) (ts : TO) : TE := fun σ H Q => te σ H fun x H1 => ts σ H1 fun c H4 => c = some (-1) ∧ ∃ a xs, x = .ref a ∧ SqT K H4 a xs ∧ ∀ p, H4 p = none → Q (.ref p) (upd H4 p (.tup xs.reverse))
theorem pe_revT (ek : X.K = K) (he : PE X e te) (hst : PO X (some st) ts) : PE X (.Subscript e (.Slice none none (some st) p2) pos) (tRevT K te ts) := by
 subst ek
 intro pins s σ H Q I h
 refine Subscript_ (thn (he pins s σ H _ I h) fun v s1 ⟨x, H1, I1, r1, q1⟩ => ?_)
 refine wpAny_Slice ?_
 rw [evalPart_none]
 refine wpAny_pure (wpAny_pure ?_)
 refine thn (hst pins s1 σ H1 _ I1 q1) fun vs s4 ⟨c, H4, I4, ps, q4⟩ => ?_
 obtain ⟨rfl, a, xs, rfl, hx, q⟩ := q4
 cases r1
 cases ps with
 | int _ t =>
  have I5 : Inv X pins σ H4 { s4 with heap := s4.heap.push { cls := .type "slice", data := .fields #[.none, .none, .int (-1) t] } } := I4.kept (t' := s4.toks) fun b ob q => Heap.get?_push_of_some _ q
  obtain ⟨its, r, ht, hz⟩ := I5.tuple hx
  have hlen := r.length
  refine tail_any (ops := [.ref a, .ref s4.heap.objs.size]) (T := "tuple") ht.typeIs PyProof.Rows.slot_tuple_getitem.lookup ?_ (by with_unfolding_all rfl)
  refine getItem_tup_rev ht (Heap.IsSliceOf.new ..) ?_ (by rw [List.size_toArray, ← hlen]; exact hz)
  refine ⟨.ref _, _, I5.laid (t' := s4.toks) (o := .tup xs.reverse) (fun b ob q => Heap.get?_push_of_some _ q) (Nat.le_refl _) ⟨by rw [List.length_reverse]; exact hz, its.reverse, r.reverse, ?_⟩, rfl, q _ (I5.hok.fresh (Nat.le_refl _))⟩
  exact ⟨IsTup.new _ _, _, Heap.get?_push_size _ rfl, rfl⟩
end
end L2
namespace HT
open PySem PySem.Spec PyProof.Rows
section
variable {prog : Program} {w : World} {A : Around} {E : Value → Shared → Prop} {s : Shared}
theorem getItem_tuple_all {t sl : Addr} {items : Array Value} {vl vu : Value} {lo hi : Option Int} {Q : Value → Shared → Prop} (ht : IsTup s.heap t items) (hs : s.heap.IsSliceOf sl vl vu .none) (pl : IsPart vl lo) (pu : IsPart vu hi)
  (hw : sIx items.size 0 lo = 0 ∧ sIx items.size items.size hi = items.size) (h : Q (.ref t) s) : wpAny (model prog w) A (getItem (.ref t) (.ref sl)) Q E s := by
 obtain ⟨os, hos, hcs, hds⟩ := id hs
 have hTs : s.TypeIs (.ref sl) "slice" := ⟨os, hos, hcs⟩
 unfold getItem
 try with_reducible refine wpAny_holding ?_
 first | refine wpAny_bind (wpAny_pure ?_) | skip
 refine wpAny_bind (wpAny_sequenceKey ht.typeIs (by decide) ?_)
 refine wpAny_bind (wpAny_callSpecial?_slot (name := Str.ofString "__getitem__") ht.typeIs PyProof.Rows.slot_tuple_getitem
  (wpAny_call_entry PyProof.Rows.slot_tuple_getitem ht.typeIs entry_tuple_getitem ?_ (args_tuple_getitem _ _)))
 show wpAny _ _ (Builtin.Tuple.tupleItemsOf (.ref t) >>= _) _ _ s
 refine wpAny_bind (tupleItemsOf_ ht ?_)
 refine wpAny_bind (wpAny_typeOf hTs ?_)
 rw [if_pos (by decide)]
 refine wpAny_bind (sliceApplied_gen hs pl pu ?_)
 have hyes : (((sIx items.size 0 lo : Nat) : Int) == 0 && (1 : Int) == 1 && (sIx items.size items.size hi - sIx items.size 0 lo) == items.size) = true := by
  rw [hw.1, hw.2]; simp
 show wpAny _ _ (if (((sIx items.size 0 lo : Nat) : Int) == 0 && (1 : Int) == 1 && (sIx items.size items.size hi - sIx items.size 0 lo) == items.size) = true then _ else _) _ _ s
 rw [if_pos hyes]
 refine wpAny_bind (m := Builtin.Tuple.tupleIsExact (.ref t)) ?_
 unfold Builtin.Tuple.tupleIsExact
 refine wpAny_bind (wpAny_typeOf ht.typeIs (wpAny_pure ?_))
 rw [if_pos (by decide)]
 refine wpAny_bind (wpAny_rule ?_)
 first
  | exact wpAny_pure ⟨_, rfl, wpAny_pure h⟩
  | exact wpAny_bind (wpAny_pure (wpAny_pure ⟨_, rfl, wpAny_pure h⟩))
end
end HT
namespace L2
open PySem PySem.Spec PyProof.Rows
section
variable {X : Cx} {K : PySem.W.Frag}
def rSlTA (K : PySem.W.Frag) : V → Option Int → Option Int → Hp → VK → Prop := fun x lo hi H Q => ∃ a xs, x = .ref a ∧ SqT K H a xs ∧
 ((HT.sIx xs.length 0 lo = 0 ∧ HT.sIx xs.length xs.length hi = xs.length) → Q (.ref a) H) ∧ (¬ (HT.sIx xs.length 0 lo = 0 ∧ HT.sIx xs.length xs.length hi = xs.length) → ∀ p, H p = none → Q (.ref p) (upd H p (.tup (cutV xs lo hi))))
theorem sl_tupA (e : X.K = K) : SlR X (rSlTA K) := by
 subst e
 intro pins s σ H x v vl vu lo hi sl Q I rx hs pl pu h
 obtain ⟨a, xs, rfl, hx, q1, q2⟩ := h
 by_cases hw : HT.sIx xs.length 0 lo = 0 ∧ HT.sIx xs.length xs.length hi = xs.length
 ·cases rx
  obtain ⟨its, r, ht, hz⟩ := I.tuple hx
  have hlen : its.toArray.size = xs.length := by rw [List.size_toArray]; exact r.length.symm
  exact ⟨"tuple", _, PyProof.Rows.slot_tuple_getitem.lookup, ht.typeIs, HT.getItem_tuple_all ht hs pl pu (by rw [hlen]; exact hw) ⟨.ref a, H, I, rfl, q1 hw⟩⟩
 ·exact sl_tup pins s σ H _ v vl vu lo hi sl Q I rx hs pl pu ⟨a, xs, rfl, hx, hw, q2 hw⟩
theorem ev_slT {σ : St} {G : Hp} {te : TE} {tl th : TO} {ds : List PyData} {lo hi : Option Int} (h : Ev K te σ G (.tuple ds)) (hl : ∀ H (Q : Option Int → Hp → Prop), Q lo H → tl σ H Q) (hh : ∀ H (Q : Option Int → Hp → Prop), Q hi H → th σ H Q) :
  Ev K (tSl (rSlTA K) te tl th) σ G (.tuple ((ds.drop (HT.sIx ds.length 0 lo)).take (HT.sIx ds.length ds.length hi - HT.sIx ds.length 0 lo))) :=
 fun G1 H s1 s2 Q k => h G1 H s1 s2 _ fun v G2 H2 g2 hv => by
  obtain ⟨p, xs, rfl, hp, hxs⟩ := hv.tup
  have hlen := hxs.length
  refine hl _ _ (hh _ _ ⟨p, xs, rfl, g2.gh.tup hp, fun hw => ?_, fun hw q hq => ?_⟩)
  ·refine k _ _ _ g2 ?_
   rw [hlen] at hw
   rw [hw.1, hw.2, List.drop_zero, Nat.sub_zero, List.take_of_length_le (Nat.le_refl _)]
   exact dat_tup hp hxs
  ·have g := grow_new (o := .tup (cutV xs lo hi)) g2.gh hq
   refine k _ _ _ (g2.trans g) (dat_tup (SqT.of upd_same) ?_)
   have q := dats_take (HT.sIx ds.length ds.length hi - HT.sIx ds.length 0 lo) (dats_drop (HT.sIx ds.length 0 lo) (hxs.same g.gg))
   rw [← hlen] at q ⊢
   exact q
end
end L2
namespace Frac
end Frac
namespace Frac
end Frac
namespace Dig
open PySem PySem.NumText
end Dig
namespace Dig
open PySem PySem.NumText PySem.Builtin.Str
end Dig
namespace Dig
open PySem PySem.NumText PySem.Builtin.Str
end Dig
namespace Frac
end Frac
namespace Lw
open PySem L2 Frac
theorem bIsi : bootBuiltins "isinstance" = some (.builtin "isinstance") := by decide +kernel
theorem bTup : bootBuiltins "tuple" = some (.type "tuple") := by decide +kernel
theorem bBool : bootBuiltins "bool" = some (.type "bool") := by decide +kernel
theorem bInt : bootBuiltins "int" = some (.type "int") := by decide +kernel
theorem bMax : bootBuiltins "max" = some (.builtin "max") := by decide +kernel
theorem bAll : bootBuiltins "all" = some (.builtin "all") := by decide +kernel
theorem w0 {i : Int} (h : i.natAbs < 10 ^ 100) : i.natAbs < 2 ^ 4000 := Nat.lt_of_lt_of_le h (by decide +kernel)
theorem mw {i j : Int} (h : i.natAbs < 10 ^ 100) (h' : j.natAbs < 10 ^ 100) : CMulW i j := ⟨w0 h, w0 h'⟩
theorem same_new {H : Hp} {p : Addr} {o : HO} (hp : H p = none) : Same H (upd H p o) := fun b u e => by
 rw [upd_ne (ne_of_none e hp)]; exact e
end Lw
namespace Nm
open PySem L2 Lw Dig
end Nm
namespace Ord
open PySem
end Ord
namespace L2
open PySem PySem.Spec PyProof.Rows
section
variable {X : Cx} {pins : List (Addr × Obj)} {σ : St} {H G : Hp} {s : Shared}
open Classical in
end
section
variable {prog : Program} {w : World} {A : Around} {E : Value → Shared → Prop} {s : Shared}
end
end L2
namespace L2
open PySem PySem.Spec PyProof.Rows
section
variable {X : Cx}
end
end L2
namespace L2
open PySem PySem.Spec PyProof.Rows
section
variable {prog : Program} {w : World} {A : Around} {E : Value → Shared → Prop} {s : Shared}
end
end L2
namespace L2
open PySem PySem.Spec PyProof.Rows
section
variable {prog : Program} {w : World} {A : Around} {E : Value → Shared → Prop} {s : Shared}
end
section
variable {prog : Program} {w : World} {A : Around} {E : Value → Shared → Prop} {s : Shared}
variable {I : Addr} {fp wr : List Addr} {G : Array GenState → Array GenState → Prop} {n : Nat} {P : Nat → Value → Prop} {St : Nat → Shared → Prop}
end
section
variable {X : Cx}
end
end L2
namespace L2
open PySem PySem.Spec PyProof.Rows
end L2
namespace Ord
open PySem L2
end Ord
namespace Rdo
open PySem Dig Ord Nm L2 Frac
end Rdo
namespace L2
open PySem PySem.Spec PyProof.Rows
section
variable {K : PySem.W.Frag} {σ : St} {G : Hp} {ta tb : TE}
theorem ev_revT {ts : TO} {ds : List PyData} (ha : Ev K ta σ G (.tuple ds)) (hs : ∀ H (Q : Option Int → Hp → Prop), Q (some (-1)) H → ts σ H Q) : Ev K (tRevT K ta ts) σ G (.tuple ds.reverse) :=
 fun G1 H s1 s2 Q k => ha G1 H s1 s2 _ fun v G2 H2 g2 hv => by
  obtain ⟨p, xs, rfl, hp, hxs⟩ := hv.tup
  refine hs _ _ ⟨rfl, p, xs, rfl, g2.gh.tup hp, fun q hq => ?_⟩
  have g := grow_new (o := .tup xs.reverse) g2.gh hq
  exact k _ _ _ (g2.trans g) (dat_tup (SqT.of upd_same) (dats_rev (hxs.same g.gg)))
end
end L2
namespace Rdo
open PySem L2 Ord Nm
end Rdo
namespace L2
open PySem PySem.Spec PyProof.Rows
section
variable {K : PySem.W.Frag} {X : Cx}
theorem call_listK (e : X.K = K) : CallR X (.type "list") (fun xs H Q => ∃ p ys, xs = [.ref p] ∧ (SqL K H p ys ∨ SqT K H p ys) ∧ ∀ l, H l = none → Q (.ref l) (upd H l (.lst ys))) := by subst e; exact call_list_of
end
end L2
namespace L2
open PySem PySem.Spec PyProof.Rows
section
variable {X : Cx} {K : PySem.W.Frag}
end
theorem tyV_lst {K : PySem.W.Frag} {H : Hp} {p : Addr} {xs : List V} (h : H p = some (.lst xs)) : tyV K "list" (.ref p) H := .inl ⟨rfl, xs, SqL.of h⟩
end L2
namespace Mv
open PySem L2
section
variable {K : PySem.W.Frag} {G : Hp}
end
theorem seqIndex_nat {n i : Nat} (h : i < n) : seqIndex? (i : Int) n = some i := by
 unfold seqIndex?
 simp
 omega
def Sd (H : Hp) (d : Addr) (n : Nat) : Prop := ∃ a b c e : Int, H d = some (.lst [.int a, .int b, .int c, .int e]) ∧ 0 ≤ c ∧ c ≤ n ∧ 0 ≤ e ∧ e < 1999999927
def But (d : Addr) (H H' : Hp) : Prop := ∀ b o, H b = some o → b ≠ d → H' b = some o
theorem But.trans {d : Addr} {H H1 H2 : Hp} (a : But d H H1) (b : But d H1 H2) : But d H H2 := fun x o e n => b x o (a x o e n) n
theorem But.of {d : Addr} {H H' : Hp} (s : Same H H') : But d H H' := fun b o e _ => s b o e
theorem But.upd {d : Addr} {H : Hp} {o : HO} : But d H (L2.upd H d o) := fun b u e n => by rw [upd_ne n]; exact e
theorem But.same {d : Addr} {G H H' : Hp} (b : But d H H') (s : Same G H) (n : G d = none) : Same G H' := fun x o e => b x o (s x o e) (ne_of_none e n)
theorem Sd.at {H : Hp} {d : Addr} {n : Nat} (S : Sd H d n) : ∃ o, H d = some o := let ⟨_, _, _, _, h, _⟩ := S; ⟨_, h⟩
theorem Sd.same {H H' : Hp} {d : Addr} {n : Nat} (S : Sd H d n) (s : Same H H') : Sd H' d n := let ⟨a, b, c, e, h, r⟩ := S; ⟨a, b, c, e, s _ _ h, r⟩
theorem Sd.keep {H H' : Hp} {d : Addr} {n : Nat} (S : Sd H d n) (s : H' d = H d) : Sd H' d n := let ⟨a, b, c, e, h, r⟩ := S; ⟨a, b, c, e, s.trans h, r⟩
theorem Sd.mono {H : Hp} {d : Addr} {n m : Nat} (S : Sd H d n) (h : n ≤ m) : Sd H d m := let ⟨a, b, c, e, h1, h2, h3, r⟩ := S; ⟨a, b, c, e, h1, h2, by omega, r⟩
theorem But.free {d p : Addr} {H H' : Hp} {n : Nat} (b : But d H H') (S : Sd H' d n) (hp : H' p = none) : H p = none := by
 cases q : H p with
 | none => rfl
 | some o =>
  by_cases hd : p = d
  ·subst hd; obtain ⟨u, e⟩ := S.at; rw [e] at hp; cases hp
  ·rw [b p o q hd] at hp; cases hp
theorem Sd.ne {H : Hp} {d p : Addr} {n : Nat} (S : Sd H d n) (hp : H p = none) : d ≠ p := let ⟨_, e⟩ := S.at; ne_of_none e hp
def spSeed : Sp := fun vs H Q _ => ∃ cell : Int, vs = [.int cell] ∧ ∀ p H', H p = none → Sd H' p 0 → Same H H' → Q (.ref p) H'
def spDraw : Sp := fun vs H Q _ => ∃ (d : Addr) (m : Int) (n : Nat), vs = [.ref d, .int m] ∧ Sd H d n ∧ n ≤ 10 ^ 6 ∧ 1 ≤ m ∧ m ≤ 10 ^ 6 ∧ ∀ (r : Int) H', 0 ≤ r → r < m → Sd H' d (n + 1) → But d H H' → Q (.int r) H'
def spMany : Sp := fun vs H Q _ => ∃ (d : Addr) (n : Nat), vs = [.ref d] ∧ Sd H d n ∧ n ≤ 10 ^ 5 ∧ ∀ (r : Int) H', 0 ≤ r → r ≤ 60 → Sd H' d (n + 5) → But d H H' → Q (.int r) H'
end Mv
namespace L2
open PySem PySem.Spec PyProof.Rows
abbrev vN (ns : List Nat) : List V := ns.map fun n => V.int (n : Nat)
section
variable {X : Cx}
end
end L2
namespace L2
open PySem PySem.Spec PyProof.Rows
section
variable {prog : Program} {w : World} {A : Around} {E : Value → Shared → Prop} {s : Shared}
end
theorem vals_rng {lo : Int} {n : Nat} {acc : Array Value} (h : ItemsOf (fun i v => ∃ t, v = .int (lo + i * 1) t) acc n) : Vals ((List.range n).map fun (i : Nat) => V.int (lo + i)) acc.toList := by
 obtain ⟨z1, z2⟩ := h
 have key : ∀ (n : Nat) (l : List Value), l.length = n → (∀ (i : Nat) v, l[i]? = some v → ∃ t, v = Value.int (lo + i) t) → Vals ((List.range n).map fun (i : Nat) => V.int (lo + i)) l := by
  intro n
  induction n with
  | zero => intro l hl _; cases l with
   | nil => exact .nil
   | cons _ _ => cases hl
  | succ n ih =>
   intro l hl hi
   have e1 : l = l.dropLast ++ [l[n]'(by omega)] := by
    have hne : l ≠ [] := by intro z; subst z; cases hl
    have := (List.dropLast_concat_getLast hne).symm
    rw [List.getLast_eq_getElem] at this
    simpa [hl] using this
   rw [e1, List.range_succ, List.map_append]
   refine Vals.append (ih l.dropLast (by simp [hl]) fun i v hv => ?_) ?_
   ·refine hi i v ?_
    rw [List.getElem?_dropLast] at hv
    split at hv
    ·exact hv
    ·cases hv
   ·obtain ⟨t, e⟩ := hi n (l[n]'(by omega)) (List.getElem?_eq_getElem (by omega))
    exact .cons ⟨t, e⟩ .nil
 refine key n acc.toList (by simp [z1]) fun i v hv => ?_
 obtain ⟨t, e⟩ := z2 i v (by simpa using hv)
 exact ⟨t, by rw [e]; congr 1; omega⟩
section
variable {X : Cx}
def tLRng2 (ta : TA) : TE := fun σ H Q => ta σ H fun vs H1 => ∃ i j : Int, vs = [.int i, .int j] ∧ (0 ≤ i ∧ i ≤ j ∧ j ≤ 2 ^ 24) ∧ ∀ l, H1 l = none → Q (.ref l) (upd H1 l (.lst ((List.range (j - i).toNat).map fun (n : Nat) => V.int (i + n))))
theorem pe_lrange2 {a b : Expr} {ta : TA} {p1 p2 q1 q2 : Pos} (hc : X.calm = true) (hg1 : Gl X "list") (hm1 : X.mg "list" = none) (hg2 : Gl X "range") (hm2 : X.mg "range" = none) (ha : PA X [a, b] ta)
  (hs1 : starEach [.Call (.Name "range" p2) [a, b] [] q2] X.env = [(false, eval (.Call (.Name "range" p2) [a, b] [] q2) X.env)] := by rfl) (hs2 : starEach [a, b] X.env = (false, eval a X.env) :: starEach [b] X.env := by rfl) (hs3 : (backTo q2 (starEach [b] X.env)).any (·.1) = false := by rfl) :
  PE X (.Call (.Name "list" p1) [.Call (.Name "range" p2) [a, b] [] q2] [] q1) (tLRng2 ta) := by
 intro pins s σ H Q I h
 refine wpAny_Call_Name_kw (ld_blt I hg1 hm1 boot_lst (PyProof.Rows.callWith_type1 ?_ hs1 rfl))
 rw [hs1]
 show wpAny _ _ (spliced [(false, eval (.Call (.Name "range" p2) [a, b] [] q2) X.env)]) _ _ s
 refine Calls.spliced_cons (wpAny_Call_Name_kw (ld_blt I hg2 hm2 boot_range (PyProof.Rows.callWith_type1 (thn (ha q2 pins s σ H _ I h) fun us s1 ⟨vs, H1, I1, r1, q1⟩ => ?_) hs2 hs3)))
 obtain ⟨i, j, e, ⟨j0, j1, j2⟩, q⟩ := q1
 subst e
 obtain ⟨u, u', rfl, r, r'⟩ := r1.two
 obtain ⟨t, rfl⟩ := r
 obtain ⟨t', rfl⟩ := r'
 refine call_range_2 (Calls.spliced_nil ?_)
 have hsz : ∀ o : Obj, (s1.heap.push o).objs.size = s1.heap.objs.size + 1 := fun o => Heap.size_push ..
 refine call_list_range (n := (j - i).toNat) (I.ok.hd hc) (IsRange.new ..) (small_one (by omega) (by omega) (by omega) (by omega)) (by rw [rangeSize_one]; split <;> omega) (by omega) fun h' tk acc c' hk hS hacc => ?_
 dsimp only at hk hS
 rw [hsz] at hS ⊢
 have hold : ∀ b o, s1.heap.get? b = some o → h'.get? b = some o := fun b o e => hk b o (Heap.get?_push_of_some _ e)
 have hn := I1.hok.fresh (Nat.le_succ s1.heap.objs.size)
 have z24 : (2 : Nat) ^ 24 ≤ sizeLine := by decide
 exact ⟨.ref (s1.heap.objs.size + 1), _, I1.laid (h' := h') (t' := tk) (o := .lst ((List.range (j - i).toNat).map fun (n : Nat) => V.int (i + n))) hold (Nat.le_succ _) ⟨by simp; omega, acc.toList, c', vals_rng hacc, hS⟩, rfl, q _ hn⟩
end
end L2
namespace L2
open PySem PySem.Spec PyProof.Rows
structure LamScope (fr sc : Scope) (ps cap : List Str) : Prop where
 kind : sc.kind = .function
 co : sc.isCoroutine = false
 gen : sc.isGenerator = false
 cell : ∀ p ∈ sc.names, p.2 ≠ .cell
 par : ∀ y ∈ ps, sc.names.lookup y = some .local
 free : ∀ p ∈ sc.names, p.2 = .free → fr.names.lookup p.1 = some .cell
 caps : ∀ y ∈ cap, (y, NameKind.free) ∈ sc.names
 capl : ∀ y ∈ cap, sc.names.lookup y = some .free
 nd : (ps ++ cap).Nodup
def IsLam (H : Hp) (f : Addr) (q : Str) (params : Arguments) (body : Expr) (sc : Scope) (cl : List (Str × Addr)) : Prop :=
 ∃ (pm ctv : Value) (c' : Addr) (oc : Obj), H f = some (.frz (PySem.W.kla_obj "<lambda>" q params body sc cl pm c' ctv) (.own f)) ∧ H c' = some (.frz oc (.own c')) ∧ CodeOf oc q
structure CellsAre (s : Shared) (H : Hp) (cl : List (Str × Addr)) (cap : List Str) (vals : St) : Prop where
 inj : ∀ x y c, cl.lookup x = some c → cl.lookup y = some c → x = y
 isc : ∀ x c, cl.lookup x = some c → (∃ v, s.heap.IsCell c v) ∧ H c = none
 val : ∀ (i : Nat) (y : Str) (v : V), cap[i]? = some y → vals[i]? = some (some v) → ∃ c u, cl.lookup y = some c ∧ s.heap.IsCell c (some u) ∧ RelV v u
theorem codeRec_frz {P : Program} {w : World} {H : Hp} {h : Heap} {c : Addr} {oc : Obj} {q : Str} (ok : HOk P w H h) (e : H c = some (.frz oc (.own c))) (hc : CodeOf oc q) : h.CodeRec (.ref c) q := by
 obtain ⟨e1, _⟩ := ok c _ e
 obtain ⟨vs, t, d1, d2⟩ := hc
 exact ⟨c, oc, vs, t, rfl, e1, d1, d2⟩
theorem CellsAre.un {s s' : Shared} {H H' : Hp} {cl : List (Str × Addr)} {cap : List Str} {vals : St} {fs : List Addr} (C : CellsAre s H cl cap vals) (u : Un fs [] H H' s.heap s'.heap) : CellsAre s' H' cl cap vals := by
 have kc : ∀ c v, H c = none → s.heap.IsCell c v → s'.heap.IsCell c v := fun c v n ⟨o, ho, hd⟩ => by
  obtain ⟨sl, e⟩ := u.any ho n (by simp)
  exact ⟨_, e, hd⟩
 refine ⟨C.inj, fun x c h => ?_, fun i y v h1 h2 => ?_⟩
 ·obtain ⟨⟨v, hv⟩, n⟩ := C.isc x c h
  obtain ⟨o, ho, hd⟩ := id hv
  exact ⟨⟨v, kc c v n hv⟩, u.free c o ho n (by simp)⟩
 ·obtain ⟨c, w, e1, e2, r⟩ := C.val i y v h1 h2
  exact ⟨c, w, e1, kc c _ (C.isc y c e1).2 e2, r⟩
theorem IsLam.same {H H' : Hp} {f : Addr} {q : Str} {params : Arguments} {body : Expr} {sc : Scope} {cl : List (Str × Addr)} (L : IsLam H f q params body sc cl) (k : ∀ b o u, H b = some (.frz o u) → H' b = some (.frz o u)) : IsLam H' f q params body sc cl :=
 let ⟨pm, ctv, c', oc, h1, h2, h3⟩ := L; ⟨pm, ctv, c', oc, k _ _ _ h1, k _ _ _ h2, h3⟩
theorem lookup_mem {α : Type} {y : Str} {u : α} : ∀ {l : List (Str × α)}, (l.map (·.1)).Nodup → (y, u) ∈ l → l.lookup y = some u
 | [], _, h => by simp at h
 | (z, v) :: l, nd, h => by
  rw [List.lookup_cons]
  rw [List.map_cons, List.nodup_cons] at nd
  rcases List.mem_cons.mp h with e | h
  ·cases e; simp
  ·have : y ≠ z := fun e => nd.1 (e ▸ List.mem_map_of_mem (f := (·.1)) h)
   have hb : (y == z) = false := by simpa using this
   rw [hb]
   exact lookup_mem nd.2 h
theorem zip_fst {α β : Type} : ∀ (l : List α) (m : List β), (l.zip m).map (·.1) = l.take m.length
 | [], _ => by simp
 | _ :: _, [] => by simp
 | a :: l, b :: m => by
  rw [List.zip_cons_cons, List.map_cons, List.length_cons, List.take_succ_cons, zip_fst l m]
theorem lookup_rev {α : Type} {ps : List Str} {us : List α} {i : Nat} {y : Str} {u : α} (nd : ps.Nodup) (hp : ps[i]? = some y) (hu : us[i]? = some u) : (ps.zip us).reverse.lookup y = some u := by
 refine lookup_mem ?_ ?_
 ·rw [List.map_reverse]
  refine (List.reverse_perm _).nodup_iff.mpr ?_
  rw [zip_fst]
  exact nd.sublist (List.take_sublist _ _)
 ·rw [List.mem_reverse]
  refine List.mem_of_getElem? (i := i) ?_
  rw [List.getElem?_zip_eq_some]
  exact ⟨hp, hu⟩
def lamCx (P : Program) (w : World) (K : PySem.W.Frag) (mg : Str → Option Value) (base : Heap) (N : List Str) (q : Str) (sc : Scope) (f c' : Addr) (cl : List (Str × Addr)) (A : Around) (outer : List Env) (s : Shared) (H : Hp) : Cx where
 prog := P
 w := w
 K := K
 mg := mg
 base := base
 A := A.deeper (PySem.W.envX q sc s.heap.objs.size f (.ref c') cl)
 N := N
 s₀ := s
 H₀ := H
 env := PySem.W.envX q sc s.heap.objs.size f (.ref c') cl
 outer := outer
 stack := PySem.W.envX q sc s.heap.objs.size f (.ref c') cl :: outer
 ex := []
 calm := true
 fn := fun _ => false
 pn := []
 xe := fun _ _ => False
section
variable {P : Program} {w : World} {K : PySem.W.Frag} {mg : Str → Option Value} {base : Heap} {A : Around} {outer : List Env} {s : Shared} {H : Hp} {f : Addr} {q : Str} {params : Arguments} {body : Expr} {fr sc : Scope} {cl : List (Str × Addr)} {ps cap : List Str}
theorem lam_inv {c' : Addr} {us : List Value} {vs : List V} {vals : St} {h₁ : Heap} {tk : Nat} (S : LamScope fr sc ps cap) (hcap : ∀ y, sc.names.lookup y = some .free → ∃ c, cl.lookup y = some c) (hd : A.handled = none) (e0 : Env0 P w K mg base A outer s H) (hl : vs.length = ps.length) (hv : vals.length = cap.length) (r : Vals vs us) (C : CellsAre s H cl cap vals)
  (hns : h₁.Ns s.heap.objs.size (fun x => (ps.zip us).reverse.lookup x)) (hk : ∀ b o, s.heap.get? b = some o → h₁.get? b = some o) :
  Inv (lamCx P w K mg base (ps ++ cap) q sc f c' cl A outer s H) [] (vs.map some ++ vals) H { s with heap := h₁, toks := tk } := by
 have noA : ∀ b : Addr, b ∉ (lamCx P w K mg base (ps ++ cap) q sc f c' cl A outer s H).ex := fun b z => absurd (show b ∈ ([] : List Addr) from z) (by simp)
 have ndp : ps.Nodup := (List.nodup_append.mp S.nd).1
 refine ⟨⟨e0.mod, S.kind, rfl, rfl, Nat.le_refl _, C.inj, fun y hy => ?_, (fun y c h => Bool.noConfusion h), fun _ => hd, Around.frames_deeper e0.frames, .inr ⟨rfl, rfl⟩, fun b z => absurd z (noA b), e0.bs, e0.bsz, fun b _ _ => noA b, fun b z => absurd z (noA b), e0.funs, e0.frf⟩,
  rfl, e0.bare, Un.kept hk, ⟨_, hns, fun i y v h1 h2 h3 => ?_⟩, fun y c h => ?_, e0.hok.fresh (Nat.le_refl _), fun y c h => (C.isc y c h).2, fun p hp => absurd (show p ∈ ([] : List (Addr × Obj)) from hp) (by simp), e0.hok.kept hk, ?_⟩
 ·have hy : sc.names.lookup y = some .cell ∨ sc.names.lookup y = some .free := hy
  rcases hy with hy | hy
  ·exact absurd rfl (S.cell _ (PySem.mem_of_lookup hy))
  ·exact hcap y hy
 ·by_cases hi : i < ps.length
  ·have hp : ps[i]? = some y := by
    have : (ps ++ cap)[i]? = some y := h1
    rw [List.getElem?_append_left hi] at this; exact this
   have ha : vs[i]? = some v := by
    rw [List.getElem?_append_left (by rw [List.length_map]; omega), List.getElem?_map] at h2
    cases e : vs[i]? with
    | none => rw [e] at h2; cases h2
    | some a => rw [e] at h2; cases h2; rfl
   obtain ⟨u, hu, rv⟩ := r.get ha
   refine ⟨u, rv, .inl ⟨S.par y (List.mem_of_getElem? hp), ?_⟩⟩
   exact lookup_rev ndp hp hu
  ·have hc : cap[i - ps.length]? = some y := by
    have : (ps ++ cap)[i]? = some y := h1
    rw [List.getElem?_append_right (by omega)] at this; exact this
   have ha : vals[i - ps.length]? = some (some v) := by
    rw [List.getElem?_append_right (by rw [List.length_map]; omega), List.length_map, hl] at h2; exact h2
   obtain ⟨c, u, e1, e2, rv⟩ := C.val _ y v hc ha
   obtain ⟨o, ho, hd'⟩ := e2
   exact ⟨u, rv, .inr ⟨.inr (S.capl y (List.mem_of_getElem? hc)), c, e1, o, hk _ _ ho, hd'⟩⟩
 ·obtain ⟨⟨v, o, ho, hd'⟩, _⟩ := C.isc y c h
  exact ⟨v, o, hk _ _ ho, hd'⟩
 ·show (vs.map some ++ vals).length = (ps ++ cap).length
  rw [List.length_append, List.length_append, List.length_map, hl, hv]
theorem lam_run {k : Nat} {us : List Value} {vs : List V} {vals : St} {te : TE} {Q : VK} {E : XK} (S : LamScope fr sc ps cap) (hcap : ∀ y, sc.names.lookup y = some .free → ∃ c, cl.lookup y = some c) (hr : Room (k + 1) A) (e0 : Env0 P w K mg base A outer s H) (L : IsLam H f q params body sc cl) (C : CellsAre s H cl cap vals)
  (hbind : ∀ (pm ctv : Value) (c' : Addr), bindArgs (PySem.W.kla_fn "<lambda>" q params body sc cl pm (.ref c') ctv) ⟨us, []⟩ = pure (ps.zip us)) (hl : vs.length = ps.length) (hv : vals.length = cap.length) (r : Vals vs us)
  (hbody : ∀ c', Room k (A.deeper (PySem.W.envX q sc s.heap.objs.size f (.ref c') cl)) → PE (lamCx P w K mg base (ps ++ cap) q sc f c' cl A outer s H) body te) (hq : te (vs.map some ++ vals) H Q) :
  codeAny (model P w) A (.call (.ref f) ⟨us, []⟩) (CR CX0 outer P w H s Q E) s := by
 obtain ⟨pm, ctv, c', oc, h1, h2, h3⟩ := L
 obtain ⟨ho, _⟩ := e0.hok f _ h1
 have lim : s.heap.NoLimit := e0.mod.nolimit.keeps fun b o e => (e0.bs b o e).1
 refine PySem.W.kla_callFunE hr.depth ho rfl S.co S.gen rfl (codeRec_frz e0.hok h2 h3) ?_
 rw [hbind pm ctv c']
 refine wpAny_pure (wpAny_newFunctionEnv S.cell (fun y hy => S.par y.1 (List.of_mem_zip hy).1) (fun h₁ hns hsb => ⟨lim.fresh _ hsb, ?_⟩) S.kind)
 have old1 : ∀ b u, s.heap.get? b = some u → h₁.get? b = some u := fun b u e =>
  hsb.extBut b u (Nat.ne_of_lt (Heap.lt_size e)) (Heap.get?_push_of_some _ e)
 have I := lam_inv (tk := s.toks + (ps.zip us).length) (f := f) (q := q) (c' := c') S hcap hr.hd e0 hl hv r C hns old1
 refine PySem.W.kla_codeExpr (wpAny_mono (hbody c' (hr.deeper _) [] _ _ H Q I hq) (fun v s' hs => ?_) fun e s' z => z.elim)
 obtain ⟨x, H', J, rv, q'⟩ := hs
 exact ⟨x, H', J.os, J.bare, J.base, J.hok, rv, q'⟩
end
end L2
namespace L2
open PySem PySem.Spec PyProof.Rows
def BM (mg : Str → Option Value) (h : Heap) : Prop := ∃ bm ob, mg "__builtins__" = some (.ref bm) ∧ bm ≠ builtinsNs ∧ h.get? bm = some ob ∧ ob.cls = .type "module" ∧ ob.dict = some builtinsNs ∧ ob.data = .plain
theorem among_snoc {pos pos' : Pos} {c v : Value} : ∀ (l : List Value), TriplesOk l → codeAmong pos' (l ++ [rawInt pos.line, rawInt pos.col, c]) = some v → codeAmong pos' l = some v ∨ (pos'.line = pos.line ∧ pos'.col = pos.col ∧ v = c) := by
 intro l h
 fun_induction TriplesOk l
  with
 | case1 =>
  intro e
  simp only [List.nil_append, rawInt, codeAmong] at e
  split at e
  ·rename_i hc
   simp at hc
   cases e
   exact .inr ⟨by omega, by omega, rfl⟩
  ·cases e
 | case2 a t b u x rest ih =>
  intro e
  simp only [List.cons_append, codeAmong] at e ⊢
  split at e
  ·rename_i hc; rw [if_pos hc]; exact .inl e
  ·rename_i hc; rw [if_neg hc]; exact ih h e
 | case3 l z1 z2 => exact False.elim h
section
variable {X : Cx} {pins : List (Addr × Obj)} {σ : St} {H : Hp} {s : Shared} {sc : Scope} {ps cap : List Str} {P c : Addr} {cr : Nat → Nat → Option Str} {q : Str} {params : Arguments} {body : Expr} {pos : Pos}
theorem LamScope.cells (S : LamScope X.env.scope sc ps cap) (ok : X.Ok) : ∀ p ∈ sc.names, p.2 = .free → ∃ c, X.env.cells.lookup p.1 = some c :=
 fun p hp e => ok.has p.1 (.inl (S.free p hp e))
theorem LamScope.sub (S : LamScope X.env.scope sc ps cap) (ok : X.Ok) {y : Str} {c : Addr} (h : (clOf X.env sc.names []).lookup y = some c) : X.env.cells.lookup y = some c :=
 clOf_mem (S.cells ok) (fun _ _ z => by simp at z) h
theorem Inv.cellsAre (I : Inv X pins σ H s) (S : LamScope X.env.scope sc ps cap) {js : List Nat} (hjs : js.map (fun j => X.N[j]?) = cap.map some) : CellsAre s H (clOf X.env sc.names []) cap (capV σ js) := by
 have ok := I.ok
 refine ⟨fun x y c h1 h2 => ok.inj x y c (S.sub ok h1) (S.sub ok h2), fun x c h => ⟨I.cell x c (S.sub ok h), I.freeC x c (S.sub ok h)⟩, fun i y v e1 e2 => ?_⟩
 have hy : y ∈ cap := List.mem_of_getElem? e1
 unfold capV at e2
 rw [List.getElem?_map] at e2
 cases ej : js[i]? with
 | none => rw [ej] at e2; cases e2
 | some j =>
  rw [ej] at e2
  have e2'' : (σ[j]?).join = some v := Option.some.inj e2
  have eN : X.N[j]? = some y := by
   have := congrArg (fun l => l[i]?) hjs
   simp only [List.getElem?_map, ej, e1, Option.map_some] at this
   exact Option.some.inj this
  have eσ : σ[j]? = some (some v) := by
   cases z : σ[j]? with
   | none => rw [z] at e2''; cases e2''
   | some w' =>
    rw [z] at e2''
    have : w' = some v := by simpa using e2''
    rw [this]
  have kc : X.env.scope.names.lookup y = some .cell := S.free (y, .free) (S.caps y hy) rfl
  obtain ⟨m0, hn0, hl0⟩ := I.loc
  obtain ⟨u, ru, lk⟩ := hl0 j y v eN eσ (.inr (.inl kc))
  rcases lk with ⟨k, _⟩ | ⟨_, c, ec, hc⟩
  ·have k' : X.env.scope.names.lookup y = some .local := k
   rw [kc] at k'; cases k'
  ·obtain ⟨c', hc'⟩ := Option.isSome_iff_exists.mp (clOf_has (env := X.env) (acc := []) (S.caps y hy))
   have hcc : c' = c := Option.some.inj ((S.sub ok hc').symm.trans ec)
   subst hcc
   exact ⟨c', u, hc', hc, ru⟩
def tLam (P : Addr) (cr : Nat → Nat → Option Str) (q : Str) (params : Arguments) (body : Expr) (sc : Scope) (cl : List (Str × Addr)) : TE := fun σ H Q => H P = some (.tbl cr) ∧ ∀ f H', H f = none → Same H H' → IsLam H' f q params body sc cl → Q (.ref f) H'
theorem pe_lam (S : LamScope X.env.scope sc ps cap) (hcode : X.env.code = .ref c) (C : PySem.W.CodeHd X.base c P) (hbm : BM X.mg X.base) (hq : q = X.env.qual ++ "<lambda>") (hcr : cr pos.line pos.col = some q) (hdef : defaultsOf params X.env = ([], []) := by rfl) :
  PE X (.Lambda params body sc pos) (tLam P cr q params body sc (clOf X.env sc.names [])) := by
 intro pins s σ H Q I h
 obtain ⟨hP, h⟩ := h
 refine PySem.W.kla_eval hdef ?_
 rw [← hq]
 obtain ⟨tb, hget, ht3, hcodes⟩ := I.hok P _ hP
 have hg : s.heap.Ns mainGlobals X.mg := I.mod.glob.keeps I.bk
 have hgP : mainGlobals ≠ P := fun z => by
  obtain ⟨o, es, ep, e, hd, _⟩ := hg
  rw [z, hget] at e; cases e; cases hd
 have hb : s.heap.BuiltinsAt X.mg P := by
  obtain ⟨bm, ob, b1, b2, b3, b4, b5, b6⟩ := hbm
  have e := I.bk _ _ b3
  refine ⟨bm, ob, b1, b2, fun z => ?_, fun z => ?_, e, b4, b5, b6⟩
  ·obtain ⟨o, es, ep, e', hd, _⟩ := hg
   rw [← z, e] at e'; cases e'; rw [b6] at hd; cases hd
  ·rw [z, hget] at e; cases e; cases b4
 have hcl : closureFor sc X.env = pure (clOf X.env sc.names []) := closureFor_eq (S.cells I.ok)
 cases hf : codeAmong pos tb.toList with
 | some cv =>
  obtain ⟨c', oc, q', rfl, e2, e3, e4⟩ := hcodes pos cv hf
  rw [hcr] at e2; cases e2
  refine PySem.W.kla_makeFunctionHit hcl I.ok.glob hg hcode (C.keeps I.bk) hget ht3 hf hb fun ctv h' tk hk hsz => ?_
  have hfr : H h'.objs.size = none := I.hok.fresh hsz
  refine ⟨.ref h'.objs.size, upd H h'.objs.size (.frz (PySem.W.kla_obj "<lambda>" q params body sc (clOf X.env sc.names []) ((X.mg "__name__").getD .none) c' ctv) (.own h'.objs.size)), I.laid (t' := tk) (fun b u e => Heap.get?_push_of_some _ (hk b u e)) hsz ⟨Heap.get?_push_size _ rfl, _, Heap.get?_push_size _ rfl⟩, rfl, h _ _ hfr (fun b u e => by rw [upd_ne (ne_of_none e hfr)]; exact e) ⟨_, _, c', oc, upd_same, ?_, e4⟩⟩
  rw [upd_ne (ne_of_none e3 hfr)]; exact e3
 | none =>
  refine PySem.W.kla_makeFunction hcl I.ok.glob hg hcode (C.keeps I.bk) hget ht3 hf hgP hb fun c' ctv h' tk hx hge hlt hrec htb => ?_
  obtain ⟨c2, oc, vs, tt, e2, hoc, hd, hv⟩ := hrec
  cases e2
  have hcn : H c' = none := I.hok.fresh hge
  have hsz : s.heap.objs.size ≤ h'.objs.size := Nat.le_of_lt (Nat.lt_of_le_of_lt hge hlt)
  have hfr : H h'.objs.size = none := I.hok.fresh hsz
  have hcf : c' ≠ h'.objs.size := Nat.ne_of_lt hlt
  have hPc : P ≠ c' := ne_of_none hP hcn
  have hPf : P ≠ h'.objs.size := ne_of_none hP hfr
  have sm : ∀ b u, H b = some u → upd (upd H c' (.frz oc (.own c'))) h'.objs.size (.frz (PySem.W.kla_obj "<lambda>" q params body sc (clOf X.env sc.names []) ((X.mg "__name__").getD .none) c' ctv) (.own h'.objs.size)) b = some u := fun b u e => by
   rw [upd_ne (ne_of_none e hfr), upd_ne (ne_of_none e hcn)]; exact e
  have cc : upd (upd H c' (.frz oc (.own c'))) h'.objs.size (.frz (PySem.W.kla_obj "<lambda>" q params body sc (clOf X.env sc.names []) ((X.mg "__name__").getD .none) c' ctv) (.own h'.objs.size)) c' = some (.frz oc (.own c')) := by
   rw [upd_ne hcf, upd_same]
  have hk : ∀ b o, b ≠ P → s.heap.get? b = some o → (h'.push (PySem.W.kla_obj "<lambda>" q params body sc (clOf X.env sc.names []) ((X.mg "__name__").getD .none) c' ctv)).get? b = some o := fun b o hb e => Heap.get?_push_of_some _ (hx b o hb e)
  refine ⟨.ref h'.objs.size, _, I.un (t' := tk) ⟨fun b o e n _ _ => hk b o (fun z => by rw [z, hP] at n; cases n) e, fun b o e n _ _ => ⟨o.slots, hk b o (fun z => by rw [z, hP] at n; cases n) e⟩, fun b o e n _ => ?_, fun b o e _ => ?_, fun b xs e => sm b _ e, fun b o u e => sm b _ e, fun b r e => sm b _ e⟩ ?_, rfl, h _ _ hfr sm ⟨_, _, c', oc, upd_same, cc, vs, tt, hd, hv⟩⟩
  ·have h1 : b ≠ c' := Nat.ne_of_lt (Nat.lt_of_lt_of_le (Heap.lt_size e) hge)
   have h2 : b ≠ h'.objs.size := Nat.ne_of_lt (Nat.lt_of_lt_of_le (Heap.lt_size e) hsz)
   rw [upd_ne h2, upd_ne h1]; exact n
  ·by_cases hb : b = P
   ·subst hb; exact ⟨_, Heap.get?_push_of_some _ htb⟩
   ·exact ⟨o, hk b o hb e⟩
  ·intro b u e
   by_cases h1 : b = h'.objs.size
   ·subst h1
    rw [upd_same] at e; cases e
    exact ⟨Heap.get?_push_size _ rfl, _, Heap.get?_push_size _ rfl⟩
   ·by_cases h2 : b = c'
    ·subst h2
     rw [cc] at e; cases e
     exact ⟨Heap.get?_push_of_some _ hoc, _, Heap.get?_push_of_some _ hoc⟩
    ·rw [upd_ne h1, upd_ne h2] at e
     by_cases h3 : b = P
     ·subst h3
      rw [hP] at e; cases e
      refine ⟨_, Heap.get?_push_of_some _ htb, ?_, fun pos' v e => ?_⟩
      ·rw [Array.toList_append]; exact TriplesOk_snoc _ _ _ _ ht3
      ·rw [Array.toList_append] at e
       rcases among_snoc (pos := pos) tb.toList ht3 e with e | ⟨e1, e2, rfl⟩
       ·obtain ⟨d, od, q', z1, z2, z3, z4⟩ := hcodes pos' v e
        exact ⟨d, od, q', z1, z2, sm _ _ z3, z4⟩
       ·exact ⟨c', oc, q, rfl, by rw [e1, e2]; exact hcr, cc, vs, tt, hd, hv⟩
     ·refine (I.hok b u e).stay (fun d v hd' e' => hk d v ?_ e') (fun d e' => sm d _ e') (fun d xs e' => sm d _ e') fun d o' u' e' => sm d _ e'
      rintro rfl
      rcases hd' with z | z
      ·exact h3 z.symm
      ·rw [hP] at z; cases z
end
end L2
namespace L2
open PySem PySem.Spec PyProof.Rows
abbrev SpS := Shared → List V → Hp → VK → Prop
structure FnOkS (P : Program) (w : World) (K : PySem.W.Frag) (mg : Str → Option Value) (base : Heap) (k : Nat) (f : Addr) (fd : FuncData) (ps : List Str) (sp : SpS) : Prop where
 len : ∀ s vs H Q, sp s vs H Q → vs.length = ps.length
 run : ∀ (A : Around) (outer : List Env) (s : Shared) (H : Hp) (args : Args) (us : List Value) (vs : List V) (Q : VK), Room k A → Env0 P w K mg base A outer s H → BindsTo s fd args (ps.zip us) → Vals vs us → sp s vs H Q →
  codeAny (model P w) A (.call (.ref f) args) (CR CX0 outer P w H s Q E0) s
theorem fn_ofS {P : Program} {w : World} {K : PySem.W.Frag} {mg : Str → Option Value} {base : Heap} {k : Nat} {f : Addr} {name qual : Str} {params : Arguments} {body : List Stmt} {scope : Scope} {dV kV doc pm cdv ct oc : Value} {an od : Option Addr}
  {osl : Array (Option Value)} {N ps : List Str} {sp : SpS} (lk : K.lookup f = some ⟨oc, od, .func (PySem.W.fnOf name qual params body scope dV kV doc pm an cdv ct), osl⟩) (hcd : PySem.W.codeIn K cdv qual = true) (S : FnScope N ps scope)
  (len : ∀ s vs H Q, sp s vs H Q → vs.length = ps.length)
  (hbody : ∀ (A : Around) (outer : List Env) (s : Shared) (H : Hp) (vs : List V) (Q : VK), Room k (A.deeper (envOfC qual scope s.heap.objs.size f cdv)) → sp s vs H Q →
   ∃ t, PSs (cxOf CX0 P w K mg base N qual scope f cdv A outer s H E0) body t ∧ t { nx := fun _ H' => Q .non H', rt := Q } (start N vs) H) :
  FnOkS P w K mg base (k + 1) f (PySem.W.fnOf name qual params body scope dV kV doc pm an cdv ct) ps sp := by
 refine ⟨len, fun A outer s H args us vs Q hr e0 hb r hsp => ?_⟩
 have hl := len _ _ _ _ hsp
 have KX : K.In s.heap := e0.mod.kin.keeps fun b o e => (e0.bs b o e).1
 have lim : s.heap.NoLimit := e0.mod.nolimit.keeps fun b o e => (e0.bs b o e).1
 have hkind : ∀ y ∈ ps.zip us, scope.names.lookup y.1 = some .local ∨ (scope.names.lookup y.1 = some .cell ∧ ((cellsFrom (s.heap.objs.size + 1) scope.names []).lookup y.1).isSome = true) := fun ⟨n, v⟩ hy => by
  rcases S.par n (List.of_mem_zip hy).1 with q | q
  ·exact .inl q
  ·exact .inr ⟨q, PySem.W.cellsFrom_some _ _ _ (.inl q)⟩
 refine codeAny_call_function hr.depth (KX _ _ lk) rfl S.co S.gen rfl (PySem.W.codeRec_of KX hcd) (hb _ _ _ _ ?_)
 refine wpAny_newFunctionEnv_cells S.kind hkind fun env he s1 x => ?_
 subst he
 refine ⟨lim.keeps x.toInCall.keep, codeAny_func ?_⟩
 obtain ⟨t, ht, hq⟩ := hbody A outer s H vs Q (hr.deeper _) hsp
 have I : Inv (cxOf CX0 P w K mg base N qual scope f cdv A outer s H E0) [] (start N vs) H s1 := inv_start S hr.hd e0 hl r x
 refine wpAny_mono (ht [] s1 (start N vs) H _ I hq) (fun fl s' hs => ?_) fun e s' hs => hs
 have fin : ∀ {σ' : St} {H' : Hp} {v : V} {u : Value}, Inv (cxOf CX0 P w K mg base N qual scope f cdv A outer s H E0) [] σ' H' s' → RelV v u → Q v H' → CE outer P w H s Q u s' :=
  fun {σ' H' v u} J rv q => ⟨v, H', J.os, J.bare, J.base, J.hok, rv, q⟩
 cases fl with
 | ret u =>
  obtain ⟨v, σ', H', J, rv, q⟩ := hs
  exact fin J rv q
 | next =>
  obtain ⟨σ', H', J, q⟩ := hs
  exact fin (v := V.non) (u := Value.none) J rfl q
 | brk =>
  obtain ⟨_, _, _, q⟩ := hs
  exact False.elim q
 | cont =>
  obtain ⟨_, _, _, q⟩ := hs
  exact False.elim q
section
variable {P : Program} {w : World} {K : PySem.W.Frag} {mg : Str → Option Value} {base : Heap}
theorem Fun.okS {x qual : Str} {st : Stmt} {f : Addr} {fd : FuncData} {N ps : List Str} {k : Nat} {sp : SpS} (F : Fun K x qual st f fd) (S : FnScope N ps (defScope st)) (len : ∀ s vs H Q, sp s vs H Q → vs.length = ps.length)
  (hbody : ∀ (cdv : Value) (A : Around) (outer : List Env) (s : Shared) (H : Hp) (vs : List V) (Q : VK), Room k (A.deeper (envOfC qual (defScope st) s.heap.objs.size f cdv)) → sp s vs H Q →
   ∃ t, PSs (cxOf CX0 P w K mg base N qual (defScope st) f cdv A outer s H E0).nox (defBody st) t ∧ t { nx := fun _ H' => Q .non H', rt := Q } (start N vs) H) : FnOkS P w K mg base (k + 1) f fd ps sp := by
 obtain ⟨oc, od, kV, doc, pm, an, cdv, ct, osl, rfl, lk, hcd⟩ := F.ex
 refine fn_ofS lk hcd S len fun A outer s H vs Q hr hsp => ?_
 obtain ⟨t, h, q⟩ := hbody cdv A outer s H vs Q hr hsp
 exact ⟨t, h.nox, q⟩
theorem Fun.okC {x qual : Str} {st : Stmt} {f : Addr} {fd : FuncData} {N ps : List Str} {k : Nat} {sp : Sp} (F : Fun K x qual st f fd) (S : FnScope N ps (defScope st)) (len : ∀ vs H Q E, sp vs H Q E → vs.length = ps.length)
  (hbody : ∀ (cdv : Value) (A : Around) (outer : List Env) (s : Shared) (H : Hp) (vs : List V) (Q : VK) (E : XK), cdv = fd.code → Room k (A.deeper (envOfC qual (defScope st) s.heap.objs.size f cdv)) → sp vs H Q E →
   ∃ t, PSs (cxOf CX0 P w K mg base N qual (defScope st) f cdv A outer s H E).nox (defBody st) t ∧ t { nx := fun _ H' => Q .non H', rt := Q } (start N vs) H) : FnOk P w K mg base CX0 (k + 1) f fd ps sp := by
 obtain ⟨oc, od, kV, doc, pm, an, cdv, ct, osl, rfl, lk, hcd⟩ := F.ex
 refine fn_of lk hcd S len fun A outer s H vs Q E hr hsp => ?_
 obtain ⟨t, h, q⟩ := hbody cdv A outer s H vs Q E rfl hr hsp
 exact ⟨t, h.nox, q⟩
end
section
variable {X : Cx} {k i : Nat} {x : Str} {f : Addr} {q : Str} {params : Arguments} {body : Expr} {fr sc : Scope} {cl : List (Str × Addr)} {ps cap : List Str} {vals : St} {te : TE} {e : Expr} {es : List Expr} {t : TA} {p pos : Pos}
def tCallV (i : Nat) (f : Addr) (te : TE) (vals : St) (n : Nat) (t : TA) : TE := fun σ H Q => σ[i]? = some (some (.ref f)) ∧ t σ H fun vs H1 => vs.length = n ∧ te (vs.map some ++ vals) H1 Q
theorem fnAt_of {P : Program} {w : World} {H : Hp} {h : Heap} (ok : HOk P w H h) (L : IsLam H f q params body sc cl) : PySem.W.FnAt f h := by
 obtain ⟨pm, ctv, c', oc, h1, _⟩ := L
 obtain ⟨ho, _⟩ := ok f _ h1
 exact ⟨_, _, _, _, ho⟩
theorem pe_callV (hN : X.N[i]? = some x) (hv : Vis X.env.scope x) (hr : Room (k + 1) X.A) (hex : X.ex = []) (L : IsLam X.H₀ f q params body sc cl) (C : CellsAre X.s₀ X.H₀ cl cap vals) (S : LamScope fr sc ps cap) (hcap : ∀ y, sc.names.lookup y = some .free → ∃ c, cl.lookup y = some c)
  (hbind : ∀ (us : List Value), us.length = ps.length → ∀ (pm ctv : Value) (c' : Addr), bindArgs (PySem.W.kla_fn "<lambda>" q params body sc cl pm (.ref c') ctv) ⟨us, []⟩ = pure (ps.zip us)) (hvl : vals.length = cap.length)
  (hbody : ∀ A outer s H f c', Room k (A.deeper (PySem.W.envX q sc s.heap.objs.size f (.ref c') cl)) → PE (lamCx X.prog X.w X.K X.mg X.base (ps ++ cap) q sc f c' cl A outer s H) body te) (ha : PA X (e :: es) t)
  (hd : (x == ("__debug__" : Str)) = false := by decide) (hcd : (x == ("__classdict__" : Str)) = false := by decide) (he : starEach (e :: es) X.env = (false, eval e X.env) :: starEach es X.env := by rfl) (hpl : (backTo pos (starEach es X.env)).any (·.1) = false := by rfl) :
  PE X (.Call (.Name x p) (e :: es) [] pos) (tCallV i f te vals ps.length t) := by
 intro pins s σ H Q I h
 obtain ⟨eσ, h⟩ := h
 refine wpAny_Call_Name_kw (thn (pe_var hN hv hd hcd pins s σ H (fun v H' => v = .ref f ∧ H' = H) I ⟨_, eσ, rfl, rfl⟩) fun u s1 ⟨v, H1, I1, r, ev, eH⟩ => ?_)
 subst ev eH
 obtain rfl : u = Value.ref f := r
 have un : ∀ {pins : List (Addr × Obj)} {σ : St} {H : Hp} {s : Shared}, Inv X pins σ H s → Un X.fs [] X.H₀ H X.s₀.heap s.heap := fun {pins σ H s} J => by
  have := J.base
  rw [hex] at this; exact this
 have Lm : ∀ {pins : List (Addr × Obj)} {σ : St} {H : Hp} {s : Shared}, Inv X pins σ H s → IsLam H f q params body sc cl := fun J => L.same (un J).frzs
 refine PySem.W.callWith_F (fnAt_of I1.hok (Lm I1)) (thn (ha pos pins s1 σ H1 _ I1 h) fun us s2 ⟨vs, H2, I2, rv, hl, hq⟩ => ⟨fnAt_of I2.hok (Lm I2), ?_⟩) he hpl
 refine wpAny_call (codeAny_mono (lam_run (E := E0) S hcap hr I2.env0 (Lm I2) (C.un (un I2)) (hbind us (by rw [← rv.length]; exact hl)) hl hvl rv (fun c' hr' => hbody _ _ _ _ _ c' hr') hq) fun r s' hq' => ?_)
 cases r with
 | error e => exact False.elim hq'
 | ok fl =>
  cases fl with
  | ret u => exact I2.after hq'
  | next => exact False.elim hq'
  | brk => exact False.elim hq'
  | cont => exact False.elim hq'
end
def hv (g : Nat → Bool) (lo hi : Nat) : Nat := if h : lo < hi then (if g ((lo + hi) / 2) then hv g ((lo + hi) / 2 + 1) hi else hv g lo ((lo + hi) / 2)) else lo
termination_by hi - lo
decreasing_by all_goals omega
theorem hv_eq {g : Nat → Bool} {k : Nat} (lo hi : Nat) (h : ∀ i, i < hi → (g i = true ↔ i < k)) (h1 : lo ≤ k) (h2 : k ≤ hi) : hv g lo hi = k := by
 fun_induction hv g lo hi with
 | case1 lo hi hlt hg ih =>
  have := (h _ (by omega)).mp hg
  exact ih h (by omega) h2
 | case2 lo hi hlt hg ih =>
  have : ¬ (lo + hi) / 2 < k := fun z => hg ((h _ (by omega)).mpr z)
  exact ih (fun i hi' => h i (by omega)) h1 (by omega)
 | case3 lo hi hlt => omega
def spMA (P : Program) (w : World) (K : PySem.W.Frag) (mg : Str → Option Value) (base : Heap) (kk : Nat) : SpS := fun s vs H Q => ∃ (n : Nat) (f : Addr) (q : Str) (params : Arguments) (body : Expr) (fr sc : Scope) (cl : List (Str × Addr)) (y : Str) (cap : List Str) (vals : St) (te : TE) (g : Nat → Bool),
 vs = [.int n, .ref f] ∧ n ≤ 10 ^ 6 ∧ LamScope fr sc [y] cap ∧ (∀ y, sc.names.lookup y = some .free → ∃ c, cl.lookup y = some c) ∧ IsLam H f q params body sc cl ∧ CellsAre s H cl cap vals ∧ vals.length = cap.length ∧
 (∀ (us : List Value), us.length = [y].length → ∀ (pm ctv : Value) (c' : Addr), bindArgs (PySem.W.kla_fn "<lambda>" q params body sc cl pm (.ref c') ctv) ⟨us, []⟩ = pure ([y].zip us)) ∧
 (∀ A outer s H f c', Room kk (A.deeper (PySem.W.envX q sc s.heap.objs.size f (.ref c') cl)) → PE (lamCx P w K mg base ([y] ++ cap) q sc f c' cl A outer s H) body te) ∧
 (∀ i, i < n → Ev K te (some (.int (i : Nat)) :: vals) H (.bool (g i))) ∧ ∀ H', Same H H' → Q (.int (hv g 0 n : Nat)) H'
def tMA (K : PySem.W.Frag) (P : Addr) (cr : Nat → Nat → Option Str) (js : List Nat) (t0 te : TE) : TE := fun σ H Q => t0 σ H fun v H1 => H1 P = some (.tbl cr) ∧ ∃ (n : Nat) (g : Nat → Bool), v = .int (n : Nat) ∧ n ≤ 10 ^ 6 ∧
 (∀ i, i < n → Ev K te (some (.int (i : Nat)) :: capV σ js) H1 (.bool (g i))) ∧ ∀ H', Same H1 H' → Q (.int (hv g 0 n : Nat)) H'
section
variable {X : Cx} {kk : Nat} {x y : Str} {f c P : Addr} {fd : FuncData} {cr : Nat → Nat → Option Str} {q : Str} {params : Arguments} {body e0 : Expr} {sc : Scope} {cap : List Str} {t0 te : TE} {p pos lpos : Pos}
theorem pe_ma (F : FnOkS X.prog X.w X.K X.mg X.base (kk + 3) f fd ["places", "lies_ahead"] (spMA X.prog X.w X.K X.mg X.base kk)) (hr : Room (kk + 3) X.A) (hg : Gl X x) (hm : X.mg x = some (.ref f)) (hk : PySem.W.keepIn X.K (.ref f) = true) (hb : Binds X.K fd ["places", "lies_ahead"] [])
  (hxe : ∀ e s, ¬ X.xe e s) {js : List Nat} (S : LamScope X.env.scope sc [y] cap) (hjs : js.map (fun j => X.N[j]?) = cap.map some) (hcode : X.env.code = .ref c) (C : PySem.W.CodeHd X.base c P) (hbm : BM X.mg X.base) (hq : q = X.env.qual ++ "<lambda>") (hcr : cr lpos.line lpos.col = some q)
  (hbind : ∀ (u pm ctv : Value) (c' : Addr) (cl : List (Str × Addr)), bindArgs (PySem.W.kla_fn "<lambda>" q params body sc cl pm (.ref c') ctv) ⟨[u], []⟩ = pure [(y, u)])
  (ha : PE X e0 t0)
  (hbody : ∀ A outer s H f c' cl, Room kk (A.deeper (PySem.W.envX q sc s.heap.objs.size f (.ref c') cl)) → PE (lamCx X.prog X.w X.K X.mg X.base ([y] ++ cap) q sc f c' cl A outer s H) body te)
  (hdef : defaultsOf params X.env = ([], []) := by rfl) (hdb : (x == ("__debug__" : Str)) = false := by decide)
  (he : starEach [e0, .Lambda params body sc lpos] X.env = (false, eval e0 X.env) :: starEach [.Lambda params body sc lpos] X.env := by rfl) (he2 : starEach [.Lambda params body sc lpos] X.env = (false, eval (.Lambda params body sc lpos) X.env) :: starEach [] X.env := by rfl)
  (hpl : (backTo pos (starEach [.Lambda params body sc lpos] X.env)).any (·.1) = false := by rfl) :
  PE X (.Call (.Name x p) [e0, .Lambda params body sc lpos] [] pos) (tMA X.K P cr js t0 te) := by
 intro pins s σ H Q I h
 refine wpAny_Call_Name_kw (ld_glob I hg hm ?_ hdb)
 have lenJ : js.length = cap.length := by have := congrArg List.length hjs; simpa using this
 refine PySem.W.callWith_K (h₀ := X.base) I.ok.mod.kin hk ?_ he hpl
 rw [he]
 show wpAny _ _ (spliced ((false, eval e0 X.env) :: backTo pos (starEach [.Lambda params body sc lpos] X.env))) _ _ s
 refine Calls.spliced_cons (thn (ha pins s σ H _ I h) fun u s1 ⟨v, H1, I1, r1, hP, n, g, e1, hn, hev, hQ⟩ => ?_)
 subst e1
 refine thn (pa_cons (pe_lam (c := c) (cr := cr) S hcode C hbm hq hcr hdef) pa_nil he2 pos pins s1 σ H1 (fun vs H2 => ∃ f, vs = [.ref f] ∧ Same H1 H2 ∧ IsLam H2 f q params body sc (clOf X.env sc.names [])) I1 ⟨hP, fun f H' hf sm L => ⟨f, rfl, sm, L⟩⟩) fun us s2 ⟨vs, H2, I2, r2, f', e2, sm, L⟩ => ⟨I2.kIn, ?_⟩
 subst e2
 have hsp : spMA X.prog X.w X.K X.mg X.base kk s2 [.int n, .ref f'] H2 Q := ⟨n, f', q, params, body, X.env.scope, sc, clOf X.env sc.names [], y, cap, capV σ js, te, g, rfl, hn, S, fun z hz => by
   obtain ⟨c', hc'⟩ := Option.isSome_iff_exists.mp (clOf_has (env := X.env) (acc := []) (PySem.mem_of_lookup hz))
   exact ⟨c', hc'⟩, L, I2.cellsAre S hjs, by unfold capV; rw [List.length_map, lenJ], fun us hl => match us, hl with | [u], _ => fun pm ctv c' => hbind u pm ctv c' _, fun A outer s H f c' hr' => hbody A outer s H f c' _ hr', fun i hi => (hev i hi).mono sm, fun H' s' => hQ H' (sm.trans s')⟩
 have rr : Vals [.int (n : Nat), .ref f'] (u :: us) := .cons r1 r2
 have hl : (u :: us).length = ["places", "lies_ahead"].length := by rw [← rr.length]; rfl
 have hb' := hb s2 (u :: us) I2.kIn (by rw [List.append_nil]; exact hl)
 rw [List.append_nil] at hb'
 refine wpAny_call (codeAny_mono (F.run X.A X.stack s2 H2 ⟨u :: us, []⟩ (u :: us) _ Q hr I2.env0 hb' rr hsp) fun r s' hq' => ?_)
 cases r with
 | error e => exact False.elim hq'
 | ok fl =>
  cases fl with
  | ret u => exact I2.after hq'
  | next => exact False.elim hq'
  | brk => exact False.elim hq'
  | cont => exact False.elim hq'
end
theorem ev_ma {K : PySem.W.Frag} {P : Addr} {cr : Nat → Nat → Option Str} {js : List Nat} {t0 te : TE} {σ : St} {G : Hp} {n : Nat} {g : Nat → Bool} (hP : G P = some (.tbl cr)) (h0 : Ev K t0 σ G (.int (n : Nat))) (hn : n ≤ 10 ^ 6) (he : ∀ i, i < n → Ev K te (some (.int (i : Nat)) :: capV σ js) G (.bool (g i))) :
  Ev K (tMA K P cr js t0 te) σ G (.int (hv g 0 n : Nat)) := fun G1 H s1 s2 Q k => h0 G1 H s1 s2 _ fun v G2 H2 g2 hv2 => by
 have s : Same G H2 := s1.trans (g2.gg.trans g2.gh)
 refine ⟨s _ _ hP, n, g, hv2.int, hn, fun i hi => (he i hi).mono s, fun H' sH => k _ G2 H' (g2.trans (grow_h g2.gh sH)) (dat_int _)⟩
def spPT (K : PySem.W.Frag) (P : Addr) (cr : Nat → Nat → Option Str) (R : List PyData → PyData → Prop) : Sp := fun vs H Q _ => ∃ (G : Hp) (ds : List PyData) (d : PyData), G P = some (.tbl cr) ∧ Same G H ∧ Dats K G vs ds ∧ R ds d ∧ ∀ v G' H', Grow G H G' H' → Dat K G' v d → Q v H'
theorem ev_callT {K : PySem.W.Frag} {P : Addr} {cr : Nat → Nat → Option Str} {σ : St} {G : Hp} {d : PyData} {R : List PyData → PyData → Prop} {E : XK} {t : TA} {ds : List PyData} (hP : G P = some (.tbl cr)) (h : EvA K t σ G ds) (hR : R ds d) : Ev K (tCall (spPT K P cr R) [] E t) σ G d :=
 fun G1 H s1 s2 Q k => h G1 H s1 s2 _ fun vs G2 H2 g2 hv => by
  refine ⟨G2, ds, d, g2.gg _ _ (s1 _ _ hP), g2.gh, ?_, hR, fun v G' H' g hd => k v G' H' (g2.trans g) hd⟩
  rw [List.append_nil]; exact hv
end L2
namespace Trn
structure Tn (n : Nat) (ns : List Nat) : Prop where
 len : ns.length = n
 lt : ∀ m ∈ ns, m < n
 nd : ns.Nodup
theorem tn_of_perm {n : Nat} {ns : List Nat} (h : ns.Perm (List.range n)) : Tn n ns :=
 ⟨by rw [h.length_eq, List.length_range], fun m hm => List.mem_range.mp (h.mem_iff.mp hm), h.nodup_iff.mpr List.nodup_range⟩
end Trn
namespace Trn
end Trn
namespace Mvs
open L2 Trn
def vl (turn : List Nat) (p : Nat) : Nat := turn.getD p 0
def rw_ (rk : List Nat) (j : Nat) : List Nat := (List.range rk.length).filter fun p => rk.getD p 0 == j
def tp (rk : List Nat) (j : Nat) : Nat := (rw_ rk j).getLastD 0
def gw (turn rk : List Nat) (i : Nat) : Nat → Bool := fun s => decide (vl turn (tp rk s) < vl turn i)
def wi (turn rk : List Nat) (k i : Nat) : Nat := hv (gw turn rk i) 0 k
def rkS (turn : List Nat) : Nat → List Nat × Nat
 | 0 => ([], 0)
 | i + 1 => ((rkS turn i).1 ++ [wi turn (rkS turn i).1 (rkS turn i).2 i], max (rkS turn i).2 (wi turn (rkS turn i).1 (rkS turn i).2 i + 1))
def rowsL (rk : List Nat) (k : Nat) : List (List Nat) := (List.range k).map (rw_ rk)
theorem mem_rw {rk : List Nat} {j p : Nat} : p ∈ rw_ rk j ↔ p < rk.length ∧ rk.getD p 0 = j := by
 unfold rw_
 rw [List.mem_filter, List.mem_range]
 simp
theorem rw_sorted (rk : List Nat) (j : Nat) : (rw_ rk j).Pairwise (· < ·) := List.Pairwise.filter _ List.pairwise_lt_range
theorem last_ge : ∀ {l : List Nat}, l.Pairwise (· < ·) → ∀ p ∈ l, p ≤ l.getLastD 0
 | [], _, p, h => by cases h
 | [a], _, p, h => by rw [List.mem_singleton.mp h]; exact Nat.le_refl _
 | a :: b :: l, hs, p, h => by
  have ih := last_ge (l := b :: l) (List.Pairwise.of_cons hs)
  have e : (a :: b :: l).getLastD 0 = (b :: l).getLastD 0 := by simp
  rw [e]
  rcases List.mem_cons.mp h with rfl | h
  ·have h1 := List.rel_of_pairwise_cons hs (List.mem_cons_self (a := b) (l := l))
   have h2 := ih b List.mem_cons_self
   omega
  ·exact ih p h
theorem last_mem : ∀ {l : List Nat}, l ≠ [] → l.getLastD 0 ∈ l
 | [], h => absurd rfl h
 | [a], _ => List.mem_cons_self
 | a :: b :: l, _ => by
  have e : (a :: b :: l).getLastD 0 = (b :: l).getLastD 0 := by simp
  rw [e]
  exact List.mem_cons_of_mem _ (last_mem (l := b :: l) (by simp))
structure RI (turn : List Nat) (i : Nat) (rk : List Nat) (k : Nat) : Prop where
 len : rk.length = i
 lt : ∀ p, p < i → rk.getD p 0 < k
 A : ∀ p q, p < q → q < i → vl turn p < vl turn q → rk.getD p 0 < rk.getD q 0
 B : ∀ q, q < i → 0 < rk.getD q 0 → ∃ p, p < q ∧ vl turn p < vl turn q ∧ rk.getD p 0 + 1 = rk.getD q 0
 ne : ∀ j, j < k → ∃ p, p < i ∧ rk.getD p 0 = j
 kle : k ≤ i
section
variable {turn rk : List Nat} {i k : Nat}
theorem RI.row_ne (R : RI turn i rk k) {j : Nat} (h : j < k) : rw_ rk j ≠ [] := fun z => by
 obtain ⟨p, h1, h2⟩ := R.ne j h
 have : p ∈ rw_ rk j := mem_rw.mpr ⟨by rw [R.len]; exact h1, h2⟩
 rw [z] at this; cases this
theorem RI.tp_in (R : RI turn i rk k) {j : Nat} (h : j < k) : tp rk j < i ∧ rk.getD (tp rk j) 0 = j := by
 have := mem_rw.mp (last_mem (R.row_ne h))
 rw [R.len] at this; exact this
theorem RI.tp_le (R : RI turn i rk k) {p : Nat} (h : p < i) : p ≤ tp rk (rk.getD p 0) ∧ vl turn (tp rk (rk.getD p 0)) ≤ vl turn p := by
 have h1 : p ≤ tp rk (rk.getD p 0) := last_ge (rw_sorted _ _) p (mem_rw.mpr ⟨by rw [R.len]; exact h, rfl⟩)
 refine ⟨h1, ?_⟩
 have h2 := R.tp_in (R.lt p h)
 by_cases e : p = tp rk (rk.getD p 0)
 ·rw [← e]; exact Nat.le_refl _
 ·refine Nat.le_of_not_lt fun z => ?_
  have := R.A p (tp rk (rk.getD p 0)) (by omega) h2.1 z
  omega
theorem RI.tops (R : RI turn i rk k) {j : Nat} (h : j + 1 < k) : vl turn (tp rk j) < vl turn (tp rk (j + 1)) := by
 obtain ⟨h1, h2⟩ := R.tp_in h
 obtain ⟨p, p1, p2, p3⟩ := R.B _ h1 (by omega)
 have p4 : rk.getD p 0 = j := by omega
 have := (R.tp_le (p := p) (by omega)).2
 rw [p4] at this
 omega
theorem pre_ex (g : Nat → Bool) : ∀ k, (∀ s, s + 1 < k → g (s + 1) = true → g s = true) → ∃ m, m ≤ k ∧ ∀ s, s < k → (g s = true ↔ s < m)
 | 0, _ => ⟨0, Nat.le_refl _, fun s h => by omega⟩
 | k + 1, h => by
  obtain ⟨m, hm, hs⟩ := pre_ex g k fun s hs => h s (by omega)
  by_cases hg : g k = true
  ·have hall : ∀ s, s ≤ k → g s = true := fun s hs' => by
    have : ∀ d, d ≤ k → g (k - d) = true := fun d => by
     induction d with
     | zero => intro _; exact hg
     | succ d ih =>
      intro hd
      have := ih (by omega)
      exact h (k - (d + 1)) (by omega) (by rw [show k - (d + 1) + 1 = k - d by omega]; exact this)
    have := this (k - s) (by omega)
    rw [show k - (k - s) = s by omega] at this; exact this
   exact ⟨k + 1, Nat.le_refl _, fun s hs' => ⟨fun _ => hs', fun _ => hall s (by omega)⟩⟩
  ·refine ⟨m, by omega, fun s hs' => ?_⟩
   by_cases e : s = k
   ·subst e
    exact ⟨fun z => absurd z hg, fun z => by omega⟩
   ·exact hs s (by omega)
theorem RI.w (R : RI turn i rk k) : wi turn rk k i ≤ k ∧ ∀ s, s < k → (vl turn (tp rk s) < vl turn i ↔ s < wi turn rk k i) := by
 obtain ⟨m, hm, hs⟩ := pre_ex (gw turn rk i) k fun s h1 h2 => by
  have := R.tops h1
  have h3 : vl turn (tp rk (s + 1)) < vl turn i := of_decide_eq_true h2
  exact decide_eq_true (by omega)
 have e : wi turn rk k i = m := hv_eq 0 k hs (Nat.zero_le _) hm
 rw [e]
 refine ⟨hm, fun s h => ?_⟩
 have := hs s h
 exact ⟨fun z => this.mp (decide_eq_true z), fun z => of_decide_eq_true (this.mpr z)⟩
theorem getD_app {l : List Nat} {x p : Nat} (h : p < l.length) : (l ++ [x]).getD p 0 = l.getD p 0 := by
 rw [List.getD_eq_getElem?_getD, List.getD_eq_getElem?_getD, List.getElem?_append_left h]
theorem getD_end {l : List Nat} {x : Nat} : (l ++ [x]).getD l.length 0 = x := by
 rw [List.getD_eq_getElem?_getD, List.getElem?_append_right (Nat.le_refl _)]; simp
theorem RI.step (R : RI turn i rk k) : RI turn (i + 1) (rk ++ [wi turn rk k i]) (max k (wi turn rk k i + 1)) := by
 obtain ⟨w1, w2⟩ := R.w
 have hl := R.len
 have o : ∀ p, p < i → (rk ++ [wi turn rk k i]).getD p 0 = rk.getD p 0 := fun p hp => getD_app (by omega)
 have e : (rk ++ [wi turn rk k i]).getD i 0 = wi turn rk k i := by
  have := getD_end (l := rk) (x := wi turn rk k i)
  rw [hl] at this; exact this
 refine ⟨by rw [List.length_append, hl]; rfl, fun p hp => ?_, fun p q hpq hq hv => ?_, fun q hq h0 => ?_, fun j hj => ?_, ?_⟩
 ·by_cases h : p < i
  ·rw [o p h]; have := R.lt p h; omega
  ·rw [show p = i by omega, e]; omega
 ·by_cases h : q < i
  ·rw [o p (by omega), o q h]; exact R.A p q hpq h hv
  ·have hqi : q = i := by omega
   subst hqi
   rw [o p hpq, e]
   have := (R.tp_le hpq).2
   exact (w2 _ (R.lt p hpq)).mp (by omega)
 ·by_cases h : q < i
  ·rw [o q h] at h0 ⊢
   obtain ⟨p, p1, p2, p3⟩ := R.B q h h0
   exact ⟨p, p1, p2, by rw [o p (by omega)]; exact p3⟩
  ·have hqi : q = i := by omega
   subst hqi
   rw [e] at h0 ⊢
   have h3 := R.tp_in (j := wi turn rk k q - 1) (by omega)
   refine ⟨tp rk (wi turn rk k q - 1), h3.1, (w2 _ (by omega)).mpr (by omega), ?_⟩
   rw [o _ h3.1, h3.2]; omega
 ·by_cases h : j < k
  ·obtain ⟨p, p1, p2⟩ := R.ne j h
   exact ⟨p, by omega, by rw [o p p1]; exact p2⟩
  ·exact ⟨i, by omega, by rw [e]; omega⟩
 ·have := R.kle; omega
end
theorem ri (turn : List Nat) : ∀ i, RI turn i (rkS turn i).1 (rkS turn i).2
 | 0 => ⟨rfl, fun p h => by omega, fun p q _ h => by omega, fun q h => by omega, fun j h => by exact absurd h (Nat.not_lt_zero _), Nat.le_refl _⟩
 | i + 1 => (ri turn i).step
theorem rw_app (rk : List Nat) (w j : Nat) : rw_ (rk ++ [w]) j = if w = j then rw_ rk j ++ [rk.length] else rw_ rk j := by
 unfold rw_
 rw [List.length_append, List.length_singleton, List.range_succ, List.filter_append]
 have e1 : (List.range rk.length).filter (fun p => (rk ++ [w]).getD p 0 == j) = (List.range rk.length).filter fun p => rk.getD p 0 == j :=
  List.filter_congr fun p hp => by rw [getD_app (List.mem_range.mp hp)]
 rw [e1]
 by_cases h : w = j
 ·rw [if_pos h, List.filter_cons, getD_end, if_pos (by simpa using h)]; rfl
 ·rw [if_neg h, List.filter_cons, getD_end, if_neg (by simpa using h)]; simp
theorem RI.row_k {turn rk : List Nat} {i k : Nat} (R : RI turn i rk k) : rw_ rk k = [] := by
 refine List.eq_nil_iff_forall_not_mem.mpr fun p hp => ?_
 obtain ⟨h1, h2⟩ := mem_rw.mp hp
 rw [R.len] at h1
 have := R.lt p h1
 omega
def bf (rk : List Nat) (p : Nat) : Option Nat := if 0 < rk.getD p 0 then some (((List.range p).filter fun q => rk.getD q 0 == rk.getD p 0 - 1).getLastD 0) else none
theorem bf_app {rk : List Nat} {w p : Nat} (h : p < rk.length) : bf (rk ++ [w]) p = bf rk p := by
 unfold bf
 rw [getD_app h]
 have e : (List.range p).filter (fun q => (rk ++ [w]).getD q 0 == rk.getD p 0 - 1) = (List.range p).filter fun q => rk.getD q 0 == rk.getD p 0 - 1 :=
  List.filter_congr fun q hq => by rw [getD_app (by have := List.mem_range.mp hq; omega)]
 rw [e]
theorem bf_end {rk : List Nat} {w : Nat} : bf (rk ++ [w]) rk.length = if 0 < w then some (tp rk (w - 1)) else none := by
 unfold bf
 rw [getD_end]
 have e : (List.range rk.length).filter (fun q => (rk ++ [w]).getD q 0 == w - 1) = rw_ rk (w - 1) :=
  List.filter_congr fun q hq => by rw [getD_app (List.mem_range.mp hq)]
 rw [e]; rfl
theorem RI.bf {turn rk : List Nat} {i k : Nat} (R : RI turn i rk k) {p : Nat} (h : p < i) (h0 : 0 < rk.getD p 0) : ∃ q, Mvs.bf rk p = some q ∧ q < p ∧ vl turn q < vl turn p ∧ rk.getD q 0 + 1 = rk.getD p 0 := by
 have hs : ((List.range p).filter fun q => rk.getD q 0 == rk.getD p 0 - 1).Pairwise (· < ·) := List.Pairwise.filter _ List.pairwise_lt_range
 obtain ⟨b, b1, b2, b3⟩ := R.B p h h0
 have hb : b ∈ (List.range p).filter fun q => rk.getD q 0 == rk.getD p 0 - 1 := List.mem_filter.mpr ⟨List.mem_range.mpr b1, beq_iff_eq.mpr (by omega)⟩
 have hm := last_mem (l := (List.range p).filter fun q => rk.getD q 0 == rk.getD p 0 - 1) (fun z => by rw [z] at hb; cases hb)
 have hge := last_ge hs b hb
 refine ⟨_, if_pos h0, ?_⟩
 obtain ⟨m1, m2⟩ := List.mem_filter.mp hm
 have m1' := List.mem_range.mp m1
 have m2' : rk.getD (((List.range p).filter fun q => rk.getD q 0 == rk.getD p 0 - 1).getLastD 0) 0 = rk.getD p 0 - 1 := by simpa using m2
 generalize ((List.range p).filter fun q => rk.getD q 0 == rk.getD p 0 - 1).getLastD 0 = q at hge m1' m2' ⊢
 refine ⟨m1', ?_, by omega⟩
 by_cases e : b = q
 ·rw [← e]; exact b2
 ·have : ¬ vl turn b < vl turn q := fun z => by
   have := R.A b q (by omega) (by omega) z
   omega
  omega
def kc (rk : List Nat) : Nat → Nat → List Nat → List Nat
 | 0, p, acc => p :: acc
 | j + 1, p, acc => kc rk j ((bf rk p).getD 0) (p :: acc)
def keptL (rk : List Nat) (k : Nat) : List Nat := if k = 0 then [] else kc rk (k - 1) (tp rk (k - 1)) []
structure KI (turn : List Nat) (i : Nat) (rk : List Nat) (k : Nat) (kept : List Nat) : Prop where
 len : kept.length = k
 at_ : ∀ r, r < k → kept.getD r 0 < i ∧ rk.getD (kept.getD r 0) 0 = r
 up : ∀ r s, r < s → s < k → kept.getD r 0 < kept.getD s 0 ∧ vl turn (kept.getD r 0) < vl turn (kept.getD s 0)
theorem kc_ok {turn rk : List Nat} {i k : Nat} (R : RI turn i rk k) : ∀ (j p : Nat) (acc : List Nat), p < i → rk.getD p 0 = j → acc.length + j + 1 = k →
  (∀ r, r < acc.length → acc.getD r 0 < i ∧ rk.getD (acc.getD r 0) 0 = j + 1 + r) → (∀ r s, r < s → s < acc.length → acc.getD r 0 < acc.getD s 0 ∧ vl turn (acc.getD r 0) < vl turn (acc.getD s 0)) → (0 < acc.length → p < acc.getD 0 0 ∧ vl turn p < vl turn (acc.getD 0 0)) →
  KI turn i rk k (kc rk j p acc)
 | 0, p, acc, hp, hr, hl, h1, h2, h3 => by
  refine ⟨by show acc.length + 1 = k; omega, fun r h => ?_, fun r s hrs hs => ?_⟩
  ·cases r with
   | zero => exact ⟨hp, hr⟩
   | succ r =>
    obtain ⟨a, b⟩ := h1 r (by omega)
    exact ⟨a, by show rk.getD (acc.getD r 0) 0 = r + 1; omega⟩
  ·cases s with
   | zero => omega
   | succ s =>
    cases r with
    | zero =>
     obtain ⟨a, b⟩ := h3 (by omega)
     show p < acc.getD s 0 ∧ vl turn p < vl turn (acc.getD s 0)
     by_cases e : s = 0
     ·subst e; exact ⟨a, b⟩
     ·obtain ⟨c, d⟩ := h2 0 s (by omega) (by omega)
      exact ⟨by omega, by omega⟩
    | succ r => exact h2 r s (by omega) (by omega)
 | j + 1, p, acc, hp, hr, hl, h1, h2, h3 => by
  obtain ⟨q, e, q1, q2, q3⟩ := R.bf hp (by omega)
  show KI turn i rk k (kc rk j ((bf rk p).getD 0) (p :: acc))
  rw [e]
  show KI turn i rk k (kc rk j q (p :: acc))
  refine kc_ok R j q (p :: acc) (by omega) (by omega) (by rw [List.length_cons]; omega) (fun r h => ?_) (fun r s hrs hs => ?_) fun _ => ⟨q1, q2⟩
  ·cases r with
   | zero => exact ⟨hp, by show rk.getD p 0 = j + 1 + 0; omega⟩
   | succ r =>
    obtain ⟨a, b⟩ := h1 r (by rw [List.length_cons] at h; omega)
    exact ⟨a, by show rk.getD (acc.getD r 0) 0 = j + 1 + (r + 1); omega⟩
  ·cases s with
   | zero => omega
   | succ s =>
    rw [List.length_cons] at hs
    cases r with
    | zero =>
     obtain ⟨a, b⟩ := h3 (by omega)
     show p < acc.getD s 0 ∧ vl turn p < vl turn (acc.getD s 0)
     by_cases e : s = 0
     ·subst e; exact ⟨a, b⟩
     ·obtain ⟨c, d⟩ := h2 0 s (by omega) (by omega)
      exact ⟨by omega, by omega⟩
    | succ r => exact h2 r s (by omega) (by omega)
theorem kept_ok {turn rk : List Nat} {i k : Nat} (R : RI turn i rk k) : KI turn i rk k (keptL rk k) := by
 unfold keptL
 by_cases h : k = 0
 ·subst h; rw [if_pos rfl]; exact ⟨rfl, fun r h => absurd h (Nat.not_lt_zero _), fun r s _ h => absurd h (Nat.not_lt_zero _)⟩
 ·rw [if_neg h]
  have := R.tp_in (j := k - 1) (by omega)
  exact kc_ok R (k - 1) _ [] this.1 this.2 (by show 0 + (k - 1) + 1 = k; omega) (fun r h => absurd h (Nat.not_lt_zero _)) (fun r s _ h => absurd h (Nat.not_lt_zero _)) fun h => absurd h (Nat.not_lt_zero _)
end Mvs
namespace Mvs
open L2 Trn Mv
theorem vl_inj {turn : List Nat} (T : Tn turn.length turn) {a b : Nat} (ha : a < turn.length) (hb : b < turn.length) (e : vl turn a = vl turn b) : a = b := by
 unfold vl at e
 rw [List.getD_eq_getElem?_getD, List.getElem?_eq_getElem ha, List.getD_eq_getElem?_getD, List.getElem?_eq_getElem hb] at e
 exact (List.getElem_inj T.nd).mp e
section
variable {turn kept : List Nat} {i : Nat} {now : List Nat}
end
theorem kept_mem {turn rk kept : List Nat} {i k : Nat} (Kp : KI turn i rk k kept) : (∀ r, r < k → kept.getD r 0 ∈ kept) ∧ (∀ a ∈ kept, ∃ r, r < k ∧ a = kept.getD r 0) := by
 have hl := Kp.len
 refine ⟨fun r h => ?_, fun a ha => ?_⟩
 ·rw [List.getD_eq_getElem?_getD, List.getElem?_eq_getElem (by omega)]
  exact List.getElem_mem _
 ·obtain ⟨r, hr, rfl⟩ := List.mem_iff_getElem.mp ha
  exact ⟨r, by omega, by rw [List.getD_eq_getElem?_getD, List.getElem?_eq_getElem hr]; rfl⟩
end Mvs
namespace L2
open PySem PySem.Spec PyProof.Rows
theorem mem_look {β : Type} {a : Addr} {b : β} : ∀ {l : List (Addr × β)}, l.lookup a = some b → (a, b) ∈ l
 | [], h => by simp at h
 | (z, v) :: l, h => by
  rw [List.lookup_cons] at h
  cases hb : a == z with
  | true =>
   rw [hb] at h
   have : a = z := by simpa using hb
   cases h; subst this; exact List.mem_cons_self
  | false => rw [hb] at h; exact List.mem_cons_of_mem _ (mem_look h)
theorem look_mem {β : Type} {a : Addr} {b : β} : ∀ {l : List (Addr × β)}, (l.map (·.1)).Nodup → (a, b) ∈ l → l.lookup a = some b
 | [], _, h => by simp at h
 | (z, v) :: l, nd, h => by
  rw [List.lookup_cons]
  rw [List.map_cons, List.nodup_cons] at nd
  rcases List.mem_cons.mp h with e | h
  ·cases e; simp
  ·have : a ≠ z := fun e => nd.1 (e ▸ List.mem_map_of_mem (f := (·.1)) h)
   have hb : (a == z) = false := by simpa using this
   rw [hb]
   exact look_mem nd.2 h
structure Bs (K : PySem.W.Frag) (mg : Str → Option Value) (base : Heap) : Prop where
 kin : K.In base
 bm : BM mg base
abbrev Tabs := List (Addr × (Nat → Nat → Option Str))
def TabsIn (H : Hp) (tabs : Tabs) : Prop := ∀ p ∈ tabs, H p.1 = some (.tbl p.2)
theorem law_callT {P : Program} {w : World} {K : PySem.W.Frag} {mg mb : Str → Option Value} {k : Nat} {fa a : Addr} {fd : FuncData} {x : Str} {sp : Sp} {s₁ : Shared} {vs : List Value} {ns : List Int} (tabs : Tabs)
  (KX : K.In s₁.heap) (hns : s₁.heap.Ns mainGlobals mg) (hb : s₁.heap.Ns builtinsNs mb) (hbb : ∀ x : Str, x ≠ "__name__" → mb x = bootBuiltins x) (hlim : s₁.heap.NoLimit) (hg : s₁.gens = #[])
  (ha : s₁.heap.get? a = some { cls := .type "list", data := .seq vs.toArray }) (hi : IntsAre vs ns) (hl : ns.length ≤ sizeLine) (hr : Room k callerA)
  (hbm : BM mg s₁.heap) (hT : ∀ p ∈ tabs, s₁.heap.get? p.1 = some { cls := .none, data := .fields #[] }) (hIs : ∀ p ∈ tabs, isCodeTable s₁.heap p.1) (hKt : ∀ p ∈ tabs, K.lookup p.1 = none) (hnd : (tabs.map (·.1)).Nodup)
  (F : ∀ base : Heap, K.In base → base.Ns mainGlobals mg → Bs K mg base → FnOk P w K mg base CX0 k fa fd [x] sp) (hbind : ∀ (s : Shared) (u : Value), BindsTo s fd ⟨[u], []⟩ [(x, u)])
  (hsp : ∀ H : Hp, TabsIn H tabs → SqL K H a (ns.map V.int) → sp [.ref a] H (fun v _ => v = .bl true) fun _ _ _ => False) :
  codeAny (model P w) callerA (.call (.ref fa) ⟨[.ref a], []⟩) (fun r s' => r = .ok (.ret (.bool true)) ∧ OldK s₁.heap s'.heap ∧ s'.os = s₁.os ∧ AllBare s'.gens) s₁ := by
 have rv := vals_ints hi
 have lenV := hi.length
 have core : ∀ H : Hp, TabsIn H tabs → SqL K H a (ns.map V.int) → HOk P w H s₁.heap → (∀ b, H b ≠ none → (b = a ∧ ∃ o xs, H b = some (.frz o (.lst xs))) ∨ ∃ p ∈ tabs, p.1 = b) → (H a ≠ none → K.lookup a = none) →
   codeAny (model P w) callerA (.call (.ref fa) ⟨[.ref a], []⟩) (fun r s' => r = .ok (.ret (.bool true)) ∧ OldK s₁.heap s'.heap ∧ s'.os = s₁.os ∧ AllBare s'.gens) s₁ := by
  intro H hTb hS hok hA hK
  have base_of : ∀ {b : Addr} {o : Obj}, s₁.heap.get? b = some o → H b = none → (hidT s₁.heap H).get? b = some o := fun e n => hidT_get e n
  have noT : ∀ {b : Addr} {o : Obj}, s₁.heap.get? b = some o → (∀ vs n, o.data ≠ .seq vs n) → (∀ vs, o.data ≠ .fields vs) → H b = none := fun {b o} e d1 d2 => by
   cases q : H b with
   | none => rfl
   | some u =>
    rcases hA b (by rw [q]; simp) with ⟨e', _⟩ | ⟨p, hp, e'⟩
    ·subst e'
     rw [ha] at e; cases e
     exact absurd rfl (d1 _ _)
    ·subst e'
     rw [hT p hp] at e; cases e
     exact absurd rfl (d2 _)
  have noA : ∀ {b : Addr} {o : Obj} {es : Array DictEntry} {ep : Nat}, s₁.heap.get? b = some o → o.data = .dict es ep → H b = none := fun {b o es ep} e d => noT e (fun vs n z => by rw [d] at z; cases z) fun vs z => by rw [d] at z; cases z
  have nsK : ∀ {b : Addr} {m : Str → Option Value}, s₁.heap.Ns b m → (hidT s₁.heap H).Ns b m := fun {b m} ⟨o, es, ep, e, d, r⟩ => ⟨o, es, ep, base_of e (noA e d), d, r⟩
  have hKb : K.In (hidT s₁.heap H) := fun b o e => base_of (KX b o e) (by
   cases q : H b with
   | none => rfl
   | some u =>
    rcases hA b (by rw [q]; simp) with ⟨e', _⟩ | ⟨p, hp, e'⟩
    ·subst e'
     rw [hK (by rw [q]; simp)] at e; cases e
    ·subst e'
     rw [hKt p hp] at e; cases e)
  have hBs : Bs K mg (hidT s₁.heap H) := ⟨hKb, by
   obtain ⟨bm, ob, b1, b2, b3, b4, b5, b6⟩ := hbm
   exact ⟨bm, ob, b1, b2, base_of b3 (noT b3 (fun vs n z => by rw [b6] at z; cases z) fun vs z => by rw [b6] at z; cases z), b4, b5, b6⟩⟩
  have hM : Mod K mg (hidT s₁.heap H) := ⟨hKb, nsK hns, ⟨mb, nsK hb, hbb⟩, let ⟨mc, h1, h2⟩ := hlim; ⟨mc, nsK h1, h2⟩⟩
  have e0 : Env0 P w K mg (hidT s₁.heap H) callerA [] s₁ H := ⟨rfl, hM, fun b o e => of_hidT e, Nat.le_of_eq (hidT_size _ _), trivial, fun b hb => absurd (show b ∈ ([] : List Addr) from hb) (by simp), hok, .of_eq hg⟩
  refine codeAny_mono ((F _ hKb (nsK hns) hBs).run callerA [] s₁ H ⟨[.ref a], []⟩ [.ref a] [.ref a] _ _ hr e0 (hbind s₁ (.ref a)) (.cons rfl .nil) (hsp H hTb hS)) fun r s' h => ?_
  cases r with
  | error e => exact False.elim h
  | ok fl =>
   cases fl with
   | next => exact False.elim h
   | brk => exact False.elim h
   | cont => exact False.elim h
   | ret u =>
    obtain ⟨v, H', os, bare, un, hok', r', q⟩ := h
    have q' : v = .bl true := q
    subst q'
    obtain rfl : u = Value.bool true := r'
    refine ⟨rfl, ⟨fun b o e => ?_, fun b o e => un.there b o e (by simp)⟩, os, bare⟩
    cases q : H b with
    | none => exact .inl (un.keep b o e q (by intro z; exact absurd (show b ∈ ([] : List Addr) from z) (by simp)) (by simp))
    | some u =>
     rcases hA b (by rw [q]; simp) with ⟨e', ob, xs, z⟩ | ⟨p, hp, e'⟩
     ·have z2 := un.frzs b ob _ z
      obtain ⟨e1, _⟩ := hok b _ z
      obtain ⟨e2, _⟩ := hok' b _ z2
      rw [e] at e1; cases e1
      exact .inl e2
     ·subst e'
      have z := un.tbls _ _ (hTb p hp)
      obtain ⟨ps, e1, _⟩ := hok' _ _ z
      rw [hT p hp] at e; cases e
      exact .inr (.inl ⟨hIs p hp, rfl, #[], ps, rfl, by rw [Array.empty_append]; exact e1⟩)
 have hpa : ∀ p ∈ tabs, p.1 ≠ a := fun p hp z => by
  have := hT p hp
  rw [z, ha] at this; cases this
 have tl : ∀ p ∈ tabs, tabs.lookup p.1 = some p.2 := fun p hp => look_mem hnd hp
 have okT : ∀ (H : Hp) (b : Addr) (cr : Nat → Nat → Option Str), tabs.lookup b = some cr → ObjOk P w H s₁.heap b (.tbl cr) := fun H b cr e =>
  ⟨#[], hT (b, cr) (mem_look e), trivial, fun pos v z => by cases z⟩
 cases hk : K.lookup a with
 | some o =>
  have e := KX a o hk
  rw [ha] at e
  cases e
  refine core (fun b => (tabs.lookup b).map HO.tbl) (fun p hp => by show (tabs.lookup p.1).map HO.tbl = _; rw [tl p hp]; rfl) (.inr ⟨_, vs.toArray, _, hk, rfl, rfl, rfl, by rw [List.size_toArray, lenV]; exact hl, by simpa using rv⟩) (fun b u z => ?_) (fun b z => ?_) fun z => ?_
  ·obtain ⟨cr, e1, e2⟩ := Option.map_eq_some_iff.mp z
   subst e2
   exact okT _ b cr e1
  ·replace z : (tabs.lookup b).map HO.tbl ≠ none := z
   cases e : tabs.lookup b with
   | none => rw [e] at z; exact absurd rfl z
   | some cr => exact .inr ⟨_, mem_look e, rfl⟩
  ·replace z : (tabs.lookup a).map HO.tbl ≠ none := z
   cases e : tabs.lookup a with
   | none => rw [e] at z; exact absurd rfl z
   | some cr => exact absurd rfl (hpa _ (mem_look e))
 | none =>
  refine core (fun b => if b = a then some (.frz { cls := .type "list", data := .seq vs.toArray } (.lst (ns.map V.int))) else (tabs.lookup b).map HO.tbl) (fun p hp => ?_) (.inl (.inr ⟨{ cls := .type "list", data := .seq vs.toArray }, if_pos rfl⟩)) (fun b u z => ?_) (fun b z => ?_) fun _ => hk
  ·show (if p.1 = a then _ else (tabs.lookup p.1).map HO.tbl) = _
   rw [if_neg (hpa p hp), tl p hp]; rfl
  ·by_cases hb : b = a
   ·have z' := (if_pos hb).symm.trans z
    cases z'
    subst hb
    exact ⟨ha, by rw [List.length_map]; exact hl, vs, _, rv, ha⟩
   ·have z' := (if_neg hb).symm.trans z
    obtain ⟨cr, e1, e2⟩ := Option.map_eq_some_iff.mp z'
    subst e2
    exact okT _ b cr e1
  ·by_cases hb : b = a
   ·exact .inl ⟨hb, _, _, if_pos hb⟩
   ·replace z : (if b = a then _ else (tabs.lookup b).map HO.tbl) ≠ none := z
    rw [if_neg hb] at z
    cases e : tabs.lookup b with
    | none => rw [e] at z; exact absurd rfl z
    | some cr => exact .inr ⟨_, mem_look e, rfl⟩
theorem walk_ofT {l : PySem.W.OpenLaw} {n k : Nat} {q : Program} {loose : List Str} {XP : (Str → Option Value) → Heap → Prop} {YP : World → Heap → Prop} {d : DefRec} {K : Params → PySem.W.Frag} {sp : World → Sp} {x : Str} (tabs : World → Tabs)
  (hn : l.most = some n) (hn2 : n ≤ sizeLine) (hdf : d.params.defaults = []) (hr : Room k callerA)
  (hY : ∀ (w : World) (h : Heap), YP w h → (K w.params).In h ∧ ∀ p ∈ tabs w, h.get? p.1 = some { cls := .none, data := .fields #[] })
  (F : ∀ (w : World) (mg : Str → Option Value) (fa : Addr) (h : Heap), (K w.params).In h → h.Ns mainGlobals mg → mg d.name = some (.ref fa) →
   ∃ fd : FuncData, (∀ (s : Shared) (u : Value), BindsTo s fd ⟨[u], []⟩ [(x, u)]) ∧ ((∀ p ∈ tabs w, (K w.params).lookup p.1 = none) ∧ (∀ p ∈ tabs w, isCodeTable h p.1) ∧ ((tabs w).map (·.1)).Nodup) ∧
    ∀ base : Heap, (K w.params).In base → base.Ns mainGlobals mg → Bs (K w.params) mg base → FnOk l.prog w (K w.params) mg base CX0 k fa fd [x] (sp w))
  (hsp : ∀ (w : World) (H : Hp) (a : Addr) (ns : List Int), ns.length ≤ n → TabsIn H (tabs w) → SqL (K w.params) H a (ns.map V.int) → sp w [.ref a] H (fun v _ => v = .bl true) fun _ _ _ => False) :
  PySem.W.WalkO q loose XP YP l.row.toRowW d [] (fun f vs => PySem.call f vs) := by
 refine Att.attach_call hn hdf fun w s₀ s₁ mg mb fa o pm cd doc a vs ns G Y ho hd hcd hmg hobj hints hlen hg => ?_
 obtain ⟨KX, hT⟩ := hY w _ Y
 obtain ⟨fd, hb, ⟨h1, h2, h3⟩, hF⟩ := F w mg fa _ KX G.T.g hmg
 exact law_callT (tabs w) KX G.T.g G.T.b G.T.builtins G.T.nolimit hg hobj hints (Nat.le_trans hlen hn2) hr G.T.bmain hT h2 h1 h3 hF hb (fun H hO hS => hsp w H a ns hlen hO hS)
def spLawT (K : PySem.W.Frag) (tabs : Tabs) : Sp := fun vs H Q _ => ∃ (a : Addr) (ns : List Int), vs = [.ref a] ∧ SqL K H a (ns.map V.int) ∧ ns.length ≤ 63 ∧ TabsIn H tabs ∧ ∀ H', Q (.bl true) H'
theorem isTab_of {K : PySem.W.Frag} {h : Heap} {c P : Addr} (X : K.In h) (e : PySem.W.codeHdIn K c P = true) : isCodeTable h P := by
 obtain ⟨o, vs, file, tf, flags, tg, inF, text, tt, e1, e2, e3, e4, _⟩ := PySem.W.codeHd_of_K X e
 exact ⟨c, o, vs, e1, e2, e3, e4⟩
end L2
namespace L2
open PySem PySem.Spec PyProof.Rows Lw
structure Tg where
 ok : Addr → List Addr → Hp → Hp → Prop
 st : ∀ {p : Addr} {fp : List Addr} {G H G' H' : Hp}, ok p fp G H → Same G G' → (∀ a ∈ p :: fp, H' a = H a) → ok p fp G' H'
 live : ∀ {p : Addr} {fp : List Addr} {G H : Hp}, ok p fp G H → ∀ a ∈ p :: fp, ∃ o, H a = some o
inductive PV where
 | un
 | dat (d : PyData)
 | own (ds : List PyData)
 | lnt (p : Addr) (ds : List PyData)
 | scr (ns : List Int)
 | thg (T : Tg)
def PV.rd : PV → Option (List PyData)
 | .own ds => some ds
 | .lnt _ ds => some ds
 | _ => none
def PV.mut : PV → Bool
 | .un => false
 | .dat _ => false
 | .scr _ => false
 | _ => true
theorem PV.rd_mut {v : PV} {ds : List PyData} (h : v.rd = some ds) : v.mut = true := by cases v <;> first | rfl | cases h
def Sl (K : PySem.W.Frag) (G H : Hp) (o : Option (Option V)) : PV → List Addr → Prop
 | .un, F => F = []
 | .dat d, F => F = [] ∧ ∃ x, o = some (some x) ∧ Dat K G x d
 | .own ds, F => ∃ p xs, F = [p] ∧ o = some (some (.ref p)) ∧ H p = some (.lst xs) ∧ Dats K G xs ds
 | .lnt p ds, F => ∃ xs, F = [p] ∧ o = some (some (.ref p)) ∧ H p = some (.lst xs) ∧ Dats K G xs ds
 | .scr ns, F => F = [] ∧ ∃ a, o = some (some (.ref a)) ∧ SqL K G a (ns.map V.int)
 | .thg T, F => ∃ p fp, F = p :: fp ∧ o = some (some (.ref p)) ∧ T.ok p fp G H
theorem Sl.rd {K : PySem.W.Frag} {G H : Hp} {o : Option (Option V)} {v : PV} {F : List Addr} {ds : List PyData} (s : Sl K G H o v F) (h : v.rd = some ds) : ∃ p xs, F = [p] ∧ o = some (some (.ref p)) ∧ H p = some (.lst xs) ∧ Dats K G xs ds := by
 cases v with
 | own es => cases h; exact s
 | lnt p es => cases h; exact ⟨p, s⟩
 | _ => cases h
structure Gw (E : Addr → Prop) (G0 H0 G H : Hp) : Prop where
 gg : Same G0 G
 gh : Same G H
 kp : ∀ b o, ¬ E b → H0 b = some o → H b = some o
 al : ∀ b, H b = none → H0 b = none
 fr : ∀ b o, G b = some o → G0 b = some o ∨ H0 b = none
structure Rl (K : PySem.W.Frag) (B : Hp) (E : Addr → Prop) (G0 H0 G H : Hp) (σ : St) (ρ : List PV) (F : Nat → List Addr) : Prop where
 g : Gw E G0 H0 G H
 bb : Same B G
 ls : σ.length = ρ.length
 sl : ∀ i v, ρ[i]? = some v → Sl K G H σ[i]? v (F i)
 fr : ∀ i a, a ∈ F i → G a = none ∧ (∃ o, H a = some o) ∧ (E a ∨ H0 a = none)
 dj : ∀ i j a, a ∈ F i → a ∈ F j → i = j
 ow : ∀ i ds a, ρ[i]? = some (.own ds) → a ∈ F i → H0 a = none
structure Nw (G H H0 : Hp) (F : Nat → List Addr) (Fv : List Addr) : Prop where
 fr : ∀ a ∈ Fv, G a = none ∧ (∃ o, H a = some o) ∧ H0 a = none
 dj : ∀ a ∈ Fv, ∀ j, a ∉ F j
section
variable {K : PySem.W.Frag} {B : Hp} {E : Addr → Prop} {G0 H0 G H G' H' : Hp} {σ : St} {ρ : List PV} {F : Nat → List Addr}
theorem Gw.refl (s : Same G H) : Gw E G H G H := ⟨Same.refl _, s, fun _ _ _ h => h, fun _ h => h, fun _ _ h => .inl h⟩
theorem Gw.grow (g : Gw E G0 H0 G H) (k : Grow G H G' H') : Gw E G0 H0 G' H' :=
 ⟨g.gg.trans k.gg, k.gh, fun b o n h => k.hh b o (g.kp b o n h), fun b h => g.al b (k.hh.free h), fun b o h => (k.fr b o h).elim (g.fr b o) fun z => .inr (g.al b z)⟩
theorem Gw.toGrow (g : Gw (fun _ => False) G0 H0 G H) : Grow G0 H0 G H := ⟨g.gg, g.gh, fun b o h => g.kp b o (fun z => z) h, g.fr⟩
theorem Sl.grow {o : Option (Option V)} {v : PV} {L : List Addr} (s : Sl K G H o v L) (gg : Same G G') (hh : ∀ a ∈ L, H' a = H a) : Sl K G' H' o v L := by
 cases v with
 | un => exact s
 | dat d => obtain ⟨e, x, hx, hd⟩ := s; exact ⟨e, x, hx, hd.same gg⟩
 | own ds =>
  obtain ⟨p, xs, e, hx, hp, hd⟩ := s
  exact ⟨p, xs, e, hx, by rw [hh p (by rw [e]; simp)]; exact hp, hd.same gg⟩
 | lnt p ds =>
  obtain ⟨xs, e, hx, hp, hd⟩ := s
  exact ⟨xs, e, hx, by rw [hh p (by rw [e]; simp)]; exact hp, hd.same gg⟩
 | scr ns => obtain ⟨e, a, hx, hq⟩ := s; exact ⟨e, a, hx, gg.seq hq⟩
 | thg T =>
  obtain ⟨p, fp, e, hx, ht⟩ := s
  exact ⟨p, fp, e, hx, T.st ht gg (by rw [← e]; exact hh)⟩
theorem Rl.grow (r : Rl K B E G0 H0 G H σ ρ F) (k : Grow G H G' H') : Rl K B E G0 H0 G' H' σ ρ F := by
 have hh : ∀ i, ∀ a ∈ F i, H' a = H a := fun i a ha => by
  obtain ⟨_, ⟨o, ho⟩, _⟩ := r.fr i a ha
  rw [ho]; exact k.hh a o ho
 refine ⟨r.g.grow k, r.bb.trans k.gg, r.ls, fun i v h => (r.sl i v h).grow k.gg (hh i), fun i a ha => ?_, r.dj, r.ow⟩
 obtain ⟨h1, ⟨o, h2⟩, h3⟩ := r.fr i a ha
 exact ⟨k.out h2 h1, ⟨o, k.hh a o h2⟩, h3⟩
theorem Rl.set {i : Nat} {v : V} {r : PV} {L : List Addr} (R : Rl K B E G0 H0 G H σ ρ F) (s : Sl K G H (some (some v)) r L) (n : Nw G H H0 F L) : Rl K B E G0 H0 G H (σ.set i (some v)) (ρ.set i r) (fun k => if k = i then L else F k) := by
 refine ⟨R.g, R.bb, by rw [List.length_set, List.length_set, R.ls], fun k u h => ?_, fun k a ha => ?_, fun k j a ha hb => ?_, fun k ds a h ha => ?_⟩
 ·by_cases e : k = i
  ·subst e
   rw [if_pos rfl]
   have hk : k < ρ.length := by
    have := (List.getElem?_eq_some_iff.mp h).1
    rw [List.length_set] at this; exact this
   rw [List.getElem?_set_self hk] at h
   cases h
   rw [List.getElem?_set_self (by rw [R.ls]; exact hk)]
   exact s
  ·rw [if_neg e]
   rw [List.getElem?_set_ne (Ne.symm e)] at h ⊢
   exact R.sl k u h
 ·by_cases e : k = i
  ·rw [if_pos e] at ha
   obtain ⟨h1, h2, h3⟩ := n.fr a ha
   exact ⟨h1, h2, .inr h3⟩
  ·rw [if_neg e] at ha; exact R.fr k a ha
 ·by_cases e : k = i
  ·by_cases e' : j = i
   ·rw [e, e']
   ·rw [if_pos e] at ha; rw [if_neg e'] at hb
    exact absurd hb (n.dj a ha j)
  ·by_cases e' : j = i
   ·rw [if_neg e] at ha; rw [if_pos e'] at hb
    exact absurd ha (n.dj a hb k)
   ·rw [if_neg e] at ha; rw [if_neg e'] at hb; exact R.dj k j a ha hb
 ·by_cases e : k = i
  ·rw [if_pos e] at ha; exact (n.fr a ha).2.2
  ·rw [if_neg e] at ha
   rw [List.getElem?_set_ne (Ne.symm e)] at h
   exact R.ow k ds a h ha
theorem nw_nil : Nw G H H0 F [] := ⟨fun _ h => (by cases h), fun _ h => (by cases h)⟩
theorem Rl.setD {i : Nat} {v : V} {d : PyData} (R : Rl K B E G0 H0 G H σ ρ F) (s : Dat K G v d) : Rl K B E G0 H0 G H (σ.set i (some v)) (ρ.set i (.dat d)) (fun k => if k = i then [] else F k) :=
 R.set ⟨rfl, v, rfl, s⟩ nw_nil
def Rx (K : PySem.W.Frag) (B : Hp) (G : Hp) (σ : St) (ρ : List PV) : Prop := Same B G ∧ (∀ (i : Nat) (d : PyData), ρ[i]? = some (PV.dat d) → ∃ x, σ[i]? = some (some x) ∧ Dat K G x d) ∧ (∀ (i : Nat) (v : PV) (ds : List PyData), ρ[i]? = some v → v.rd = some ds → ∃ x, σ[i]? = some (some x) ∧ Dat K G x (.list ds)) ∧ (∀ (i : Nat) (T : Tg), ρ[i]? = some (PV.thg T) → ∃ p fp, σ[i]? = some (some (.ref p)) ∧ T.ok p fp G G) ∧ ∀ (i : Nat) (ns : List Int), ρ[i]? = some (PV.scr ns) → ∃ a, σ[i]? = some (some (.ref a)) ∧ SqL K G a (ns.map V.int)
def Er (K : PySem.W.Frag) (B : Hp) (t : TE) (ρ : List PV) (d : PyData) : Prop := ∀ G σ, Rx K B G σ ρ → Ev K t σ G d
def Et (K : PySem.W.Frag) (B : Hp) (t : TT) (ρ : List PV) (b : Bool) : Prop := ∀ G σ, Rx K B G σ ρ → EvT t σ G b
def Ea (K : PySem.W.Frag) (B : Hp) (t : TA) (ρ : List PV) (ds : List PyData) : Prop := ∀ G σ, Rx K B G σ ρ → EvA K t σ G ds
def PV.msk : PV → PV
 | .dat d => .dat d
 | .scr ns => .scr ns
 | _ => .un
abbrev msk (ρ : List PV) : List PV := ρ.map PV.msk
theorem Rl.rx (R : Rl K B E G0 H0 G H σ ρ F) : Rx K B G σ (msk ρ) := by
 refine ⟨R.bb, ?_, ?_, ?_, ?_⟩
 ·intro i d h
  rw [List.getElem?_map] at h
  cases e : ρ[i]? with
  | none => rw [e] at h; cases h
  | some v =>
   rw [e] at h
   cases v with
   | dat d' =>
    cases h
    exact (R.sl i _ e).2
   | _ => cases h
 ·intro i u ds h hu
  rw [List.getElem?_map] at h
  cases e : ρ[i]? with
  | none => rw [e] at h; cases h
  | some v =>
   rw [e] at h
   cases v <;> cases h <;> cases hu
 ·intro i T h
  rw [List.getElem?_map] at h
  cases e : ρ[i]? with
  | none => rw [e] at h; cases h
  | some v => rw [e] at h; cases v <;> cases h
 ·intro i ns h
  rw [List.getElem?_map] at h
  cases e : ρ[i]? with
  | none => rw [e] at h; cases h
  | some v =>
   rw [e] at h
   cases v with
   | scr ms => cases h; exact (R.sl i _ e).2
   | _ => cases h
open Classical in
noncomputable def gPl (ρ : List PV) (F : Nat → List Addr) (G H : Hp) : Hp := fun b => if ∃ i v, ρ[i]? = some v ∧ v.mut = true ∧ b ∈ F i then H b else G b
theorem Rl.gpl (R : Rl K B E G0 H0 G H σ ρ F) : Same G (gPl ρ F G H) ∧ Same (gPl ρ F G H) H ∧ Rx K B (gPl ρ F G H) σ ρ := by
 have s1 : Same G (gPl ρ F G H) := fun b o h => by
  unfold gPl
  split
  ·exact R.g.gh b o h
  ·exact h
 refine ⟨s1, fun b o h => ?_, R.bb.trans s1, fun i d h => ?_, fun i v ds h hv => ?_, fun i T h => ?_, fun i ns h => ?_⟩
 ·unfold gPl at h
  split at h
  ·exact h
  ·exact R.g.gh b o h
 ·obtain ⟨_, x, hx, hd⟩ := R.sl i _ h
  exact ⟨x, hx, hd.same s1⟩
 ·obtain ⟨p, xs, e, hx, hp, hd⟩ := (R.sl i _ h).rd hv
  refine ⟨_, hx, dat_lst (xs := xs) ?_ (hd.same s1)⟩
  unfold gPl
  rw [if_pos ⟨i, v, h, PV.rd_mut hv, by rw [e]; simp⟩]
  exact hp
 ·obtain ⟨p, fp, e, hx, ht⟩ := R.sl i _ h
  refine ⟨p, fp, hx, T.st ht s1 fun a ha => ?_⟩
  unfold gPl
  rw [if_pos ⟨i, _, h, rfl, by rw [e]; exact ha⟩]
 ·obtain ⟨_, a, hx, hq⟩ := R.sl i _ h
  exact ⟨a, hx, s1.seq hq⟩
def flat : PyData → Bool
 | .none | .bool _ | .int _ | .str _ => true
 | _ => false
theorem Dat.flat {v : V} {d : PyData} (h : Dat K G v d) (f : flat d = true) (G' : Hp) : Dat K G' v d := by
 cases d with
 | none => rw [h.non]; exact dat_non
 | bool b => rw [h.bl]; exact dat_bl b
 | int i => rw [h.int]; exact dat_int i
 | str x => rw [h.str]; exact dat_str x
 | list _ => cases f
 | tuple _ => cases f
 | dict _ => cases f
def Ex (K : PySem.W.Frag) (B : Hp) (t : TE) (ρ : List PV) (d : PyData) : Prop := ∀ E G0 H0 G H σ F, Rl K B E G0 H0 G H σ ρ F → ∀ Q : VK, (∀ v G' H', Grow G H G' H' → Dat K G' v d → Q v H') → t σ H Q
theorem ex_er {t : TE} {d : PyData} (h : Er K B t (msk ρ) d) : Ex K B t ρ d := fun _ _ _ G H σ F R Q k => h G σ R.rx G H (Same.refl _) R.g.gh Q k
theorem ex_flat {t : TE} {d : PyData} (h : Er K B t ρ d) (f : flat d = true) : Ex K B t ρ d := fun _ _ _ G H σ F R Q k => by
 obtain ⟨s1, s2, x⟩ := R.gpl
 exact h _ σ x _ H (Same.refl _) s2 Q fun v G' H' g hv => k v G H' (grow_h R.g.gh g.hh) (hv.flat f G)
theorem ex_ixo {i : Nat} {ti : TE} {u : PV} {ds : List PyData} {j : Int} {n : Nat} {d : PyData} (hi : ρ[i]? = some u) (hu : u.rd = some ds) (h : Er K B ti ρ (.int j)) (hn : ixN ds.length j = some n) (hd : ds[n]? = some d) : Ex K B (tOp (rIxL K) (tVar i) ti) ρ d := fun _ _ _ G H σ F R Q k => by
 obtain ⟨s1, s2, x⟩ := R.gpl
 obtain ⟨p, xs, e, hx, hp, hds⟩ := (R.sl i _ hi).rd hu
 refine ⟨_, hx, h _ σ x _ H (Same.refl _) s2 _ fun v G' H' g hv => ?_⟩
 obtain ⟨y, hy, hyd⟩ := hds.get hd
 refine ⟨p, xs, j, y, rfl, hv.int, SqL.of (g.hh _ _ hp), ?_, k y G H' (grow_h R.g.gh g.hh) hyd⟩
 unfold atI
 rw [hds.length, hn]
 exact hy
def Eg (K : PySem.W.Frag) (B : Hp) (t : TE) (ρ : List PV) (R : PV → List PV → Prop) : Prop := ∀ E G0 H0 G H σ F, Rl K B E G0 H0 G H σ ρ F → ∀ Q : VK,
 (∀ v r ρ' G' H' F' L, R r ρ' → Same G G' → Rl K B E G0 H0 G' H' σ ρ' F' → Sl K G' H' (some (some v)) r L → Nw G' H' H0 F' L → Q v H') → t σ H Q
theorem eg_ex {t : TE} {d : PyData} {R : PV → List PV → Prop} (h : Ex K B t ρ d) (k : R (.dat d) ρ) : Eg K B t ρ R := fun E G0 H0 G H σ F r Q q => h E G0 H0 G H σ F r Q fun v G' H' g hv => q v _ ρ G' H' F [] k g.gg (r.grow g) ⟨rfl, v, rfl, hv⟩ nw_nil
theorem eg_er {t : TE} {d : PyData} {R : PV → List PV → Prop} (h : Er K B t (msk ρ) d) (k : R (.dat d) ρ) : Eg K B t ρ R := eg_ex (ex_er h) k
theorem eg_flat {t : TE} {d : PyData} {R : PV → List PV → Prop} (h : Er K B t ρ d) (f : flat d = true) (k : R (.dat d) ρ) : Eg K B t ρ R := eg_ex (ex_flat h f) k
theorem Rl.newL {p : Addr} {xs : List V} {ds : List PyData} (R : Rl K B E G0 H0 G H σ ρ F) (hp : H p = none) (hd : Dats K G xs ds) : Rl K B E G0 H0 G (upd H p (.lst xs)) σ ρ F ∧ Sl K G (upd H p (.lst xs)) (some (some (.ref p))) (.own ds) [p] ∧ Nw G (upd H p (.lst xs)) H0 F [p] := by
 have gp : G p = none := R.g.gh.free hp
 refine ⟨R.grow (grow_h R.g.gh (same_new hp)), ⟨p, xs, rfl, rfl, upd_same, hd⟩, fun a ha => ?_, fun a ha j hj => ?_⟩
 ·rw [List.mem_singleton.mp ha]
  exact ⟨gp, ⟨_, upd_same⟩, R.g.al p hp⟩
 ·rw [List.mem_singleton.mp ha] at hj
  obtain ⟨_, ⟨o, h⟩, _⟩ := R.fr j p hj
  rw [hp] at h; cases h
theorem eg_lst {t : TA} {ds : List PyData} {R : PV → List PV → Prop} (h : Ea K B t (msk ρ) ds) (hl : ds.length ≤ sizeLine) (k : R (.own ds) ρ) : Eg K B (tLst t) ρ R := fun E G0 H0 G H σ F r Q q =>
 h G σ r.rx G H (Same.refl _) r.g.gh _ fun vs G' H' g hv => ⟨by rw [hv.length]; exact hl, fun p hp => by
  obtain ⟨a, b, c⟩ := (r.grow g).newL hp hv
  exact q _ _ ρ G' _ F [p] k g.gg a b c⟩
theorem eg_list {t : TA} {ds : List PyData} {R : PV → List PV → Prop} (h : Ea K B t (msk ρ) [.tuple ds] ∨ Ea K B t (msk ρ) [.list ds]) (k : R (.own ds) ρ) : Eg K B (tCB (fun xs H Q => ∃ p ys, xs = [.ref p] ∧ (SqL K H p ys ∨ SqT K H p ys) ∧ ∀ l, H l = none → Q (.ref l) (upd H l (.lst ys))) t) ρ R := fun E G0 H0 G H σ F r Q q => by
 rcases h with h | h
 ·refine h G σ r.rx G H (Same.refl _) r.g.gh _ fun vs G' H' g hv => ?_
  obtain ⟨y, ys, rfl, hy, hn⟩ := hv.cons
  cases hn.nil
  obtain ⟨p, xs, rfl, hp, hx⟩ := hy.tup
  refine ⟨p, xs, rfl, .inr (g.gh.tup hp), fun l hl => ?_⟩
  obtain ⟨a, b, c⟩ := (r.grow g).newL hl hx
  exact q _ _ ρ G' _ F [l] k g.gg a b c
 ·refine h G σ r.rx G H (Same.refl _) r.g.gh _ fun vs G' H' g hv => ?_
  obtain ⟨y, ys, rfl, hy, hn⟩ := hv.cons
  cases hn.nil
  obtain ⟨p, xs, rfl, hp, hx⟩ := hy.lst
  refine ⟨p, xs, rfl, .inl (SqL.of (g.gh _ _ hp)), fun l hl => ?_⟩
  obtain ⟨a, b, c⟩ := (r.grow g).newL hl hx
  exact q _ _ ρ G' _ F [l] k g.gg a b c
structure Pn where
 nx : List PV → Prop
 rt : PV → List PV → Prop
 bk : List PV → Prop := fun _ => False
 ct : List PV → Prop := fun _ => False
structure Dn (K : PySem.W.Frag) (B : Hp) (E : Addr → Prop) (G0 H0 Gs : Hp) (R : Pn) (D : Ends) : Prop where
 nx : ∀ {G H σ ρ F}, R.nx ρ → Same Gs G → Rl K B E G0 H0 G H σ ρ F → D.nx σ H
 rt : ∀ {v r G H σ ρ F L}, R.rt r ρ → Same Gs G → Rl K B E G0 H0 G H σ ρ F → Sl K G H (some (some v)) r L → Nw G H H0 F L → D.rt v H
 bk : ∀ {G H σ ρ F}, R.bk ρ → Same Gs G → Rl K B E G0 H0 G H σ ρ F → D.bk σ H
 ct : ∀ {G H σ ρ F}, R.ct ρ → Same Gs G → Rl K B E G0 H0 G H σ ρ F → D.ct σ H
theorem Dn.mono {Gs Gt : Hp} {R : Pn} {D : Ends} (d : Dn K B E G0 H0 Gs R D) (s : Same Gs Gt) : Dn K B E G0 H0 Gt R D := ⟨fun x y => d.nx x (s.trans y), fun x y => d.rt x (s.trans y), fun x y => d.bk x (s.trans y), fun x y => d.ct x (s.trans y)⟩
def Sv (K : PySem.W.Frag) (B : Hp) (t : TS) (ρ : List PV) (R : Pn) : Prop := ∀ E G0 H0 G H σ F D, Rl K B E G0 H0 G H σ ρ F → Dn K B E G0 H0 G R D → t D σ H
theorem sv_seq {t u : TS} {R : Pn} (h : Sv K B t ρ { R with nx := fun ρ' => Sv K B u ρ' R }) : Sv K B (tSeq t u) ρ R := fun E G0 H0 G H σ F D r d =>
 h E G0 H0 G H σ F { D with nx := u D } r ⟨fun hs s r' => hs E G0 H0 _ _ _ _ D r' (d.mono s), d.rt, d.bk, d.ct⟩
theorem sv_next {R : Pn} (h : R.nx ρ) : Sv K B tNext ρ R := fun E G0 H0 G H σ F D r d => d.nx h (Same.refl _) r
theorem sv_asg {te : TE} {i : Nat} {R : Pn} (h : Eg K B te ρ fun r ρ' => R.nx (ρ'.set i r)) : Sv K B (tAsg te (gName i)) ρ R := fun E G0 H0 G H σ F D r d =>
 h E G0 H0 G H σ F r _ fun v w ρ' G' H' F' L hR s r' sl n => d.nx hR s (r'.set sl n)
theorem sv_if {c : TT} {t u : TS} {b : Bool} {R : Pn} (h : Et K B c ρ b) (k1 : b = true → Sv K B t ρ R) (k2 : b = false → Sv K B u ρ R) : Sv K B (tIfS c t u) ρ R := fun E G0 H0 G H σ F D r d => by
 obtain ⟨s1, s2, x⟩ := r.gpl
 refine h _ σ x _ H (Same.refl _) s2 _ fun G' H' g => ?_
 have r' := r.grow (grow_h r.g.gh g.hh)
 cases b with
 | true => rw [if_pos rfl]; exact k1 rfl E G0 H0 _ _ σ F D r' d
 | false => rw [if_neg Bool.false_ne_true]; exact k2 rfl E G0 H0 _ _ σ F D r' d
theorem sv_ifT {c : TT} {t u : TS} {R : Pn} (h : Et K B c ρ true) (k1 : Sv K B t ρ R) : Sv K B (tIfS c t u) ρ R := sv_if h (fun _ => k1) fun z => (by cases z)
theorem sv_ifF {c : TT} {t u : TS} {R : Pn} (h : Et K B c ρ false) (k1 : Sv K B u ρ R) : Sv K B (tIfS c t u) ρ R := sv_if h (fun z => by cases z) fun _ => k1
theorem sv_ret {te : TE} {R : Pn} (h : Eg K B te ρ R.rt) : Sv K B (tRet te) ρ R := fun E G0 H0 G H σ F D r d =>
 h E G0 H0 G H σ F r _ fun v w ρ' G' H' F' L hR s r' sl n => d.rt hR s r' sl n
open Classical in
end
end L2
namespace L2
open PySem PySem.Spec PyProof.Rows Lw
section
variable {K : PySem.W.Frag} {B : Hp} {E : Addr → Prop} {G0 H0 G H G' H' : Hp} {σ : St} {ρ : List PV} {F : Nat → List Addr} {ta tb te : TE} {a b d : PyData} {ds es : List PyData}
theorem Rx.mono (r : Rx K B G σ ρ) (s : Same G G') : Rx K B G' σ ρ :=
 ⟨r.1.trans s, fun i d h => let ⟨x, hx, hd⟩ := r.2.1 i d h; ⟨x, hx, hd.same s⟩, fun i v d h hv => let ⟨x, hx, hd⟩ := r.2.2.1 i v d h hv; ⟨x, hx, hd.same s⟩, fun i T h => let ⟨p, fp, hx, ht⟩ := r.2.2.2.1 i T h; ⟨p, fp, hx, T.st ht s fun a ha => by
  obtain ⟨o, ho⟩ := T.live ht a ha
  rw [ho, s a o ho]⟩, fun i ns h => let ⟨a, hx, hq⟩ := r.2.2.2.2 i ns h; ⟨a, hx, s.seq hq⟩⟩
theorem er_var {i : Nat} (h : ρ[i]? = some (.dat d)) : Er K B (tVar i) ρ d := fun G σ r => let ⟨x, hx, hd⟩ := r.2.1 i d h; ev_var hx hd
theorem er_own {i : Nat} {u : PV} (h : ρ[i]? = some u) (hu : u.rd = some ds) : Er K B (tVar i) ρ (.list ds) := fun G σ r => let ⟨x, hx, hd⟩ := r.2.2.1 i u ds h hu; ev_var hx hd
theorem er_int {i : Int} : Er K B (tC (.int i)) ρ (.int i) := fun _ _ _ => ev_int
theorem er_bl {x : Bool} : Er K B (tC (.bl x)) ρ (.bool x) := fun _ _ _ => ev_bl
theorem er_i0 {g : Int → Int → V} {i j : Int} (ha : Er K B ta ρ (.int i)) (hb : Er K B tb ρ (.int j)) (hg : ∀ G, Dat K G (g i j) d) : Er K B (tOp (rI0 g) ta tb) ρ d := fun G σ r => ev_i0 (ha G σ r) (hb G σ r) (hg G)
theorem er_iC {C : Int → Int → Prop} {g : Int → Int → V} {i j : Int} (ha : Er K B ta ρ (.int i)) (hb : Er K B tb ρ (.int j)) (hc : C i j) (hg : ∀ G, Dat K G (g i j) d) : Er K B (tOp (rI C g) ta tb) ρ d := fun G σ r => ev_iC (ha G σ r) (hb G σ r) hc (hg G)
theorem er_ixT {i : Int} {n : Nat} (ha : Er K B ta ρ (.tuple ds)) (hb : Er K B tb ρ (.int i)) (hn : ixN ds.length i = some n) (hd : ds[n]? = some d) : Er K B (tOp (rIxT K) ta tb) ρ d := fun G σ r => ev_ixT (ha G σ r) (hb G σ r) hn hd
theorem er_eqD {g : Bool → Bool} {n : Nat} (ha : Er K B ta ρ a) (hb : Er K B tb ρ b) (pa : Pl n a) (pb : Pl n b) (hn : n ≤ 64) : Er K B (tOp (rEqD K g) ta tb) ρ (.bool (g (PySem.Spec.same a b))) := fun G σ r => ev_eqD (ha G σ r) (hb G σ r) pa pb hn
theorem er_ne {i j : Int} (ha : Er K B ta ρ (.int i)) (hb : Er K B tb ρ (.int j)) : Er K B (tOp rNe ta tb) ρ (.bool (!decide (i = j))) := fun G σ r => ev_ne (ha G σ r) (hb G σ r)
theorem er_eqI {i j : Int} (ha : Er K B ta ρ (.int i)) (hb : Er K B tb ρ (.int j)) : Er K B (tOp rEq ta tb) ρ (.bool (decide (i = j))) := fun G σ r => ev_eqI (ha G σ r) (hb G σ r)
theorem ea_nil : Ea K B tNil ρ [] := fun _ _ _ => eva_nil
theorem ea_cons {t : TA} (ha : Er K B ta ρ a) (hb : Ea K B t ρ ds) : Ea K B (tCons ta t) ρ (a :: ds) := fun G σ r => eva_cons (ha G σ r) (hb G σ r)
theorem er_tup {t : TA} (h : Ea K B t ρ ds) (hl : ds.length ≤ sizeLine) : Er K B (tTup t) ρ (.tuple ds) := fun G σ r => ev_tup (h G σ r) hl
theorem er_lst {t : TA} (h : Ea K B t ρ ds) (hl : ds.length ≤ sizeLine) : Er K B (tLst t) ρ (.list ds) := fun G σ r => ev_lst (h G σ r) hl
theorem er_lenT {t : TA} (h : Ea K B t ρ [.tuple ds]) : Er K B (tCB (fun xs H Q => ∃ p ys, xs = [.ref p] ∧ (SqL K H p ys ∨ SqT K H p ys) ∧ Q (.int ys.length) H) t) ρ (.int ds.length) := fun G σ r => ev_lenT (h G σ r)
theorem er_tupleL {t : TA} (h : Ea K B t ρ [.list ds]) : Er K B (tCB (fun xs H Q => ∃ p ys, xs = [.ref p] ∧ ((SqL K H p ys ∧ ∀ l, H l = none → Q (.ref l) (upd H l (.tup ys))) ∨ (SqT K H p ys ∧ Q (.ref p) H))) t) ρ (.tuple ds) := fun G σ r => ev_tupleL (h G σ r)
theorem et_test {t : TE} {c : Bool} (h : Er K B t ρ (.bool c)) : Et K B (tTest t) ρ c := fun G σ r => evt_test (h G σ r)
theorem et_b {t : TE} {c : Bool} (h : Er K B t ρ (.bool c)) : Et K B (tB t) ρ c := fun G σ r => evt_b (h G σ r)
theorem et_not {t : TT} {c : Bool} (h : Et K B t ρ c) : Et K B (tNot t) ρ (!c) := fun G σ r => evt_not (h G σ r)
theorem et_or {t u : TT} {c e : Bool} (h : Et K B t ρ c) (h' : c = false → Et K B u ρ e) : Et K B (tOr t u) ρ (c || e) := fun G σ r => evt_or (h G σ r) fun z => h' z G σ r
theorem et_and {t u : TT} {c e : Bool} (h : Et K B t ρ c) (h' : c = true → Et K B u ρ e) : Et K B (tAnd t u) ρ (c && e) := fun G σ r => evt_and (h G σ r) fun z => h' z G σ r
theorem et_c {t : TT} {c e : Bool} (h : Et K B t ρ c) (q : c = e) : Et K B t ρ e := q ▸ h
theorem et_noif : Et K B tNoIf ρ true := fun _ _ _ => evt_noif
theorem er_d {t : TE} {e : PyData} (h : Er K B t ρ d) (q : d = e) : Er K B t ρ e := q ▸ h
theorem er_and {c e : Bool} (h : Er K B ta ρ (.bool c)) (h' : c = true → Er K B tb ρ (.bool e)) : Er K B (tAndV ta tb) ρ (.bool (c && e)) := fun G σ r => ev_and (h G σ r) fun z => h' z G σ r
theorem er_call {R : List PyData → PyData → Prop} {X : XK} {t : TA} (h : Ea K B t ρ ds) (hR : R ds d) : Er K B (tCall (spP K R) [] X t) ρ d := fun G σ r => ev_call (h G σ r) hR
theorem er_isD {n : String} {c : Bool} (ha : Er K B ta ρ d) (e : PySem.W.kitOne K (.type (tyN d)) (.type n) = some c) : Er K B (tCB (rIsD K) (tCons ta (tCons (tC (.ty n)) tNil))) ρ (.bool c) := fun G σ r => ev_isD (ha G σ r) e
theorem er_chain {p q : Int → Int → Bool} {tc : TE} {i j k : Int} (ha : Er K B ta ρ (.int i)) (hb : Er K B tb ρ (.int j)) (hc : Er K B tc ρ (.int k)) : Er K B (tChain (rI0 fun i j => .bl (p i j)) (rI0 fun i j => .bl (q i j)) ta tb tc) ρ (.bool (p i j && q j k)) := fun G σ r G1 H s1 s2 Q kk => by
 refine ha G σ r G1 H s1 s2 _ fun v G2 H2 g2 hv => hb G σ r G2 H2 (s1.trans g2.gg) g2.gh _ fun u G3 H3 g3 hu => ⟨i, j, hv.int, hu.int, p i j, rfl, ?_⟩
 have g23 := g2.trans g3
 cases e : p i j with
 | false =>
  rw [if_neg Bool.false_ne_true]
  rw [e] at kk
  exact kk _ G3 H3 g23 (dat_bl _)
 | true =>
  rw [if_pos rfl]
  rw [e] at kk
  exact hc G σ r G3 H3 (s1.trans g23.gg) g23.gh _ fun w' G4 H4 g4 hw => ⟨j, k, hu.int, hw.int, kk _ G4 H4 (g23.trans g4) (dat_bl _)⟩
structure Wd (K : PySem.W.Frag) (J : It) (G : Hp) (ds : List PyData) : Prop where
 go : ∀ i H', Same G H' → i < ds.length → J.go i H'
 stop : ∀ i H', Same G H' → ds.length ≤ i → J.stop i H'
 yld : ∀ i H1 x H2 G1 d, Same G G1 → Same G1 H1 → ds[i]? = some d → J.yld i H1 x H2 → ∃ G2, Grow G1 H1 G2 H2 ∧ Dat K G2 x d
def Ei (K : PySem.W.Frag) (B : Hp) (wi : TI) (ρ : List PV) (ds : List PyData) : Prop := ∀ G H σ, Rx K B G σ ρ → Same G H → ∀ R : It → Hp → Prop, (∀ J G' H', Grow G H G' H' → Wd K J G' ds → R J H') → wi σ H R
theorem wd_range {lo : Int} {n : Nat} : Wd K (Itr lo n) G ((List.range n).map fun (i : Nat) => PyData.int (lo + i)) := by
 refine ⟨fun i H' _ h => by rw [List.length_map, List.length_range] at h; exact h, fun i H' _ h => by rw [List.length_map, List.length_range] at h; exact h, fun i H1 x H2 G1 d s1 s2 hd y => ?_⟩
 obtain ⟨rfl, rfl⟩ := y
 refine ⟨G1, Grow.refl s2, ?_⟩
 rw [List.getElem?_map] at hd
 by_cases h : i < n
 ·rw [List.getElem?_range h] at hd
  cases hd; exact dat_int _
 ·rw [List.getElem?_eq_none (by rw [List.length_range]; omega)] at hd; cases hd
theorem wd_lst {p : Addr} {xs : List V} (h : G p = some (.lst xs)) (hd : Dats K G xs ds) : Wd K (Itl K p) G ds := by
 refine ⟨fun i H' s hi => ⟨xs, _, SqL.of (s _ _ h), List.getElem?_eq_getElem (by rw [hd.length]; exact hi)⟩, fun i H' s hi => ⟨xs, SqL.of (s _ _ h), by rw [hd.length]; exact hi⟩, fun i H1 x H2 G1 d s1 s2 he y => ?_⟩
 obtain ⟨rfl, y⟩ := y
 obtain ⟨x', hx', hdx⟩ := hd.get he
 have := y xs (SqL.of (s2 _ _ (s1 _ _ h)))
 rw [hx'] at this; cases this
 exact ⟨G1, Grow.refl s2, hdx.same s1⟩
theorem wd_tup {p : Addr} {xs : List V} (h : SqT K G p xs) (hd : Dats K G xs ds) : Wd K (Itt K p) G ds := by
 refine ⟨fun i H' s hi => ⟨xs, _, s.tup h, List.getElem?_eq_getElem (by rw [hd.length]; exact hi)⟩, fun i H' s hi => ⟨xs, s.tup h, by rw [hd.length]; exact hi⟩, fun i H1 x H2 G1 d s1 s2 he y => ?_⟩
 obtain ⟨rfl, y⟩ := y
 obtain ⟨x', hx', hdx⟩ := hd.get he
 have := y xs (s2.tup (s1.tup h))
 rw [hx'] at this; cases this
 exact ⟨G1, Grow.refl s2, hdx.same s1⟩
theorem ei_lst (h : Er K B te ρ (.list ds)) : Ei K B (iList K te) ρ ds := fun G H σ r s R k => h G σ r G H (Same.refl _) s _ fun v G' H' g hv => by
 obtain ⟨p, xs, rfl, hp, hx⟩ := hv.lst
 exact ⟨p, rfl, ⟨xs, SqL.of (g.gh _ _ hp)⟩, k _ G' H' g (wd_lst hp hx)⟩
theorem ei_tup (h : Er K B te ρ (.tuple ds)) : Ei K B (iTup K te) ρ ds := fun G H σ r s R k => h G σ r G H (Same.refl _) s _ fun v G' H' g hv => by
 obtain ⟨p, xs, rfl, hp, hx⟩ := hv.tup
 exact ⟨p, rfl, ⟨xs, g.gh.tup hp⟩, k _ G' H' g (wd_tup hp hx)⟩
theorem ei_rng {t : TA} {j : Int} (h : Ea K B t ρ [.int j]) (hj : -(2 ^ 62) ≤ j ∧ j < 2 ^ 62) : Ei K B (iRng1 t) ρ ((List.range j.toNat).map fun (i : Nat) => PyData.int (0 + i)) := fun G H σ r s R k => h G σ r G H (Same.refl _) s _ fun vs G' H' g hv => by
 obtain ⟨y, ys, rfl, hy, r⟩ := hv.cons
 rw [r.nil, hy.int]
 exact ⟨j, rfl, hj.1, hj.2, k _ G' H' g wd_range⟩
def capP (ρ : List PV) (js : List Nat) : List PV := js.map fun j => (ρ[j]?).getD .un
theorem rx_cap {x : V} {js : List Nat} (r : Rx K B G σ ρ) (hd : Dat K G x d) : Rx K B G (some x :: capV σ js) (.dat d :: capP ρ js) := by
 refine ⟨r.1, fun i e h => ?_, fun i u e h hu => ?_, fun i T h => ?_, fun i ns h => ?_⟩
 ·cases i with
  | zero => cases h; exact ⟨x, rfl, hd⟩
  | succ i =>
   rw [List.getElem?_cons_succ] at h ⊢
   unfold capP at h
   unfold capV
   rw [List.getElem?_map] at h ⊢
   cases q : js[i]? with
   | none => rw [q] at h; cases h
   | some j =>
    rw [q] at h
    have h : (ρ[j]?).getD .un = .dat e := Option.some.inj h
    cases z : ρ[j]? with
    | none => rw [z] at h; cases h
    | some u =>
     rw [z] at h
     have h : u = .dat e := h
     subst h
     obtain ⟨y, hy, hyd⟩ := r.2.1 j e z
     exact ⟨y, by show some (σ[j]?).join = _; rw [hy]; rfl, hyd⟩
 ·cases i with
  | zero => cases h; cases hu
  | succ i =>
   rw [List.getElem?_cons_succ] at h ⊢
   unfold capP at h
   unfold capV
   rw [List.getElem?_map] at h ⊢
   cases q : js[i]? with
   | none => rw [q] at h; cases h
   | some j =>
    rw [q] at h
    have h : (ρ[j]?).getD .un = u := Option.some.inj h
    cases z : ρ[j]? with
    | none => rw [z] at h; subst h; cases hu
    | some u' =>
     rw [z] at h
     have h : u' = u := h
     subst h
     obtain ⟨y, hy, hyd⟩ := r.2.2.1 j u' e z hu
     exact ⟨y, by show some (σ[j]?).join = _; rw [hy]; rfl, hyd⟩
 ·cases i with
  | zero => cases h
  | succ i =>
   rw [List.getElem?_cons_succ] at h ⊢
   unfold capP at h
   unfold capV
   rw [List.getElem?_map] at h ⊢
   cases q : js[i]? with
   | none => rw [q] at h; cases h
   | some j =>
    rw [q] at h
    have h : (ρ[j]?).getD .un = .thg T := Option.some.inj h
    cases z : ρ[j]? with
    | none => rw [z] at h; cases h
    | some u' =>
     rw [z] at h
     have h : u' = .thg T := h
     subst h
     obtain ⟨p, fp, hy, hyd⟩ := r.2.2.2.1 j T z
     exact ⟨p, fp, by show some (σ[j]?).join = _; rw [hy]; rfl, hyd⟩
 ·cases i with
  | zero => cases h
  | succ i =>
   rw [List.getElem?_cons_succ] at h ⊢
   unfold capP at h
   unfold capV
   rw [List.getElem?_map] at h ⊢
   cases q : js[i]? with
   | none => rw [q] at h; cases h
   | some j =>
    rw [q] at h
    have h : (ρ[j]?).getD .un = .scr ns := Option.some.inj h
    cases z : ρ[j]? with
    | none => rw [z] at h; cases h
    | some u' =>
     rw [z] at h
     have h : u' = .scr ns := h
     subst h
     obtain ⟨p, hy, hyd⟩ := r.2.2.2.2 j ns z
     exact ⟨p, by show some (σ[j]?).join = _; rw [hy]; rfl, hyd⟩
def Lcx (K : PySem.W.Frag) (B : Hp) (tt : TT) (te : TE) (ρ : List PV) (o : Option PyData) : Prop := (∃ d, o = some d ∧ Et K B tt ρ true ∧ Er K B te ρ d) ∨ (o = none ∧ Et K B tt ρ false)
theorem lx1 {tt : TT} (ht : Et K B tt ρ true) (he : Er K B te ρ d) : Lcx K B tt te ρ (some d) := .inl ⟨d, rfl, ht, he⟩
theorem lx0 {tt : TT} (ht : Et K B tt ρ false) : Lcx K B tt te ρ none := .inr ⟨rfl, ht⟩
theorem lc_own {α : Type} {wi : TI} {js : List Nat} {tt : TT} (as : List α) (enc : α → PyData) (f : α → Option PyData) (h : Ei K B wi ρ (as.map enc)) (hn : as.length < sizeLine) (hc : ∀ a ∈ as, Lcx K B tt te (.dat (enc a) :: capP ρ js) (f a))
  (r : Rx K B G σ ρ) (s : Same G H) {Q : VK} (k : ∀ p xs G' H', Grow G H G' H' → H' p = none → Dats K G' xs (as.filterMap f) → Q (.ref p) (upd H' p (.lst xs))) : tLC wi js tt te σ H Q := by
 refine h G H σ r s _ fun J G2 H2 g2 W => ?_
 have fl : ∀ i (hi : i < as.length), ((as.take (i + 1)).filterMap f) = (as.take i).filterMap f ++ (f as[i]).toList := fun i hi => by
  rw [List.take_succ, List.filterMap_append, List.getElem?_eq_getElem hi]
  show _ ++ List.filterMap f [as[i]] = _
  rw [List.filterMap_cons]
  cases f as[i] <;> rfl
 refine ⟨fun i m ys H' => m = as.length - i ∧ i ≤ as.length ∧ ys.length ≤ i ∧ ∃ G', Grow G2 H2 G' H' ∧ Dats K G' ys ((as.take i).filterMap f), ⟨as.length, by omega, by omega, by simp, G2, Grow.refl g2.gh, by simpa using dats_nil⟩, ?_⟩
 rintro i m ys H' ⟨rfl, hi, hl, G', g', hys⟩
 refine ⟨by omega, ?_⟩
 have sgh : Same G2 H' := g'.gg.trans g'.gh
 by_cases hin : i = as.length
 ·subst hin
  refine .inl ⟨W.stop _ H' sgh (by rw [List.length_map]; exact Nat.le_refl _), fun p hp => ?_⟩
  rw [List.take_length] at hys
  exact k p ys G' H' (g2.trans g') hp hys
 ·have hi' : i < as.length := by omega
  refine .inr ⟨W.go i H' sgh (by rw [List.length_map]; exact hi'), fun x H'' hy => ?_⟩
  obtain ⟨G3, g3, hx⟩ := W.yld i H' x H'' G' (enc as[i]) g'.gg g'.gh (by rw [List.getElem?_map, List.getElem?_eq_getElem hi']; rfl) hy
  have rx := rx_cap (js := js) ((r.mono (g2.gg.trans g'.gg)).mono g3.gg) hx
  rcases hc as[i] (List.getElem_mem hi') with ⟨d, hf, ht, he⟩ | ⟨hf, ht⟩
  ·refine ht _ _ rx G3 H'' (Same.refl _) g3.gh _ fun G4 H4 g4 => ?_
   rw [if_pos rfl]
   refine he _ _ (rx.mono g4.gg) G4 H4 (Same.refl _) g4.gh _ fun v G5 H5 g5 hv => ⟨as.length - (i + 1), by omega, rfl, by omega, by rw [List.length_append]; show ys.length + 1 ≤ i + 1; omega, G5, ((g'.trans g3).trans g4).trans g5, ?_⟩
   rw [fl i hi', hf]
   exact dats_snoc (hys.same ((g3.gg.trans g4.gg).trans g5.gg)) hv
  ·refine ht _ _ rx G3 H'' (Same.refl _) g3.gh _ fun G4 H4 g4 => ?_
   rw [if_neg Bool.false_ne_true]
   refine ⟨as.length - (i + 1), by omega, rfl, by omega, by omega, G4, (g'.trans g3).trans g4, ?_⟩
   rw [fl i hi', hf]
   show Dats K G4 ys (_ ++ [])
   rw [List.append_nil]
   exact hys.same (g3.gg.trans g4.gg)
theorem er_lc {α : Type} {wi : TI} {js : List Nat} {tt : TT} (as : List α) (enc : α → PyData) (f : α → Option PyData) (h : Ei K B wi ρ (as.map enc)) (hn : as.length < sizeLine) (hc : ∀ a ∈ as, Lcx K B tt te (.dat (enc a) :: capP ρ js) (f a)) : Er K B (tLC wi js tt te) ρ (.list (as.filterMap f)) :=
 fun G σ r G1 H s1 s2 Q k => lc_own as enc f h hn hc (r.mono s1) s2 fun p xs G' H' g hp hd => by
  have g3 := grow_new (o := .lst xs) g.gh hp
  exact k _ _ _ (g.trans g3) (dat_lst upd_same (hd.same g3.gg))
def Gt (K : PySem.W.Frag) (B : Hp) (g : TG) (d : PyData) (ρ : List PV) (P : List PV → Prop) : Prop := ∀ E G0 H0 G H σ F x (Q : St → Hp → Prop), Rl K B E G0 H0 G H σ ρ F → Dat K G x d → (∀ σ' ρ' G' H' F', P ρ' → Same G G' → Rl K B E G0 H0 G' H' σ' ρ' F' → Q σ' H') → g x σ H Q
theorem gt_name {i : Nat} {P : List PV → Prop} (h : P (ρ.set i (.dat d))) : Gt K B (gName i) d ρ P := fun E G0 H0 G H σ F x Q r hd k => k _ _ G H _ h (Same.refl _) (r.setD hd)
theorem gt_two {i j : Nat} {P : List PV → Prop} (h : P ((ρ.set i (.dat a)).set j (.dat b))) : Gt K B (gTup K 2 (gCons (gName i) (gCons (gName j) gNil))) (.tuple [a, b]) ρ P := fun E G0 H0 G H σ F x Q r hd k => by
 obtain ⟨p, xs, rfl, hp, hx⟩ := hd.tup
 obtain ⟨y, ys, rfl, hy, hx⟩ := hx.cons
 obtain ⟨z, zs, rfl, hz, hx⟩ := hx.cons
 cases hx.nil
 exact ⟨p, _, rfl, r.g.gh.tup hp, rfl, y, _, rfl, z, _, rfl, rfl, k _ _ G H _ h (Same.refl _) ((r.setD hy).setD hz)⟩
theorem sv_asgT {g : TG} {R : Pn} (h : Ex K B te ρ d) (k : Gt K B g d ρ R.nx) : Sv K B (tAsg te g) ρ R := fun E G0 H0 G H σ F D r dn =>
 h E G0 H0 G H σ F r _ fun v G' H' gr hv => k E G0 H0 G' H' σ F v _ (r.grow gr) hv fun σ' ρ' G2 H2 F' hP s r' => dn.nx hP (gr.gg.trans s) r'
theorem sv_for {α : Type} {wi : TI} {g : TG} {tb : TS} {R : Pn} (as : List α) (enc : α → PyData) (h : Ei K B wi (msk ρ) (as.map enc)) (Iv : Nat → List PV → Prop) (h0 : Iv 0 ρ)
  (hs : ∀ (i : Nat) (hi : i < as.length) ρ', Iv i ρ' → Gt K B g (enc as[i]) ρ' fun ρ2 => Sv K B tb ρ2 { nx := Iv (i + 1), ct := Iv (i + 1), bk := R.nx, rt := R.rt }) (hd : ∀ ρ', Iv as.length ρ' → R.nx ρ') : Sv K B (tFor wi g tb) ρ R := fun E G0 H0 G H σ F D r dn => by
 refine h G H σ r.rx r.g.gh _ fun J G1 H1 g1 W => ?_
 refine ⟨fun i m σ' H' => m = as.length - i ∧ i ≤ as.length ∧ ∃ ρ' G' F', Iv i ρ' ∧ Rl K B E G0 H0 G' H' σ' ρ' F' ∧ Same G1 G', ⟨as.length, by omega, by omega, ρ, G1, F, h0, r.grow g1, Same.refl _⟩, ?_⟩
 rintro i m σ' H' ⟨rfl, hi, ρ', G', F', hI, r', s'⟩
 by_cases hin : i = as.length
 ·subst hin
  exact .inl ⟨W.stop _ H' (s'.trans r'.g.gh) (by rw [List.length_map]; exact Nat.le_refl _), dn.nx (hd ρ' hI) (g1.gg.trans s') r'⟩
 ·have hi' : i < as.length := by omega
  refine .inr ⟨W.go i H' (s'.trans r'.g.gh) (by rw [List.length_map]; exact hi'), fun σ2 H2 => ∃ ρ2 G2 F2, Iv (i + 1) ρ2 ∧ Rl K B E G0 H0 G2 H2 σ2 ρ2 F2 ∧ Same G1 G2, fun σ2 H2 ⟨ρ2, G2, F2, q⟩ => ⟨as.length - (i + 1), by omega, rfl, by omega, ρ2, G2, F2, q⟩, fun x H'' hy => ?_⟩
  obtain ⟨G3, g3, hx⟩ := W.yld i H' x H'' G' (enc as[i]) s' r'.g.gh (by rw [List.getElem?_map, List.getElem?_eq_getElem hi']; rfl) hy
  have r3 := r'.grow g3
  have s3 : Same G1 G3 := s'.trans g3.gg
  refine hs i hi' ρ' hI E G0 H0 G3 H'' σ' F' x _ r3 hx fun σ4 ρ4 G4 H4 F4 hP s4 r4 => ?_
  have s14 := s3.trans s4
  refine hP E G0 H0 G4 H4 σ4 F4 _ r4 ⟨fun hI2 s5 r5 => ⟨_, _, _, hI2, r5, s14.trans s5⟩, fun hR s5 r5 sl n => dn.rt hR (g1.gg.trans (s14.trans s5)) r5 sl n, fun hR s5 r5 => dn.nx hR (g1.gg.trans (s14.trans s5)) r5, fun hI2 s5 r5 => ⟨_, _, _, hI2, r5, s14.trans s5⟩⟩
end
end L2
namespace L2
open PySem PySem.Spec PyProof.Rows Lw
section
variable {K : PySem.W.Frag} {B : Hp} {E : Addr → Prop} {G0 H0 G H G' H' : Hp} {σ : St} {ρ : List PV} {F : Nat → List Addr} {ta tb te : TE} {a b d : PyData} {ds es : List PyData}
def PV.put : PV → List PyData → PV
 | .own _, ds => .own ds
 | .lnt p _, ds => .lnt p ds
 | v, _ => v
theorem Rl.put {i : Nat} {u : PV} {p : Addr} {xs : List V} (R : Rl K B E G0 H0 G H σ ρ F) (hi : ρ[i]? = some u) (hu : u.rd = some ds) (hx : σ[i]? = some (some (.ref p))) (hd : Dats K G xs es) : Rl K B E G0 H0 G (upd H p (.lst xs)) σ (ρ.set i (u.put es)) F := by
 obtain ⟨p', xs', e, hx', hp, _⟩ := (R.sl i _ hi).rd hu
 rw [hx] at hx'
 cases hx'
 have hpi : p ∈ F i := by rw [e]; simp
 obtain ⟨gp, _, hE⟩ := R.fr i p hpi
 have hlt : i < ρ.length := (List.getElem?_eq_some_iff.mp hi).1
 refine ⟨⟨R.g.gg, same_upd R.g.gh gp, fun b o n h => ?_, fun b h => ?_, R.g.fr⟩, R.bb, by rw [List.length_set]; exact R.ls, fun j v h => ?_, fun j a ha => ?_, R.dj, fun j ds' a h ha => ?_⟩
 ·have : b ≠ p := fun z => by
   subst z
   rcases hE with hE | hE
   ·exact n hE
   ·rw [hE] at h; cases h
  rw [upd_ne this]; exact R.g.kp b o n h
 ·by_cases z : b = p
  ·subst z; rw [upd_same] at h; cases h
  ·rw [upd_ne z] at h; exact R.g.al b h
 ·by_cases z : j = i
  ·subst z
   rw [List.getElem?_set_self hlt] at h
   cases h
   cases u with
   | own es' => exact ⟨p, xs, e, hx, upd_same, hd⟩
   | lnt q es' =>
    obtain ⟨_, e2, hx2, _⟩ := R.sl j _ hi
    rw [hx] at hx2; cases hx2
    exact ⟨xs, e, hx, upd_same, hd⟩
   | _ => cases hu
  ·rw [List.getElem?_set_ne (Ne.symm z)] at h
   refine (R.sl j v h).grow (Same.refl _) fun a ha => upd_ne fun q => ?_
   subst q
   exact z (R.dj j i a ha hpi)
 ·obtain ⟨h1, ⟨o, h2⟩, h3⟩ := R.fr j a ha
  refine ⟨h1, ?_, h3⟩
  by_cases z : a = p
  ·subst z; exact ⟨_, upd_same⟩
  ·exact ⟨o, by rw [upd_ne z]; exact h2⟩
 ·by_cases z : j = i
  ·subst z
   rw [List.getElem?_set_self hlt] at h
   cases u with
   | own es' => exact R.ow j es' a hi ha
   | lnt q es' => cases h
   | _ => cases hu
  ·rw [List.getElem?_set_ne (Ne.symm z)] at h
   exact R.ow j ds' a h ha
theorem sv_seti {i : Nat} {ti : TE} {R : Pn} (h : Eg K B te ρ fun r ρ' => ∃ (d : PyData) (u : PV) (ds : List PyData) (j : Int) (n : Nat), r = .dat d ∧ ρ'[i]? = some u ∧ u.rd = some ds ∧ Er K B ti ρ' (.int j) ∧ ixN ds.length j = some n ∧ R.nx (ρ'.set i (u.put (ds.set n d)))) : Sv K B (tAsg te (gSub (tVar i) ti rSetL)) ρ R := fun E G0 H0 G H σ F D r dn => by
 refine h E G0 H0 G H σ F r _ fun v w ρ' G' H' F' L hR s r' sl n => ?_
 obtain ⟨d, u, ds, j, n, rfl, hi', hu', he, hn, hR⟩ := hR
 obtain ⟨p', xs', e', hx', hp', hd'⟩ := (r'.sl i _ hi').rd hu'
 obtain ⟨_, x, hxv, hxd⟩ := sl
 cases hxv
 obtain ⟨s1, s2, x⟩ := r'.gpl
 refine ⟨_, hx', he _ σ x _ H' (Same.refl _) s2 _ fun iv G2 H2 g2 hiv => ?_⟩
 have r2 := r'.grow (grow_h r'.g.gh g2.hh)
 refine ⟨p', xs', j, n, rfl, hiv.int, g2.hh _ _ hp', by rw [hd'.length]; exact hn, ?_⟩
 exact dn.nx hR s (r2.put hi' hu' hx' (dats_set n hd' hxd))
def startP (N : List Str) (vs : List PV) : List PV := vs ++ List.replicate (N.length - vs.length) .un
theorem dats_rl {vs : List V} {N : List Str} (sb : Same B G) (s : Same G H) (hv : Dats K G vs ds) : Rl K B (fun _ => False) G H G H (start N vs) (startP N (ds.map .dat)) (fun _ => []) := by
 refine ⟨Gw.refl s, sb, ?_, fun i v h => ?_, fun _ _ h => (by cases h), fun _ _ _ h _ => (by cases h), fun _ _ _ _ h => (by cases h)⟩
 ·unfold start startP
  rw [List.length_append, List.length_append, List.length_map, List.length_map, List.length_replicate, List.length_replicate, hv.length]
 ·unfold startP at h
  unfold start
  by_cases hi : i < ds.length
  ·rw [List.getElem?_append_left (by rw [List.length_map]; exact hi), List.getElem?_map, List.getElem?_eq_getElem hi] at h
   cases h
   obtain ⟨x, hx, hxd⟩ := hv.get (List.getElem?_eq_getElem hi)
   exact ⟨rfl, x, by rw [List.getElem?_append_left (by rw [List.length_map, hv.length]; exact hi), List.getElem?_map, hx]; rfl, hxd⟩
  ·rw [List.getElem?_append_right (by rw [List.length_map]; omega)] at h
   have := List.mem_of_getElem? h
   rw [(List.mem_replicate.mp this).2]
   rfl
variable {P : Program} {w : World} {mg : Str → Option Value} {base : Heap}
def spPB (K : PySem.W.Frag) (B : Hp) (R : List PyData → PyData → Prop) : Sp := fun vs H Q _ => ∃ (G : Hp) (ds : List PyData) (d : PyData), Same B G ∧ Same G H ∧ Dats K G vs ds ∧ R ds d ∧ ∀ v G' H', Grow G H G' H' → Dat K G' v d → Q v H'
theorem Fun.okPB {x qual : Str} {st : Stmt} {f : Addr} {fd : FuncData} {N ps : List Str} {k : Nat} {R : List PyData → PyData → Prop} (Fn : Fun K x qual st f fd) (S : FnScope N ps (defScope st)) (len : ∀ ds d, R ds d → ds.length = ps.length)
  (hb : ∀ (cdv : Value) (A : Around) (outer : List Env) (s : Shared) (H : Hp) (E : XK), Room k (A.deeper (envOfC qual (defScope st) s.heap.objs.size f cdv)) → ∀ ds d, R ds d →
   ∃ t, PSs (cxOf CX0 P w K mg base N qual (defScope st) f cdv A outer s H E).nox (defBody st) t ∧ Sv K B t (startP N (ds.map .dat)) { nx := fun _ => d = .none, rt := fun r _ => r = .dat d }) : FnOk P w K mg base CX0 (k + 1) f fd ps (spPB K B R) := by
 refine Fn.ok S (fun vs H Q E h => ?_) fun cdv A outer s H vs Q E hr h => ?_
 ·obtain ⟨G, ds, d, _, _, hv, hR, _⟩ := h
  rw [hv.length]; exact len ds d hR
 ·obtain ⟨G, ds, d, sb, sg, hv, hR, kk⟩ := h
  obtain ⟨t, ht, hs⟩ := hb cdv A outer s H E hr ds d hR
  refine ⟨t, ht, hs _ _ _ _ _ _ _ _ (dats_rl sb sg hv) ⟨fun e _ r => ?_, fun e _ r sl n => ?_, fun e => e.elim, fun e => e.elim⟩⟩
  ·have e : d = .none := e
   subst e
   exact kk _ _ _ r.g.toGrow dat_non
  ·subst e
   obtain ⟨_, y, hy, hd⟩ := sl
   cases hy
   exact kk _ _ _ r.g.toGrow hd
abbrev B0 : Hp := fun _ => none
theorem b0 : Same B0 G := fun _ _ h => by cases h
theorem Fun.okP {x qual : Str} {st : Stmt} {f : Addr} {fd : FuncData} {N ps : List Str} {k : Nat} {R : List PyData → PyData → Prop} (Fn : Fun K x qual st f fd) (S : FnScope N ps (defScope st)) (len : ∀ ds d, R ds d → ds.length = ps.length)
  (hb : ∀ (cdv : Value) (A : Around) (outer : List Env) (s : Shared) (H : Hp) (E : XK), Room k (A.deeper (envOfC qual (defScope st) s.heap.objs.size f cdv)) → ∀ ds d, R ds d →
   ∃ t, PSs (cxOf CX0 P w K mg base N qual (defScope st) f cdv A outer s H E).nox (defBody st) t ∧ Sv K B0 t (startP N (ds.map .dat)) { nx := fun _ => d = .none, rt := fun r _ => r = .dat d }) : FnOk P w K mg base CX0 (k + 1) f fd ps (spP K R) :=
 (Fn.okPB S len hb).imp fun vs H Q E ⟨G, ds, d, sg, hv, hR, kk⟩ => ⟨G, ds, d, b0, sg, hv, hR, kk⟩
def spL (K : PySem.W.Frag) (Pre : List PyData → List PyData → Prop) (R : List PyData → List PyData → PyData → List PyData → Prop) : Sp := fun vs H Q _ => ∃ (p : Addr) (us : List V) (G : Hp) (xs : List V) (es ds : List PyData), vs = .ref p :: us ∧ Same G H ∧ G p = none ∧ H p = some (.lst xs) ∧ Dats K G xs es ∧ Dats K G us ds ∧ Pre es ds ∧
 ∀ v x es' xs' G' H', R es ds x es' → Gw (· = p) G H G' H' → G' p = none → H' p = some (.lst xs') → Dats K G' xs' es' → Dat K G' v x → Q v H'
def EgA (K : PySem.W.Frag) (B : Hp) (t : TA) (ρ : List PV) (R : List PyData → List PV → Prop) : Prop := ∀ E G0 H0 G H σ F, Rl K B E G0 H0 G H σ ρ F → ∀ Q : List V → Hp → Prop,
 (∀ vs ds ρ' G' H' F', R ds ρ' → Same G G' → Rl K B E G0 H0 G' H' σ ρ' F' → Dats K G' vs ds → Q vs H') → t σ H Q
theorem ega_ea {t : TA} {R : List PyData → List PV → Prop} (h : Ea K B t (msk ρ) ds) (k : R ds ρ) : EgA K B t ρ R := fun E G0 H0 G H σ F r Q q => h G σ r.rx G H (Same.refl _) r.g.gh Q fun vs G' H' g hv => q vs ds ρ G' H' F k g.gg (r.grow g) hv
theorem ega_cons {t : TA} {R : List PyData → List PV → Prop} (h : Eg K B te ρ fun r ρ1 => ∃ d, r = .dat d ∧ EgA K B t ρ1 fun ds ρ2 => R (d :: ds) ρ2) : EgA K B (tCons te t) ρ R := fun E G0 H0 G H σ F r Q q =>
 h E G0 H0 G H σ F r _ fun v w ρ1 G1 H1 F1 L hw s1 r1 sl n => by
  obtain ⟨d, rfl, h2⟩ := hw
  obtain ⟨_, y, hy, hd⟩ := sl
  cases hy
  exact h2 E G0 H0 G1 H1 σ F1 r1 _ fun vs ds ρ2 G2 H2 F2 hR s2 r2 hv => q _ _ ρ2 G2 H2 F2 hR (s1.trans s2) r2 (dats_cons (hd.same s2) hv)
theorem eg_lend {Pre : List PyData → List PyData → Prop} {Rf : List PyData → List PyData → PyData → List PyData → Prop} {X : XK} {i : Nat} {t : TA} {R : PV → List PV → Prop} {u0 : PV} {es0 : List PyData} (hi : ρ[i]? = some u0) (hu : u0.rd = some es0)
  (h : EgA K B t ρ fun ds ρ1 => ∃ u es, ρ1[i]? = some u ∧ u.rd = some es ∧ Pre es ds ∧ ∀ x es', Rf es ds x es' → R (.dat x) (ρ1.set i (u.put es'))) : Eg K B (tCall (spL K Pre Rf) [] X (tCons (tVar i) t)) ρ R := fun E G0 H0 G H σ F r Q q => by
 obtain ⟨p, xs, e, hx, hp, hd⟩ := (r.sl i _ hi).rd hu
 refine ⟨_, hx, h E G0 H0 G H σ F r _ fun vs ds ρ1 G1 H1 F1 hh s1 r1 hv => ?_⟩
 obtain ⟨u, es, hi1, hu1, hP, hk⟩ := hh
 obtain ⟨p', xs1, e1, hx1, hp1, hd1⟩ := (r1.sl i _ hi1).rd hu1
 rw [hx] at hx1; cases hx1
 have hpi : p ∈ F1 i := by rw [e1]; simp
 obtain ⟨gp, _, hE⟩ := r1.fr i p hpi
 show spL K Pre Rf ((.ref p :: vs) ++ []) H1 Q X
 rw [List.append_nil]
 refine ⟨p, vs, G1, xs1, es, ds, rfl, r1.g.gh, gp, hp1, hd1, hv, hP, fun v x es' xs' G2 H2 hR gw gp2 hp2 hd2 hx2 => ?_⟩
 have hlt : i < ρ1.length := (List.getElem?_eq_some_iff.mp hi1).1
 have r2 : Rl K B E G0 H0 G2 H2 σ (ρ1.set i (u.put es')) F1 := by
  refine ⟨⟨r1.g.gg.trans gw.gg, gw.gh, fun b o n h => ?_, fun b h => r1.g.al b (gw.al b h), fun b o h => ?_⟩, r1.bb.trans gw.gg, by rw [List.length_set]; exact r1.ls, fun j v h => ?_, fun j a ha => ?_, r1.dj, fun j ds' a h ha => ?_⟩
  ·have : b ≠ p := fun z => by
    subst z
    rcases hE with hE | hE
    ·exact n hE
    ·rw [hE] at h; cases h
   exact gw.kp b o this (r1.g.kp b o n h)
  ·rcases gw.fr b o h with h | h
   ·exact r1.g.fr b o h
   ·exact .inr (r1.g.al b h)
  ·by_cases z : j = i
   ·subst z
    rw [List.getElem?_set_self hlt] at h
    cases h
    cases u with
    | own es2 => exact ⟨p, xs', e1, hx, hp2, hd2⟩
    | lnt q es2 =>
     obtain ⟨_, e2, hx2, _⟩ := r1.sl j _ hi1
     rw [hx] at hx2; cases hx2
     exact ⟨xs', e1, hx, hp2, hd2⟩
    | _ => cases hu1
   ·rw [List.getElem?_set_ne (Ne.symm z)] at h
    refine (r1.sl j v h).grow gw.gg fun a ha => ?_
    obtain ⟨_, ⟨o, ho⟩, _⟩ := r1.fr j a ha
    rw [ho]
    exact gw.kp a o (fun q => by subst q; exact z (r1.dj j i a ha hpi)) ho
  ·obtain ⟨h1, ⟨o, h2⟩, h3⟩ := r1.fr j a ha
   by_cases z : a = p
   ·subst z; exact ⟨gp2, ⟨_, hp2⟩, h3⟩
   ·refine ⟨?_, ⟨o, gw.kp a o z h2⟩, h3⟩
    cases hg : G2 a with
    | none => rfl
    | some o' =>
     rcases gw.fr a o' hg with h | h
     ·rw [h1] at h; cases h
     ·rw [h2] at h; cases h
  ·by_cases z : j = i
   ·subst z
    rw [List.getElem?_set_self hlt] at h
    cases u with
    | own es2 => exact r1.ow j es2 a hi1 ha
    | lnt q es2 => cases h
    | _ => cases hu1
   ·rw [List.getElem?_set_ne (Ne.symm z)] at h
    exact r1.ow j ds' a h ha
 exact q v _ _ G2 H2 F1 [] (hk x es' hR) (s1.trans gw.gg) r2 ⟨rfl, v, rfl, hx2⟩ nw_nil
theorem eg_op {r : R2} {R : PV → List PV → Prop} (h : Eg K B ta ρ fun x ρ1 => ∃ a, x = .dat a ∧ Eg K B tb ρ1 fun y ρ2 => ∃ b c, y = .dat b ∧ (∀ G σ va vb, Dat K G va a → Dat K G vb b → Ev K (tOp r (tC va) (tC vb)) σ G c) ∧ R (.dat c) ρ2) : Eg K B (tOp r ta tb) ρ R := fun E G0 H0 G H σ F r Q q =>
 h E G0 H0 G H σ F r _ fun v w ρ1 G1 H1 F1 L hw s1 r1 sl n => by
  obtain ⟨a, rfl, h2⟩ := hw
  obtain ⟨_, y, hy, hd⟩ := sl
  cases hy
  refine h2 E G0 H0 G1 H1 σ F1 r1 _ fun v2 w2 ρ2 G2 H2 F2 L2 hw2 s2 r2 sl2 n2 => ?_
  obtain ⟨b, c, rfl, hop, hR⟩ := hw2
  obtain ⟨_, y2, hy2, hd2⟩ := sl2
  cases hy2
  exact hop G2 σ v v2 (hd.same s2) hd2 G2 H2 (Same.refl _) r2.g.gh Q fun v3 G3 H3 g3 hv3 => q v3 _ ρ2 G3 H3 F2 [] hR ((s1.trans s2).trans g3.gg) (r2.grow g3) ⟨rfl, v3, rfl, hv3⟩ nw_nil
end
end L2
namespace L2
open PySem PySem.Spec PyProof.Rows
theorem lext_tup (l : Addr) (items : Array Value) (n : Nat) (b : Addr) (items2 : Array Value) (n2 : Nat) (dct : Option Addr) (sl : Array (Option Value)) (hs0 : ¬(!items.isEmpty && Builtin.List.listTooLong (items.size + items2.size)) = true) (hs1 : items.size ≤ sizeLine) (hs2 : items.size + items2.size ≤ sizeLine + 1) :
  Meets (Builtin.«list.extend» ⟨[.ref l, .ref b], []⟩) (fun _ R s => s.heap.get? l = some { cls := .type "list", dict := none, data := .seq items n, slots := #[] } ∧ s.heap.get? b = some { cls := .type "tuple", dict := dct, data := .seq items2 n2, slots := sl } ∧ R (.ok (.ret Value.none)) { s with heap := s.heap.update l (Obj.mapSeq fun x => x ++ items2), toks := s.toks }) :=
 .of_wp fun prog w A R s h => by
  obtain ⟨hp, g, d, tk, os⟩ := s
  obtain ⟨hl, hb, h⟩ := h
  have f1 := AutoSeq1.idx_int; have f2 := AutoSeq1.sub_tuple_tuple; have f3 := AutoSeq1.sub_list_list; have f4 := AutoSeq1.sub_tuple_list; have f5 := AutoSeq1.sub_list_tuple
  have hz' : (items ++ items2).size ≤ sizeLine + 1 := by rw [Array.size_append]; exact hs2
  wp_walk using (wpAny_updateSeq hl rfl (hz := hs1) (_hz' := hz')), AutoSeq1.wpAny_loadPart' hl, AutoSeq1.wpAny_loadPart' hb; exact ⟨_, rfl, h⟩
section
variable {X : Cx}
theorem vals_of_ints : ∀ {ns : List Int} {its : List Value}, IntsAre its ns → Vals (ns.map V.int) its
 | _, _, .nil => .nil
 | _, _, .cons x t h => .cons ⟨t, rfl⟩ (vals_of_ints h)
theorem boot_srtI : bootBuiltins "sorted" = some (.builtin "sorted") := by decide +kernel
def srtI (ns : List Int) : List Int := ns.mergeSort fun a b => decide (a ≤ b)
theorem srtI_perm (ns : List Int) : (srtI ns).Perm ns := List.mergeSort_perm ns _
theorem srtI_sorted (ns : List Int) : (srtI ns).Pairwise (· ≤ ·) := by
 have h := List.pairwise_mergeSort (le := fun a b : Int => decide (a ≤ b)) (fun a b c h1 h2 => by simp at h1 h2 ⊢; omega) (fun a b => by simp; omega) ns
 exact h.imp fun {a b} z => by simpa using z
theorem srtI_of {a b : List Int} (h : a.Perm b) (hs : a.Pairwise (· ≤ ·)) : a = srtI b :=
 (h.trans (srtI_perm b).symm).eq_of_pairwise (fun x y _ _ h1 h2 => by omega) hs (srtI_sorted b)
def rSrtI (K : PySem.W.Frag) : List V → Hp → VK → Prop := fun xs H Q => ∃ (p : Addr) (ns : List Int), xs = [.ref p] ∧ SqL K H p (ns.map V.int) ∧ ns.length < 64 ∧ ∀ l : Addr, H l = none → Q (.ref l) (upd H l (.lst ((srtI ns).map V.int)))
theorem call_sortedI {K : PySem.W.Frag} (e : X.K = K) : CallR X (.builtin "sorted") (rSrtI K) := by
 subst e
 intro pins s σ H xs us Q I r h
 obtain ⟨p, ns, rfl, hq, h64, q⟩ := h
 obtain ⟨u, rfl, rx⟩ := vals1 r
 cases rx
 obtain ⟨its, r', pl, hz⟩ := I.list hq
 have hS := intsAre_of r'
 have hlen := r'.length
 rw [List.length_map] at hlen hz
 refine sorted_ints pl.isList hS (by omega) fun out ns' a1 a2 a3 => ?_
 obtain ⟨e, he⟩ := sortedAll_at s.heap its out
 have hl2 := a2.length_eq
 have e3 := srtI_of a2 a3
 subst e3
 refine ⟨.ref (s.heap.objs.size + 1), _, I.laid (t' := s.toks) (fun _ _ => sortedAll_old) (Nat.le_succ _) (show ObjOk X.prog X.w _ (sortedAll s.heap its out) _ (.lst ((srtI ns).map V.int)) from ⟨by rw [List.length_map]; omega, out.toList, e, vals_of_ints a1, ?_⟩), rfl, q _ (I.hok.fresh (Nat.le_succ _))⟩
 exact he
theorem ev_srtI {K : PySem.W.Frag} {σ : St} {G : Hp} {t : TA} {ns : List Int} (h : EvA K t σ G [.list (ns.map .int)]) (h64 : ns.length < 64) : Ev K (tCB (rSrtI K) t) σ G (.list ((srtI ns).map .int)) := ev_cb h fun G1 H xs Q s1 s2 hx k => by
 obtain ⟨y, ys, rfl, hy, hn⟩ := hx.cons
 cases hn.nil
 obtain ⟨p, zs, rfl, hp, hz⟩ := hy.lst
 have e := hz.ints
 subst e
 refine ⟨p, ns, rfl, SqL.of (s2 _ _ hp), h64, fun l hl => ?_⟩
 have g := grow_new (o := .lst ((srtI ns).map V.int)) s2 hl
 exact k _ _ _ g (dat_lst upd_same (dats_ints _))
def rExtT (K : PySem.W.Frag) : V → List V → Hp → VK → Prop := fun x vs H Q => ∃ l b xs zs, x = .ref l ∧ vs = [.ref b] ∧ H l = some (.lst xs) ∧ SqT K H b zs ∧ xs.length + zs.length ≤ sizeLine ∧ Q .non (upd H l (.lst (xs ++ zs)))
theorem mt_extT {K : PySem.W.Frag} (eK : X.K = K) : MtM X "list.extend" (rExtT K) := by
 subst eK
 intro pins s σ H x vs v us Q I rx rv h
 obtain ⟨l, b, xs, zs, rfl, rfl, hH, hB, hz, q⟩ := h
 cases rx
 obtain ⟨u, rfl, ru⟩ := rv.one
 cases ru
 obtain ⟨z, its, n, r, hl, e⟩ := I.lstM hH
 obtain ⟨its2, r2, ⟨o2, h1, h2, n2, h3⟩, z2⟩ := I.tuple hB
 have hsz : its.toArray.size + its2.toArray.size ≤ sizeLine := by
  have := r2.length
  rw [List.size_toArray, List.size_toArray]; omega
 have hlong : ¬ (!its.toArray.isEmpty && Builtin.List.listTooLong (its.toArray.size + its2.toArray.size)) = true := by
  rw [notLongL hsz, Bool.and_false]
  exact Bool.false_ne_true
 obtain ⟨oc, od, oda, osl⟩ := o2
 dsimp only at h2 h3
 subst h2 h3
 refine call_meets F.slot_list_extend ⟨_, e, rfl⟩ F.entry_list_extend (F.args_list_extend_2 _ _)
  (lext_tup l its.toArray n b its2.toArray n2 od osl hlong (by rw [List.size_toArray]; omega) (by omega)) ⟨e, h1, ?_⟩
 refine ⟨.non, _, I.lset (its' := its ++ its2) hH e (by simp) (r.append r2) ?_, rfl, q⟩
 rw [List.length_append]
 omega
end
end L2
namespace L2
open PySem PySem.Spec PyProof.Rows
section
variable {κ : Type} [DecidableEq κ]
def valV (kvs : List (κ × V)) (k : κ) : Option V := (kvs.find? fun kv => decide (kv.1 = k)).map (·.2)
def putK (kvs : List (κ × V)) (k : κ) (v : V) : List (κ × V) :=
 if (kvs.any fun kv => decide (kv.1 = k)) = true then kvs.map (fun kv => if kv.1 = k then (kv.1, v) else kv) else kvs ++ [(k, v)]
theorem valV_pos {p : κ × V} {r : List (κ × V)} {k : κ} (e : p.1 = k) : valV (p :: r) k = some p.2 := by simp [valV, List.find?_cons, e]
theorem valV_neg {p : κ × V} {r : List (κ × V)} {k : κ} (e : ¬ p.1 = k) : valV (p :: r) k = valV r k := by simp [valV, List.find?_cons, e]
theorem valV_any (k : κ) : ∀ kvs : List (κ × V), (kvs.any fun kv => decide (kv.1 = k)) = (valV kvs k).isSome
 | [] => rfl
 | p :: r => by
  rw [List.any_cons]
  by_cases e : p.1 = k
  ·simp only [valV_pos e, decide_eq_true e, Bool.true_or, Option.isSome_some]
  ·rw [valV_neg e, decide_eq_false e, Bool.false_or]; exact valV_any k r
theorem length_putK (kvs : List (κ × V)) (k : κ) (v : V) : (putK kvs k v).length ≤ kvs.length + 1 := by
 unfold putK
 split
 ·rw [List.length_map]; omega
 ·rw [List.length_append, List.length_cons, List.length_nil]; omega
theorem RelO.isSome_eq {o : Option V} {u : Option Value} (r : RelO o u) : o.isSome = u.isSome := by
 cases o with
 | none => cases u with
  | none => rfl
  | some _ => exact (show False from r).elim
 | some _ => cases u with
  | none => exact (show False from r).elim
  | some _ => rfl
theorem RelO.getD {o : Option V} {u : Option Value} {d : V} {d' : Value} (r : RelO o u) (rd : RelV d d') : RelV (o.getD d) (u.getD d') := by
 cases o with
 | none => cases u with
  | none => exact rd
  | some _ => exact (show False from r).elim
 | some _ => cases u with
  | none => exact (show False from r).elim
  | some _ => exact r
theorem KV.val {kvs : List (κ × V)} {vs : List (κ × Value)} (r : KV kvs vs) (k : κ) : RelO (valV kvs k) (valueAt vs k) := by
 unfold KV at r
 induction r with
 | nil => exact True.intro
 | @cons p q ps qs h t ih =>
  obtain ⟨h1, h2⟩ := h
  by_cases e : p.1 = k
  ·have e' : q.1 = k := h1.symm.trans e
   have b : valueAt (q :: qs) k = some q.2 := by simp [valueAt, List.find?_cons, e']
   rw [valV_pos e, b]; exact h2
  ·have e' : ¬ q.1 = k := fun z => e (h1.trans z)
   have b : valueAt (q :: qs) k = valueAt qs k := by simp [valueAt, List.find?_cons, e']
   rw [valV_neg e, b]; exact ih
theorem KV.any {kvs : List (κ × V)} {vs : List (κ × Value)} (r : KV kvs vs) (k : κ) : (kvs.any fun kv => decide (kv.1 = k)) = vs.any fun kv => decide (kv.1 = k) := by
 unfold KV at r
 induction r with
 | nil => rfl
 | cons h t ih => rw [List.any_cons, List.any_cons, ih, h.1]
theorem KV.repl {kvs : List (κ × V)} {vs : List (κ × Value)} (r : KV kvs vs) (k : κ) {y : V} {u : Value} (ry : RelV y u) :
  KV (kvs.map fun kv => if kv.1 = k then (kv.1, y) else kv) (vs.map fun kv => if kv.1 = k then (kv.1, u) else kv) := by
 unfold KV at r ⊢
 induction r with
 | nil => exact .nil
 | @cons p q ps qs h t ih =>
  rw [List.map_cons, List.map_cons]
  refine .cons ?_ ih
  obtain ⟨h1, h2⟩ := h
  by_cases e : p.1 = k
  ·rw [if_pos e, if_pos (h1.symm.trans e)]; exact ⟨h1, ry⟩
  ·rw [if_neg e, if_neg (fun z => e (h1.trans z))]; exact ⟨h1, h2⟩
theorem KV.put {kvs : List (κ × V)} {vs : List (κ × Value)} (r : KV kvs vs) (k : κ) {y : V} {u : Value} (ry : RelV y u) : KV (putK kvs k y) (stored vs k u) := by
 unfold putK stored
 rw [r.any k]
 by_cases e : (vs.any fun kv => decide (kv.1 = k)) = true
 ·rw [if_pos e, if_pos e]; exact r.repl k ry
 ·rw [if_neg e, if_neg e]; exact Paired.snoc r ⟨rfl, ry⟩
theorem KV.length {kvs : List (κ × V)} {vs : List (κ × Value)} (r : KV kvs vs) : kvs.length = vs.length := Paired.length r
end
theorem kV_is {P : Program} {w : World} {k : Key} {u : Value} (r : RelV (kV k) u) : (mixKind P w).is k u = true := by
 cases k with
 | inl i => obtain ⟨t, e⟩ := (show ∃ t, u = Value.int i t from r); subst e; exact mixKind_int P w i t
 | inr x => obtain ⟨t, e⟩ := (show ∃ t, u = Value.str x t from r); subst e; exact mixKind_str P w x t
theorem items_are {P : Program} {w : World} : ∀ {ks : List Key} {us : List Value}, Vals (ks.map kV) us → ItemsAre (mixKind P w) ks us
 | [], _, r => by rw [List.map_nil] at r; cases r; exact .nil
 | k :: ks, _, r => by
  rw [List.map_cons] at r
  cases r with
  | cons h t => exact .cons (kV_is h) (items_are t)
abbrev KT (H : Hp) : List (List Key × V) → List (List Key × Addr × Value) → Prop := Paired fun p q => p.1 = q.1 ∧ H q.2.1 = some (.tup (p.1.map kV)) ∧ RelV p.2 q.2.2
theorem KT.val {H : Hp} {kvs : List (List Key × V)} {xs : List (List Key × Addr × Value)} (r : KT H kvs xs) (k : List Key) : RelO (valV kvs k) ((atKey xs k).map (·.2)) := by
 induction r with
 | nil => exact True.intro
 | @cons p q ps qs h t ih =>
  obtain ⟨h1, _, h2⟩ := h
  by_cases e : p.1 = k
  ·have e' : q.1 = k := h1.symm.trans e
   have b : atKey (q :: qs) k = some q.2 := by simp [atKey, List.find?_cons, e']
   rw [valV_pos e, b]; exact h2
  ·have e' : ¬ q.1 = k := fun z => e (h1.trans z)
   have b : atKey (q :: qs) k = atKey qs k := by simp [atKey, List.find?_cons, e']
   rw [valV_neg e, b]; exact ih
theorem KT.repl {H : Hp} {kvs : List (List Key × V)} {xs : List (List Key × Addr × Value)} (r : KT H kvs xs) (k : List Key) {y : V} {u : Value} (ry : RelV y u) :
  KT H (kvs.map fun kv => if kv.1 = k then (kv.1, y) else kv) (xs.map (putAt k u)) := by
 induction r with
 | nil => exact .nil
 | @cons p q ps qs h t ih =>
  rw [List.map_cons, List.map_cons]
  refine .cons ?_ ih
  obtain ⟨h1, h2, h3⟩ := h
  unfold putAt
  by_cases e : p.1 = k
  ·rw [if_pos e, if_pos (h1.symm.trans e)]; exact ⟨h1, h2, ry⟩
  ·rw [if_neg e, if_neg (fun z => e (h1.trans z))]; exact ⟨h1, h2, h3⟩
theorem KT.put {H : Hp} {kvs : List (List Key × V)} {xs : List (List Key × Addr × Value)} (r : KT H kvs xs) (k : List Key) {b : Addr} {y : V} {u : Value} (hb : H b = some (.tup (k.map kV))) (ry : RelV y u) :
  KT H (putK kvs k y) (storedH xs k b u) := by
 have e : (kvs.any fun kv => decide (kv.1 = k)) = (atKey xs k).isSome := by
  rw [valV_any, (r.val k).isSome_eq, Option.isSome_map]
 unfold putK storedH
 rw [e]
 by_cases q : (atKey xs k).isSome = true
 ·rw [if_pos q, if_pos q]; exact r.repl k ry
 ·rw [if_neg q, if_neg q]; exact Paired.snoc r ⟨rfl, hb, ry⟩
theorem KT.keeps {H H' : Hp} {kvs : List (List Key × V)} {xs : List (List Key × Addr × Value)} (r : KT H kvs xs) (ht : ∀ b ys, H b = some (.tup ys) → H' b = some (.tup ys)) : KT H' kvs xs :=
 Paired.mapP r fun _ _ z => ⟨z.1, ht _ _ z.2.1, z.2.2⟩
section
variable {P : Program} {w : World} {H : Hp} {h : Heap} {a : Addr}
theorem rd_of {u : HO} (ok : HOk P w H h) (e : Rd H a u) : ObjOk P w H h a u := e.ok ok
theorem dk_rd {kvs : List (Key × V)} (ok : HOk P w H h) (e : Rd H a (.dK kvs)) : kvs.length ≤ sizeLine ∧ (a == sysModules) = false ∧ ∃ vs, KV kvs vs ∧ h.DictOf (mixKind P w) a vs :=
 show ObjOk P w H h a (.dK kvs) from rd_of ok e
theorem dk_of {kvs : List (Key × V)} (ok : HOk P w H h) (e : H a = some (.dK kvs)) : kvs.length ≤ sizeLine ∧ (a == sysModules) = false ∧ ∃ vs, KV kvs vs ∧ h.DictOf (mixKind P w) a vs := dk_rd ok (.inl e)
theorem key_of {ks : List Key} (ok : HOk P w H h) (e : H a = some (.tup (ks.map kV))) : (tupleKind (mixKind P w)).is h ks a := by
 obtain ⟨_, its, r, ⟨o, h1, h2, n, h3⟩, _⟩ := (show ObjOk P w H h a (.tup (ks.map kV)) from ok a _ e)
 exact ⟨o, its.toArray, n, h1, h2, h3, by simpa using items_are r⟩
theorem dt_rd {kvs : List (List Key × V)} (ok : HOk P w H h) (e : Rd H a (.dT kvs)) : kvs.length ≤ sizeLine ∧ (a == sysModules) = false ∧
  ∃ xs, KT H kvs xs ∧ h.DictOfH (tupleKind (mixKind P w)) a xs := by
 obtain ⟨z, y, xs, r, o, es, ep, h1, h2, h3, h4, h5⟩ := (show ObjOk P w H h a (.dT kvs) from rd_of ok e)
 refine ⟨z, y, xs, r, o, es, ep, h1, h2, h3, h4, fun x hx => ?_, h5⟩
 have all : ∀ {l : List (List Key × V)} {m : List (List Key × Addr × Value)}, KT H l m → ∀ x ∈ m, (tupleKind (mixKind P w)).is h x.1 x.2.1 := by
  intro l m q
  induction q with
  | nil => intro x hx; exact nomatch hx
  | @cons p q ps qs hq t ih =>
   intro x hx
   rcases List.mem_cons.mp hx with e | hx
   ·subst e
    exact key_of ok (by rw [← hq.1]; exact hq.2.1)
   ·exact ih x hx
 exact all r x hx
theorem dt_of {kvs : List (List Key × V)} (ok : HOk P w H h) (e : H a = some (.dT kvs)) : kvs.length ≤ sizeLine ∧ (a == sysModules) = false ∧
  ∃ xs, KT H kvs xs ∧ h.DictOfH (tupleKind (mixKind P w)) a xs := dt_rd ok (.inl e)
end
def DGet (H : Hp) (a : Addr) (y : V) (r : Option V) : Prop :=
 (∃ kvs k, Rd H a (.dK kvs) ∧ y = kV k ∧ r = valV kvs k) ∨ ∃ kvs k b, Rd H a (.dT kvs) ∧ y = .ref b ∧ H b = some (.tup (k.map kV)) ∧ r = valV kvs k
def DPut (H : Hp) (a : Addr) (y v : V) (H' : Hp) : Prop :=
 (∃ kvs k, H a = some (.dK kvs) ∧ y = kV k ∧ kvs.length < sizeLine ∧ H' = upd H a (.dK (putK kvs k v))) ∨
 ∃ kvs k b, H a = some (.dT kvs) ∧ y = .ref b ∧ H b = some (.tup (k.map kV)) ∧ kvs.length < sizeLine ∧ H' = upd H a (.dT (putK kvs k v))
theorem DGet.k {H : Hp} {a : Addr} {kvs : List (Key × V)} {k : Key} (e : H a = some (.dK kvs)) : DGet H a (kV k) (valV kvs k) := .inl ⟨kvs, k, .inl e, rfl, rfl⟩
theorem DPut.k {H : Hp} {a : Addr} {kvs : List (Key × V)} {k : Key} {v : V} (e : H a = some (.dK kvs)) (hl : kvs.length < sizeLine) : DPut H a (kV k) v (upd H a (.dK (putK kvs k v))) := .inl ⟨kvs, k, e, rfl, hl, rfl⟩
section
variable {X : Cx} {pins : List (Addr × Obj)} {σ : St} {H : Hp} {s : Shared} {a : Addr} {y v : V} {u r : Value} {o : Option V} {A : Around} {E : Value → Shared → Prop}
theorem Inv.big (I : Inv X pins σ H s) : sysModules < s.heap.objs.size := by
 have h : mainGlobals < s.heap.objs.size := (I.mod.glob.keeps I.bk).lt
 exact Nat.lt_trans (by decide) h
theorem d_write {h' : Heap} {t' : Nat} {ob : HO} (I : Inv X pins σ H s) (mu : Mut (H a)) (hs : Heap.SameBut a s.heap h') (he : ∃ q, h'.get? a = some q) (new : ObjOk X.prog X.w (upd H a ob) h' a ob) :
  Inv X pins σ (upd H a ob) { s with heap := h', toks := t' } :=
 I.write (x := a) (e := a) mu (.inl rfl) (fun b q hb z => (hs.2 b hb).trans z) he new
theorem dk_new {P : Program} {w : World} {H' : Hp} {h' : Heap} {kvs : List (Key × V)} {vs : List (Key × Value)} (z : kvs.length ≤ sizeLine) (hd : (a == sysModules) = false) (rel : KV kvs vs) (dd : h'.DictOf (mixKind P w) a vs) :
  ObjOk P w H' h' a (.dK kvs) := ⟨z, hd, vs, rel, dd⟩
theorem d_setItem {H' : Hp} {Q : Unit → Shared → Prop} (hu : A.units + 1 < cLine) (I : Inv X pins σ H s) (g : DPut H a y v H') (ry : RelV y u) (rv : RelV v r) (h : ∀ s', Inv X pins σ H' s' → Q () s') :
  wpAny (model X.prog X.w) A (setItem (.ref a) u r) Q E s := by
 rcases g with ⟨kvs, k, e, ey, l, eH⟩ | ⟨kvs, k, b, e, ey, eb, l, eH⟩
 ·subst ey eH
  obtain ⟨z, hd, vs, rel, dd⟩ := dk_of I.hok e
  have hz : vs.length ≤ sizeLine := by rw [← rel.length]; exact z
  have hl : (putK kvs k v).length ≤ sizeLine := by have := length_putK kvs k v; omega
  refine wpAny_setItem_pairs (hsz := hz) (kV_is ry) dd fun h' dd' hs => h _ ?_
  have he : ∃ q, h'.get? a = some q := let ⟨q, _, _, hq, _⟩ := dd'; ⟨q, hq⟩
  exact d_write I (by rw [e]; exact True.intro) hs he (dk_new hl hd (rel.put k rv) dd')
 ·subst ey eH
  cases (show u = Value.ref b from ry)
  obtain ⟨z, hd, xs, rel, dd⟩ := dt_of I.hok e
  have hz : xs.length ≤ sizeLine := by rw [← Paired.length rel]; exact z
  have hl : (putK kvs k v).length ≤ sizeLine := by have := length_putK kvs k v; omega
  refine wpAny_setItem_heap (hsz := hz) (tupleKind_room_in1 hu) (key_of I.hok eb) dd fun h' dd' hs => h _ ?_
  obtain ⟨q, es, ep, hq, h2, h3, h4, _, h5⟩ := dd'
  refine d_write I (by rw [e]; exact True.intro) hs ⟨q, hq⟩ ⟨hl, hd, _, (rel.put k eb rv).keeps fun c ys ec => ?_, q, es, ep, hq, h2, h3, h4, h5⟩
  rw [upd_ne (ne_of ec e (fun z => nomatch z))]
  exact ec
end
section
variable {X : Cx} {pins : List (Addr × Obj)} {σ : St} {H : Hp} {s : Shared} {a : Addr} {kvs : List (Key × V)} {k : Key} {u : Value} {A : Around} {E : Value → Shared → Prop}
end
def sDPut (td ty tv : TE) : TS := fun D σ H => tv σ H fun v H1 => td σ H1 fun x H2 => ty σ H2 fun y H3 => ∃ a H4, x = .ref a ∧ DPut H3 a y v H4 ∧ D.nx σ H4
section
variable {X : Cx} {o i e value : Expr} {pos pos' tpos : Pos} {td ty tv : TE}
theorem ps_dput (hu : X.A.units + 1 < cLine) (ho : PE X o td) (hi : PE X i ty) (hv : PE X value tv) (hs : swapsWith value (some (.Subscript o i pos')) pos.line X.env = pure false) :
  PS X (.Assign [.Subscript o i pos'] value pos) (sDPut td ty tv) := by
 intro pins s σ H D I h
 refine wpAny_Assign_Subscript (thn (hv pins s σ H _ I h) fun r s1 ⟨v, H1, I1, rv, q1⟩ => thn (ho pins s1 σ H1 _ I1 q1) fun u s2 ⟨x, H2, I2, rx, q2⟩ => thn (hi pins s2 σ H2 _ I2 q2) fun iv s3 ⟨y, H3, I3, ry, a, H4, ex, g, q3⟩ => ?_) hs
 subst ex
 obtain rfl : u = Value.ref a := rx
 exact d_setItem hu I3 g ry rv fun s4 I4 => ⟨σ, H4, I4, q3⟩
end
theorem dk_empty {P : Program} {w : World} {H : Hp} (h : Heap) (hb : sysModules < h.objs.size) : ObjOk P w H (h.push { cls := .type "dict", data := .dict #[] }) h.objs.size (.dK []) :=
 ⟨Nat.zero_le _, beq_eq_false_iff_ne.mpr (Ne.symm (Nat.ne_of_lt hb)), [], .nil, Heap.DictOf.new h⟩
def tDNewK : TE := fun _ H Q => ∀ p, H p = none → Q (.ref p) (upd H p (.dK []))
section
variable {X : Cx} {pos : Pos}
theorem pe_dnewK : PE X (.Dict [] [] pos) tDNewK := fun pins s σ H Q I h =>
 wpAny_Dict_empty ⟨.ref s.heap.objs.size, _, I.laid (a := s.heap.objs.size) (o := .dK []) (t' := s.toks) (fun _ _ q => Heap.get?_push_of_some _ q) (Nat.le_refl _) (dk_empty s.heap I.big), rfl, h _ (I.hok.fresh (Nat.le_refl _))⟩
end
structure M2 (X : Cx) (o : Expr) (m : Str) (apos : Pos) (e f : Expr) (cpos : Pos) : Prop where
 base : attributeBase o m X.env (eval o X.env) = eval o X.env
 few : ((backTo cpos (starEach [e, f] X.env)).all (fun x => !x.1) && (backToKw cpos (keywordEach [] X.env)).all (fun x => x.1.isSome)
  && decide (([e, f] : List Expr).length + ([] : List Keyword).length + (if ([] : List Keyword).isEmpty then 0 else 1) < 30)) = true
 line : (apos.endLine == cpos.line) = true
 trees : backTo cpos (starEach [e, f] X.env) = [(false, eval e X.env), (false, eval f X.env)]
def IsD (H : Hp) (a : Addr) : Prop := (∃ kvs, Rd H a (.dK kvs)) ∨ ∃ kvs, Rd H a (.dT kvs)
theorem isD_at {X : Cx} {pins : List (Addr × Obj)} {σ : St} {H : Hp} {s : Shared} {a : Addr} (I : Inv X pins σ H s) (d : IsD H a) :
  s.TypeIs (.ref a) "dict" ∧ (∀ b, Value.ref a = .ref b → ∃ ob, s.heap.get? b = some ob ∧ ob.dict = none) ∧ (a == sysModules) = false := by
 rcases d with ⟨kvs, e⟩ | ⟨kvs, e⟩
 ·obtain ⟨_, hd, vs, _, dd⟩ := dk_rd I.hok e
  refine ⟨dd.typeIs, fun b q => ?_, hd⟩
  cases q
  obtain ⟨ob, _, _, h1, h2, _⟩ := dd
  exact ⟨ob, h1, h2.2.1⟩
 ·obtain ⟨_, hd, xs, _, dd⟩ := dt_rd I.hok e
  refine ⟨dd.typeIs, fun b q => ?_, hd⟩
  cases q
  obtain ⟨ob, _, _, h1, h2, _⟩ := dd
  exact ⟨ob, h1, h2.2.1⟩
section
variable {X : Cx} {pins : List (Addr × Obj)} {σ : St} {H : Hp} {s : Shared} {a : Addr} {y d : V} {u r : Value} {o : Option V} {A : Around} {E : Value → Shared → Prop}
theorem d_get2 {Q : Value → Shared → Prop} (hu : A.units + 1 < cLine) (I : Inv X pins σ H s) (g : DGet H a y o) (ry : RelV y u) (rd : RelV d r) (h : ∀ w' s', Inv X pins σ H s' → RelV (o.getD d) w' → Q w' s') :
  wpAny (model X.prog X.w) A (call (.builtin "dict.get") [.ref a, u, r]) Q E s := by
 rcases g with ⟨kvs, k, e, ey, l⟩ | ⟨kvs, k, b, e, ey, eb, l⟩
 ·subst ey
  obtain ⟨z, hd, vs, rel, dd⟩ := dk_rd I.hok e
  refine call_meetsIn PySem.F.slot_dict_get dd.typeIs PySem.F.entry_dict_get (PySem.F.args_dict_get_3 _ _ _) (meets_dict_get_default (mixKind X.prog X.w) a (kV_is ry) hd r) ⟨_, dd.mapOf, h _ _ (I.tok _) ?_⟩
  rw [l]
  exact (rel.val k).getD rd
 ·subst ey
  cases (show u = Value.ref b from ry)
  obtain ⟨z, hd, xs, rel, dd⟩ := dt_rd I.hok e
  refine call_meetsIn PySem.F.slot_dict_get dd.typeIs PySem.F.entry_dict_get (PySem.F.args_dict_get_3 _ _ _) (meetsH_dict_get_default (tupleKind (mixKind X.prog X.w)) a b hd r) ⟨tupleKind_room_in1 hu, k, xs, key_of I.hok eb, dd, h _ _ (I.tok _) ?_⟩
  rw [l]
  exact (rel.val k).getD rd
end
def tDGet2 (td ty tx : TE) : TE := fun σ H Q => td σ H fun x H1 => ∃ a, x = .ref a ∧ IsD H1 a ∧ ty σ H1 fun y H2 => tx σ H2 fun z H3 => ∃ o, DGet H3 a y o ∧ Q (o.getD z) H3
section
variable {X : Cx} {o e f : Expr} {apos cpos : Pos} {td ty tx : TE}
theorem pe_dget2 (hu : X.A.units + 1 < cLine) (ho : PE X o td) (he : PE X e ty) (hf : PE X f tx) (m : M2 X o "get" apos e f cpos) : PE X (.Call (.Attribute o "get" apos) [e, f] [] cpos) (tDGet2 td ty tx) := by
 intro pins s σ H Q I h
 refine wpAny_Call_method m.base m.few m.line PySem.F.plainAttrs_dict PySem.F.slot_dict_get PySem.F.type_dict_get (thn (ho pins s σ H _ I h) fun u s1 ⟨x, H1, I1, rx, a, ex, d, q1⟩ => ?_)
 subst ex
 obtain rfl : u = Value.ref a := rx
 obtain ⟨t1, t2, _⟩ := isD_at I1 d
 refine ⟨t1, t2, ?_⟩
 rw [m.trees]
 refine Calls.callWith_builtin rfl (Calls.evalArgs_plain (Calls.spliced_cons (thn (he pins s1 σ H1 _ I1 q1) fun iv s2 ⟨y, H2, I2, ry, q2⟩ =>
  Calls.spliced_cons (thn (hf pins s2 σ H2 _ I2 q2) fun fv s3 ⟨z, H3, I3, rz, ov, g, q3⟩ => Calls.spliced_nil ?_))))
 exact d_get2 hu I3 g ry rz fun w' s4 I4 rw' => ⟨_, H3, I4, rw', q3⟩
end
section
variable {X : Cx} {pins : List (Addr × Obj)} {σ : St} {H : Hp} {s : Shared} {a : Addr} {kvs : List (Key × V)} {A : Around} {E : Value → Shared → Prop}
end
section
variable {X : Cx} {pins : List (Addr × Obj)} {σ : St} {H : Hp} {s : Shared} {a : Addr} {y : V} {u : Value} {A : Around} {E : Value → Shared → Prop}
end
end L2
namespace Nm
open PySem L2 Lw Dig
end Nm
namespace L2
open PySem PySem.Spec PyProof.Rows
section
variable {prog : Program} {w : World} {A : Around} {E : Value → Shared → Prop} {s : Shared}
end
end L2
namespace L2
open PySem PySem.Spec PyProof.Rows
section
variable {prog : Program} {w : World} {K : Type} [DecidableEq K] (knd : KeyKind prog w K)
variable {knd}
variable {A : Around} {E : Value → Shared → Prop} {s : Shared}
end
end L2
namespace L2
open PySem PySem.Spec PyProof.Rows
section
variable {X : Cx}
def rIsB (g : Bool → Bool) : R2 := fun x y H Q => ∃ b, y = .bl b ∧ Q (.bl (g (decide (x = .bl b)))) H
theorem op_notB : OpR X (compareOp .IsNot) (rIsB fun b => !b) := by
 intro pins s σ H x y v u Q I rx ry h
 obtain ⟨b, rfl, q⟩ := h
 cases ry
 cases x with
 | bl c =>
  cases rx
  refine wpAny_isNot_plain (by rfl) (fin_bl I q ?_)
  cases b <;> cases c <;> rfl
 | _ => first
  | (cases rx; exact wpAny_isNot_plain (by rfl) (fin_bl I q (by first | rfl | (cases b <;> rfl))))
  | (obtain ⟨t, rfl⟩ := rx; exact wpAny_isNot_plain (by rfl) (fin_bl I q (by first | rfl | (cases b <;> rfl))))
end
section
variable {K : PySem.W.Frag} {σ : St} {G : Hp} {ta tb : TE} {a b d : PyData}
theorem ev_isB {g : Bool → Bool} {c t : Bool} (h : Ev K ta σ G (.bool c)) : Ev K (tOp (rIsB g) ta (tC (.bl t))) σ G (.bool (g (decide (c = t)))) :=
 ev_op h ev_bl fun G1 H u v Q s1 s2 hu hv k => by
  rw [hu.bl, hv.bl]
  refine ⟨t, rfl, ?_⟩
  have e : decide (V.bl c = V.bl t) = decide (c = t) := decide_eq_decide.mpr ⟨fun z => by injection z, fun z => by rw [z]⟩
  rw [e]
  exact k _ G1 H (Grow.refl s2) (dat_bl _)
theorem ev_eqS' {g : Bool → Bool} (ha : Ev K ta σ G a) (hb : Ev K tb σ G b) (sh : SeqAt.shaped a = true ∧ SeqAt.shaped b = true ∧ SeqAt.noMix a b = true) : Ev K (tOp (rEqD K g) ta tb) σ G (.bool (g (PySem.Spec.same a b))) :=
 ev_op ha hb fun G1 H x y Q s1 s2 hx hy k => ⟨G1, a, b, s2, hx, hy, sh, k _ G1 H (Grow.refl s2) (dat_bl _)⟩
end
end L2
namespace L2
open PySem PySem.Spec PyProof.Rows
section
variable {X : Cx} {pins : List (Addr × Obj)} {σ : St} {H G : Hp} {s : Shared}
end
end L2
namespace L2
open PySem PySem.Spec PyProof.Rows
section
variable {X : Cx} {pins : List (Addr × Obj)} {σ : St} {H G : Hp} {s : Shared}
end
end L2
namespace L2
open PySem PySem.Spec PyProof.Rows
def rCatE (K : PySem.W.Frag) : R2 := fun x y H Q => ∃ a b xs ys, x = .ref a ∧ y = .ref b ∧ SqT K H a xs ∧ SqT K H b ys ∧ xs.length + ys.length ≤ sizeLine ∧ (xs = [] → Q (.ref b) H) ∧ (xs ≠ [] → ys = [] → Q (.ref a) H) ∧ (xs ≠ [] → ys ≠ [] → ∀ p, H p = none → Q (.ref p) (upd H p (.tup (xs ++ ys))))
theorem op_catTE {X : Cx} {K : PySem.W.Frag} (e : X.K = K) : OpR X (binaryOp .Add) (rCatE K) := by
 subst e
 intro pins s σ H x y v u Q I rx ry h
 obtain ⟨a, b, xs, ys, ex, ey, ha, hb, hz, q0, q1, q2⟩ := h
 by_cases hx : xs = []
 ·subst ex ey
  cases rx
  cases ry
  obtain ⟨its, r1, p1, _⟩ := I.tuple ha
  obtain ⟨its2, r2, p2, _⟩ := I.tuple hb
  have e0 : its = [] := r1.nil_iff.mpr hx
  obtain ⟨⟨cls, dd, data, sl⟩, ho, hc, n, hd⟩ := id p1
  obtain ⟨⟨cls2, dd2, data2, sl2⟩, ho2, hc2, n2, hd2⟩ := id p2
  simp only at hc hd hc2 hd2
  subst hc hd hc2 hd2
  exact concat_meets ⟨_, ho, rfl⟩ ⟨_, ho2, rfl⟩ noFill_tuple_add seq_tuple_add F.slot_tuple_add F.entry_tuple_add (F.args_tuple_add_2 _ _) (tuple_addW0 a b its.toArray its2.toArray n n2 dd dd2 sl sl2 (by simp [e0])) ⟨ho, ho2, .ref b, H, I, rfl, q0 hx⟩
 ·exact op_catT pins s σ H x y v u Q I rx ry ⟨a, b, xs, ys, ex, ey, ha, hb, hx, hz, q1 hx, q2 hx⟩
theorem ev_catE {K : PySem.W.Frag} {σ : St} {G : Hp} {ta tb : TE} {ds es : List PyData} (ha : Ev K ta σ G (.tuple ds)) (hb : Ev K tb σ G (.tuple es)) (hz : ds.length + es.length ≤ sizeLine) : Ev K (tOp (rCatE K) ta tb) σ G (.tuple (ds ++ es)) :=
 ev_op ha hb fun G1 H x y Q s1 s2 hx hy k => by
  obtain ⟨p, us, rfl, hp, hus⟩ := hx.tup
  obtain ⟨q, vs, rfl, hq, hvs⟩ := hy.tup
  have l1 := hus.length
  have l2 := hvs.length
  refine ⟨p, q, us, vs, rfl, rfl, s2.tup hp, s2.tup hq, by omega, fun z => ?_, fun z z2 => ?_, fun z z2 l hl => ?_⟩
  ·subst z
   have : ds = [] := by cases ds with | nil => rfl | cons => simp at l1
   subst this
   exact k _ G1 H (Grow.refl s2) (dat_tup hq hvs)
  ·subst z2
   have : es = [] := by cases es with | nil => rfl | cons => simp at l2
   subst this
   rw [List.append_nil] at k
   exact k _ G1 H (Grow.refl s2) (dat_tup hp hus)
  ·have g := grow_new (o := .tup (us ++ vs)) s2 hl
   exact k _ _ _ g (dat_tup (SqT.of upd_same) ((dats_append hus hvs).same g.gg))
end L2
namespace L2
open PySem PySem.Spec PyProof.Rows
structure Zap (z TI TO i1 i2 : Addr) (f1 f2 : List Addr) : Prop where
 iz : TI ≠ z
 oz : TO ≠ z
 az : i1 ≠ z
 bz : i2 ≠ z
 io : TI ≠ TO
 ia : TI ≠ i1
 ib : TI ≠ i2
 oa : TO ≠ i1
 ob : TO ≠ i2
 ab : i1 ≠ i2
 z1 : z ∉ f1
 z2 : z ∉ f2
 o1 : TO ∉ f1
 o2 : TO ∉ f2
 b1 : i2 ∉ f1
 a2 : i1 ∉ f2
section
variable {prog : Program} {w : World} {A : Around} {E : Value → Shared → Prop} {s : Shared} {z TI TO i1 i2 : Addr} {f1 f2 : List Addr} {n1 n2 k : Nat} {P1 P2 : Nat → Value → Prop} {S1 S2 : Nat → Heap → Prop} {a b : Value}
theorem ne_mem {c d : Addr} {f : List Addr} (h : d ∉ f) (hc : c ∈ f) : c ≠ d := fun e => h (e ▸ hc)
theorem zx_item {Q : Value → Shared → Prop} (Z : Zap z TI TO i1 i2 f1 f2) (D1 : Draws prog w A i1 f1 n1 P1 S1) (D2 : Draws prog w A i2 f2 n2 P2 S2) (hz : IsZip s.heap z TI TO .none) (ht : IsPair s.heap TI (.ref i1) (.ref i2)) (ho : IsPair s.heap TO a b) (t1 : S1 k s.heap) (t2 : S2 k s.heap) (k1 : k < n1) (k2 : k < n2)
  (q : ∀ x y h' tk, P1 k x → P2 k y → IsZip h' z TI TO (rawInt s.heap.objs.size) → IsPair h' TO x y → S1 (k + 1) h' → S2 (k + 1) h' → IsPair h' s.heap.objs.size x y →
   (∀ c o, c ≠ z → c ≠ TO → c ≠ i1 → c ≠ i2 → s.heap.get? c = some o → h'.get? c = some o) → Q (.ref s.heap.objs.size) { s with heap := h', toks := tk }) :
  wpAny (model prog w) A (Builtin.«zip.__next__» ⟨[.ref z], []⟩) (fun fin s' => ∃ v, fin = .done (.ret v) ∧ Q v s') E s := by
 refine wpAny_bind (m := field (.ref z) 2) (wpAny_field hz rfl (x := .bool false) rfl (wpAny_bind (m := field (.ref z) 3) (wpAny_field hz rfl (x := .ref TI) rfl (wpAny_bind (wpAny_seqItems ht rfl ?_)))))
 refine wpAny_bind (m := Builtin.SmallTypes.ownedTupleIsFree (.ref z)) ?_
 unfold Builtin.SmallTypes.ownedTupleIsFree; refine wpAny_bind (wpAny_field hz rfl (x := .none) rfl (wpAny_pure ?_)); rw [if_pos (by simp)]
 refine wpAny_bind (wpAny_rule (wpAny_bind (wpAny_field hz rfl (x := .ref TO) rfl (wpAny_bind (wpAny_setField_rec hz (by simp) fun g1 (z1 : IsZip g1 z TI TO .ellipsis) e1 => wpAny_bind ?_)))))
 simp only [List.zipIdx_cons, List.forIn_cons, List.zipIdx_nil, List.forIn_nil]
 refine wpAny_bind (wpAny_bind (wpAny_onRaise (wpAny_bind (m := Builtin.SmallTypes.nextOf (.ref i1)) ?_)))
 refine D1.item k _ _ _ k1 (D1.frame _ _ _ t1 fun c hc o e => e1.extBut _ _ (ne_mem Z.z1 hc) e) fun x g2 tk2 px u1 e2 => wpAny_pure ?_
 dsimp only at e2 ⊢
 have o2 : IsPair g2 TO a b := e2.extBut _ _ Z.oa (e1.extBut _ _ Z.oz ho)
 refine wpAny_bind (wpAny_seqItems o2 rfl (wpAny_bind (wpAny_updateSeq_pair o2 fun g3 (o3 : IsPair g3 TO x b) e3 => wpAny_bind (wpAny_letGo (wpAny_pure ?_)))))
 refine wpAny_bind (wpAny_bind (wpAny_onRaise (wpAny_bind (m := Builtin.SmallTypes.nextOf (.ref i2)) ?_)))
 refine D2.item k _ _ _ k2 (D2.frame _ _ _ t2 fun c hc o e => e3.extBut _ _ (ne_mem Z.o2 hc) (e2.extBut _ _ (ne_mem Z.a2 hc) (e1.extBut _ _ (ne_mem Z.z2 hc) e))) fun y g4 tk4 py u2 e4 => wpAny_pure ?_
 dsimp only at e4 ⊢
 have o4 : IsPair g4 TO x b := e4.extBut _ _ Z.ob o3
 refine wpAny_bind (wpAny_seqItems o4 rfl (wpAny_bind (wpAny_updateSeq_pair o4 fun g5 (o5 : IsPair g5 TO x y) e5 => wpAny_bind (wpAny_letGo (wpAny_pure (wpAny_pure (wpAny_bind (wpAny_seqItems o5 rfl (wpAny_bind (wpAny_newTuple ?_))))))))))
 have z5 : IsZip g5 z TI TO .ellipsis := e5.extBut _ _ Z.oz.symm (e4.extBut _ _ Z.bz.symm (e3.extBut _ _ Z.oz.symm (e2.extBut _ _ Z.az.symm z1)))
 have sz : g5.objs.size = s.heap.objs.size := by rw [e5.1, e4.1, e3.1, e2.1, e1.1]
 have kp : ∀ c o, c ≠ z → c ≠ TO → c ≠ i1 → c ≠ i2 → s.heap.get? c = some o → g5.get? c = some o := fun c o c1 c2 c3 c4 e => e5.extBut _ _ c2 (e4.extBut _ _ c4 (e3.extBut _ _ c2 (e2.extBut _ _ c3 (e1.extBut _ _ c1 e))))
 have u15 : S1 (k + 1) g5 := D1.frame _ _ _ u1 fun c hc o e => e5.extBut _ _ (ne_mem Z.o1 hc) (e4.extBut _ _ (ne_mem Z.b1 hc) (e3.extBut _ _ (ne_mem Z.o1 hc) e))
 have u25 : S2 (k + 1) g5 := D2.frame _ _ _ u2 fun c hc o e => e5.extBut _ _ (ne_mem Z.o2 hc) e
 have lz := Heap.lt_size z5
 refine wpAny_bind (m := Builtin.SmallTypes.ownedTupleHandOut (.ref z) (.ref g5.objs.size)) ?_
 unfold Builtin.SmallTypes.ownedTupleHandOut
 have z6 : IsZip (g5.push { cls := .type "tuple", data := .seq #[x, y] }) z TI TO .ellipsis := Heap.get?_push_of_some _ z5
 refine wpAny_bind (wpAny_setField_rec z6 (by simp) fun g7 (z7 : IsZip g7 z TI TO (rawInt g5.objs.size)) e7 => wpAny_setField_rec z7 (by simp) fun g8 (z8 : IsZip g8 z TI TO (rawInt g5.objs.size)) e8 => ?_)
 have up : ∀ c o, c ≠ z → g5.get? c = some o → g8.get? c = some o := fun c o c1 e => e8.extBut _ _ c1 (e7.extBut _ _ c1 (Heap.get?_push_of_some _ e))
 have t8 : IsPair g8 g5.objs.size x y := e8.extBut _ _ (Nat.ne_of_gt lz) (e7.extBut _ _ (Nat.ne_of_gt lz) (Heap.get?_push_size _ rfl))
 refine wpAny_pure ⟨.ref g5.objs.size, rfl, ?_⟩
 rw [sz] at z8 t8 ⊢
 exact q x y g8 _ px py z8 (up _ _ Z.oz o5) (D1.frame _ _ _ u15 fun c hc o e => up c o (ne_mem Z.z1 hc) e) (D2.frame _ _ _ u25 fun c hc o e => up c o (ne_mem Z.z2 hc) e) t8 fun c o c1 c2 c3 c4 e => up c o c1 (kp c o c1 c2 c3 c4 e)
theorem zx_end {Q : Fin → Shared → Prop} (Z : Zap z TI TO i1 i2 f1 f2) (D1 : Draws prog w A i1 f1 n1 P1 S1) (D2 : Draws prog w A i2 f2 n2 P2 S2) (hz : IsZip s.heap z TI TO .none) (ht : IsPair s.heap TI (.ref i1) (.ref i2)) (ho : IsPair s.heap TO a b) (t1 : S1 k s.heap) (t2 : S2 k s.heap) (hk : k = n1 ∨ (k < n1 ∧ k = n2))
  (q : ∀ h' e tk, (∀ c o, c ≠ z → c ≠ TO → c ≠ i1 → c ≠ i2 → s.heap.get? c = some o → h'.get? c = some o) → (∃ o, h'.get? e = some o ∧ o.cls = .type "StopIteration") → E (.ref e) { s with heap := h', toks := tk }) :
  wpAny (model prog w) A (Builtin.«zip.__next__» ⟨[.ref z], []⟩) Q E s := by
 refine wpAny_bind (m := field (.ref z) 2) (wpAny_field hz rfl (x := .bool false) rfl (wpAny_bind (m := field (.ref z) 3) (wpAny_field hz rfl (x := .ref TI) rfl (wpAny_bind (wpAny_seqItems ht rfl ?_)))))
 refine wpAny_bind (m := Builtin.SmallTypes.ownedTupleIsFree (.ref z)) ?_
 unfold Builtin.SmallTypes.ownedTupleIsFree; refine wpAny_bind (wpAny_field hz rfl (x := .none) rfl (wpAny_pure ?_)); rw [if_pos (by simp)]
 refine wpAny_bind (wpAny_rule (wpAny_bind (wpAny_field hz rfl (x := .ref TO) rfl (wpAny_bind (wpAny_setField_rec hz (by simp) fun g1 (z1 : IsZip g1 z TI TO .ellipsis) e1 => wpAny_bind ?_)))))
 simp only [List.zipIdx_cons, List.forIn_cons, List.zipIdx_nil, List.forIn_nil]
 refine wpAny_bind (wpAny_bind (wpAny_onRaise (wpAny_bind (m := Builtin.SmallTypes.nextOf (.ref i1)) ?_)))
 have fr1 : S1 k g1 := D1.frame _ _ _ t1 fun c hc o e => e1.extBut _ _ (ne_mem Z.z1 hc) e
 rcases hk with rfl | ⟨k1, rfl⟩
 ·refine D1.done _ _ _ fr1 fun g2 e e2 he => ?_
  obtain ⟨oe, hoe, hce⟩ := he
  have z2 : IsZip g2 z TI TO .ellipsis := e2 _ _ Z.az.symm z1
  have ez : e ≠ z := fun x => by subst x; rw [z2] at hoe; cases hoe; simp at hce
  exact wpAny_setField_rec z2 (by simp) fun g3 _ e3 => q g3 e _ (fun c o c1 _ c3 _ x => e3.extBut _ _ c1 (e2 _ _ c3 (e1.extBut _ _ c1 x))) ⟨oe, e3.extBut _ _ ez hoe, hce⟩
 ·refine D1.item k _ _ _ k1 fr1 fun x g2 tk2 px u1 e2 => wpAny_pure ?_
  dsimp only at e2 ⊢
  have o2 : IsPair g2 TO a b := e2.extBut _ _ Z.oa (e1.extBut _ _ Z.oz ho)
  refine wpAny_bind (wpAny_seqItems o2 rfl (wpAny_bind (wpAny_updateSeq_pair o2 fun g3 (o3 : IsPair g3 TO x b) e3 => wpAny_bind (wpAny_letGo (wpAny_pure ?_)))))
  refine wpAny_bind (wpAny_bind (wpAny_onRaise (wpAny_bind (m := Builtin.SmallTypes.nextOf (.ref i2)) ?_)))
  refine D2.done _ _ _ (D2.frame _ _ _ t2 fun c hc o e => e3.extBut _ _ (ne_mem Z.o2 hc) (e2.extBut _ _ (ne_mem Z.a2 hc) (e1.extBut _ _ (ne_mem Z.z2 hc) e))) fun g4 e e4 he => ?_
  dsimp only at e4 ⊢
  obtain ⟨oe, hoe, hce⟩ := he
  have z4 : IsZip g4 z TI TO .ellipsis := e4 _ _ Z.bz.symm (e3.extBut _ _ Z.oz.symm (e2.extBut _ _ Z.az.symm z1))
  have ez : e ≠ z := fun x => by subst x; rw [z4] at hoe; cases hoe; simp at hce
  exact wpAny_setField_rec z4 (by simp) fun g5 _ e5 => q g5 e _ (fun c o c1 c2 c3 c4 x => e5.extBut _ _ c1 (e4 _ _ c4 (e3.extBut _ _ c2 (e2.extBut _ _ c3 (e1.extBut _ _ c1 x))))) ⟨oe, e5.extBut _ _ ez hoe, hce⟩
end
end L2
namespace L2
open PySem PySem.Spec PyProof.Rows
section
variable {prog : Program} {w : World} {A : Around} {E : Value → Shared → Prop} {s : Shared}
theorem zx_next {z TI TO i1 i2 : Addr} {f1 f2 : List Addr} {n1 n2 k : Nat} {P1 P2 : Nat → Value → Prop} {S1 S2 : Nat → Heap → Prop} {a b : Value} {Q : Option Value → Shared → Prop} (Z : Zap z TI TO i1 i2 f1 f2) (D1 : Draws prog w A.in1 i1 f1 n1 P1 S1) (D2 : Draws prog w A.in1 i2 f2 n2 P2 S2) (hz : IsZip s.heap z TI TO .none) (ht : IsPair s.heap TI (.ref i1) (.ref i2)) (ho : IsPair s.heap TO a b)
  (t1 : S1 k s.heap) (t2 : S2 k s.heap) (k1 : k < n1) (k2 : k < n2)
  (q : ∀ x y h' tk, P1 k x → P2 k y → IsZip h' z TI TO (rawInt s.heap.objs.size) → IsPair h' TO x y → S1 (k + 1) h' → S2 (k + 1) h' → IsPair h' s.heap.objs.size x y →
   (∀ c o, c ≠ z → c ≠ TO → c ≠ i1 → c ≠ i2 → s.heap.get? c = some o → h'.get? c = some o) → Q (some (.ref s.heap.objs.size)) { s with heap := h', toks := tk }) : wpAny (model prog w) A (pyNext (.ref z)) Q E s := by
 have hT : s.TypeIs (.ref z) "zip" := ⟨_, hz, rfl⟩
 unfold pyNext
 exact wpAny_bind (wpAny_attempt (wpAny_callSpecial?_slot (name := Str.ofString "__next__") hT F.slot_zip_next (wpAny_call_entry F.slot_zip_next hT F.entry_zip_next (zx_item Z D1 D2 hz ht ho t1 t2 k1 k2 fun x y h' tk p1 p2 b1 b2 b3 b4 b5 b6 => wpAny_pure (q x y h' tk p1 p2 b1 b2 b3 b4 b5 b6)) (F.args_zip_next_1 _))))
theorem zx_stop {z TI TO i1 i2 : Addr} {f1 f2 : List Addr} {n1 n2 k : Nat} {P1 P2 : Nat → Value → Prop} {S1 S2 : Nat → Heap → Prop} {a b : Value} {Q : Option Value → Shared → Prop} (Z : Zap z TI TO i1 i2 f1 f2) (D1 : Draws prog w A.in1 i1 f1 n1 P1 S1) (D2 : Draws prog w A.in1 i2 f2 n2 P2 S2) (hz : IsZip s.heap z TI TO .none) (ht : IsPair s.heap TI (.ref i1) (.ref i2)) (ho : IsPair s.heap TO a b)
  (t1 : S1 k s.heap) (t2 : S2 k s.heap) (hk : k = n1 ∨ (k < n1 ∧ k = n2))
  (q : ∀ h' tk, (∀ c o, c ≠ z → c ≠ TO → c ≠ i1 → c ≠ i2 → s.heap.get? c = some o → h'.get? c = some o) → Q none { s with heap := h', toks := tk }) : wpAny (model prog w) A (pyNext (.ref z)) Q E s := by
 have hT : s.TypeIs (.ref z) "zip" := ⟨_, hz, rfl⟩
 unfold pyNext
 refine wpAny_bind (wpAny_attempt (wpAny_callSpecial?_slot (name := Str.ofString "__next__") hT F.slot_zip_next (wpAny_call_entry F.slot_zip_next hT F.entry_zip_next (zx_end Z D1 D2 hz ht ho t1 t2 hk fun h' e tk hk' he => ?_) (F.args_zip_next_1 _))))
 obtain ⟨o, ho', hc⟩ := he
 exact wpAny_bind (wpAny_isInstance (T := "StopIteration") (b := true) ⟨o, ho', hc⟩ isSubtype_stop (wpAny_pure (q _ _ hk')))
end
theorem zap_of {n l1 l2 : Nat} (b1 : l1 < n) (b2 : l2 < n) : Zap (n + 4) (n + 2) (n + 3) n (n + 1) [n, l1] [n + 1, l2] := by
 have h : ∀ {a b c : Nat}, a ≠ b → a ≠ c → a ∉ [b, c] := fun h1 h2 hm => by
  rcases List.mem_cons.mp hm with e | e
  ·exact h1 e
  ·exact h2 (List.mem_singleton.mp e)
 constructor
 all_goals first
  | exact h (by omega) (by omega)
  | (show (_ : Nat) ≠ _; omega)
section
variable {X : Cx}
theorem boot_zip : bootBuiltins "zip" = some (.type "zip") := by decide +kernel
end
end L2
namespace L2
open PySem PySem.Spec PyProof.Rows
abbrev tIt (l : Addr) : Obj := { cls := .type "tuple_iterator", data := .fields #[.ref l, .int 0 0] }
abbrev zq2 (h : Heap) (l1 l2 : Addr) : Heap := (h.push (tIt l1)).push (tIt l2)
abbrev zq4 (h : Heap) (l1 l2 : Addr) : Heap := ((zq2 h l1 l2).push { cls := .type "tuple", data := .seq #[.ref h.objs.size, .ref (h.push (tIt l1)).objs.size] }).push { cls := .type "tuple", data := .seq #[.none, .none] }
abbrev zq5 (h : Heap) (l1 l2 : Addr) : Heap := (zq4 h l1 l2).push { cls := .type "zip", data := .fields #[.none, .bool false, .bool false, .ref (zq2 h l1 l2).objs.size, .ref ((zq2 h l1 l2).push { cls := .type "tuple", data := .seq #[.ref h.objs.size, .ref (h.push (tIt l1)).objs.size] }).objs.size] }
theorem IsTuple.push' {h : Heap} {l : Addr} {xs : Array Value} (hl : h.IsTuple l xs) (o : Obj) : (h.push o).IsTuple l xs := by
 obtain ⟨ob, e, r⟩ := hl
 exact ⟨ob, Heap.get?_push_of_some _ e, r⟩
theorem zipT_new (l1 l2 : Addr) (xs ys : Array Value) :
  Meets (Builtin.«zip.__new__» ⟨[.type "zip", .ref l1, .ref l2], []⟩) (fun _ R s => s.heap.IsTuple l1 xs ∧ s.heap.IsTuple l2 ys ∧ R (.ok (.ret (.ref (zq4 s.heap l1 l2).objs.size))) { s with heap := zq5 s.heap l1 l2 }) :=
 .of_wp fun prog w A R s h => by
  obtain ⟨hp, g, d, tk, os⟩ := s; obtain ⟨t1, t2, h⟩ := h
  have q0 := sub_zip
  have q1 : Heap.IsTuple (Shared.heap ⟨hp, g, d, tk, os⟩) l1 xs := t1
  have q2 : Heap.IsTuple (Shared.heap ⟨hp.push (tIt l1), g, d, tk, os⟩) l2 ys := IsTuple.push' t2 _
  wp_walk using wpAny_pyIter_tuple q1, wpAny_pyIter_tuple q2
  exact ⟨_, rfl, h⟩
section
variable {prog : Program} {w : World} {A : Around} {E : Value → Shared → Prop} {s : Shared}
theorem call_zipT {l1 l2 : Addr} {xs ys : Array Value} {Q : Value → Shared → Prop} (q1 : s.heap.IsTuple l1 xs) (q2 : s.heap.IsTuple l2 ys)
  (h : ∀ h', IsZip h' (s.heap.objs.size + 4) (s.heap.objs.size + 2) (s.heap.objs.size + 3) .none → IsPair h' (s.heap.objs.size + 2) (.ref s.heap.objs.size) (.ref (s.heap.objs.size + 1)) → IsPair h' (s.heap.objs.size + 3) .none .none →
   h'.IsTupleIter s.heap.objs.size l1 0 → h'.IsTupleIter (s.heap.objs.size + 1) l2 0 → (∀ c o, s.heap.get? c = some o → h'.get? c = some o) → Q (.ref (s.heap.objs.size + 4)) { s with heap := h' }) :
  wpAny (model prog w) A (call (.type "zip") [.ref l1, .ref l2]) Q E s := by
 refine callType_new F.called_zip (by decide) (F.typeCall_zip_2 _ _) (F.newCall_zip_2 _ _) (fun obj => F.args_object_init_3 obj _ _) F.entry_zip_new (zipT_new l1 l2 xs ys) ⟨q1, q2, ?_⟩
 have a1 : (s.heap.push (tIt l1)).objs.size = s.heap.objs.size + 1 := Heap.size_push ..
 have a2 : (zq2 s.heap l1 l2).objs.size = s.heap.objs.size + 2 := by rw [Heap.size_push, a1]
 have a3 : ((zq2 s.heap l1 l2).push { cls := .type "tuple", data := .seq #[.ref s.heap.objs.size, .ref (s.heap.push (tIt l1)).objs.size] }).objs.size = s.heap.objs.size + 3 := by rw [Heap.size_push, a2]
 have a4 : (zq4 s.heap l1 l2).objs.size = s.heap.objs.size + 4 := by rw [Heap.size_push, a3]
 have u : ∀ {hh : Heap} {o : Obj} {c : Addr} {ob : Obj}, hh.get? c = some ob → (hh.push o).get? c = some ob := fun e => Heap.get?_push_of_some _ e
 have g5 : (zq5 s.heap l1 l2).get? (zq4 s.heap l1 l2).objs.size = some _ := Heap.get?_push_size _ rfl
 have g4 : (zq5 s.heap l1 l2).get? ((zq2 s.heap l1 l2).push { cls := .type "tuple", data := .seq #[.ref s.heap.objs.size, .ref (s.heap.push (tIt l1)).objs.size] }).objs.size = some _ := u (Heap.get?_push_size _ rfl)
 have g3 : (zq5 s.heap l1 l2).get? (zq2 s.heap l1 l2).objs.size = some _ := u (u (Heap.get?_push_size _ rfl))
 have g2 : (zq5 s.heap l1 l2).get? (s.heap.push (tIt l1)).objs.size = some (tIt l2) := u (u (u (Heap.get?_push_size _ rfl)))
 have g1 : (zq5 s.heap l1 l2).get? s.heap.objs.size = some (tIt l1) := u (u (u (u (Heap.get?_push_size _ rfl))))
 rw [a2, a3, a4] at g5
 rw [a1, a2] at g3
 rw [a3] at g4
 rw [a1] at g2
 show _ ∧ _
 rw [a4]
 exact ⟨⟨_, g5, rfl⟩, h _ g5 g3 g4 ⟨_, g1, rfl, rfl⟩ ⟨_, g2, rfl, rfl⟩ fun c o x => u (u (u (u (u x))))⟩
end
def ItzT (K : PySem.W.Frag) (a1 a2 : Addr) : It :=
 ⟨fun i H => ∃ xs x ys y, SqT K H a1 xs ∧ xs[i]? = some x ∧ SqT K H a2 ys ∧ ys[i]? = some y, fun i H v H' => ∃ p x y, H p = none ∧ v = .ref p ∧ H' = upd H p (.tup [x, y]) ∧ (∀ xs, SqT K H a1 xs → xs[i]? = some x) ∧ ∀ ys, SqT K H a2 ys → ys[i]? = some y,
  fun i H => ∃ xs ys, SqT K H a1 xs ∧ SqT K H a2 ys ∧ (i = xs.length ∨ (i < xs.length ∧ i = ys.length))⟩
theorem turn_zipT {P : Program} {w : World} {K : PySem.W.Frag} {elts : List Expr} {tk : Nat} {tpos : Pos} {a1 a2 z TI TO i1 i2 : Addr} (Z : Zap z TI TO i1 i2 [i1, a1] [i2, a2]) (n1 : a1 ≠ i1) (n2 : a2 ≠ i2) : Turn P w K (.Tuple elts tk tpos) (ItzT K a1 a2) [z, TI, TO, i1, i2] z (fun i h => IsZip h z TI TO .none ∧ IsPair h TI (.ref i1) (.ref i2) ∧ (∃ a b, IsPair h TO a b) ∧ h.IsTupleIter i1 a1 i ∧ h.IsTupleIter i2 a2 i) where
 mem := by simp
 obj := fun i h st c hc => by
  obtain ⟨hz, ht, ⟨a, b, ho⟩, ⟨o1, e1, _, d1⟩, ⟨o2, e2, _, d2⟩⟩ := st
  simp only [List.mem_cons, List.not_mem_nil, or_false] at hc
  rcases hc with rfl | rfl | rfl | rfl | rfl
  ·exact ⟨_, hz, fun v q => by cases q⟩
  ·exact ⟨_, ht, fun v q => by cases q⟩
  ·exact ⟨_, ho, fun v q => by cases q⟩
  ·exact ⟨o1, e1, fun v q => by rw [d1] at q; cases q⟩
  ·exact ⟨o2, e2, fun v q => by rw [d2] at q; cases q⟩
 keep := fun i h h' st k => by
  obtain ⟨hz, ht, ⟨a, b, ho⟩, ⟨o1, e1, r1⟩, ⟨o2, e2, r2⟩⟩ := st
  exact ⟨k z (by simp) _ hz, k TI (by simp) _ ht, ⟨a, b, k TO (by simp) _ ho⟩, ⟨o1, k i1 (by simp) _ e1, r1⟩, ⟨o2, k i2 (by simp) _ e2, r2⟩⟩
 item := by
  intro X hP hw hK hc i pins s σ H E I hf st hg
  subst hP hw hK
  obtain ⟨xs, x, ys, y, hq1, hx, hq2, hy⟩ := hg
  obtain ⟨its1, rv1, p1, _⟩ := I.tuple hq1
  obtain ⟨its2, rv2, p2, _⟩ := I.tuple hq2
  obtain ⟨u1, hu1, ru1⟩ := rv1.get hx
  obtain ⟨u2, hu2, ru2⟩ := rv2.get hy
  obtain ⟨hz, ht, ⟨a, b, ho⟩, t1, t2⟩ := st
  have l1 : i < its1.toArray.size := by have := (List.getElem?_eq_some_iff.mp hu1).1; simpa using this
  have l2 : i < its2.toArray.size := by have := (List.getElem?_eq_some_iff.mp hu2).1; simpa using this
  have hh : X.A.in1.handled = none := I.ok.hd hc
  refine zx_next Z (draws_tup hh i1 a1 n1 its1.toArray) (draws_tup hh i2 a2 n2 its2.toArray) hz ht ho ⟨t1, p1⟩ ⟨t2, p2⟩ l1 l2 fun x' y' h' tk' hP1 hP2 b1 b2 b3 b4 b5 b6 => ?_
  have ex : x' = u1 := by
   have : its1[i]? = some x' := by simpa using hP1
   rw [hu1] at this; exact (Option.some.inj this).symm
  have ey : y' = u2 := by
   have : its2[i]? = some y' := by simpa using hP2
   rw [hu2] at this; exact (Option.some.inj this).symm
  subst ex ey
  refine ⟨_, rfl, wpAny_letOwnedTupleGo_zip b1 fun h2 hz2 hs2 => ?_⟩
  have zt : z ≠ s.heap.objs.size := Nat.ne_of_lt (Heap.lt_size hz)
  have new : ObjOk X.prog X.w (upd H s.heap.objs.size (.tup [x, y])) h2 s.heap.objs.size (.tup [x, y]) :=
   ⟨by show 2 ≤ sizeLine; decide, [x', y'], .cons ru1 (.cons ru2 .nil), ⟨_, (hs2.2 _ (Ne.symm zt)).trans b5, rfl, _, rfl⟩, _, (hs2.2 _ (Ne.symm zt)).trans b5, rfl⟩
  have kk : ∀ b o, b ∉ [z, TI, TO, i1, i2] → s.heap.get? b = some o → h2.get? b = some o := fun b o hb q => by
   simp only [List.mem_cons, List.not_mem_nil, or_false, not_or] at hb
   exact (hs2.2 b hb.1).trans (b6 b o hb.1 hb.2.2.1 hb.2.2.2.1 hb.2.2.2.2 q)
  have fresh := I.hok.fresh (Nat.le_refl s.heap.objs.size)
  refine ⟨.ref s.heap.objs.size, _, I.turnsNew (t' := tk') kk hf (Nat.le_refl _) new, rfl, ⟨_, x, y, fresh, rfl, rfl, fun zs hy' => by rw [I.tuple_inj hy' hq1]; exact hx, fun zs hy' => by rw [I.tuple_inj hy' hq2]; exact hy⟩, ⟨hz2, ?_, ⟨_, _, (hs2.2 TO Z.oz).trans b2⟩, ?_, ?_⟩, fun c hc => ?_⟩
  ·exact (hs2.2 TI Z.iz).trans (b6 TI _ Z.iz Z.io Z.ia Z.ib ht)
  ·obtain ⟨o3, g1, g2⟩ := b3.1
   exact ⟨o3, (hs2.2 i1 Z.az).trans g1, g2⟩
  ·obtain ⟨o3, g1, g2⟩ := b4.1
   exact ⟨o3, (hs2.2 i2 Z.bz).trans g1, g2⟩
  ·have lt : ∃ o, s.heap.get? c = some o := by
    simp only [List.mem_cons, List.not_mem_nil, or_false] at hc
    rcases hc with rfl | rfl | rfl | rfl | rfl
    ·exact ⟨_, hz⟩
    ·exact ⟨_, ht⟩
    ·exact ⟨_, ho⟩
    ·obtain ⟨o, e, _⟩ := t1; exact ⟨o, e⟩
    ·obtain ⟨o, e, _⟩ := t2; exact ⟨o, e⟩
   obtain ⟨o, e⟩ := lt
   rw [upd_ne (Nat.ne_of_lt (Heap.lt_size e))]; exact (hf c hc).1
 done := by
  intro X hP hw hK hc i pins s σ H E I hf st hg
  subst hP hw hK
  obtain ⟨xs, ys, hq1, hq2, hi⟩ := hg
  obtain ⟨its1, rv1, p1, _⟩ := I.tuple hq1
  obtain ⟨its2, rv2, p2, _⟩ := I.tuple hq2
  have e1 := rv1.length
  have e2 := rv2.length
  obtain ⟨hz, ht, ⟨a, b, ho⟩, t1, t2⟩ := st
  have hh : X.A.in1.handled = none := I.ok.hd hc
  refine zx_stop Z (draws_tup hh i1 a1 n1 its1.toArray) (draws_tup hh i2 a2 n2 its2.toArray) hz ht ho ⟨t1, p1⟩ ⟨t2, p2⟩ (by simp only [List.size_toArray]; omega) fun h' tk' b6 => ?_
  exact ⟨rfl, I.turns (t' := tk') (fun c u hc' q => by
   simp only [List.mem_cons, List.not_mem_nil, or_false, not_or] at hc'
   exact b6 c u hc'.1 hc'.2.2.1 hc'.2.2.2.1 hc'.2.2.2.2 q) hf⟩
 self := fun _ _ _ _ _ st h => wpAny_pyIter_zip st.1 h
section
variable {X : Cx}
def iZpT (K : PySem.W.Frag) (ta : TA) : TI := fun σ H R => ta σ H fun vs H1 => ∃ a1 a2, vs = [.ref a1, .ref a2] ∧ (∃ xs, SqT K H1 a1 xs) ∧ (∃ ys, SqT K H1 a2 ys) ∧ R (ItzT K a1 a2) H1
theorem pi_zipT {K : PySem.W.Frag} (eK : X.K = K) {a b : Expr} {ta : TA} {p pos : Pos} {elts : List Expr} {tk : Nat} {tpos : Pos} (hg : Gl X "zip") (hm : X.mg "zip" = none) (ha : PA X [a, b] ta) (hs : starEach [a, b] X.env = [(false, eval a X.env), (false, eval b X.env)] := by rfl) (hs2 : starEach [b] X.env = [(false, eval b X.env)] := by rfl) :
  PI X (.Tuple elts tk tpos) (.Call (.Name "zip" p) [a, b] [] pos) (iZpT K ta) := by
 subst eK
 intro pins s σ H R I h
 refine Call_ (ld_blt I hg hm boot_zip (PyProof.Rows.callWith_type1 (thn (ha pos pins s σ H _ I h) fun us s1 ⟨vs, H1, I1, r1, q1⟩ => ?_) (by rw [hs, hs2]) (by rw [hs2]; rfl)))
 obtain ⟨l1, l2, e, ⟨xs, hq1⟩, ⟨ys, hq2⟩, q⟩ := q1
 subst e
 cases r1 with
 | cons r rr =>
  cases rr with
  | cons r' rr =>
   cases rr
   cases (show _ = Value.ref l1 from r)
   cases (show _ = Value.ref l2 from r')
   obtain ⟨its1, rv1, p1, _⟩ := I1.tuple hq1
   obtain ⟨its2, rv2, p2, _⟩ := I1.tuple hq2
   have b1 : l1 < s1.heap.objs.size := by obtain ⟨o, e, _⟩ := id p1; exact Heap.lt_size e
   have b2 : l2 < s1.heap.objs.size := by obtain ⟨o, e, _⟩ := id p2; exact Heap.lt_size e
   refine call_zipT (show s1.heap.IsTuple l1 its1.toArray from p1) (show s1.heap.IsTuple l2 its2.toArray from p2) fun h' hz ht ho i1 i2 hk => ?_
   have Z := zap_of b1 b2
   refine wpAny_pyIter_zip hz ⟨s1.heap.objs.size + 4, _, _, _, H1, rfl, I1.kept (t' := s1.toks) hk, turn_zipT Z (Nat.ne_of_lt b1) (Nat.ne_of_lt (Nat.lt_succ_of_lt b2)), ⟨hz, ht, ⟨_, _, ho⟩, i1, i2⟩, fun c hc => ?_, q⟩
   have hc' : s1.heap.objs.size ≤ c := by
    simp only [List.mem_cons, List.not_mem_nil, or_false] at hc
    rcases hc with rfl | rfl | rfl | rfl | rfl
    ·exact Nat.le_add_right _ _
    ·exact Nat.le_add_right _ _
    ·exact Nat.le_add_right _ _
    ·exact Nat.le_refl _
    ·exact Nat.le_add_right _ _
   exact I1.fpOk hc' (I1.hok.fresh hc')
end
end L2
namespace L2
open PySem PySem.Spec PyProof.Rows
structure CompScope2 (fr sc : Scope) (x x2 : Str) (cap : List Str) : Prop where
 kind : sc.kind = .function
 cell : ∀ p ∈ sc.names, p.2 ≠ .cell
 names : ∀ p ∈ sc.names, p.2 = .local → sc.names.lookup p.1 = some .local
 tgt : sc.names.lookup x = some .local
 tgt2 : sc.names.lookup x2 = some .local
 free : ∀ p ∈ sc.names, p.2 = .free → fr.names.lookup p.1 = some .cell
 caps : ∀ y ∈ cap, (y, NameKind.free) ∈ sc.names
 nd : (x :: x2 :: cap).Nodup
 noboth : ∀ y ∈ cap, sc.names.lookup y ≠ some .local
section
variable {X : Cx} {pins : List (Addr × Obj)} {σ : St} {H : Hp} {s : Shared} {sc : Scope} {x x2 : Str} {cap : List Str}
theorem CompScope2.cells (S : CompScope2 X.env.scope sc x x2 cap) (ok : X.Ok) : ∀ p ∈ sc.names, p.2 = .free → ∃ c, X.env.cells.lookup p.1 = some c :=
 fun p hp e => ok.has p.1 (.inl (S.free p hp e))
theorem CompScope2.sub (S : CompScope2 X.env.scope sc x x2 cap) (ok : X.Ok) {y : Str} {c : Addr} (h : (clOf X.env sc.names []).lookup y = some c) : X.env.cells.lookup y = some c :=
 clOf_mem (S.cells ok) (fun _ _ z => by simp at z) h
theorem comp_inv2 (S : CompScope2 X.env.scope sc x x2 cap) {js : List Nat} (hjs : js.map (fun j => X.N[j]?) = cap.map some) (I : Inv X pins σ H s) {fp : List Addr} (hf : ∀ b ∈ fp, FpOk X pins H b) (hlt : ∀ b ∈ fp, b < s.heap.objs.size)
  {h1 : Heap} {tk : Nat} {D C : Addr} {oD : Obj} {m : Str → Option Value} (hD : D = s.heap.objs.size) (hC : C = s.heap.objs.size + 1) (keep : ∀ b o, s.heap.get? b = some o → h1.get? b = some o) (hoD : h1.get? D = some oD) (hnc : ∀ v, oD.data ≠ .cell v) (hns : h1.Ns C m) :
  Inv (compCx X sc (x :: x2 :: cap) C s H fp) [(D, oD)] (none :: none :: capV σ js) H { s with heap := h1, toks := tk } := by
 subst hD hC
 have lenJ : js.length = cap.length := by have := congrArg List.length hjs; simpa using this
 have ok := I.ok
 refine ⟨⟨ok.mod, S.kind, ok.glob, ok.blt, ?_, fun y z c h1 h2 => ok.inj y z c (S.sub ok h1) (S.sub ok h2), fun y hy => ?_, (fun y c h => Bool.noConfusion h), ok.hd, ok.frames, .inl rfl, fun b hb => ⟨?_, fun y c e => (hf b hb).2.2.2.2.1 y c (S.sub ok e)⟩, I.bs, Nat.le_trans ok.bsz I.sz, fun b o e hb => ?_, fun b hb hb' => ?_, I.stack, I.stkFree⟩,
  rfl, I.bare, Un.kept keep, ⟨m, hns, fun i y v e1 e2 e3 => ?_⟩, fun y c e => ?_, I.hok.fresh (Nat.le_succ _), fun y c e => I.freeC y c (S.sub ok e), fun p hp => ?_, I.hok.kept keep, ?_⟩
 ·exact Nat.le_succ _
 ·have hy' : ∃ k, (y, k) ∈ (relabel sc X.env).names ∧ (k = .cell ∨ k = .free) := by
   rcases hy with hy | hy
   ·exact ⟨_, PySem.mem_of_lookup hy, .inl rfl⟩
   ·exact ⟨_, PySem.mem_of_lookup hy, .inr rfl⟩
  obtain ⟨k, hm, hk⟩ := hy'
  obtain ⟨k', hm', hk'⟩ := relabel_mem hm
  have hfree : k' = .free := by
   rcases hk' with e | ⟨e, _⟩
   ·subst e
    rcases hk with e | e
    ·exact absurd e (S.cell _ hm')
    ·exact e
   ·exact e
  subst hfree
  exact Option.isSome_iff_exists.mp (clOf_has hm')
 ·exact neLt (Nat.lt_succ_of_lt (hlt b hb))
 ·obtain ⟨_, _, _, z, _⟩ := hf b hb
  rcases z with z | z
  ·exact ok.noex b o e z
  ·have := Heap.lt_size (ok.bs b o e).1
   exact absurd (Nat.lt_of_lt_of_le this z) (Nat.lt_irrefl _)
 ·obtain ⟨_, z1, z2, _⟩ := hf b hb
  rcases List.mem_cons.mp (I.stkSub b hb') with z | z
  ·exact z1 z
  ·exact z2 z
 ·match i, e1, e2 with
  | 0, e1, e2 =>
   have e2' : (none : Option V) = some v := by simpa using e2
   cases e2'
  | 1, e1, e2 =>
   have e2' : (none : Option V) = some v := by simpa using e2
   cases e2'
  | i + 2, e1, e2 =>
   have e1' : cap[i]? = some y := by simpa using e1
   have e2' : (capV σ js)[i]? = some (some v) := by simpa using e2
   have hy : y ∈ cap := List.mem_of_getElem? e1'
   unfold capV at e2'
   rw [List.getElem?_map] at e2'
   cases ej : js[i]? with
   | none => rw [ej] at e2'; cases e2'
   | some j =>
    rw [ej] at e2'
    have e2'' : (σ[j]?).join = some v := Option.some.inj e2'
    have eN : X.N[j]? = some y := by
     have := congrArg (fun l => l[i]?) hjs
     simp only [List.getElem?_map, ej, e1', Option.map_some] at this
     exact Option.some.inj this
    have eσ : σ[j]? = some (some v) := by
     cases q : σ[j]? with
     | none => rw [q] at e2''; cases e2''
     | some w' =>
      rw [q] at e2''
      have : w' = some v := by simpa using e2''
      rw [this]
    have kc : X.env.scope.names.lookup y = some .cell := S.free (y, .free) (S.caps y hy) rfl
    obtain ⟨m0, hn0, hl0⟩ := I.loc
    obtain ⟨u, ru, lk⟩ := hl0 j y v eN eσ (.inr (.inl kc))
    refine ⟨u, ru, ?_⟩
    rcases lk with ⟨k, _⟩ | ⟨_, c, ec, hc⟩
    ·have k' : X.env.scope.names.lookup y = some .local := k
     rw [kc] at k'; cases k'
    ·obtain ⟨c', hc'⟩ := Option.isSome_iff_exists.mp (clOf_has (env := X.env) (acc := []) (S.caps y hy))
     have hcc : c' = c := Option.some.inj ((S.sub ok hc').symm.trans ec)
     subst hcc
     refine .inr ⟨?_, c', hc', ?_⟩
     ·rcases e3 with e3 | e3 | e3
      ·exfalso
       have hm := PySem.mem_of_lookup e3
       obtain ⟨k', hm', hk'⟩ := relabel_mem hm
       rcases hk' with e | ⟨_, e⟩
       ·subst e
        exact S.noboth y hy (S.names _ hm' rfl)
       ·cases e
      ·exact .inl e3
      ·exact .inr e3
     ·obtain ⟨o, ho, hd⟩ := hc
      exact ⟨o, keep _ o ho, hd⟩
 ·obtain ⟨v, o, ho, hd⟩ := I.cell y c (S.sub ok e)
  exact ⟨v, o, keep _ o ho, hd⟩
 ·have hp' : p = (s.heap.objs.size, oD) := by simpa using hp
  subst hp'
  refine ⟨hoD, I.hok.fresh (Nat.le_refl _), neLt (Nat.lt_succ_self _), fun hb => ?_, hnc⟩
  obtain ⟨_, o, ho, _⟩ := I.stack.mem hb
  exact Nat.lt_irrefl _ (Heap.lt_size ho)
 ·show (none :: none :: capV σ js).length = (x :: x2 :: cap).length
  unfold capV
  simp [lenJ]
theorem comp_end2 (S : CompScope2 X.env.scope sc x x2 cap) (I : Inv X pins σ H s) {fp : List Addr} (hf : ∀ b ∈ fp, FpOk X pins H b) {D C : Addr} {pn' : List (Addr × Obj)} {σ' : St} {H' : Hp} {s' : Shared} {ys : List V} {its : List Value} {k : Nat} {h' : Heap}
  (hD : D = s.heap.objs.size) (hC : C = s.heap.objs.size + 1) (J : Inv (compCx X sc (x :: x2 :: cap) C s H fp) pn' σ' H' s') (hnD : H' D = none) (hoD : s'.heap.get? D = some { cls := .type "list", data := .seq its.toArray k }) (rv : Vals ys its) (hz : ys.length ≤ sizeLine)
  (hs : Heap.SameBut C s'.heap h') : Inv X pins σ (upd H' D (.lst ys)) { s' with heap := h' } := by
 subst hD hC
 have base : Un (frs X.stack) fp H H' s.heap s'.heap := J.base
 have hnC : H' (s.heap.objs.size + 1) = none := J.free
 have neC : ∀ {b : Addr} {o : Obj}, s.heap.get? b = some o → b ≠ s.heap.objs.size + 1 := fun e => neLt (Nat.lt_succ_of_lt (Heap.lt_size e))
 have neD : ∀ {b : Addr} {o : Obj}, s.heap.get? b = some o → b ≠ s.heap.objs.size := fun e => neLt (Heap.lt_size e)
 have neDH : ∀ {b : Addr} {o : HO}, H b = some o → b ≠ s.heap.objs.size := fun e => neLt (I.hok.lt e)
 refine I.call' (s' := { s' with heap := h' }) (ch := fp) J.os ⟨fun b o e n hb hx => ?_, fun b o e n hb hx => ?_, fun b o e n hx => ?_, fun b o e hx => ?_, fun b xs e => ?_, fun b o u e => ?_, fun b ps e => ?_⟩ (fun b u e => ?_) J.bare fun b hb => ?_
 ·exact (hs.2 b (neC e)).trans (base.keep b o e n hb hx)
 ·obtain ⟨sl, q⟩ := base.slot b o e n hb hx
  exact ⟨sl, (hs.2 b (neC e)).trans q⟩
 ·rw [upd_ne (neD e)]; exact base.free b o e n hx
 ·obtain ⟨o', q⟩ := base.there b o e hx
  exact ⟨o', (hs.2 b (neC e)).trans q⟩
 ·rw [upd_ne (neDH e)]; exact base.tups b xs e
 ·rw [upd_ne (neDH e)]; exact base.frzs b o u e
 ·rw [upd_ne (neDH e)]; exact base.tbls b ps e
 ·by_cases hb : b = s.heap.objs.size
  ·subst hb
   rw [upd_same] at e
   cases e
   exact ⟨hz, its, k, rv, (hs.2 _ (neLt (Nat.lt_succ_self _))).trans hoD⟩
  ·rw [upd_ne hb] at e
   have J' : ObjOk X.prog X.w H' s'.heap b u := J.hok b u e
   refine J'.stay (fun c v hc q => (hs.2 c ?_).trans q) (fun c q => ?_) (fun c xs q => ?_) fun c o u q => ?_
   ·rintro rfl
    rcases hc with rfl | hc
    ·rw [hnC] at e; cases e
    ·rw [hnC] at hc; cases hc
   ·rw [upd_ne (ne_of_none q hnD)]; exact q
   ·rw [upd_ne (ne_of_none q hnD)]; exact q
   ·rw [upd_ne (ne_of_none q hnD)]; exact q
 ·obtain ⟨_, z1, _, z3, z4, z5⟩ := hf b hb
  exact ⟨z3, z1, z4, z5⟩
end
section
variable {X : Cx} {pins : List (Addr × Obj)} {σ : St} {H : Hp} {s : Shared} {sc : Scope} {x x2 : Str} {cap : List Str}
def LCw2 (K : PySem.W.Frag) (J : It) (js : List Nat) (σ : St) (tt : TT) (te : TE) (Q : VK) (W : Nat → Nat → List V → Hp → Prop) : Prop :=
 ∀ i m ys H, W i m ys H → ys.length < sizeLine ∧
  ((J.stop i H ∧ ∀ p, H p = none → Q (.ref p) (upd H p (.lst ys))) ∨
   (J.go i H ∧ ∀ x H', J.yld i H x H' → ∃ p u1 u2, x = .ref p ∧ SqT K H' p [u1, u2] ∧ tt (some u1 :: some u2 :: capV σ js) H' fun b H2 => if b = true then te (some u1 :: some u2 :: capV σ js) H2 fun v H3 => ∃ m', m' < m ∧ W (i + 1) m' (ys ++ [v]) H3 else ∃ m', m' < m ∧ W (i + 1) m' ys H2))
def tLC2 (K : PySem.W.Frag) (wi : TI) (js : List Nat) (tt : TT) (te : TE) : TE := fun σ H Q => wi σ H fun J H1 => ∃ W : Nat → Nat → List V → Hp → Prop, (∃ m, W 0 m [] H1) ∧ LCw2 K J js σ tt te Q W
theorem comp_run2 (S : CompScope2 X.env.scope sc x x2 cap) {js : List Nat} (hjs : js.map (fun j => X.N[j]?) = cap.map some) (hc : X.calm = true) {elt iter : Expr} {ifs : List Expr} {pos px py tpos : Pos} {tk : Nat} {tt : TT} {te : TE}
  (hb : ∀ C s0 H0 ex, PIf (compCx X sc (x :: x2 :: cap) C s0 H0 ex) ifs tt ∧ PE (compCx X sc (x :: x2 :: cap) C s0 H0 ex) elt te)
  (I : Inv X pins σ H s) {J : It} {fp : List Addr} {it : Addr} {tn : Nat → Heap → Prop} (T : Turn X.prog X.w X.K (.Tuple [.Name x px, .Name x2 py] tk tpos) J fp it tn) (st : tn 0 s.heap) (hf : ∀ b ∈ fp, FpOk X pins H b)
  {Q : VK} {W : Nat → Nat → List V → Hp → Prop} (w0 : ∃ m, W 0 m [] H) (turn : LCw2 X.K J js σ tt te Q W) {RR : Value → Addr → Result → Shared → Prop} {E : Value → Shared → Prop}
  (hR : ∀ D C s' σ' H' ys its k, D = s.heap.objs.size → C = s.heap.objs.size + 1 → Inv (compCx X sc (x :: x2 :: cap) C s H fp) [(D, { cls := .type "list", data := .seq its.toArray k })] σ' H' s' → Vals ys its → ys.length ≤ sizeLine → (∀ p, H' p = none → Q (.ref p) (upd H' p (.lst ys))) → RR (.ref D) C (.ok .next) s') :
  wpAny (model X.prog X.w) X.A (newList []) (fun acc s₃ => wpAny (model X.prog X.w) X.A (newFunctionEnv sc X.env.globals (clOf X.env sc.names []) [] X.env.qual none .none (some X.env)) (fun cenv s₄ =>
   codeAny (model X.prog X.w) X.A (.compStart (.ListComp elt [⟨(.Tuple [.Name x px, .Name x2 py] tk tpos), iter, ifs, 0⟩] sc pos) 0 (.ref it) acc { cenv with scope := relabel sc X.env }) (RR acc cenv.locals) s₄) E s₃) E s := by
 refine wpAny_newObj_type (wpAny_newFunctionEnv S.cell (by intro y hy; simp at hy) (fun h₁ hns₁ hsb₁ => ?_) S.kind)
 dsimp only at hns₁ hsb₁ ⊢
 have hlt : ∀ b ∈ fp, b < s.heap.objs.size := fun b hb' => by
  obtain ⟨o, e, _⟩ := T.obj 0 _ st b hb'
  exact Heap.lt_size e
 generalize hH2 : s.heap.push { cls := .type "list", dict := none, data := .seq ([] : List Value).toArray } = H2 at hns₁ hsb₁ ⊢
 have hC : H2.objs.size = s.heap.objs.size + 1 := by rw [← hH2, Heap.size_push]
 have old : ∀ b o, s.heap.get? b = some o → h₁.get? b = some o := fun b o e =>
  hsb₁.extBut b o (by rw [hC]; exact neLt (Nat.lt_succ_of_lt (Heap.lt_size e))) (Heap.get?_push_of_some _ (hH2 ▸ Heap.get?_push_of_some _ e))
 have hacc : h₁.get? s.heap.objs.size = some { cls := .type "list", data := .seq ([] : List Value).toArray } :=
  hsb₁.extBut _ _ (by rw [hC]; exact neLt (Nat.lt_succ_self _)) (Heap.get?_push_of_some _ (hH2 ▸ Heap.get?_push_size _ rfl))
 have st₁ : tn 0 h₁ := T.keep _ _ _ st fun b _ o e => old b o e
 obtain ⟨m0, w0⟩ := w0
 rw [hC] at hns₁ hsb₁ ⊢
 generalize hCe : s.heap.objs.size + 1 = C at hns₁ hsb₁ hR ⊢
 generalize hDe : s.heap.objs.size = D at hacc hR ⊢
 have hDe' := hDe.symm
 have hC' : C = s.heap.objs.size + 1 := hCe.symm
 have ltD : ∀ {b : Addr}, b < s.heap.objs.size → b ≠ D := fun h => by rw [← hDe]; exact neLt h
 have loop : ∀ s₃ : Shared, s₃ = { s with heap := h₁, toks := s.toks + ([] : List (Str × Value)).length } →
   codeAny (model X.prog X.w) X.A (.compLoop (.ListComp elt [⟨(.Tuple [.Name x px, .Name x2 py] tk tpos), iter, ifs, 0⟩] sc pos) 0 (.ref it) (.ref D) (compEnvC sc (clOf X.env sc.names []) C X.env)) (RR (.ref D) C) s₃ := by
  rintro s₃ rfl
  have I0 : Inv (compCx X sc (x :: x2 :: cap) C s H fp) [(D, { cls := .type "list", data := .seq ([] : List Value).toArray })] (none :: none :: capV σ js) H { s with heap := h₁, toks := s.toks + ([] : List (Str × Value)).length } :=
   comp_inv2 S hjs I hf hlt hDe' hC' old hacc (fun v z => by cases z) hns₁
  have ndN : (compCx X sc (x :: x2 :: cap) C s H fp).N.Nodup := S.nd
  have hxl : (compCx X sc (x :: x2 :: cap) C s H fp).env.scope.names.lookup x = some .local := lookup_relabel_local S.tgt
  have hxl2 : (compCx X sc (x :: x2 :: cap) C s H fp).env.scope.names.lookup x2 = some .local := lookup_relabel_local S.tgt2
  have fpD : ∀ b ∈ fp, b ≠ D := fun b hb' => ltD (hlt b hb')
  refine comp_turns (fun n s' => ∃ i v0 v1 H' ys its k, Inv (compCx X sc (x :: x2 :: cap) C s H fp) [(D, { cls := .type "list", data := .seq its.toArray k })] (v0 :: v1 :: capV σ js) H' s' ∧ tn i s'.heap ∧ (∀ b ∈ fp, H' b = none) ∧ Vals ys its ∧ W i n ys H')
   ?_ m0 ⟨0, none, none, H, [], [], 0, I0, st₁, fun b hb' => (hf b hb').1, .nil, w0⟩
  rintro n s3 ⟨i, v0, v1, H3, ys, its, k, I3, st3, fr3, rv, w3⟩
  obtain ⟨hlen, hor⟩ := turn i n ys H3 w3
  have stat : ∀ {H' : Hp} {o : Obj}, (∀ b ∈ fp, H' b = none) → ∀ b ∈ fp, FpOk (compCx X sc (x :: x2 :: cap) C s H fp) [(D, o)] H' b := fun {H' o} hn b hb' =>
   ⟨hn b hb', (I3.ok.exf b hb').1, I3.ok.exfs b hb', .inl hb', (I3.ok.exf b hb').2, fun p hp => by
    have hp' : p = (D, o) := by simpa using hp
    rw [hp']
    exact Ne.symm (fpD b hb')⟩
  rcases hor with ⟨stop, qn⟩ | ⟨go, step⟩
  ·refine thn (T.done (compCx X sc (x :: x2 :: cap) C s H fp) rfl rfl rfl hc i _ s3 _ H3 _ I3 (stat fr3) st3 stop) fun r s4 ⟨hr, I4⟩ => ?_
   subst hr
   exact hR D C s4 _ H3 ys its k rfl rfl I4 rv (Nat.le_of_lt hlen) qn
  ·refine thn (T.item (compCx X sc (x :: x2 :: cap) C s H fp) rfl rfl rfl hc i _ s3 _ H3 _ I3 (stat fr3) st3 go) fun r s4 ⟨u, hr, h4⟩ => ?_
   subst hr
   refine thn h4 fun _ s5 ⟨xv, H5, I5, r5, y5, st5, fr5⟩ => ?_
   have I5' := I5.pinned (stat fr5) (T.obj _ _ st5)
   have hg : PG (compCx X sc (x :: x2 :: cap) C s H fp) (.Tuple [.Name x px, .Name x2 py] tk tpos) (gTup X.K 2 (gCons (gName 0) (gCons (gName 1) gNil))) := pg_tup hc (pgs_cons (pg_name ndN rfl (.inl hxl) (.inr hxl)) (pgs_cons (pg_name ndN rfl (.inl hxl2) (.inr hxl2)) pgs_nil))
   obtain ⟨pv', u1, u2, exv, hsq, st'⟩ := step xv H5 y5
   subst exv
   refine thn (hg _ s5 _ H5 (.ref pv') u (fun σ2 H2 => σ2 = some u1 :: some u2 :: capV σ js ∧ H2 = H5) I5' r5 ⟨pv', [u1, u2], rfl, hsq, rfl, u1, [u2], rfl, u2, [], rfl, rfl, rfl, rfl⟩) fun _ s6 ⟨σ6, H6, I6, e6, e6'⟩ => ?_
   subst e6 e6'
   refine thn ((hb C s H fp).1 _ s6 _ H6 _ I6 st') fun ok s7 ⟨H7, I7, q7⟩ => ?_
   have fin : ∀ {s8 : Shared} {H8 : Hp} {v8 v9 : Option V}, Inv (compCx X sc (x :: x2 :: cap) C s H fp) ([(D, { cls := .type "list", data := .seq its.toArray k })] ++ pinsAt fp s5.heap) (v8 :: v9 :: capV σ js) H8 s8 → tn (i + 1) s8.heap ∧ (∀ b ∈ fp, H8 b = none) ∧ s8.heap.get? D = some { cls := .type "list", data := .seq its.toArray k } ∧ H8 D = none ∧ D ≠ C := fun {s8 H8 v8 v9} I8 => by
    have pinD := I8.pin (D, { cls := .type "list", data := .seq its.toArray k }) (List.mem_append_right _ (List.mem_append_left _ (List.mem_singleton.mpr rfl)))
    have pinF : ∀ b ∈ fp, ∀ o, s5.heap.get? b = some o → s8.heap.get? b = some o ∧ H8 b = none := fun b hb' o e =>
     have z := I8.pin (b, o) (List.mem_append_right _ (List.mem_append_right _ (mem_pinsAt hb' e)))
     ⟨z.1, z.2.1⟩
    refine ⟨T.keep _ _ _ st5 fun b hb' o e => (pinF b hb' o e).1, fun b hb' => ?_, pinD.1, pinD.2.1, pinD.2.2.1⟩
    obtain ⟨o, e, _⟩ := T.obj _ _ st5 b hb'
    exact (pinF b hb' o e).2
   cases ok with
   | false =>
    rw [if_neg Bool.false_ne_true] at q7 ⊢
    obtain ⟨m', hm, w7⟩ := q7
    obtain ⟨f1, f2, _⟩ := fin I7
    exact ⟨m', hm, i + 1, some u1, some u2, H7, ys, its, k, I7.unpinned, f1, f2, rv, w7⟩
   | true =>
    rw [if_pos rfl] at q7 ⊢
    refine thn ((hb C s H fp).2 _ s7 _ H7 _ I7 q7) fun u8 s8 ⟨v, H8, I8, r8, q8⟩ => ?_
    obtain ⟨f1, f2, f3, f4, f5⟩ := fin I8
    obtain ⟨m', hm, w8⟩ := q8
    have rv' : Vals (ys ++ [v]) (its ++ [u8]) := rv.append (.cons r8 .nil)
    refine wpAny_list_append_plain ⟨k, f3⟩ (fun h9 hl9 hs9 => ?_) (by rw [List.size_toArray, ← rv.length]; exact Nat.le_of_lt hlen)
    obtain ⟨k9, e9⟩ := hl9
    have e9' : h9.get? D = some { cls := .type "list", data := .seq (its ++ [u8]).toArray k9 } := by rw [e9]; simp
    have In : Inv (compCx X sc (x :: x2 :: cap) C s H fp) (pinsAt fp s5.heap) (some u1 :: some u2 :: capV σ js) H8 s8 := I8.pins_of fun p hp => I8.pin p (List.mem_append_right _ (List.mem_append_right _ hp))
    have It' : Inv (compCx X sc (x :: x2 :: cap) C s H fp) (pinsAt fp s5.heap) (some u1 :: some u2 :: capV σ js) H8 { s8 with heap := h9 } :=
     In.turned (it := D) (h' := h9) (t' := s8.toks) (fun b o hb' e => hs9.extBut b o hb' e) f4 f5 (.inr (Nat.le_of_eq hDe)) (fun y c e z => by
      obtain ⟨v', o, ho, _⟩ := I.cell y c (S.sub I.ok e)
      exact ltD (Heap.lt_size ho) z) fun p hp z => by
      have hp' : p ∈ pinsAt fp s5.heap := by simpa using hp
      exact fpD p.1 (of_pinsAt hp').1 z
    refine ⟨m', hm, i + 1, some u1, some u2, H8, ys ++ [v], its ++ [u8], k9, It'.pins_of fun p hp => ?_, T.keep _ _ _ f1 fun b hb' o e => hs9.extBut b o (fpD b hb') e, f2, rv', w8⟩
    have hp' : p = (D, { cls := .type "list", data := .seq (its ++ [u8]).toArray k9 }) := by simpa using hp
    subst hp'
    refine ⟨e9', f4, f5, fun hb' => ?_, fun v z => by cases z⟩
    obtain ⟨_, o, ho, _⟩ := I.stack.mem hb'
    exact ltD (Heap.lt_size ho) rfl
 exact codeAny_compStart_list (loop _ rfl) (T.self X.A 0 _ _ _ st₁ (loop _ rfl))
theorem pe_lc2 (S : CompScope2 X.env.scope sc x x2 cap) {js : List Nat} (hjs : js.map (fun j => X.N[j]?) = cap.map some) (hc : X.calm = true) (hxe : ∀ e s, ¬ X.xe e s) {elt iter : Expr} {ifs : List Expr} {pos px py tpos : Pos} {tk : Nat} {wi : TI} {tt : TT} {te : TE}
  (hi : PI X (.Tuple [.Name x px, .Name x2 py] tk tpos) iter wi) (hb : ∀ C s0 H0 ex, PIf (compCx X sc (x :: x2 :: cap) C s0 H0 ex) ifs tt ∧ PE (compCx X sc (x :: x2 :: cap) C s0 H0 ex) elt te)
  (hs : ∀ x, foldedSetIterable iter X.env x = pure x := by intro _; rfl) : PE X (.ListComp elt [⟨(.Tuple [.Name x px, .Name x2 py] tk tpos), iter, ifs, 0⟩] sc pos) (tLC2 X.K wi js tt te) := by
 intro pins s σ H Q I h
 rw [eval_ListComp]
 refine wpAny_comprehension_free (use := none) rfl hs (closureFor_eq (S.cells I.ok)) S.kind S.names (thn (hi pins s σ H _ I h) fun xv s₁ h₁ => thn h₁ fun itv s₂ h₂ => ?_)
 obtain ⟨it, fp, tn, J, H2, e, I2, T, st2, f2, W, w0, turn⟩ := h₂
 subst e
 refine comp_run2 (Q := Q) (RR := fun acc C => compPost (model X.prog X.w) X.A X.xe none (EP X pins σ Q) acc C) S hjs hc hb I2 T st2 f2 w0 turn ?_
 intro D C s' σ' H' ys its k hD hC J' rv hz q
 obtain ⟨m, hn, _⟩ := J'.loc
 have pinD := J'.pin (D, { cls := .type "list", data := .seq its.toArray k }) (List.mem_append_right _ (List.mem_singleton.mpr rfl))
 exact ⟨m, hn, fun h' hs' => ⟨.ref D, _, comp_end2 S I2 f2 hD hC J' pinD.2.1 pinD.1 rv hz hs', rfl, q D pinD.2.1⟩⟩
end
end L2
namespace L2
open PySem PySem.Spec PyProof.Rows
section
variable {K : PySem.W.Frag} {σ : St} {G : Hp}
theorem ev_lcZ {ta : TA} {js : List Nat} {te : TE} {ds es : List PyData} (f : PyData → PyData → PyData) (h : EvA K ta σ G [.tuple ds, .tuple es]) (hj : ds.length < sizeLine)
  (hc : ∀ G2 (i : Nat) a b x y, Same G G2 → ds[i]? = some a → es[i]? = some b → Dat K G2 x a → Dat K G2 y b → Ev K te (some x :: some y :: capV σ js) G2 (f a b)) : Ev K (tLC2 K (iZpT K ta) js tNoIf te) σ G (.list ((ds.zip es).map fun p => f p.1 p.2)) := fun G1 H s1 s2 Q k =>
 h G1 H s1 s2 _ fun vs G2 H2 g2 hv => by
  obtain ⟨v1, r, rfl, h1, hv⟩ := hv.cons
  obtain ⟨v2, r, rfl, h2, hv⟩ := hv.cons
  rw [hv.nil]
  obtain ⟨p1, xs, rfl, hp1, hx⟩ := h1.tup
  obtain ⟨p2, ys, rfl, hp2, hy⟩ := h2.tup
  have lx := hx.length
  have ly := hy.length
  refine ⟨p1, p2, rfl, ⟨xs, g2.gh.tup hp1⟩, ⟨ys, g2.gh.tup hp2⟩, fun i m us H' => m = (ds.zip es).length - i ∧ i ≤ (ds.zip es).length ∧ us.length = i ∧ ∃ G', Grow G2 H2 G' H' ∧ Dats K G' us (((ds.zip es).take i).map fun p => f p.1 p.2), ⟨_, rfl, Nat.zero_le _, rfl, G2, Grow.refl g2.gh, by simpa using dats_nil⟩, ?_⟩
  rintro i m us H' ⟨rfl, hi, hul, G', g', hus⟩
  have hzl : (ds.zip es).length = min ds.length es.length := List.length_zip
  refine ⟨by omega, ?_⟩
  have t1 : SqT K H' p1 xs := (g'.gg.trans g'.gh).tup hp1
  have t2 : SqT K H' p2 ys := (g'.gg.trans g'.gh).tup hp2
  by_cases hin : i = (ds.zip es).length
  ·refine .inl ⟨⟨xs, ys, t1, t2, by omega⟩, fun p hp => ?_⟩
   have g3 := grow_new (o := .lst us) g'.gh hp
   rw [hin, List.take_length] at hus
   exact k _ _ _ ((g2.trans g').trans g3) (dat_lst upd_same (hus.same g3.gg))
  ·have i1 : i < ds.length := by omega
   have i2 : i < es.length := by omega
   obtain ⟨x, ex, dx⟩ := hx.get (List.getElem?_eq_getElem i1)
   obtain ⟨y, ey, dy⟩ := hy.get (List.getElem?_eq_getElem i2)
   refine .inr ⟨⟨xs, x, ys, y, t1, ex, t2, ey⟩, fun v H'' hyl => ?_⟩
   obtain ⟨p, x', y', hp, rfl, rfl, hx', hy'⟩ := hyl
   have e1 := hx' xs t1
   rw [ex] at e1
   have e2 := hy' ys t2
   rw [ey] at e2
   cases e1
   cases e2
   refine ⟨p, x, y, rfl, SqT.of upd_same, tNoIf_of ?_⟩
   have g3 := grow_new (o := .tup [x, y]) g'.gh hp
   have g23 := g'.trans g3
   refine hc (upd G' p (.tup [x, y])) i ds[i] es[i] x y (s1.trans (g2.gg.trans g23.gg)) (List.getElem?_eq_getElem i1) (List.getElem?_eq_getElem i2) (dx.same g23.gg) (dy.same g23.gg) _ _ (Same.refl _) g3.gh _ fun v G4 H4 g4 hv => ?_
   refine ⟨_, by omega, rfl, by omega, by simp [hul], G4, g23.trans g4, ?_⟩
   have hz : (ds.zip es).take (i + 1) = (ds.zip es).take i ++ [(ds[i], es[i])] := by
    rw [List.take_succ, List.getElem?_eq_getElem (by omega), List.getElem_zip]; rfl
   rw [hz, List.map_append]
   exact dats_append ((hus.same g3.gg).same g4.gg) (dats_cons hv dats_nil)
end
end L2
namespace L2
open PySem PySem.Spec PyProof.Rows Lw
section
variable {K : PySem.W.Frag} {B : Hp} {E : Addr → Prop} {G0 H0 G H G' H' : Hp} {σ : St} {ρ : List PV} {F : Nat → List Addr} {ta tb te : TE} {a b d : PyData} {ds es : List PyData}
theorem er_cb {r : List V → Hp → VK → Prop} {t : TA} (h : Ea K B t ρ ds) (hr : ∀ G1 H xs (Q : VK), Same G1 H → Dats K G1 xs ds → (∀ v G' H', Grow G1 H G' H' → Dat K G' v d → Q v H') → r xs H Q) : Er K B (tCB r t) ρ d := fun G σ r' => ev_cb (h G σ r') fun G1 H xs Q _ s2 hx k => hr G1 H xs Q s2 hx k
theorem er_neg {i : Int} (h : Er K B te ρ (.int i)) : Er K B (tUn (rU fun i => .int (-i)) te) ρ (.int (-i)) := fun G σ r G1 H s1 s2 Q k => h G σ r G1 H s1 s2 _ fun v G2 H2 g hv => ⟨i, hv.int, k _ G2 H2 g (dat_int _)⟩
def Eo (K : PySem.W.Frag) (B : Hp) (t : TO) (ρ : List PV) (o : Option Int) : Prop := ∀ G σ, Rx K B G σ ρ → ∀ H (Q : Option Int → Hp → Prop), Q o H → t σ H Q
theorem eo_none : Eo K B tNoPart ρ none := fun _ _ _ _ _ q => q
theorem eo_int {i : Int} : Eo K B (tPart (tC (.int i))) ρ (some i) := fun _ _ _ _ _ q => ⟨i, rfl, q⟩
theorem eo_var {i : Nat} {j : Int} (h : ρ[i]? = some (.dat (.int j))) : Eo K B (tPart (tVar i)) ρ (some j) := fun G σ r H Q q => by
 obtain ⟨x, hx, hd⟩ := r.2.1 i _ h
 exact ⟨x, hx, j, hd.int, q⟩
theorem eo_op {g : Int → Int → Int} {i : Nat} {j c : Int} (h : ρ[i]? = some (.dat (.int j))) : Eo K B (tPart (tOp (rI0 fun a b => .int (g a b)) (tVar i) (tC (.int c)))) ρ (some (g j c)) := fun G σ r H Q q => by
 obtain ⟨x, hx, hd⟩ := r.2.1 i _ h
 exact ⟨x, hx, j, c, hd.int, rfl, g j c, rfl, q⟩
abbrev slD (ds : List PyData) (lo hi : Option Int) : List PyData := (ds.drop (HT.sIx ds.length 0 lo)).take (HT.sIx ds.length ds.length hi - HT.sIx ds.length 0 lo)
theorem er_slT {tl th : TO} {lo hi : Option Int} (h : Er K B te ρ (.tuple ds)) (hl : Eo K B tl ρ lo) (hh : Eo K B th ρ hi) : Er K B (tSl (rSlTA K) te tl th) ρ (.tuple (slD ds lo hi)) := fun G σ r => ev_slT (h G σ r) (hl G σ r) (hh G σ r)
theorem er_catE (ha : Er K B ta ρ (.tuple ds)) (hb : Er K B tb ρ (.tuple es)) (hz : ds.length + es.length ≤ sizeLine) : Er K B (tOp (rCatE K) ta tb) ρ (.tuple (ds ++ es)) := fun G σ r => ev_catE (ha G σ r) (hb G σ r) hz
theorem ev_catL {ta tb : TE} (ha : Ev K ta σ G (.list ds)) (hb : Ev K tb σ G (.list es)) (hz : ds.length + es.length ≤ sizeLine) : Ev K (tOp rCat ta tb) σ G (.list (ds ++ es)) := ev_op ha hb fun G1 H x y Q s1 s2 hx hy k => by
 obtain ⟨p, xs, rfl, hp, hxs⟩ := hx.lst
 obtain ⟨q, ys, rfl, hq, hys⟩ := hy.lst
 refine ⟨p, q, xs, ys, rfl, rfl, s2 _ _ hp, s2 _ _ hq, by rw [hxs.length, hys.length]; exact hz, fun l hl => ?_⟩
 have g := grow_new (o := .lst (xs ++ ys)) s2 hl
 exact k _ _ _ g (dat_lst upd_same ((dats_append hxs hys).same g.gg))
theorem er_catL (ha : Er K B ta ρ (.list ds)) (hb : Er K B tb ρ (.list es)) (hz : ds.length + es.length ≤ sizeLine) : Er K B (tOp rCat ta tb) ρ (.list (ds ++ es)) := fun G σ r => ev_catL (ha G σ r) (hb G σ r) hz
theorem er_srtI {t : TA} {ns : List Int} (h : Ea K B t ρ [.list (ns.map .int)]) (h64 : ns.length < 64) : Er K B (tCB (rSrtI K) t) ρ (.list ((srtI ns).map .int)) := fun G σ r => ev_srtI (h G σ r) h64
theorem er_lrng {t : TA} {j : Int} (h : Ea K B t ρ [.int j]) (h0 : 0 ≤ j) (h1 : j.toNat ≤ 2 ^ 24) : Er K B (tLRng t) ρ (.list ((List.range j.toNat).map fun (i : Nat) => PyData.int i)) := fun G σ r => lrng_ev (h G σ r) h0 h1
theorem er_all {t : TA} {bs : List Bool} (h : Ea K B t ρ [.list (bs.map .bool)]) : Er K B (tCB (fun xs H Q => ∃ (p : Addr) (bs : List Bool), xs = [.ref p] ∧ SqL K H p (bs.map V.bl) ∧ Q (.bl (bs.all id)) H) t) ρ (.bool (bs.all id)) := er_cb h fun G1 H xs Q s2 hx k => by
 obtain ⟨y, ys, rfl, hy, hn⟩ := hx.cons
 cases hn.nil
 obtain ⟨p, zs, rfl, hp, hz⟩ := hy.lst
 have e : zs = bs.map V.bl := by
  clear h hy hp k hx hn
  induction bs generalizing zs with
  | nil => exact hz.nil
  | cons q l ih =>
   obtain ⟨u, us, rfl, hu, hus⟩ := hz.cons
   rw [hu.bl, ih us hus]; rfl
 subst e
 exact ⟨p, bs, rfl, SqL.of (s2 _ _ hp), k _ G1 H (Grow.refl s2) (dat_bl _)⟩
theorem er_callPT {P : Addr} {cr : Nat → Nat → Option Str} {R : List PyData → PyData → Prop} {X : XK} {t : TA} (hB : B P = some (.tbl cr)) (h : Ea K B t ρ ds) (hR : R ds d) : Er K B (tCall (spPT K P cr R) [] X t) ρ d := fun G σ r => ev_callT (r.1 _ _ hB) (h G σ r) hR
theorem er_lcZ {t : TA} {js : List Nat} (f : PyData → PyData → PyData) (h : Ea K B t ρ [.tuple ds, .tuple es]) (hj : ds.length < sizeLine) (hc : ∀ (i : Nat) a b, ds[i]? = some a → es[i]? = some b → Er K B te (.dat a :: .dat b :: capP ρ js) (f a b)) : Er K B (tLC2 K (iZpT K t) js tNoIf te) ρ (.list ((ds.zip es).map fun p => f p.1 p.2)) := fun G σ r =>
 ev_lcZ f (h G σ r) hj fun G2 i a b x y s ha hb hx hy => by
  have r1 := rx_cap (js := js) (r.mono s) hy
  refine hc i a b ha hb G2 _ ⟨r1.1, fun k e h => ?_, fun k u e h hu => ?_, fun k T h => ?_, fun k ns h => ?_⟩
  ·cases k with
   | zero => cases h; exact ⟨x, rfl, hx⟩
   | succ k => exact r1.2.1 k e h
  ·cases k with
   | zero => cases h; cases hu
   | succ k => exact r1.2.2.1 k u e h hu
  ·cases k with
   | zero => cases h
   | succ k => exact r1.2.2.2.1 k T h
  ·cases k with
   | zero => cases h
   | succ k => exact r1.2.2.2.2 k ns h
theorem ex_op {r : R2} {c : PyData} (ha : Ex K B ta ρ a) (hb : Ex K B tb ρ b) (hop : ∀ G σ va vb, Dat K G va a → Dat K G vb b → Ev K (tOp r (tC va) (tC vb)) σ G c) : Ex K B (tOp r ta tb) ρ c := fun E G0 H0 G H σ F R Q k =>
 ha E G0 H0 G H σ F R _ fun va G1 H1 g1 h1 => hb E G0 H0 G1 H1 σ F (R.grow g1) _ fun vb G2 H2 g2 h2 => hop G2 σ va vb (h1.same g2.gg) h2 G2 H2 (Same.refl _) g2.gh Q fun v G3 H3 g3 hv => k v G3 H3 ((g1.trans g2).trans g3) hv
theorem sv_frz1 {t : TS} {R : Pn} (i : Nat) (hi : ρ[i]? = some (.own ds)) (h : Sv K B t (ρ.set i (.dat (.list ds))) R) : Sv K B t ρ R := fun E G0 H0 G H σ F D r dn => by
 obtain ⟨p, xs, e, hx, hp, hd⟩ := r.sl i _ hi
 have hpi : p ∈ F i := by rw [e]; simp
 obtain ⟨gp, _, _⟩ := r.fr i p hpi
 have h0 := r.ow i ds p hi hpi
 have hlt : i < ρ.length := (List.getElem?_eq_some_iff.mp hi).1
 have s1 : Same G (upd G p (.lst xs)) := same_new gp
 refine h E G0 H0 (upd G p (.lst xs)) H σ (fun k => if k = i then [] else F k) D ⟨⟨r.g.gg.trans s1, fun b o eb => ?_, r.g.kp, r.g.al, fun b o eb => ?_⟩, r.bb.trans s1, by rw [List.length_set]; exact r.ls, fun j v hj => ?_, fun j a ha => ?_, fun j k a ha hb => ?_, fun j ds' a hj ha => ?_⟩ (dn.mono s1)
 ·by_cases z : b = p
  ·subst z; rw [upd_same] at eb; rw [hp, eb]
  ·rw [upd_ne z] at eb; exact r.g.gh b o eb
 ·by_cases z : b = p
  ·subst z; exact .inr h0
  ·rw [upd_ne z] at eb; exact r.g.fr b o eb
 ·by_cases z : j = i
  ·subst z
   rw [List.getElem?_set_self hlt] at hj
   cases hj
   rw [if_pos rfl]
   exact ⟨rfl, _, hx, dat_lst upd_same (hd.same s1)⟩
  ·rw [List.getElem?_set_ne (Ne.symm z)] at hj
   rw [if_neg z]
   exact (r.sl j v hj).grow s1 fun _ _ => rfl
 ·by_cases z : j = i
  ·rw [if_pos z] at ha; cases ha
  ·rw [if_neg z] at ha
   obtain ⟨h1, h2, h3⟩ := r.fr j a ha
   refine ⟨?_, h2, h3⟩
   rw [upd_ne fun q => by subst q; exact z (r.dj j i a ha hpi)]; exact h1
 ·by_cases z : j = i
  ·rw [if_pos z] at ha; cases ha
  ·by_cases z' : k = i
   ·rw [if_pos z'] at hb; cases hb
   ·rw [if_neg z] at ha; rw [if_neg z'] at hb; exact r.dj j k a ha hb
 ·by_cases z : j = i
  ·rw [if_pos z] at ha; cases ha
  ·rw [if_neg z] at ha
   rw [List.getElem?_set_ne (Ne.symm z)] at hj
   exact r.ow j ds' a hj ha
theorem sv_extT {i : Nat} {R : Pn} (h : Eg K B te ρ fun r ρ' => ∃ (zs : List PyData) (u : PV) (ds : List PyData), r = .dat (.tuple zs) ∧ ρ'[i]? = some u ∧ u.rd = some ds ∧ ds.length + zs.length ≤ sizeLine ∧ R.nx (ρ'.set i (u.put (ds ++ zs)))) {u0 : PV} {ds0 : List PyData} (hi : ρ[i]? = some u0) (hu : u0.rd = some ds0) : Sv K B (tDrop (tBM K "list" (rExtT K) (tVar i) (tCons te tNil))) ρ R := fun E G0 H0 G H σ F D r dn => by
 obtain ⟨p, xs, e, hx, hp, hd⟩ := (r.sl i _ hi).rd hu
 refine ⟨_, hx, .inl ⟨rfl, xs, SqL.of hp⟩, ?_⟩
 refine h E G0 H0 G H σ F r _ fun v w ρ' G' H' F' L hR s r' sl n => ?_
 obtain ⟨zs, u, ds, rfl, hi', hu', hl, hR⟩ := hR
 obtain ⟨p', xs', e', hx', hp', hd'⟩ := (r'.sl i _ hi').rd hu'
 rw [hx] at hx'; cases hx'
 obtain ⟨_, y, hy, hyd⟩ := sl
 cases hy
 obtain ⟨q, ys, rfl, hq, hys⟩ := hyd.tup
 refine ⟨p, q, xs', ys, rfl, rfl, hp', r'.g.gh.tup hq, by rw [hd'.length, hys.length]; exact hl, ?_⟩
 exact dn.nx hR s (r'.put hi' hu' hx (dats_append hd' hys))
variable {P : Program} {w : World}
end
end L2
namespace L2
open PySem PySem.Spec PyProof.Rows Lw
section
variable {K : PySem.W.Frag} {B : Hp} {E : Addr → Prop} {G0 H0 G H G' H' : Hp} {σ : St} {ρ : List PV} {F : Nat → List Addr} {ta tb te : TE} {a b d : PyData} {ds es : List PyData}
theorem dats_cut {xs : List V} {lo hi : Option Int} (h : Dats K G xs ds) : Dats K G (cutV xs lo hi) (slD ds lo hi) := by
 unfold cutV slD
 rw [h.length]
 exact dats_take _ (dats_drop _ h)
theorem er_scrSl {i : Nat} {ns : List Int} {tl th : TO} {lo hi : Option Int} (h : ρ[i]? = some (.scr ns)) (hl : Eo K B tl ρ lo) (hh : Eo K B th ρ hi) : Er K B (tSl (rSlL K) (tVar i) tl th) ρ (.list (slD (ns.map .int) lo hi)) := fun G σ r G1 H s1 s2 Q k => by
 obtain ⟨a, hx, hq⟩ := r.2.2.2.2 i ns h
 refine ⟨_, hx, hl G σ r _ _ (hh G σ r _ _ ⟨a, _, rfl, (s1.trans s2).seq hq, fun p hp => ?_⟩)⟩
 have g := grow_new (o := .lst (cutV (ns.map V.int) lo hi)) s2 hp
 exact k _ _ _ g (dat_lst upd_same (dats_cut (dats_ints ns)))
theorem er_scrLen {i : Nat} {ns : List Int} (h : ρ[i]? = some (.scr ns)) : Er K B (tCB (fun xs H Q => ∃ p ys, xs = [.ref p] ∧ (SqL K H p ys ∨ SqT K H p ys) ∧ Q (.int ys.length) H) (tCons (tVar i) tNil)) ρ (.int ns.length) := fun G σ r G1 H s1 s2 Q k => by
 obtain ⟨a, hx, hq⟩ := r.2.2.2.2 i ns h
 refine ⟨_, hx, a, _, rfl, .inl ((s1.trans s2).seq hq), ?_⟩
 rw [List.length_map]
 exact k _ G1 H (Grow.refl s2) (dat_int _)
theorem slD_map {α : Type} (f : α → PyData) (l : List α) (lo hi : Option Int) : ∃ m : List α, slD (l.map f) lo hi = m.map f ∧ m.length ≤ l.length ∧ ∀ x ∈ m, x ∈ l :=
 ⟨(l.drop (HT.sIx (l.map f).length 0 lo)).take (HT.sIx (l.map f).length (l.map f).length hi - HT.sIx (l.map f).length 0 lo), by unfold slD; rw [List.map_take, List.map_drop], by rw [List.length_take, List.length_drop]; omega, fun x hx => List.mem_of_mem_drop (List.mem_of_mem_take hx)⟩
theorem slD_from (k : Nat) (ds : List PyData) : slD ds (some (k : Int)) none = ds.drop k := by
 unfold slD
 rw [HT.sIx_nat, HT.sIx_none]
 by_cases h : k ≤ ds.length
 ·rw [Nat.min_eq_left h, List.take_of_length_le (by rw [List.length_drop]; omega)]
 ·rw [Nat.min_eq_right (by omega), List.drop_eq_nil_of_le (Nat.le_refl _), List.drop_eq_nil_of_le (by omega), List.take_nil]
theorem slD_upto (k : Nat) (ds : List PyData) : slD ds none (some (k : Int)) = ds.take k := by
 unfold slD
 rw [HT.sIx_nat, HT.sIx_none, List.drop_zero, Nat.sub_zero]
 by_cases h : k ≤ ds.length
 ·rw [Nat.min_eq_left h]
 ·rw [Nat.min_eq_right (by omega), List.take_of_length_le (Nat.le_refl _), List.take_of_length_le (by omega)]
theorem slD_part (j k : Nat) (ds : List PyData) : slD ds (some (j : Int)) (some (k : Int)) = (ds.take k).drop j := by
 unfold slD
 rw [HT.sIx_nat, HT.sIx_nat, List.drop_take]
 by_cases h : j ≤ ds.length
 ·rw [Nat.min_eq_left h]
  by_cases h2 : k ≤ ds.length
  ·rw [Nat.min_eq_left h2]
  ·rw [Nat.min_eq_right (by omega), List.take_of_length_le (by rw [List.length_drop]; omega), List.take_of_length_le (by rw [List.length_drop]; omega)]
 ·rw [List.drop_eq_nil_of_le (show ds.length ≤ min j ds.length by omega), List.drop_eq_nil_of_le (show ds.length ≤ j by omega), List.take_nil, List.take_nil]
variable {P : Program} {w : World} {mg : Str → Option Value} {base : Heap}
theorem scr_rl {p : Addr} {N : List Str} {ns : List Int} (sb : Same B H) (hq : SqL K H p (ns.map V.int)) : Rl K B (fun _ => False) H H H H (start N [.ref p]) (startP N [.scr ns]) (fun _ => []) := by
 refine ⟨Gw.refl (Same.refl _), sb, ?_, fun i v h => ?_, fun _ _ h => (by cases h), fun _ _ _ h _ => (by cases h), fun _ _ _ _ h => (by cases h)⟩
 ·unfold start startP
  rw [List.length_append, List.length_append, List.length_map, List.length_replicate, List.length_replicate]; rfl
 ·unfold startP at h
  unfold start
  cases i with
  | zero =>
   have h : some (PV.scr ns) = some v := h
   cases h
   exact ⟨rfl, p, rfl, hq⟩
  | succ i =>
   rw [List.getElem?_append_right (by show 1 ≤ i + 1; omega)] at h
   have := List.mem_of_getElem? h
   rw [(List.mem_replicate.mp this).2]
   rfl
def tabB (tabs : Tabs) : Hp := fun b => (tabs.find? fun p => decide (p.1 = b)).map fun p => HO.tbl p.2
theorem tabB_in {tabs : Tabs} (h : TabsIn H tabs) : Same (tabB tabs) H := fun b o e => by
 unfold tabB at e
 cases q : tabs.find? fun p => decide (p.1 = b) with
 | none => rw [q] at e; cases e
 | some p =>
  rw [q] at e
  have e : HO.tbl p.2 = o := Option.some.inj e
  have := List.find?_some q
  have z : p.1 = b := of_decide_eq_true this
  subst z
  rw [← e]
  exact h p (List.mem_of_find?_eq_some q)
theorem Fun.okLawT {x qual : Str} {st : Stmt} {f : Addr} {fd : FuncData} {N : List Str} {k : Nat} {tabs : Tabs} (Fn : Fun K x qual st f fd) (S : FnScope N ["script"] (defScope st))
  (hb : ∀ (cdv : Value) (A : Around) (outer : List Env) (s : Shared) (H : Hp) (E : XK), Room k (A.deeper (envOfC qual (defScope st) s.heap.objs.size f cdv)) → ∀ ns : List Int, ns.length ≤ 63 →
   ∃ t, PSs (cxOf CX0 P w K mg base N qual (defScope st) f cdv A outer s H E).nox (defBody st) t ∧ Sv K (tabB tabs) t (startP N [.scr ns]) { nx := fun _ => False, rt := fun r _ => r = .dat (.bool true) }) : FnOk P w K mg base CX0 (k + 1) f fd ["script"] (spLawT K tabs) := by
 refine Fn.ok S (fun vs H Q E h => ?_) fun cdv A outer s H vs Q E hr h => ?_
 ·obtain ⟨a, ns, rfl, _⟩ := h
  rfl
 ·obtain ⟨a, ns, rfl, hq, hl, hT, kk⟩ := h
  obtain ⟨t, ht, hs⟩ := hb cdv A outer s H E hr ns hl
  refine ⟨t, ht, hs _ _ _ _ _ _ _ _ (scr_rl (tabB_in hT) hq) ⟨fun e _ r => e.elim, fun e _ r sl n => ?_, fun e => e.elim, fun e => e.elim⟩⟩
  subst e
  obtain ⟨_, y, hy, hd⟩ := sl
  cases hy
  rw [hd.bl]
  exact kk _
def rIxLT (K : PySem.W.Frag) : R2 := fun x y H Q => rIxL K x y H Q ∨ rIxT K x y H Q
theorem ix_seqK {X : Cx} (e : X.K = K) : IxR X (rIxLT K) := fun value slice pins s σ H x y v u Q I rx ry h hs => h.elim (fun h => ix_listK e value slice pins s σ H x y v u Q I rx ry h hs) fun h => ix_tupK e value slice pins s σ H x y v u Q I rx ry h hs
theorem er_ixS {i : Int} {n : Nat} (ha : Er K B ta ρ (.tuple ds) ∨ Er K B ta ρ (.list ds)) (hb : Er K B tb ρ (.int i)) (hn : ixN ds.length i = some n) (hd : ds[n]? = some d) : Er K B (tOp (rIxLT K) ta tb) ρ d := by
 rcases ha with ha | ha
 ·exact fun G σ r G1 H s1 s2 Q k => ha G σ r G1 H s1 s2 _ fun v G2 H2 g hv => hb G σ r G2 H2 (s1.trans g.gg) g.gh _ fun u G3 H3 g3 hu => .inr <| by
   have := (ev_ixT (K := K) (σ := σ) (G := G3) (ta := tC v) (tb := tC u) (ev_c (hv.same g3.gg)) (ev_c hu) hn hd) G3 H3 (Same.refl _) g3.gh Q fun w G4 H4 g4 hw => k w G4 H4 ((g.trans g3).trans g4) hw
   exact this
 ·exact fun G σ r G1 H s1 s2 Q k => ha G σ r G1 H s1 s2 _ fun v G2 H2 g hv => hb G σ r G2 H2 (s1.trans g.gg) g.gh _ fun u G3 H3 g3 hu => .inl <| by
   have := (ev_ixL (K := K) (σ := σ) (G := G3) (ta := tC v) (tb := tC u) (ev_c (hv.same g3.gg)) (ev_c hu) hn hd) G3 H3 (Same.refl _) g3.gh Q fun w G4 H4 g4 hw => k w G4 H4 ((g.trans g3).trans g4) hw
   exact this
theorem call_allK {X : Cx} (e : X.K = K) (hc : X.calm = true) : CallR X (.builtin "all") (fun xs H Q => ∃ (p : Addr) (bs : List Bool), xs = [.ref p] ∧ SqL K H p (bs.map V.bl) ∧ Q (.bl (bs.all id)) H) := by subst e; exact call_all hc
end
end L2
namespace Mvs
open L2 Trn
def inR (m : Int) (n : Int) : Bool := decide (0 ≤ n) && decide (n < m)
def cov (rows : List (List Int)) (m : Nat) : Bool := decide (srtI rows.flatten = (List.range m).map fun (i : Nat) => (i : Int))
def rise2 (vs : List Int) (p : Int × Int) : Bool := decide (p.1 < p.2) && decide (vs.getD p.1.toNat 0 < vs.getD p.2.toNat 0)
def rise (vs ps : List Int) : Bool := (ps.zip (ps.drop 1)).all (rise2 vs)
def shown (turn : List Nat) (kept : List Int) (rows : List (List Int)) : Bool := decide (rows.length = kept.length) && (cov rows turn.length && (kept.all (inR turn.length) && (rise (turn.map fun (n : Nat) => (n : Int)) kept && rows.all (rise (turn.map fun (n : Nat) => -(n : Int))))))
theorem cov_in {rows : List (List Int)} {m : Nat} (h : cov rows m = true) : ∀ row ∈ rows, ∀ p ∈ row, 0 ≤ p ∧ p < m := fun row hr p hp => by
 have e := of_decide_eq_true h
 have hm : p ∈ srtI rows.flatten := (srtI_perm _).mem_iff.mpr (List.mem_flatten.mpr ⟨row, hr, hp⟩)
 rw [e] at hm
 obtain ⟨i, hi, rfl⟩ := List.mem_map.mp hm
 have := List.mem_range.mp hi
 omega
theorem rise_iff (vs : List Int) : ∀ ps : List Int, rise vs ps = true ↔ ps.Pairwise fun a b => a < b ∧ vs.getD a.toNat 0 < vs.getD b.toNat 0
 | [] => ⟨fun _ => .nil, fun _ => rfl⟩
 | [a] => ⟨fun _ => List.pairwise_singleton _ _, fun _ => rfl⟩
 | a :: b :: l => by
  have ih := rise_iff vs (b :: l)
  have e : rise vs (a :: b :: l) = (rise2 vs (a, b) && rise vs (b :: l)) := by
   unfold rise
   show ((a, b) :: ((b :: l).zip ((b :: l).drop 1))).all _ = _
   rw [List.all_cons]
  rw [e, Bool.and_eq_true, ih]
  constructor
  ·rintro ⟨h1, h2⟩
   unfold rise2 at h1
   simp only [Bool.and_eq_true, decide_eq_true_eq] at h1
   refine List.pairwise_cons.mpr ⟨fun c hc => ?_, h2⟩
   rcases List.mem_cons.mp hc with rfl | hc
   ·exact h1
   ·obtain ⟨q1, q2⟩ := (List.pairwise_cons.mp h2).1 c hc
    omega
  ·intro h
   obtain ⟨h1, h2⟩ := List.pairwise_cons.mp h
   refine ⟨?_, h2⟩
   obtain ⟨q1, q2⟩ := h1 b List.mem_cons_self
   unfold rise2
   rw [decide_eq_true q1, decide_eq_true q2]; rfl
theorem getD_mapI (f : Nat → Int) (turn : List Nat) (p : Nat) (h : p < turn.length) : (turn.map f).getD p 0 = f (vl turn p) := by
 unfold vl
 rw [List.getD_eq_getElem?_getD, List.getElem?_map, List.getElem?_eq_getElem h, List.getD_eq_getElem?_getD, List.getElem?_eq_getElem h]; rfl
abbrev zs (l : List Nat) : List Int := l.map fun (n : Nat) => (n : Int)
theorem rise_nat {turn : List Nat} {ps : List Nat} (h : ∀ p ∈ ps, p < turn.length) : rise (zs turn) (zs ps) = true ↔ ps.Pairwise fun a b => a < b ∧ vl turn a < vl turn b := by
 rw [rise_iff, List.pairwise_map]
 constructor
 ·intro q
  refine List.Pairwise.imp_of_mem (fun {a b} ha hb ⟨q1, q2⟩ => ?_) q
  rw [Int.toNat_natCast, Int.toNat_natCast, getD_mapI _ _ _ (h a ha), getD_mapI _ _ _ (h b hb)] at q2
  omega
 ·intro q
  refine List.Pairwise.imp_of_mem (fun {a b} ha hb ⟨q1, q2⟩ => ?_) q
  rw [Int.toNat_natCast, Int.toNat_natCast, getD_mapI _ _ _ (h a ha), getD_mapI _ _ _ (h b hb)]
  omega
theorem fall_nat {turn : List Nat} {ps : List Nat} (h : ∀ p ∈ ps, p < turn.length) : rise (turn.map fun (n : Nat) => -(n : Int)) (zs ps) = true ↔ ps.Pairwise fun a b => a < b ∧ vl turn b < vl turn a := by
 rw [rise_iff, List.pairwise_map]
 constructor
 ·intro q
  refine List.Pairwise.imp_of_mem (fun {a b} ha hb ⟨q1, q2⟩ => ?_) q
  rw [Int.toNat_natCast, Int.toNat_natCast, getD_mapI _ _ _ (h a ha), getD_mapI _ _ _ (h b hb)] at q2
  omega
 ·intro q
  refine List.Pairwise.imp_of_mem (fun {a b} ha hb ⟨q1, q2⟩ => ?_) q
  rw [Int.toNat_natCast, Int.toNat_natCast, getD_mapI _ _ _ (h a ha), getD_mapI _ _ _ (h b hb)]
  omega
theorem ki_chain {turn rk kept : List Nat} {k : Nat} (Kp : KI turn turn.length rk k kept) : (∀ p ∈ kept, p < turn.length) ∧ kept.Pairwise fun a b => a < b ∧ vl turn a < vl turn b := by
 obtain ⟨m1, m2⟩ := kept_mem Kp
 refine ⟨fun p hp => ?_, ?_⟩
 ·obtain ⟨r, hr, rfl⟩ := m2 p hp
  exact (Kp.at_ r hr).1
 ·rw [List.pairwise_iff_getElem]
  intro i j hi hj hij
  have := Kp.up i j hij (by rw [← Kp.len]; exact hj)
  rw [List.getD_eq_getElem?_getD, List.getD_eq_getElem?_getD, List.getElem?_eq_getElem hi, List.getElem?_eq_getElem hj] at this
  exact this
theorem sorted_range {l : List Int} {m : Nat} (h : l.Perm ((List.range m).map fun (i : Nat) => (i : Int))) : srtI l = (List.range m).map fun (i : Nat) => (i : Int) := by
 refine ((srtI_of h.symm ?_)).symm
 rw [List.pairwise_map]
 refine List.Pairwise.imp (fun {a b} (q : a < b) => ?_) List.pairwise_lt_range
 omega
theorem rows_perm (rk : List Nat) : ∀ k : Nat, (∀ p, p < rk.length → rk.getD p 0 < k) → ((rowsL rk k).flatten).Perm (List.range rk.length) := by
 intro k hk
 have key : ∀ j, ((rowsL rk j).flatten).Perm ((List.range rk.length).filter fun p => decide (rk.getD p 0 < j)) := by
  intro j
  induction j with
  | zero =>
   have : (List.range rk.length).filter (fun p => decide (rk.getD p 0 < 0)) = [] := List.filter_eq_nil_iff.mpr fun p _ => by simp
   rw [this]; exact .nil
  | succ j ih =>
   have e : rowsL rk (j + 1) = rowsL rk j ++ [rw_ rk j] := by unfold rowsL; rw [List.range_succ, List.map_append]; rfl
   rw [e, List.flatten_append]
   simp only [List.flatten_cons, List.flatten_nil, List.append_nil]
   refine (List.Perm.append_right _ ih).trans ?_
   have h1 : ∀ l : List Nat, (l.filter (fun p => decide (rk.getD p 0 < j)) ++ l.filter (fun p => rk.getD p 0 == j)).Perm (l.filter fun p => decide (rk.getD p 0 < j + 1)) := by
    intro l
    induction l with
    | nil => exact .nil
    | cons x l ih =>
     have c1 : (decide (rk.getD x 0 < j) = true ∧ (rk.getD x 0 == j) = false ∧ decide (rk.getD x 0 < j + 1) = true) ∨ (decide (rk.getD x 0 < j) = false ∧ (rk.getD x 0 == j) = true ∧ decide (rk.getD x 0 < j + 1) = true) ∨ (decide (rk.getD x 0 < j) = false ∧ (rk.getD x 0 == j) = false ∧ decide (rk.getD x 0 < j + 1) = false) := by
      generalize rk.getD x 0 = r
      by_cases a : r < j
      ·exact .inl ⟨decide_eq_true a, beq_eq_false_iff_ne.mpr (by omega), decide_eq_true (by omega)⟩
      ·by_cases b : r = j
       ·exact .inr (.inl ⟨decide_eq_false a, beq_iff_eq.mpr b, decide_eq_true (by omega)⟩)
       ·exact .inr (.inr ⟨decide_eq_false a, beq_eq_false_iff_ne.mpr b, decide_eq_false (by omega)⟩)
     rw [List.filter_cons, List.filter_cons, List.filter_cons]
     rcases c1 with ⟨a, b, c⟩ | ⟨a, b, c⟩ | ⟨a, b, c⟩
     ·rw [a, b, c]
      exact List.Perm.cons x ih
     ·rw [a, b, c]
      exact List.perm_middle.trans (List.Perm.cons x ih)
     ·rw [a, b, c]
      exact ih
   exact h1 _
 have := key k
 rwa [List.filter_eq_self.mpr fun p hp => by simpa using hk p (List.mem_range.mp hp)] at this
theorem flat_zs (rows : List (List Nat)) : (rows.map zs).flatten = zs rows.flatten := by
 induction rows with
 | nil => rfl
 | cons r l ih => rw [List.map_cons, List.flatten_cons, ih, List.flatten_cons]; unfold zs; rw [List.map_append]
theorem shown_paper {turn rk kept : List Nat} {k : Nat} (T : Tn turn.length turn) (R : RI turn turn.length rk k) (Kp : KI turn turn.length rk k kept) : shown turn (zs kept) ((rowsL rk k).map zs) = true := by
 obtain ⟨c1, c2⟩ := ki_chain Kp
 unfold shown
 have h1 : ((rowsL rk k).map zs).length = (zs kept).length := by unfold rowsL; rw [List.length_map, List.length_map, List.length_range, List.length_map, Kp.len]
 have h2 : cov ((rowsL rk k).map zs) turn.length = true := by
  unfold cov
  rw [flat_zs]
  refine decide_eq_true (sorted_range ?_)
  have := rows_perm rk k fun p hp => R.lt p (by rw [← R.len]; exact hp)
  rw [R.len] at this
  exact this.map _
 have h3 : (zs kept).all (inR turn.length) = true := by
  rw [List.all_map]
  refine List.all_eq_true.mpr fun p hp => ?_
  have := c1 p hp
  show inR _ _ = true
  unfold inR
  rw [decide_eq_true (show (0 : Int) ≤ (p : Nat) by omega), decide_eq_true (show ((p : Nat) : Int) < turn.length by omega)]; rfl
 have h4 : rise (zs turn) (zs kept) = true := (rise_nat c1).mpr c2
 have h5 : ((rowsL rk k).map zs).all (rise (turn.map fun (n : Nat) => -(n : Int))) = true := by
  refine List.all_eq_true.mpr fun row hrow => ?_
  obtain ⟨r, hr, rfl⟩ := List.mem_map.mp hrow
  obtain ⟨j, _, rfl⟩ := List.mem_map.mp hr
  have hin : ∀ p ∈ rw_ rk j, p < turn.length := fun p hp => by
   have := (mem_rw.mp hp).1
   rw [R.len] at this; exact this
  refine (fall_nat hin).mpr (List.Pairwise.imp_of_mem (fun {a b} ha hb q => ⟨q, ?_⟩) (rw_sorted rk j))
  have ra := (mem_rw.mp ha).2
  have rb := (mem_rw.mp hb).2
  have hne : vl turn a ≠ vl turn b := fun e => by
   have := vl_inj T (hin a ha) (hin b hb) e
   omega
  have hn : ¬ vl turn a < vl turn b := fun z => by
   have := R.A a b q (hin b hb) z
   omega
  omega
 rw [decide_eq_true h1, h2, h3, h4, h5]; rfl
end Mvs
namespace Mvs
open L2 Trn
end Mvs
namespace K64
open PySem L2 Lw Mv Mvs Trn
def top (i : Nat) : Stmt := PySem.Challenge.pw_ordertext_k64_paper_of_fewest.main.body.getD i (.Pass ⟨0, 0, 0, 0⟩)
abbrev s_are_places : Stmt := top 1
abbrev s_cover : Stmt := top 2
abbrev s_many_ahead : Stmt := top 4
abbrev s_paper_of : Stmt := top 6
abbrev s_moves_shown : Stmt := top 7
abbrev s_numbers_rise : Stmt := top 8
abbrev s__law_seed : Stmt := top 10
abbrev s__law_draw : Stmt := top 11
abbrev s__law_turn : Stmt := top 12
abbrev s__law_many : Stmt := top 13
abbrev s__law_row : Stmt := top 14
abbrev s__law_holds : Stmt := top 15
abbrev s__law_bent : Stmt := top 16
abbrev s__law_spoilt : Stmt := top 17
abbrev s_law : Stmt := top 18
theorem sc_are_places : FnScope ["numbers", "many"] ["numbers", "many"] (defScope s_are_places) := ⟨rfl, rfl, rfl, by decide +kernel, rfl, by decide +kernel, by decide +kernel⟩
theorem sc_cover : FnScope ["parts", "many", "places", "part"] ["parts", "many"] (defScope s_cover) := ⟨rfl, rfl, rfl, by decide +kernel, rfl, by decide +kernel, by decide +kernel⟩
theorem sc_many_ahead : FnScope ["places", "lies_ahead", "low", "high", "half"] ["places", "lies_ahead"] (defScope s_many_ahead) := ⟨rfl, rfl, rfl, by decide +kernel, rfl, by decide +kernel, by decide +kernel⟩
theorem sc_paper_of : FnScope ["turn", "rows", "before", "place", "number", "which", "kept", "last"] ["turn"] (defScope s_paper_of) := ⟨rfl, rfl, rfl, by decide +kernel, rfl, by decide +kernel, by decide +kernel⟩
theorem sc_moves_shown : FnScope ["turn", "paper", "kept", "rows", "falling"] ["turn", "paper"] (defScope s_moves_shown) := ⟨rfl, rfl, rfl, by decide +kernel, rfl, by decide +kernel, by decide +kernel⟩
theorem sc_numbers_rise : FnScope ["numbers", "places"] ["numbers", "places"] (defScope s_numbers_rise) := ⟨rfl, rfl, rfl, by decide +kernel, rfl, by decide +kernel, by decide +kernel⟩
theorem sc__law_seed : FnScope ["cell", "number"] ["cell"] (defScope s__law_seed) := ⟨rfl, rfl, rfl, by decide +kernel, rfl, by decide +kernel, by decide +kernel⟩
theorem sc__law_draw : FnScope ["seed", "most", "found", "number"] ["seed", "most"] (defScope s__law_draw) := ⟨rfl, rfl, rfl, by decide +kernel, rfl, by decide +kernel, by decide +kernel⟩
theorem sc__law_turn : FnScope ["seed", "many", "left", "turn", "shape", "k", "at", "cut"] ["seed", "many"] (defScope s__law_turn) := ⟨rfl, rfl, rfl, by decide +kernel, rfl, by decide +kernel, by decide +kernel⟩
theorem sc__law_many : FnScope ["seed"] ["seed"] (defScope s__law_many) := ⟨rfl, rfl, rfl, by decide +kernel, rfl, by decide +kernel, by decide +kernel⟩
theorem sc__law_row : FnScope ["turn", "places", "sign", "at", "step"] ["turn", "places", "sign"] (defScope s__law_row) := ⟨rfl, rfl, rfl, by decide +kernel, rfl, by decide +kernel, by decide +kernel⟩
theorem sc__law_holds : FnScope ["turn", "paper", "kept", "rows", "counts", "row", "place"] ["turn", "paper"] (defScope s__law_holds) := ⟨rfl, rfl, rfl, by decide +kernel, rfl, by decide +kernel, by decide +kernel⟩
theorem sc__law_bent : FnScope ["row", "seed", "many", "at", "other", "way"] ["row", "seed", "many"] (defScope s__law_bent) := ⟨rfl, rfl, rfl, by decide +kernel, rfl, by decide +kernel, by decide +kernel⟩
theorem sc__law_spoilt : FnScope ["turn", "paper", "seed", "kept", "rows", "way", "at", "row", "bent", "cut", "other", "place", "shifted"] ["turn", "paper", "seed"] (defScope s__law_spoilt) := ⟨rfl, rfl, rfl, by decide +kernel, rfl, by decide +kernel, by decide +kernel⟩
theorem sc_law : FnScope ["script", "cell", "seed", "turn", "paper", "k", "other", "found"] ["script"] (defScope s_law) := ⟨rfl, rfl, rfl, by decide +kernel, rfl, by decide +kernel, by decide +kernel⟩
abbrev lq_paper_of : Str := (Str.ofString "paper_of" ++ ".<locals>.") ++ "<lambda>"
set_option genInjectivity false in
structure Top (K : PySem.W.Frag) (mg : Str → Option Value) where
 f_are_places : Addr
 fd_are_places : FuncData
 F_are_places : Fun K "are_places" "are_places" s_are_places f_are_places fd_are_places
 b_are_places : Binds K fd_are_places ["numbers", "many"] []
 m_are_places : mg "are_places" = some (.ref f_are_places)
 f_cover : Addr
 fd_cover : FuncData
 F_cover : Fun K "cover" "cover" s_cover f_cover fd_cover
 b_cover : Binds K fd_cover ["parts", "many"] []
 m_cover : mg "cover" = some (.ref f_cover)
 f_many_ahead : Addr
 fd_many_ahead : FuncData
 F_many_ahead : Fun K "many_ahead" "many_ahead" s_many_ahead f_many_ahead fd_many_ahead
 b_many_ahead : Binds K fd_many_ahead ["places", "lies_ahead"] []
 m_many_ahead : mg "many_ahead" = some (.ref f_many_ahead)
 f_paper_of : Addr
 fd_paper_of : FuncData
 F_paper_of : Fun K "paper_of" "paper_of" s_paper_of f_paper_of fd_paper_of
 b_paper_of : Binds K fd_paper_of ["turn"] []
 m_paper_of : mg "paper_of" = some (.ref f_paper_of)
 f_moves_shown : Addr
 fd_moves_shown : FuncData
 F_moves_shown : Fun K "moves_shown" "moves_shown" s_moves_shown f_moves_shown fd_moves_shown
 b_moves_shown : Binds K fd_moves_shown ["turn", "paper"] []
 m_moves_shown : mg "moves_shown" = some (.ref f_moves_shown)
 f_numbers_rise : Addr
 fd_numbers_rise : FuncData
 F_numbers_rise : Fun K "numbers_rise" "numbers_rise" s_numbers_rise f_numbers_rise fd_numbers_rise
 b_numbers_rise : Binds K fd_numbers_rise ["numbers", "places"] []
 m_numbers_rise : mg "numbers_rise" = some (.ref f_numbers_rise)
 f__law_seed : Addr
 fd__law_seed : FuncData
 F__law_seed : Fun K "_law_seed" "_law_seed" s__law_seed f__law_seed fd__law_seed
 b__law_seed : Binds K fd__law_seed ["cell"] []
 m__law_seed : mg "_law_seed" = some (.ref f__law_seed)
 f__law_draw : Addr
 fd__law_draw : FuncData
 F__law_draw : Fun K "_law_draw" "_law_draw" s__law_draw f__law_draw fd__law_draw
 b__law_draw : Binds K fd__law_draw ["seed", "most"] []
 m__law_draw : mg "_law_draw" = some (.ref f__law_draw)
 f__law_turn : Addr
 fd__law_turn : FuncData
 F__law_turn : Fun K "_law_turn" "_law_turn" s__law_turn f__law_turn fd__law_turn
 b__law_turn : Binds K fd__law_turn ["seed", "many"] []
 m__law_turn : mg "_law_turn" = some (.ref f__law_turn)
 f__law_many : Addr
 fd__law_many : FuncData
 F__law_many : Fun K "_law_many" "_law_many" s__law_many f__law_many fd__law_many
 b__law_many : Binds K fd__law_many ["seed"] []
 m__law_many : mg "_law_many" = some (.ref f__law_many)
 f__law_row : Addr
 fd__law_row : FuncData
 F__law_row : Fun K "_law_row" "_law_row" s__law_row f__law_row fd__law_row
 b__law_row : Binds K fd__law_row ["turn", "places", "sign"] []
 m__law_row : mg "_law_row" = some (.ref f__law_row)
 f__law_holds : Addr
 fd__law_holds : FuncData
 F__law_holds : Fun K "_law_holds" "_law_holds" s__law_holds f__law_holds fd__law_holds
 b__law_holds : Binds K fd__law_holds ["turn", "paper"] []
 m__law_holds : mg "_law_holds" = some (.ref f__law_holds)
 f__law_bent : Addr
 fd__law_bent : FuncData
 F__law_bent : Fun K "_law_bent" "_law_bent" s__law_bent f__law_bent fd__law_bent
 b__law_bent : Binds K fd__law_bent ["row", "seed", "many"] []
 m__law_bent : mg "_law_bent" = some (.ref f__law_bent)
 f__law_spoilt : Addr
 fd__law_spoilt : FuncData
 F__law_spoilt : Fun K "_law_spoilt" "_law_spoilt" s__law_spoilt f__law_spoilt fd__law_spoilt
 b__law_spoilt : Binds K fd__law_spoilt ["turn", "paper", "seed"] []
 m__law_spoilt : mg "_law_spoilt" = some (.ref f__law_spoilt)
 c_paper_of : Addr
 P_paper_of : Addr
 cd_paper_of : fd_paper_of.code = .ref c_paper_of
 ch_paper_of : PySem.W.codeHdIn K c_paper_of P_paper_of = true
 len_ : mg "len" = none
 range_ : mg "range" = none
 tuple_ : mg "tuple" = none
 isinstance_ : mg "isinstance" = none
 list_ : mg "list" = none
 int_ : mg "int" = none
 max_ : mg "max" = none
 enumerate_ : mg "enumerate" = none
 bool_ : mg "bool" = none
 sorted_ : mg "sorted" = none
 all_ : mg "all" = none
 zip_ : mg "zip" = none
 tt : PySem.W.kitOne K (.type "tuple") (.type "tuple") = some true
 ii : PySem.W.kitOne K (.type "int") (.type "int") = some true
 ib : PySem.W.kitOne K (.type "int") (.type "bool") = some false
 bb : PySem.W.kitOne K (.type "bool") (.type "bool") = some true
end K64
namespace K64
open PySem L2 Lw Mv Mvs Trn
abbrev dI (ns : List Int) : PyData := .tuple (ns.map PyData.int)
def RAre : List PyData → PyData → Prop := fun as d => ∃ (ns : List Int) (m : Int), as = [dI ns, .int m] ∧ ns.length ≤ 200 ∧ d = .bool (ns.all (inR m))
def RCov : List PyData → PyData → Prop := fun as d => ∃ (rows : List (List Int)) (m : Nat), as = [.tuple (rows.map dI), .int (m : Nat)] ∧ rows.flatten.length < 64 ∧ m ≤ 1000 ∧ d = .bool (cov rows m)
def RRise : List PyData → PyData → Prop := fun as d => ∃ (vs ps : List Int) (nums : PyData), as = [nums, dI ps] ∧ (nums = .tuple (vs.map .int) ∨ nums = .list (vs.map .int)) ∧ ps.length ≤ 200 ∧ (∀ p ∈ ps, 0 ≤ p ∧ p < vs.length) ∧ d = .bool (rise vs ps)
def RShown : List PyData → PyData → Prop := fun as d => ∃ (turn : List Nat) (kept : List Int) (rows : List (List Int)), as = [dN turn, .tuple [dI kept, .tuple (rows.map dI)]] ∧ turn.length ≤ 60 ∧ kept.length ≤ 200 ∧ rows.length ≤ 200 ∧ rows.flatten.length < 64 ∧ d = .bool (shown turn kept rows)
theorem pl_listI {n : Nat} (ns : List Int) : Pl (n + 1) (.list (ns.map PyData.int)) := pl_lst fun x hx => by
 obtain ⟨i, _, rfl⟩ := List.mem_map.mp hx
 exact pl_int _
theorem flat_le {rows : List (List Int)} {k : Nat} : (rows.take k).flatten.length ≤ rows.flatten.length := by
 conv => rhs; rw [← List.take_append_drop k rows, List.flatten_append, List.length_append]
 omega
section
variable {P : Program} {w : World} {K : PySem.W.Frag} {mg : Str → Option Value} {base : Heap}
theorem ok_are (T : Top K mg) : FnOk P w K mg base CX0 1 T.f_are_places T.fd_are_places ["numbers", "many"] (spP K RAre) := by
 refine T.F_are_places.okP sc_are_places (by rintro _ _ ⟨ns, m, rfl, _⟩; rfl) fun cdv A outer s H E hr ds d hR => ?_
 obtain ⟨ns, m, rfl, hl, rfl⟩ := hR
 have zl : (200 : Nat) < sizeLine := by decide
 refine ⟨_, (pss_one (ps_ret (pe_callB (call_allK (K := K) rfl rfl) (by rfl) T.all_ bAll (pa_cons (pe_lc (x := "number") (cap := ["many"]) (js := [1]) ⟨rfl, by decide +kernel, by decide +kernel, rfl, (by show ∀ p ∈ (_ : List (Str × NameKind)), p.2 = NameKind.free → List.lookup p.1 (defScope s_are_places).names = some NameKind.cell; decide +kernel), by decide +kernel, by decide +kernel, by decide +kernel⟩ rfl rfl (fun _ _ h => h) (pi_tup (pv 0)) (fun _ _ _ _ => ⟨pif_nil, (pe_chain op_le op_lt pe_int (pv 0) (pv 1))⟩)) pa_nil st_ListComp)))) , ?_⟩
 refine sv_ret (eg_er (er_d (er_all (bs := ns.map (inR m)) (ea_cons (er_d (er_lc (js := [1]) ns PyData.int (fun n => some (.bool (inR m n))) (ei_tup (er_var rfl)) (by omega) fun a ha => lx1 et_noif (er_chain er_int (er_var rfl) (er_var rfl))) ?_) ea_nil)) ?_) rfl)
 ·rw [fm_some, List.map_map]; rfl
 ·rw [List.all_map]; rfl
theorem ok_cover (T : Top K mg) : FnOk P w K mg base CX0 1 T.f_cover T.fd_cover ["parts", "many"] (spP K RCov) := by
 refine T.F_cover.okP sc_cover (by rintro _ _ ⟨ns, m, rfl, _⟩; rfl) fun cdv A outer s H E hr ds d hR => ?_
 obtain ⟨rows, m, rfl, hl, hm, rfl⟩ := hR
 have hu := hr.units
 have zl : (2000 : Nat) < sizeLine := by decide
 refine ⟨_, (pss_cons (ps_set (i := 2) sc_cover.nd rfl (Or.inl rfl) (pe_lst pa_nil))
   (pss_cons (ps_for PassesOwn.never rfl (pi_tup (pv 0)) (pg_name (i := 3) sc_cover.nd rfl (Or.inl rfl)) (pss_one (ps_expr (pe_bm PySem.F.plainAttrs_list PySem.F.slot_list_extend PySem.F.type_list_extend (mt_extT (K := K) rfl) (pv 2) (pa_cons (pv 3) pa_nil st_Name)))))
   (pss_one (ps_ret (pe_cmpR (op_eqDK (K := K) rfl hu) (pe_callB (call_sortedI (K := K) rfl) (by rfl) T.sorted_ boot_srtI (pa_cons (pv 2) pa_nil st_Name)) (pe_lrange rfl (by rfl) T.list_ (by rfl) T.range_ (pa_cons (pv 1) pa_nil st_Name)) (nomark _)))))) , ?_⟩
 refine sv_seq (sv_asg (eg_lst ea_nil (Nat.zero_le _) ?_))
 refine sv_seq (sv_for rows dI (ei_tup (er_var rfl)) (fun k ρ => ∃ v3 : PV, ρ = [.dat (.tuple (rows.map dI)), .dat (.int (m : Nat)), .own (((rows.take k).flatten).map .int), v3]) ⟨_, rfl⟩ ?_ ?_)
 ·rintro k hk _ ⟨v3, rfl⟩
  refine gt_name (sv_extT (i := 2) (eg_er (er_var rfl) ⟨rows[k].map .int, _, _, rfl, rfl, rfl, ?_, .dat (dI rows[k]), ?_⟩) rfl rfl)
  ·have := @flat_le rows (k + 1)
   rw [List.take_succ, List.getElem?_eq_getElem hk, List.flatten_append, List.length_append] at this
   simp only [Option.toList_some, List.flatten_cons, List.flatten_nil, List.append_nil] at this
   rw [List.length_map, List.length_map]; omega
  ·show [_, _, _, _] = [_, _, _, _]
   rw [List.take_succ, List.getElem?_eq_getElem hk, List.flatten_append, List.map_append]
   simp only [Option.toList_some, List.flatten_cons, List.flatten_nil, List.append_nil]
   rfl
 ·rintro _ ⟨v3, rfl⟩
  rw [List.take_length]
  refine sv_ret (eg_flat (er_d (er_eqD (n := 4) (er_srtI (ea_cons (er_own rfl rfl) ea_nil) hl) (er_lrng (ea_cons (er_var rfl) ea_nil) (Int.natCast_nonneg _) (by rw [Int.toNat_natCast]; omega)) (pl_listI _) (by rw [Int.toNat_natCast]; exact (show (List.range m).map (fun (i : Nat) => PyData.int i) = ((List.range m).map fun (i : Nat) => (i : Int)).map PyData.int by rw [List.map_map]; rfl) ▸ pl_listI _) (by decide)) ?_) rfl rfl)
  show PyData.bool _ = PyData.bool _
  congr 1
  unfold cov
  rw [Int.toNat_natCast]
  by_cases h : srtI rows.flatten = (List.range m).map fun (i : Nat) => (i : Int)
  ·rw [decide_eq_true h, h, List.map_map]; exact same_iff.mpr rfl
  ·rw [decide_eq_false h]
   refine same_ne fun e => h ?_
   injection e with e
   have e2 : (srtI rows.flatten).map PyData.int = ((List.range m).map fun (i : Nat) => (i : Int)).map PyData.int := by rw [e, List.map_map]; rfl
   exact (List.map_inj_right fun x y e => by injection e).mp e2
theorem ok_rise (T : Top K mg) : FnOk P w K mg base CX0 1 T.f_numbers_rise T.fd_numbers_rise ["numbers", "places"] (spP K RRise) := by
 refine T.F_numbers_rise.okP sc_numbers_rise (by rintro _ _ ⟨vs, ps, nums, rfl, _⟩; rfl) fun cdv A outer s H E hr ds d hR => ?_
 obtain ⟨vs, ps, nums, rfl, hn, hl, hin, rfl⟩ := hR
 have zl : (2000 : Nat) < sizeLine := by decide
 refine ⟨_, (pss_one (ps_ret (pe_callB (call_allK (K := K) rfl rfl) (by rfl) T.all_ bAll (pa_cons (pe_lc2 (x := "one") (x2 := "other") (cap := ["numbers"]) (js := [0]) ⟨rfl, by decide +kernel, by decide +kernel, rfl, rfl, (by show ∀ p ∈ (_ : List (Str × NameKind)), p.2 = NameKind.free → List.lookup p.1 (defScope s_numbers_rise).names = some NameKind.cell; decide +kernel), by decide +kernel, by decide +kernel, by decide +kernel⟩ rfl rfl (fun _ _ h => h) (pi_zipT (K := K) rfl (by rfl) T.zip_ (pa_cons (pv 1) (pa_cons (pe_slice (sl_tupA (K := K) rfl) (pv 1) (po_some pe_int) po_none) pa_nil st_Subscript) st_Name)) (fun _ _ _ _ => ⟨pif_nil, (pe_and (pe_cmpR op_lt (pv 0) (pv 1) (nomark _)) (pe_one (pe_cmpR op_lt (pe_ix (ix_seqK (K := K) rfl) (pv 2) (pv 0) (fun _ _ => rfl)) (pe_ix (ix_seqK (K := K) rfl) (pv 2) (pv 1) (fun _ _ => rfl)) (nomark _))))⟩)) pa_nil st_ListComp)))) , ?_⟩
 have gi : ∀ n : Int, n ∈ ps → ixN (vs.map PyData.int).length n = some n.toNat ∧ (vs.map PyData.int)[n.toNat]? = some (.int (vs.getD n.toNat 0)) := fun n hn => by
  obtain ⟨h0, h1⟩ := hin n hn
  obtain ⟨k, rfl⟩ := Int.eq_ofNat_of_zero_le h0
  have hk : k < vs.length := by omega
  rw [Int.toNat_natCast, List.length_map]
  refine ⟨ixN_nat hk, ?_⟩
  rw [List.getElem?_map, List.getElem?_eq_getElem hk, List.getD_eq_getElem?_getD, List.getElem?_eq_getElem hk]; rfl
 have e1 : slD (ps.map PyData.int) (some 1) none = (ps.drop 1).map PyData.int := by
  rw [show (some (1 : Int)) = some ((1 : Nat) : Int) from rfl, slD_from, List.map_drop]
 refine sv_ret (eg_er (er_d (er_all (bs := (ps.zip (ps.drop 1)).map (rise2 vs)) (ea_cons (er_d (er_lcZ (js := [0]) (fun a b => match a, b with | .int i, .int j => .bool (rise2 vs (i, j)) | _, _ => .none) (ea_cons (er_var rfl) (ea_cons (er_d (er_slT (er_var rfl) eo_int eo_none) (by rw [e1])) ea_nil)) (by rw [List.length_map]; omega) fun k a b ha hb => ?_) ?_) ea_nil)) ?_) rfl)
 ·rw [List.getElem?_map] at ha hb
  obtain ⟨i, hi, rfl⟩ := Option.map_eq_some_iff.mp ha
  obtain ⟨j, hj, rfl⟩ := Option.map_eq_some_iff.mp hb
  have mi := List.mem_of_getElem? hi
  have mj := List.mem_of_mem_drop (List.mem_of_getElem? hj)
  refine er_and (er_i0 (er_var rfl) (er_var rfl) fun _ => dat_bl _) fun _ => er_i0 (er_ixS (hn.imp (fun e => er_var (by rw [← e]; rfl)) fun e => er_var (by rw [← e]; rfl)) (er_var rfl) (gi i mi).1 (gi i mi).2) (er_ixS (hn.imp (fun e => er_var (by rw [← e]; rfl)) fun e => er_var (by rw [← e]; rfl)) (er_var rfl) (gi j mj).1 (gi j mj).2) fun _ => dat_bl _
 ·congr 1
  rw [List.zip_map, List.map_map, List.map_map]; rfl
 ·rw [List.all_map]; rfl
theorem ok_shown (T : Top K mg) : FnOk P w K mg base CX0 2 T.f_moves_shown T.fd_moves_shown ["turn", "paper"] (spP K RShown) := by
 have G_are_places : FnOk P w K mg base CX0 1 T.f_are_places T.fd_are_places ["numbers", "many"] (spP K RAre) := ok_are T
 have G_cover : FnOk P w K mg base CX0 1 T.f_cover T.fd_cover ["parts", "many"] (spP K RCov) := ok_cover T
 have G_numbers_rise : FnOk P w K mg base CX0 1 T.f_numbers_rise T.fd_numbers_rise ["numbers", "places"] (spP K RRise) := ok_rise T
 refine T.F_moves_shown.okP sc_moves_shown (by rintro _ _ ⟨vs, ps, nums, rfl, _⟩; rfl) fun cdv A outer s H E hr ds d hR => ?_
 obtain ⟨turn, kept, rows, rfl, ht, hk, hr', hl, rfl⟩ := hR
 have zl : (2000 : Nat) < sizeLine := by decide
 refine ⟨_, (pss_cons (ps_set (i := 2) sc_moves_shown.nd rfl (Or.inl rfl) (pe_ix (ix_tupK (K := K) rfl) (pv 1) pe_int (fun _ _ => rfl)))
   (pss_cons (ps_set (i := 3) sc_moves_shown.nd rfl (Or.inl rfl) (pe_ix (ix_tupK (K := K) rfl) (pv 1) pe_int (fun _ _ => rfl)))
   (pss_cons (ps_if ((pw_or (pt_cmpR op_ne (pe_callB (call_lenK (K := K) rfl) (by rfl) T.len_ PySem.boot_len (pa_cons (pv 3) pa_nil st_Name)) (pe_callB (call_lenK (K := K) rfl) (by rfl) T.len_ PySem.boot_len (pa_cons (pv 2) pa_nil st_Name)) (nomark _)) (pw_or (pt_not (pt_val (pe_call G_cover hr (by rfl) T.m_cover T.F_cover.kp T.b_cover .nil pass0 (pa_cons (pv 3) (pa_cons (pe_callB (call_lenK (K := K) rfl) (by rfl) T.len_ PySem.boot_len (pa_cons (pv 0) pa_nil st_Name)) pa_nil st_Call) st_Name)))) (pw_or1 (pt_not (pt_val (pe_call G_are_places hr (by rfl) T.m_are_places T.F_are_places.kp T.b_are_places .nil pass0 (pa_cons (pv 2) (pa_cons (pe_callB (call_lenK (K := K) rfl) (by rfl) T.len_ PySem.boot_len (pa_cons (pv 0) pa_nil st_Name)) pa_nil st_Call) st_Name)))))))).pt (pss_one (ps_ret pe_bl)) pss_nil)
   (pss_cons (ps_set (i := 4) sc_moves_shown.nd rfl (Or.inr rfl) (pe_lc (x := "number") (cap := []) (js := []) ⟨rfl, by decide +kernel, by decide +kernel, rfl, (by show ∀ p ∈ (_ : List (Str × NameKind)), p.2 = NameKind.free → List.lookup p.1 (defScope s_moves_shown).names = some NameKind.cell; decide +kernel), by decide +kernel, by decide +kernel, by decide +kernel⟩ rfl rfl (fun _ _ h => h) (pi_tup (pv 0)) (fun _ _ _ _ => ⟨pif_nil, (pe_un un_neg (pv 0))⟩)))
   (pss_one (ps_ret (pe_and (pe_call G_numbers_rise hr (by rfl) T.m_numbers_rise T.F_numbers_rise.kp T.b_numbers_rise .nil pass0 (pa_cons (pv 0) (pa_cons (pv 2) pa_nil st_Name) st_Name)) (pe_one (pe_callB (call_allK (K := K) rfl rfl) (by rfl) T.all_ bAll (pa_cons (pe_lc (x := "row") (cap := ["falling"]) (js := [4]) ⟨rfl, by decide +kernel, by decide +kernel, rfl, (by show ∀ p ∈ (_ : List (Str × NameKind)), p.2 = NameKind.free → List.lookup p.1 (defScope s_moves_shown).names = some NameKind.cell; decide +kernel), by decide +kernel, by decide +kernel, by decide +kernel⟩ rfl rfl (fun _ _ h => h) (pi_tup (pv 3)) (fun _ _ _ _ => ⟨pif_nil, (pe_call G_numbers_rise hr (by rfl) T.m_numbers_rise T.F_numbers_rise.kp T.b_numbers_rise .nil pass0 (pa_cons (pv 1) (pa_cons (pv 0) pa_nil st_Name) st_Name))⟩)) pa_nil st_ListComp)))))))))) , ?_⟩
 have etl : (turn.map fun (n : Nat) => PyData.int (n : Nat)).length = turn.length := List.length_map _
 refine sv_seq (sv_asg (eg_er (er_ixT (er_var rfl) er_int (n := 0) rfl rfl) ?_))
 refine sv_seq (sv_asg (eg_er (er_ixT (er_var rfl) er_int (n := 1) rfl rfl) ?_))
 refine sv_seq (sv_if (et_or (et_test (er_ne (er_lenT (ea_cons (er_var rfl) ea_nil)) (er_lenT (ea_cons (er_var rfl) ea_nil)))) fun _ => et_or (et_not (et_b (er_call (ea_cons (er_var rfl) (ea_cons (er_lenT (ea_cons (er_var rfl) ea_nil)) ea_nil)) ⟨rows, turn.length, by rw [etl], hl, by omega, rfl⟩))) fun _ => et_not (et_b (er_call (ea_cons (er_var rfl) (ea_cons (er_lenT (ea_cons (er_var rfl) ea_nil)) ea_nil)) ⟨kept, turn.length, by rw [etl], hk, rfl⟩))) (fun h => ?_) (fun h => ?_))
 ·refine sv_ret (eg_er (er_d er_bl ?_) rfl)
  congr 1
  unfold shown
  rw [List.length_map, List.length_map] at h
  revert h
  cases hc : cov rows turn.length <;> cases ha : kept.all (inR turn.length) <;> by_cases he : rows.length = kept.length <;> simp [he]
  all_goals (try omega)
 ·rw [List.length_map, List.length_map] at h
  have h1 : rows.length = kept.length := by
   cases hd : decide ((rows.length : Int) = kept.length) with
   | true => have := of_decide_eq_true hd; omega
   | false => rw [hd] at h; cases h
  have h2 : cov rows turn.length = true := by
   cases hd : cov rows turn.length with
   | true => rfl
   | false => rw [hd, decide_eq_true (show (rows.length : Int) = kept.length by omega)] at h; cases h
  have h3 : kept.all (inR turn.length) = true := by
   cases hd : kept.all (inR turn.length) with
   | true => rfl
   | false => rw [hd, h2, decide_eq_true (show (rows.length : Int) = kept.length by omega)] at h; cases h
  refine sv_next ?_
  refine sv_seq (sv_asg (eg_er (er_lc (js := []) turn (fun (n : Nat) => PyData.int (n : Nat)) (fun n => some (.int (-(n : Int)))) (ei_tup (er_var rfl)) (by omega) fun a ha => lx1 et_noif (er_neg (er_var rfl))) ?_))
  refine sv_ret (eg_er (er_d (er_and (er_call (ea_cons (er_var rfl) (ea_cons (er_var rfl) ea_nil)) ⟨turn.map fun (n : Nat) => (n : Int), kept, dN turn, rfl, .inl (by rw [List.map_map]; rfl), hk, fun p hp => ?_, rfl⟩) fun _ => er_all (bs := rows.map (rise (turn.map fun (n : Nat) => -(n : Int)))) (ea_cons (er_d (er_lc (js := [4]) rows dI (fun row => some (.bool (rise (turn.map fun (n : Nat) => -(n : Int)) row))) (ei_tup (er_var rfl)) (by omega) fun row hrow => lx1 et_noif (er_call (ea_cons (er_var rfl) (ea_cons (er_var rfl) ea_nil)) ⟨turn.map fun (n : Nat) => -(n : Int), row, _, rfl, .inr (by rw [fm_some, List.map_map]; rfl), ?_, fun p hp => ?_, rfl⟩)) (by rw [fm_some, List.map_map]; rfl)) ea_nil)) ?_) rfl)
  ·have := List.all_eq_true.mp h3 p hp
   unfold inR at this
   simp only [Bool.and_eq_true, decide_eq_true_eq] at this
   rw [List.length_map]; exact this
  ·have : row.length ≤ rows.flatten.length := (List.sublist_flatten_of_mem hrow).length_le
   omega
  ·rw [List.length_map]; exact cov_in h2 row hrow p hp
  ·congr 1
   unfold shown
   rw [h1, h2, h3, List.all_map]
   simp
end
end K64
namespace StbG
open PySem PyProof.Rows
def R (f : Keyed → Int) (xs : Array Keyed) (i : Nat) : Int := match xs[i]? with
 | some p => f p
 | none => 0
theorem R_of {f : Keyed → Int} {xs ys : Array Keyed} {i j : Nat} (h : xs[i]? = ys[j]?) : R f xs i = R f ys j := by unfold R; rw [h]
structure SB (κ : SortKind) (a₀ : Array Keyed) (st : SortSt) : Prop where
 perm : (arrOf st).Perm a₀
 kind : kindOf st = κ
 failed : failedOf st = none
 pend : pendingOf st = #[]
theorem SB.size {κ : SortKind} {a₀ : Array Keyed} {st : SortSt} (h : SB κ a₀ st) : (arrOf st).size = a₀.size := h.perm.size_eq
theorem SB.setArr {κ : SortKind} {a₀ : Array Keyed} {st : SortSt} (h : SB κ a₀ st) {xs : Array Keyed} (hp : xs.Perm (arrOf st)) : SB κ a₀ (PyProof.Rows.setArr st xs) := ⟨hp.trans h.perm, h.kind, h.failed, h.pend⟩
def Srt (ρ : Keyed → Int) (xs : Array Keyed) (n : Nat) : Prop := ∀ i j, i ≤ j → j < n → R ρ xs i ≤ R ρ xs j
def Up (ρ τ : Keyed → Int) (xs : Array Keyed) (n : Nat) : Prop := ∀ i j, i < j → j < n → R ρ xs i < R ρ xs j ∨ (R ρ xs i = R ρ xs j ∧ R τ xs i ≤ R τ xs j)
def Dn (ρ τ : Keyed → Int) (xs : Array Keyed) (n : Nat) : Prop := ∀ i j, i < j → j < n → R ρ xs j < R ρ xs i ∨ (R ρ xs i = R ρ xs j ∧ R τ xs j ≤ R τ xs i)
def Rs (τ : Keyed → Int) (N : Nat) (xs : Array Keyed) (n : Nat) : Prop := ∀ i j, i < j → n ≤ j → j < N → R τ xs i ≤ R τ xs j
variable {ρ τ : Keyed → Int} {κ : SortKind}
theorem Rs.mono {N n m : Nat} {xs : Array Keyed} (h : Rs τ N xs n) (k : n ≤ m) : Rs τ N xs m := fun i j a b c => h i j a (by omega) c
theorem Up.le {xs : Array Keyed} {n : Nat} (h : Up ρ τ xs n) : Srt ρ xs n := fun i j hij hj => by
 rcases Nat.lt_or_eq_of_le hij with q | rfl
 ·rcases h i j q hj with z | z <;> omega
 ·exact Int.le_refl _
theorem up_of {xs : Array Keyed} {a n N : Nat} (hu : Up ρ τ xs a) (hr : Rs τ N xs a) (hs : Srt ρ xs n) (hn : n ≤ N) : Up ρ τ xs n := fun i j hij hj => by
 have le := hs i j (Nat.le_of_lt hij) hj
 by_cases h : j < a
 ·exact hu i j hij h
 ·have := hr i j hij (by omega) (by omega)
  omega
theorem mirK {xs : Array Keyed} {i j : Nat} (hj : j ≤ xs.size) (k : Nat) : (i ≤ k ∧ k < j → R ρ (mirror xs i j ((j - i) / 2)) k = R ρ xs (i + j - 1 - k) ∧ R τ (mirror xs i j ((j - i) / 2)) k = R τ xs (i + j - 1 - k)) ∧
  (¬ (i ≤ k ∧ k < j) → R ρ (mirror xs i j ((j - i) / 2)) k = R ρ xs k ∧ R τ (mirror xs i j ((j - i) / 2)) k = R τ xs k) := by
 have e := getElem?_mirror_all (i := i) hj k
 refine ⟨fun h => ?_, fun h => ?_⟩
 ·rw [if_pos h] at e; exact ⟨R_of e, R_of e⟩
 ·rw [if_neg h] at e; exact ⟨R_of e, R_of e⟩
theorem bubK {xs : Array Keyed} {src d : Nat} (hs : src < xs.size) (hd : d ≤ src) (k : Nat) : (k = src - d → R ρ (bubble xs src d) k = R ρ xs src ∧ R τ (bubble xs src d) k = R τ xs src) ∧
  (src - d < k ∧ k ≤ src → R ρ (bubble xs src d) k = R ρ xs (k - 1) ∧ R τ (bubble xs src d) k = R τ xs (k - 1)) ∧ (k < src - d ∨ src < k → R ρ (bubble xs src d) k = R ρ xs k ∧ R τ (bubble xs src d) k = R τ xs k) := by
 have e := getElem?_bubble hs d hd k
 refine ⟨fun h => ?_, fun h => ?_, fun h => ?_⟩
 ·rw [if_pos h] at e; exact ⟨R_of e, R_of e⟩
 ·rw [if_neg (by omega), if_pos h] at e; exact ⟨R_of e, R_of e⟩
 ·rw [if_neg (by omega), if_neg (by omega)] at e; exact ⟨R_of e, R_of e⟩
theorem dn_mirror {xs : Array Keyed} {g x : Nat} (hx : x ≤ xs.size) (hg : g ≤ x) (h1 : Dn ρ τ xs g) (h2 : ∀ i, i < g → g < x → R ρ xs g < R ρ xs i) (h3 : ∀ i, g ≤ i → i < x → R ρ xs i = R ρ xs g) (h4 : ∀ i j, i < j → g ≤ i → j < x → R τ xs i ≤ R τ xs j) :
  Dn ρ τ (mirror xs g x ((x - g) / 2)) x := fun i j hij hj => by
 have mi := mirK (ρ := ρ) (τ := τ) (i := g) hx i
 have mj := mirK (ρ := ρ) (τ := τ) (i := g) hx j
 by_cases c1 : g ≤ i
 ·obtain ⟨a1, a2⟩ := mi.1 ⟨c1, by omega⟩
  obtain ⟨b1, b2⟩ := mj.1 ⟨by omega, hj⟩
  rw [a1, a2, b1, b2]
  have q1 := h3 (g + x - 1 - i) (by omega) (by omega)
  have q2 := h3 (g + x - 1 - j) (by omega) (by omega)
  exact .inr ⟨by omega, h4 _ _ (by omega) (by omega) (by omega)⟩
 ·obtain ⟨a1, a2⟩ := mi.2 (by omega)
  rw [a1, a2]
  by_cases c2 : g ≤ j
  ·obtain ⟨b1, b2⟩ := mj.1 ⟨c2, hj⟩
   rw [b1, b2]
   have q2 := h3 (g + x - 1 - j) (by omega) (by omega)
   have := h2 i (by omega) (by omega)
   exact .inl (by omega)
  ·obtain ⟨b1, b2⟩ := mj.2 (by omega)
   rw [b1, b2]
   exact h1 i j hij (by omega)
theorem rs_mirror {xs : Array Keyed} {N g x : Nat} (hx : x ≤ xs.size) (h : Rs τ N xs x) : Rs τ N (mirror xs g x ((x - g) / 2)) x := fun i j hij h1 h2 => by
 have mi := mirK (ρ := τ) (τ := τ) (i := g) hx i
 obtain ⟨_, b2⟩ := (mirK (ρ := τ) (τ := τ) (i := g) hx j).2 (by omega)
 rw [b2]
 by_cases c1 : g ≤ i ∧ i < x
 ·rw [(mi.1 c1).2]; exact h _ _ (by omega) (by omega) h2
 ·rw [(mi.2 c1).2]; exact h _ _ hij (by omega) h2
section
variable {prog : Program} {w : World} {A : Around} {E : Value → Shared → Prop} {s : Shared} {a₀ : Array Keyed}
def Cmp (prog : Program) (w : World) (A : Around) (E : Value → Shared → Prop) (s : Shared) (ρ : Keyed → Int) (κ : SortKind) (a₀ : Array Keyed) : Prop := ∀ {st : SortSt} {i j : Nat} {Q : Option Bool → SortSt → Prop}, SB κ a₀ st → i < a₀.size → j < a₀.size → Q (some (decide (R ρ (arrOf st) i < R ρ (arrOf st) j))) st → wpS (model prog w) A E s (ltAt' i j) Q st
theorem s_asc {st : SortSt} {a nrem : Nat} {Q : AscSt → SortSt → Prop} (ik : Cmp prog w A E s ρ κ a₀) (hn : nrem ≤ a₀.size) (a1 : 1 ≤ a) (an : a ≤ nrem) (hB : SB κ a₀ st) (hs : Srt ρ (arrOf st) a)
  (k : ∀ n, a ≤ n → n ≤ nrem → Srt ρ (arrOf st) n → (n = nrem ∨ R ρ (arrOf st) n < R ρ (arrOf st) (n - 1)) → Q (none, n) st) : wpS (model prog w) A E s (ascLoop a nrem) Q st := by
 unfold ascLoop
 refine wpS_forRange (I := fun x c s2 => s2 = st ∧ c = (none, x) ∧ Srt ρ (arrOf st) x) ?turn ?over ⟨rfl, rfl, hs⟩
 case over =>
  rintro c s2 ⟨rfl, rfl, h⟩
  rw [Nat.max_eq_right an] at h ⊢
  exact k nrem an (Nat.le_refl _) h (.inl rfl)
 case turn =>
  rintro x c s2 x1 x2 ⟨rfl, rfl, h⟩
  dsimp only
  refine wpS_bind (ik hB (by omega) (by omega) ?_)
  by_cases less : R ρ (arrOf s2) x < R ρ (arrOf s2) (x - 1)
  ·rw [decide_eq_true less]
   simp only [if_true]
   exact wpS_pure (k x x1 (by omega) h (.inr less))
  ·rw [decide_eq_false less]
   simp only [Bool.false_eq_true, if_false]
   refine wpS_pure ⟨rfl, rfl, fun i j hij hj => ?_⟩
   by_cases c : j < x
   ·exact h i j hij c
   ·have e : j = x := by omega
    subst e
    by_cases e2 : i = j
    ·rw [e2]; exact Int.le_refl _
    ·have := h i (j - 1) (by omega) (by omega)
     omega
abbrev Good (ρ τ : Keyed → Int) (κ : SortKind) (a₀ : Array Keyed) (st : SortSt) (n : Nat) : Prop := SB κ a₀ st ∧ Up ρ τ (arrOf st) n ∧ Rs τ a₀.size (arrOf st) n
theorem s_tail {st : SortSt} {n nrem : Nat} {Q : Option Nat → SortSt → Prop} (ik : Cmp prog w A E s ρ κ a₀) (hn : nrem ≤ a₀.size) (n1 : 1 ≤ n) (nn : n ≤ nrem) (hB : SB κ a₀ st) (hd : Dn ρ τ (arrOf st) n) (hr : Rs τ a₀.size (arrOf st) n)
  (k : ∀ m st', Good ρ τ κ a₀ st' m → 1 ≤ m → m ≤ nrem → Q (some m) st') : wpS (model prog w) A E s (tail3 n nrem) Q st := by
 have hsz : n ≤ (arrOf st).size := by rw [hB.size]; omega
 have u : Up ρ τ (mirror (arrOf st) 0 n ((n - 0) / 2)) n := fun i j hij hj => by
  obtain ⟨a1, a2⟩ := (mirK (ρ := ρ) (τ := τ) (i := 0) hsz i).1 ⟨Nat.zero_le _, by omega⟩
  obtain ⟨b1, b2⟩ := (mirK (ρ := ρ) (τ := τ) (i := 0) hsz j).1 ⟨Nat.zero_le _, hj⟩
  rw [a1, a2, b1, b2]
  have := hd (0 + n - 1 - j) (0 + n - 1 - i) (by omega) (by omega)
  omega
 have r : Rs τ a₀.size (mirror (arrOf st) 0 n ((n - 0) / 2)) n := rs_mirror hsz hr
 unfold tail3
 refine wpS_bind (wpS_reverse (wpS_bind (s_asc ik hn n1 nn (hB.setArr (mirror_perm _ _ _ _)) (Up.le u) fun m m1 m2 sm _ => ?_)))
 exact wpS_pure (k m _ ⟨hB.setArr (mirror_perm _ _ _ _), up_of u r sm (by omega), Rs.mono r m1⟩ (by omega) m2)
structure Fall (ρ τ : Keyed → Int) (κ : SortKind) (a₀ : Array Keyed) (st : SortSt) (x g : Nat) : Prop where
 b : SB κ a₀ st
 lt : g < x
 d : Dn ρ τ (arrOf st) g
 hi : ∀ i, i < g → R ρ (arrOf st) g < R ρ (arrOf st) i
 eq : ∀ i, g ≤ i → i < x → R ρ (arrOf st) i = R ρ (arrOf st) g
 r : Rs τ a₀.size (arrOf st) g
theorem Fall.close {st : SortSt} {x g : Nat} (f : Fall ρ τ κ a₀ st x g) (hx : x ≤ a₀.size) : SB κ a₀ (setArr st (mirror (arrOf st) g x ((x - g) / 2))) ∧ Dn ρ τ (mirror (arrOf st) g x ((x - g) / 2)) x ∧ Rs τ a₀.size (mirror (arrOf st) g x ((x - g) / 2)) x ∧ ∀ k, R ρ (mirror (arrOf st) g x ((x - g) / 2)) k = R ρ (arrOf st) k := by
 have hs : x ≤ (arrOf st).size := by rw [f.b.size]; exact hx
 have lt := f.lt
 refine ⟨f.b.setArr (mirror_perm _ _ _ _), dn_mirror hs (Nat.le_of_lt lt) f.d (fun i h _ => f.hi i h) f.eq fun i j a b c => f.r i j a (by omega) (by omega), rs_mirror hs (f.r.mono (Nat.le_of_lt lt)), fun k => ?_⟩
 by_cases c : g ≤ k ∧ k < x
 ·rw [((mirK (ρ := ρ) (τ := τ) (i := g) hs k).1 c).1, f.eq _ (by omega) (by omega), f.eq k c.1 c.2]
 ·rw [((mirK (ρ := ρ) (τ := τ) (i := g) hs k).2 c).1]
theorem Fall.one {st : SortSt} {x : Nat} (f : Fall ρ τ κ a₀ st x (x - 1)) : Dn ρ τ (arrOf st) x := fun i j hij hj => by
 have lt := f.lt
 by_cases c : j < x - 1
 ·exact f.d i j hij c
 ·have e : j = x - 1 := by omega
  subst e
  exact .inl (f.hi i hij)
theorem s_desc {st : SortSt} {n nrem : Nat} {Q : DescSt → SortSt → Prop} (ik : Cmp prog w A E s ρ κ a₀) (hn : nrem ≤ a₀.size) (nn : n + 1 ≤ nrem) (f0 : Fall ρ τ κ a₀ st (n + 1) n)
  (k : ∀ m q st', Fall ρ τ κ a₀ st' m (m - (q + 1)) → q + 1 ≤ m → m ≤ nrem → Q (none, m, q) st') : wpS (model prog w) A E s (descLoop (n + 1) nrem) Q st := by
 unfold descLoop
 refine wpS_forRange (I := fun x c st' => ∃ q, c = (none, x, q) ∧ Fall ρ τ κ a₀ st' x (x - (q + 1)) ∧ q + 1 ≤ x) ?turn ?over ⟨0, rfl, by simpa using f0, by omega⟩
 case over =>
  rintro c st' ⟨q, rfl, f, hq⟩
  rw [show max (n + 1) nrem = nrem from Nat.max_eq_right nn] at f hq ⊢
  exact k nrem q st' f hq (Nat.le_refl _)
 case turn =>
  rintro x c st' hx1 hx2 ⟨q, rfl, f, hq⟩
  dsimp only
  have lx : R ρ (arrOf st') (x - 1) = R ρ (arrOf st') (x - (q + 1)) := f.eq _ (by omega) (by omega)
  refine wpS_bind (ik f.b (by omega) (by omega) ?_)
  by_cases less : R ρ (arrOf st') x < R ρ (arrOf st') (x - 1)
  ·rw [decide_eq_true less]
   simp only [if_true]
   have nextF : ∀ st2, SB κ a₀ st2 → Dn ρ τ (arrOf st2) x → Rs τ a₀.size (arrOf st2) x → (∀ z, R ρ (arrOf st2) z = R ρ (arrOf st') z) → Fall ρ τ κ a₀ st2 (x + 1) (x + 1 - (0 + 1)) := fun st2 b d r e => by
    refine ⟨b, by omega, by simpa using d, fun i hi => ?_, fun i h1 h2 => ?_, by simpa using r⟩
    ·have hi' : i < x := by omega
     rw [show x + 1 - (0 + 1) = x by omega, e, e]
     by_cases c : i < x - (q + 1)
     ·have := f.hi i c; omega
     ·have := f.eq i (by omega) hi'; omega
    ·have : i = x + 1 - (0 + 1) := by omega
     rw [this]
   by_cases hq0 : q > 0
   ·rw [if_pos hq0]
    obtain ⟨c1, c2, c3, c4⟩ := f.close (by omega)
    exact wpS_bind (wpS_reverse (wpS_pure ⟨0, rfl, nextF _ c1 c2 c3 c4, by omega⟩))
   ·rw [if_neg hq0]
    have e0 : q = 0 := by omega
    subst e0
    exact wpS_pure ⟨0, rfl, nextF st' f.b (Fall.one (by simpa using f)) (f.r.mono (by omega)) fun _ => rfl, by omega⟩
  ·rw [decide_eq_false less]
   simp only [Bool.false_eq_true, if_false]
   refine wpS_bind (ik f.b (by omega) (by omega) ?_)
   by_cases more : R ρ (arrOf st') (x - 1) < R ρ (arrOf st') x
   ·rw [decide_eq_true more]
    simp only [if_true]
    exact wpS_pure (k x q st' f hq (by omega))
   ·rw [decide_eq_false more]
    simp only [Bool.false_eq_true, if_false]
    have ee : x + 1 - (q + 1 + 1) = x - (q + 1) := by omega
    have f' : Fall ρ τ κ a₀ st' (x + 1) (x - (q + 1)) := ⟨f.b, by omega, f.d, f.hi, fun i h1 h2 => by
     by_cases c : i < x
     ·exact f.eq i h1 c
     ·have : i = x := by omega
      subst this; omega, f.r⟩
    exact wpS_pure ⟨q + 1, rfl, by rw [ee]; exact f', by omega⟩
theorem s_descPart {st : SortSt} {n nrem : Nat} {Q : Option Nat → SortSt → Prop} (ik : Cmp prog w A E s ρ κ a₀) (hn : nrem ≤ a₀.size) (nn : n + 1 ≤ nrem) (f0 : Fall ρ τ κ a₀ st (n + 1) n) (k : ∀ m st', Good ρ τ κ a₀ st' m → 1 ≤ m → m ≤ nrem → Q (some m) st') :
  wpS (model prog w) A E s (descPart n nrem) Q st := by
 unfold descPart
 refine wpS_bind (wpS_lift (wpAny_rule ⟨rfl, wpS_bind (s_desc ik hn nn f0 fun m q st' f hq hm => ?_)⟩))
 dsimp only
 by_cases hq0 : q > 0
 ·rw [if_pos hq0]
  obtain ⟨c1, c2, c3, _⟩ := f.close (by omega)
  exact wpS_bind (wpS_reverse (s_tail ik hn (by omega) hm c1 c2 c3 k))
 ·rw [if_neg hq0]
  have e0 : q = 0 := by omega
  subst e0
  exact s_tail ik hn (by omega) hm f.b (Fall.one (by simpa using f)) (f.r.mono (by omega)) k
theorem s_count {st : SortSt} {nrem : Nat} {Q : Option Nat → SortSt → Prop} (ik : Cmp prog w A E s ρ κ a₀) (hn : nrem ≤ a₀.size) (n1 : 1 ≤ nrem) (hB : SB κ a₀ st) (r0 : Rs τ a₀.size (arrOf st) 0) (k : ∀ m st', Good ρ τ κ a₀ st' m → 1 ≤ m → m ≤ nrem → Q (some m) st') :
  wpS (model prog w) A E s (countRun' 0 nrem) Q st := by
 have u1 : Up ρ τ (arrOf st) 1 := fun i j a b => by omega
 rw [countRun0_eq]
 refine wpS_bind (s_asc ik hn (Nat.le_refl 1) n1 hB u1.le fun n m1 m2 sn hor => ?_)
 have un : Up ρ τ (arrOf st) n := up_of u1 (r0.mono (by omega)) sn (by omega)
 have g : Good ρ τ κ a₀ st n := ⟨hB, un, r0.mono (by omega)⟩
 dsimp only
 by_cases e : n = nrem
 ·rw [if_pos (by simpa using e)]; exact wpS_pure (k n st g m1 m2)
 rw [if_neg (by simpa using e)]
 have lt : R ρ (arrOf st) n < R ρ (arrOf st) (n - 1) := hor.resolve_left e
 by_cases c : n > 1
 ·rw [if_pos c]
  refine wpS_bind (ik hB (by omega) (by omega) ?_)
  by_cases rose : R ρ (arrOf st) 0 < R ρ (arrOf st) (n - 1)
  ·rw [decide_eq_true rose]
   simp only [if_true]
   exact wpS_pure (k n st g m1 m2)
  ·rw [decide_eq_false rose]
   simp only [Bool.false_eq_true, if_false]
   have all : ∀ i, 0 ≤ i → i < n → R ρ (arrOf st) i = R ρ (arrOf st) 0 := fun i _ hi => by
    have a1 := sn 0 i (Nat.zero_le _) hi
    have a2 := sn i (n - 1) (by omega) (by omega)
    omega
   have f : Fall ρ τ κ a₀ st n 0 := ⟨hB, by omega, fun i j _ h => by omega, fun i h => by omega, all, r0⟩
   obtain ⟨c1, c2, c3, c4⟩ := f.close (by omega)
   refine wpS_bind (wpS_reverse (s_descPart ik hn (by omega) ⟨c1, by omega, c2, fun i hi => ?_, fun i h1 h2 => ?_, c3⟩ k))
   ·show R ρ (mirror (arrOf st) 0 n ((n - 0) / 2)) n < R ρ (mirror (arrOf st) 0 n ((n - 0) / 2)) i
    rw [c4, c4]
    have := all i (Nat.zero_le _) hi
    have := all (n - 1) (Nat.zero_le _) (by omega)
    omega
   ·have : i = n := by omega
    rw [this]
 ·rw [if_neg c]
  have e1 : n = 1 := by omega
  subst e1
  exact s_descPart ik hn (by omega) ⟨hB, by omega, fun i j _ h => by omega, fun i h => by (have : i = 0 := by omega); subst this; exact lt, fun i h1 h2 => by (have : i = 1 := by omega); rw [this], r0.mono (by omega)⟩ k
theorem s_binary {st : SortSt} {n ok : Nat} {Q : Bool → SortSt → Prop} (ik : Cmp prog w A E s ρ κ a₀) (hn : n ≤ a₀.size) (o1 : 1 ≤ ok) (o2 : ok ≤ n) (g0 : Good ρ τ κ a₀ st ok) (kk : ∀ st', Good ρ τ κ a₀ st' n → Q true st') : wpS (model prog w) A E s (binarySort' 0 n ok) Q st := by
 rw [binarySort'_eq]
 simp only [Nat.zero_add]
 refine wpS_bind (wpS_mono (wpS_forRange (I := fun k c st' => c = (none, ()) ∧ Good ρ τ κ a₀ st' k) (Q := fun c st' => c = (none, ()) ∧ Good ρ τ κ a₀ st' n) ?turn ?over ⟨rfl, by rw [Nat.max_eq_left o1]; exact g0⟩) fun c st' ⟨e, g⟩ => by subst e; exact wpS_pure (kk st' g))
 case over =>
  rintro c st' ⟨e, g⟩
  rw [Nat.max_eq_left o1, Nat.max_eq_right o2] at g
  exact ⟨e, g⟩
 case turn =>
  rintro k c st' k1 k2 ⟨rfl, hB, u, r⟩
  have ks : k < a₀.size := by omega
  have srt := u.le
  refine wpS_bind (wpS_mono (wpS_forRange (I := fun x c s2 => s2 = st' ∧ ∃ lo hi, c = (none, lo, hi) ∧ lo ≤ hi ∧ hi ≤ k ∧ hi - lo ≤ k - x ∧ (∀ i, i < lo → R ρ (arrOf st') i ≤ R ρ (arrOf st') k) ∧ ∀ i, hi ≤ i → i < k → R ρ (arrOf st') k < R ρ (arrOf st') i)
   (Q := fun c s2 => s2 = st' ∧ ∃ lo hi, c = (none, lo, hi) ∧ lo ≤ k ∧ (∀ i, i < lo → R ρ (arrOf st') i ≤ R ρ (arrOf st') k) ∧ ∀ i, lo ≤ i → i < k → R ρ (arrOf st') k < R ρ (arrOf st') i) ?look ?found ⟨rfl, 0, k, rfl, Nat.zero_le _, Nat.le_refl _, by omega, fun i h => by omega, fun i a b => by omega⟩) ?put)
  case found =>
   rintro c s2 ⟨rfl, lo, hi, rfl, a1, a2, a3, a4, a5⟩
   have : lo = hi := by omega
   subst this
   exact ⟨rfl, lo, lo, rfl, a2, a4, a5⟩
  case look =>
   rintro x c s2 _ hx ⟨rfl, lo, hi, rfl, a1, a2, a3, a4, a5⟩
   dsimp only
   by_cases ge : lo ≥ hi
   ·rw [if_pos ge]
    have : lo = hi := by omega
    subst this
    exact wpS_pure ⟨rfl, lo, lo, rfl, a2, a4, a5⟩
   ·rw [if_neg ge]
    refine wpS_bind (ik hB ks (by omega) ?_)
    by_cases less : R ρ (arrOf s2) k < R ρ (arrOf s2) ((lo + hi) / 2)
    ·rw [decide_eq_true less]
     simp only [if_true]
     exact wpS_pure ⟨rfl, lo, (lo + hi) / 2, rfl, by omega, by omega, by omega, a4, fun i b1 b2 => Int.lt_of_lt_of_le less (srt _ _ b1 b2)⟩
    ·rw [decide_eq_false less]
     simp only [Bool.false_eq_true, if_false]
     exact wpS_pure ⟨rfl, (lo + hi) / 2 + 1, hi, rfl, by omega, by omega, by omega, fun i b1 => Int.le_trans (srt i ((lo + hi) / 2) (by omega) (by omega)) (Int.not_lt.mp less), a5⟩
  case put =>
   rintro c s2 ⟨rfl, lo, hi, rfl, a2, a4, a5⟩
   show wpS _ _ _ _ (do moveDown' k lo; pure (ForInStep.yield (none, ()))) _ _
   have kz : k < (arrOf s2).size := by rw [hB.size]; exact ks
   have ed : k - (k - lo) = lo := by omega
   rw [moveDown'_eq]
   refine wpS_bind (wpS_modify (wpS_pure ⟨rfl, hB.setArr (bubble_perm _ _ _), fun i j hij hj => ?_, fun i j hij h1 h2 => ?_⟩))
   ·show R ρ (bubble (arrOf s2) k (k - lo)) i < R ρ (bubble (arrOf s2) k (k - lo)) j ∨ (R ρ (bubble (arrOf s2) k (k - lo)) i = R ρ (bubble (arrOf s2) k (k - lo)) j ∧ R τ (bubble (arrOf s2) k (k - lo)) i ≤ R τ (bubble (arrOf s2) k (k - lo)) j)
    have bi := bubK (ρ := ρ) (τ := τ) kz (show k - lo ≤ k by omega) i
    have bj := bubK (ρ := ρ) (τ := τ) kz (show k - lo ≤ k by omega) j
    rw [ed] at bi bj
    rcases Nat.lt_trichotomy i lo with c1 | c1 | c1
    ·obtain ⟨p1, p2⟩ := bi.2.2 (.inl c1)
     rw [p1, p2]
     rcases Nat.lt_trichotomy j lo with c2 | c2 | c2
     ·obtain ⟨q1, q2⟩ := bj.2.2 (.inl c2)
      rw [q1, q2]; exact u i j hij (by omega)
     ·obtain ⟨q1, q2⟩ := bj.1 c2
      rw [q1, q2]
      have z1 := a4 i c1
      have z2 := r i k (by omega) (Nat.le_refl _) ks
      omega
     ·obtain ⟨q1, q2⟩ := bj.2.1 ⟨c2, by omega⟩
      rw [q1, q2]; exact u i (j - 1) (by omega) (by omega)
    ·obtain ⟨p1, p2⟩ := bi.1 c1
     obtain ⟨q1, q2⟩ := bj.2.1 ⟨by omega, by omega⟩
     rw [p1, p2, q1, q2]
     exact .inl (a5 (j - 1) (by omega) (by omega))
    ·obtain ⟨p1, p2⟩ := bi.2.1 ⟨c1, by omega⟩
     obtain ⟨q1, q2⟩ := bj.2.1 ⟨by omega, by omega⟩
     rw [p1, p2, q1, q2]
     exact u (i - 1) (j - 1) (by omega) (by omega)
   ·show R τ (bubble (arrOf s2) k (k - lo)) i ≤ R τ (bubble (arrOf s2) k (k - lo)) j
    have bi := bubK (ρ := ρ) (τ := τ) kz (show k - lo ≤ k by omega) i
    rw [ed] at bi
    obtain ⟨_, q2⟩ := (bubK (ρ := ρ) (τ := τ) kz (show k - lo ≤ k by omega) j).2.2 (.inr (by omega))
    rw [q2]
    rcases Nat.lt_trichotomy i lo with c1 | c1 | c1
    ·rw [(bi.2.2 (.inl c1)).2]; exact r i j hij (by omega) h2
    ·rw [(bi.1 c1).2]; exact r k j (by omega) (by omega) h2
    ·by_cases c2 : i ≤ k
     ·rw [(bi.2.1 ⟨c1, c2⟩).2]; exact r (i - 1) j (by omega) (by omega) h2
     ·rw [(bi.2.2 (.inr (by omega))).2]; exact r i j hij (by omega) h2
theorem s_runs {st : SortSt} {Q : Unit → SortSt → Prop} (ik : Cmp prog w A E s ρ κ a₀) (hB : SB κ a₀ st) (z2 : 2 ≤ a₀.size) (z64 : a₀.size < 64) (r0 : Rs τ a₀.size (arrOf st) 0)
  (kk : ∀ st', (arrOf st').Perm a₀ → failedOf st' = none → Up ρ τ (arrOf st') a₀.size → Q () st') : wpS (model prog w) A E s sortRuns' Q st := by
 have mr : minRun' a₀.size a₀.size 0 = a₀.size := by
  obtain ⟨f, hf⟩ : ∃ f, a₀.size = f + 1 := ⟨a₀.size - 1, by omega⟩
  have q : minRun' (f + 1) a₀.size 0 = a₀.size := by rw [minRun'_succ, if_pos z64]; rfl
  rwa [← hf] at q
 rw [sortRuns'_eq]
 refine wpS_bind (wpS_get (show wpS _ _ _ _ _ _ _ from ?_))
 dsimp only
 simp only [hB.size, mr]
 have fin : ∀ st' n, n = a₀.size → Good ρ τ κ a₀ st' n → (arrOf (setPending st' ((pendingOf st').push (0, n, 0)))).Perm a₀ ∧ failedOf (setPending st' ((pendingOf st').push (0, n, 0))) = none ∧ pendingOf (setPending st' ((pendingOf st').push (0, n, 0))) = #[(0, n, 0)] ∧ Up ρ τ (arrOf (setPending st' ((pendingOf st').push (0, n, 0)))) n := fun st' n _ g =>
  ⟨g.1.perm, g.1.failed, by show (pendingOf st').push _ = _; rw [g.1.pend]; rfl, g.2.1⟩
 refine wpS_bind (wpS_mono (wpS_forRange
  (I := fun x c st' => (x = 0 ∧ c = (none, 0) ∧ SB κ a₀ st' ∧ Rs τ a₀.size (arrOf st') 0) ∨ (1 ≤ x ∧ c = (none, a₀.size) ∧ (arrOf st').Perm a₀ ∧ failedOf st' = none ∧ pendingOf st' = #[(0, a₀.size, 0)] ∧ Up ρ τ (arrOf st') a₀.size))
  (Q := fun c st' => c = (none, a₀.size) ∧ (arrOf st').Perm a₀ ∧ failedOf st' = none ∧ pendingOf st' = #[(0, a₀.size, 0)] ∧ Up ρ τ (arrOf st') a₀.size) ?turn ?over (.inl ⟨rfl, rfl, hB, r0⟩)) ?post)
 case over =>
  rintro c st' (⟨hx, _⟩ | ⟨_, r⟩)
  ·omega
  ·exact r
 case turn =>
  rintro x c st' _ hx (⟨rfl, rfl, hB', r'⟩ | ⟨hx1, rfl, hD⟩)
  ·dsimp only
   rw [if_neg (show ¬ (0 ≥ a₀.size) by omega)]
   simp only [Nat.sub_zero, Nat.min_self, Nat.zero_add]
   refine wpS_bind (s_count ik (Nat.le_refl _) (show 1 ≤ a₀.size by omega) hB' r' fun m st2 g2 m1 m2 => ?_)
   dsimp only
   by_cases lt : m < a₀.size
   ·rw [if_pos lt]
    refine wpS_bind (wpS_lift (wpAny_rule ⟨rfl, wpS_bind (s_binary ik (Nat.le_refl _) m1 m2 g2 fun st3 g3 => ?_)⟩))
    simp only [Bool.not_true, Bool.false_eq_true, if_false]
    have nb : (pendingOf st3).back? = none := by rw [g3.1.pend]; rfl
    refine wpS_bind (wpS_get (show wpS _ _ _ _ _ _ _ from ?_))
    rw [nb]
    exact wpS_bind (wpS_modify (wpS_pure (.inr ⟨by omega, rfl, fin st3 _ rfl g3⟩)))
   ·rw [if_neg lt]
    have em : m = a₀.size := by omega
    subst em
    have nb : (pendingOf st2).back? = none := by rw [g2.1.pend]; rfl
    refine wpS_bind (wpS_get (show wpS _ _ _ _ _ _ _ from ?_))
    rw [nb]
    exact wpS_bind (wpS_modify (wpS_pure (.inr ⟨by omega, rfl, fin st2 _ rfl g2⟩)))
  ·dsimp only
   rw [if_pos (show a₀.size ≥ a₀.size from Nat.le_refl _)]
   exact wpS_pure ⟨rfl, hD⟩
 case post =>
  rintro c st' ⟨rfl, p, f, pd, u⟩
  dsimp only
  refine wpS_bind (wpS_mono (wpS_forRange (I := fun _ c s2 => s2 = st' ∧ c = (none, ())) (Q := fun c s2 => s2 = st' ∧ c = (none, ())) (fun x c s2 _ _ ⟨e1, e2⟩ => ?_) (fun _ _ q => q) ⟨rfl, rfl⟩) fun c s2 ⟨e1, e2⟩ => ?_)
  ·subst e1 e2
   exact wpS_pure (kk _ p f u)
  ·subst e1 e2
   refine wpS_bind (wpS_get (show wpS _ _ _ _ _ _ _ from ?_))
   rw [if_pos (show (pendingOf s2).size ≤ 1 by rw [pd]; exact Nat.le_refl 1)]
   exact wpS_pure ⟨rfl, rfl⟩
end
end StbG
namespace L2
open PySem PySem.Spec PyProof.Rows
section
variable {g : Nat → Int} {n : Nat} {keys items : List Value}
end
section
variable {X : Cx} {pins : List (Addr × Obj)} {σ : St} {H : Hp} {s : Shared} {g : Nat → Int} {n : Nat} {D kS : Addr} {P : PySem.Fin → Shared → Prop} {A : Around} {E : Value → Shared → Prop} {items : List Value}
end
end L2
namespace L2
open PySem PySem.Spec PyProof.Rows StbG
section
variable {prog : Program} {w : World} {A : Around} {E : Value → Shared → Prop} {s : Shared}
def PairAt (h : Heap) (v : Value) (a b : Int) : Prop := ∃ p o t u n, v = .ref p ∧ h.get? p = some o ∧ o.cls = .type "tuple" ∧ o.data = .seq #[.int a t, .int b u] n
theorem pair_lt {x y : Value} {a b c d : Int} {Q : Bool → Shared → Prop} (hx : PairAt s.heap x a b) (hy : PairAt s.heap y c d) (h : Q (decide (a < c ∨ (a = c ∧ b < d))) s) : wpAny (model prog w) A (keyLt' (tuples' true) x y) Q E s := by
 obtain ⟨p, o, t, u, n, rfl, e1, _, d1⟩ := hx
 obtain ⟨p2, o2, t2, u2, n2, rfl, e2, _, d2⟩ := hy
 refine PySem.W.kat_lt e1 d1 e2 d2 ?_
 show PySem.W.KatLex prog w A true _ Q [(.int a t, .int c t2), (.int b u, .int d u2)] 0 s
 refine PySem.W.kat_cons (wpAny_eqBool_int (PySem.W.kat_go (fun z => PySem.W.kat_yes (PySem.W.kat_cons (wpAny_eqBool_int (PySem.W.kat_go (fun z2 => PySem.W.kat_yes (PySem.W.kat_nil ?_)) fun z2 => PySem.W.kat_no (PySem.W.kat_one _ _ (lt_int ?_)))))) fun z => PySem.W.kat_no (oneLt_int ?_)))
 ·have e1 : a = c := by simpa using z
  have e2 : b = d := by simpa using z2
  have : decide (a < c ∨ (a = c ∧ b < d)) = false := decide_eq_false (by omega)
  rw [this] at h
  exact h
 ·have e1 : a = c := by simpa using z
  have : decide (a < c ∨ (a = c ∧ b < d)) = decide (b < d) := decide_eq_decide.mpr (by omega)
  rw [this] at h
  exact h
 ·have e1 : a ≠ c := by simpa using z
  have : decide (a < c ∨ (a = c ∧ b < d)) = decide (a < c) := decide_eq_decide.mpr (by omega)
  rw [this] at h
  exact h
theorem pairs_cmp {ρ : Keyed → Int} {vs : List Value} (h : ∀ p ∈ (vs.toArray.zip vs.toArray).toList, ∃ a b, PairAt s.heap p.1 a b ∧ 0 ≤ b ∧ b < 1000 ∧ ρ p = a * 1000 + b) : Cmp prog w A E s ρ (tuples' true) (vs.toArray.zip vs.toArray) := by
 intro st i j Q hB hi hj hq
 have at_ : ∀ k, k < (vs.toArray.zip vs.toArray).size → ∃ x q a b, (arrOf st)[k]? = some (x, q) ∧ PairAt s.heap x a b ∧ 0 ≤ b ∧ b < 1000 ∧ R ρ (arrOf st) k = a * 1000 + b := fun k hk => by
  have hk' : k < (arrOf st).size := by rw [hB.size]; exact hk
  have hm : (arrOf st)[k] ∈ (vs.toArray.zip vs.toArray).toList := (Array.perm_iff_toList_perm.mp hB.perm).mem_iff.mp (by simp)
  obtain ⟨a, b, hp, b0, b1, e⟩ := h _ hm
  have e' : (arrOf st)[k]? = some (arrOf st)[k] := getElem?_pos _ k hk'
  exact ⟨(arrOf st)[k].1, (arrOf st)[k].2, a, b, e', hp, b0, b1, by unfold R; rw [e']; exact e⟩
 obtain ⟨x, p, a, b, ei, hx, x0, x1, ri⟩ := at_ i hi
 obtain ⟨y, q, c, d, ej, hy, y0, y1, rj⟩ := at_ j hj
 rw [ri, rj] at hq
 have e : decide (a * 1000 + b < c * 1000 + d) = decide (a < c ∨ (a = c ∧ b < d)) := decide_eq_decide.mpr (by omega)
 rw [e] at hq
 rw [ltAt'_eq]
 refine wpS_bind (wpS_get ?_)
 show wpS _ _ _ _ (do let x ← elem' (arrOf st) i; let y ← elem' (arrOf st) j; lt' x y) Q st
 rw [elem'_eq, elem'_eq, ei, ej]
 refine wpS_bind (wpS_pure (wpS_bind (wpS_pure ?_)))
 rw [lt'_eq]
 refine wpS_bind (wpS_get ?_)
 rw [hB.kind]
 exact wpS_bind (wpS_lift (wpAny_attempt (pair_lt hx hy ⟨rfl, wpS_pure hq⟩)))
theorem pairs_kind {vs : List Value} {Q : SortKind → Shared → Prop} (h : ∀ v ∈ vs, ∃ a b, PairAt s.heap v a b) (hne : vs ≠ []) (hq : Q (tuples' true) s) : wpAny (model prog w) A (keyKind' vs.toArray) Q E s := by
 have key : ∀ vs : List Value, (∀ v ∈ vs, ∃ a b, PairAt s.heap v a b) → ∃ fs : List Value, PySem.W.KatTups s.heap vs fs ∧ fs.length = vs.length ∧ ∀ f ∈ fs, ∃ a t, f = .int a t := by
  intro vs
  induction vs with
  | nil => intro _; exact ⟨[], .nil, rfl, fun f hf => by cases hf⟩
  | cons v r ih =>
   intro h
   obtain ⟨fs, k1, k2, k3⟩ := ih fun z hz => h z (List.mem_cons_of_mem _ hz)
   obtain ⟨a, b, p, o, t, u, n, rfl, e1, c1, d1⟩ := h v List.mem_cons_self
   exact ⟨.int a t :: fs, PySem.W.KatTups.cons e1 c1 d1 rfl k1, by rw [List.length_cons, List.length_cons, k2], fun f hf => by
    rcases List.mem_cons.mp hf with rfl | hf
    ·exact ⟨a, t, rfl⟩
    ·exact k3 f hf⟩
 obtain ⟨fs, k1, k2, k3⟩ := key vs h
 refine PySem.W.kat_kind (T := .type "int") k1 (by rw [k2]; cases vs with | nil => exact absurd rfl hne | cons => simp) (fun f hf => ?_) (by decide) hq
 obtain ⟨a, t, rfl⟩ := k3 f hf
 exact PySem.W.Looks.of_pure rfl
def pN (h : Heap) (v : Value) : Int := match v with
 | .ref p => match h.get? p with
  | some o => match o.data with
   | .seq xs _ => numOf (xs.getD 0 .none) * 1000 + numOf (xs.getD 1 .none)
   | _ => 0
  | none => 0
 | _ => 0
theorem pN_of {h : Heap} {v : Value} {a b : Int} (x : PairAt h v a b) : pN h v = a * 1000 + b := by
 obtain ⟨p, o, t, u, n, rfl, e1, _, d1⟩ := x
 unfold pN
 dsimp only
 rw [e1]
 show (match o.data with | .seq xs _ => numOf (xs.getD 0 .none) * 1000 + numOf (xs.getD 1 .none) | _ => 0) = _
 rw [d1]
 rfl
abbrev pz (vs : List Value) : Array Keyed := vs.toArray.zip vs.toArray
theorem pz_size (vs : List Value) : (pz vs).size = vs.length := by simp [pz]
theorem pz_mem {vs : List Value} {p : Keyed} (h : p ∈ (pz vs).toList) : p.1 ∈ vs ∧ p.2 = p.1 := by
 have e : (pz vs).toList = vs.zip vs := by simp [pz]
 rw [e] at h
 obtain ⟨i, hi⟩ := List.getElem?_of_mem h
 rw [List.getElem?_zip_eq_some] at hi
 exact ⟨List.mem_of_getElem? hi.1, Option.some.inj (hi.2.symm.trans hi.1)⟩
theorem lsort_pairs {a : Addr} {vs : List Value} {n : Nat} {ρ : Keyed → Int} {P : PySem.Fin → Shared → Prop} (ho : s.heap.get? a = some (seqObj "list" vs.toArray n)) (hv : ∀ v ∈ vs, ∃ x y, PairAt s.heap v x y ∧ 0 ≤ y ∧ y < 1000 ∧ ∀ q, ρ (v, q) = x * 1000 + y) (z64 : vs.length < 64)
  (k : ∀ st' : SortSt, (arrOf st').Perm (pz vs) → Up ρ (fun _ => 0) (arrOf st') (pz vs).size → P (.done (.ret .none)) { s with heap := sortedHeap s.heap a vs ((arrOf st').map (·.2)) }) : wpAny (model prog w) A (Builtin.«list.sort» ⟨[.ref a], []⟩) P E s := by
 have la : a < s.heap.objs.size := Heap.lt_size ho
 have zl : (64 : Nat) ≤ sizeLine := by decide
 obtain ⟨e1, ho1⟩ : ∃ e1, (s.heap.update a (Obj.mapSeq fun _ => #[])).get? a = some (seqObj "list" #[] e1) := ⟨_, get?_update_seq ho fun _ => #[]⟩
 have ho6 : (((s.heap.update a (Obj.mapSeq fun _ => #[])).push (seqObj "tuple" vs.toArray 0)).push (seqObj "list" #[] 0)).get? a = some (seqObj "list" #[] e1) := Heap.get?_push_of_some _ (Heap.get?_push_of_some _ ho1)
 rw [list_sort_plain]
 refine wpAny_bind (listItems_at ho rfl (wpAny_bind (listUpdate_at ho rfl ?_ (by rw [List.size_toArray]; omega) (Nat.zero_le _))))
 refine wpAny_bind (seqEpoch_at ho1 rfl (wpAny_bind (wpAny_newTuple ?_ (by show vs.toArray.toList.length ≤ _; rw [List.toList_toArray]; omega))))
 refine wpAny_bind (wpAny_newList (wpAny_holding ?_) (Nat.zero_le _))
 show wpAny (model prog w) A _ P E { s with heap := ((s.heap.update a (Obj.mapSeq fun _ => #[])).push (seqObj "tuple" vs.toArray 0)).push (seqObj "list" #[] 0) }
 have keep : ∀ v ∈ vs, ∀ x y, PairAt s.heap v x y → PairAt (((s.heap.update a (Obj.mapSeq fun _ => #[])).push (seqObj "tuple" vs.toArray 0)).push (seqObj "list" #[] 0)) v x y := fun v hv' x y pa => by
  obtain ⟨p, o, t, u, m, e, e1', c1, d1⟩ := pa
  have npa : a ≠ p := fun z => by
   subst z
   rw [ho] at e1'
   have eo := Option.some.inj e1'
   rw [← eo] at c1
   have c2 : Value.type "list" = Value.type "tuple" := c1
   injection c2 with c2
   exact absurd c2 (by decide)
  exact ⟨p, o, t, u, m, e, Heap.get?_push_of_some _ (Heap.get?_push_of_some _ ((Heap.get?_update_other s.heap _ npa).trans e1')), c1, d1⟩
 have osz : ∀ st' : SortSt, (arrOf st').Perm (pz vs) → ((arrOf st').map (·.2)).size ≤ sizeLine + 1 := fun st' hp => by rw [Array.size_map, hp.size_eq, pz_size]; omega
 dsimp only
 by_cases h2 : vs.toArray.size < 2
 ·rw [if_pos h2, if_pos h2]
  refine wpAny_bind (wpAny_pure ?_)
  rw [StateT.run_pure]
  refine wpAny_bind (wpAny_pure ?_)
  dsimp only
  refine wpAny_bind (seqEpoch_at ho6 rfl (wpAny_bind (listUpdate_at ho6 rfl ?_ (Nat.zero_le _) (osz (SortSt.mk' general' (pz vs) #[] 7 none) (Array.Perm.refl _)))))
  simp only [bne_self_eq_false, Bool.false_eq_true, if_false]
  refine wpAny_pure (k (SortSt.mk' general' (pz vs) #[] 7 none) (Array.Perm.refl _) fun i j hij hj => ?_)
  rw [pz_size] at hj
  rw [List.size_toArray] at h2
  omega
 ·rw [if_neg h2, if_neg h2]
  rw [List.size_toArray] at h2
  refine wpAny_bind (pairs_kind (fun v hv' => ?_) (fun z => by subst z; simp at h2) ?_)
  ·obtain ⟨x, y, pa, _⟩ := hv v hv'
   exact ⟨x, y, keep v hv' x y pa⟩
  refine wpAny_bind (wpAny_mono (s_runs (ρ := ρ) (τ := fun _ => 0) (κ := tuples' true) (a₀ := pz vs) (st := SortSt.mk' (tuples' true) (pz vs) #[] 7 none) (Q := fun _ st' => (arrOf st').Perm (pz vs) ∧ failedOf st' = none ∧ Up ρ (fun _ => 0) (arrOf st') (pz vs).size)
   (pairs_cmp fun p hp => ?_) ⟨Array.Perm.refl _, rfl, rfl, rfl⟩ (by rw [pz_size]; omega) (by rw [pz_size]; exact z64) (fun i j _ _ _ => ?_) fun st' a1 a2 a3 => ⟨a1, a2, a3⟩) ?_ fun _ _ e => e)
  ·obtain ⟨m1, m2⟩ := pz_mem hp
   obtain ⟨x, y, pa, y0, y1, e⟩ := hv _ m1
   exact ⟨x, y, keep _ m1 x y pa, y0, y1, e p.2⟩
  ·unfold R
   split <;> split <;> exact Int.le_refl _
  rintro ⟨⟨⟩, st'⟩ s' ⟨rfl, hp, hf, hu⟩
  dsimp only
  refine wpAny_bind (seqEpoch_at ho6 rfl (wpAny_bind (listUpdate_at ho6 rfl ?_ (Nat.zero_le _) (osz st' hp))))
  rw [hf]
  simp only [bne_self_eq_false, Bool.false_eq_true, if_false]
  exact wpAny_pure (k st' hp hu)
end
theorem perm_lift {α β : Type} {f : α → β} {a b : List β} (h : a.Perm b) : ∀ {Z : List α}, Z.map f = b → ∃ Z' : List α, Z'.Perm Z ∧ Z'.map f = a := by
 induction h with
 | nil => intro Z e; exact ⟨Z, .refl _, e⟩
 | cons x h ih =>
  intro Z e
  cases Z with
  | nil => cases e
  | cons z Z =>
   injection e with e1 e2
   obtain ⟨Z', p, e3⟩ := ih e2
   exact ⟨z :: Z', p.cons z, by rw [List.map_cons, e1, e3]⟩
 | swap x y l =>
  intro Z e
  match Z, e with
  | z :: z2 :: Z, e =>
   injection e with e1 e2
   injection e2 with e2 e3
   exact ⟨z2 :: z :: Z, .swap _ _ _, by rw [List.map_cons, List.map_cons, e1, e2, e3]⟩
 | trans h1 h2 i1 i2 =>
  intro Z e
  obtain ⟨Z2, p2, e2⟩ := i2 e
  obtain ⟨Z1, p1, e1⟩ := i1 e2
  exact ⟨Z1, p1.trans p2, e1⟩
abbrev dPr (p : Int × Int) : PyData := .tuple [.int p.1, .int p.2]
section
variable {X : Cx} {pins : List (Addr × Obj)} {σ : St} {H G : Hp} {s : Shared}
theorem pair_of (I : Inv X pins σ H s) (sg : Same G H) {v : V} {u : Value} {q : Int × Int} (r : RelV v u) (h : Dat X.K G v (dPr q)) : PairAt s.heap u q.1 q.2 := by
 obtain ⟨p, xs, rfl, hp, hxs⟩ := h.tup
 obtain ⟨y, ys, rfl, hy, hxs⟩ := hxs.cons
 obtain ⟨z, zs, rfl, hz, hxs⟩ := hxs.cons
 cases hxs.nil
 cases hy.int
 cases hz.int
 obtain rfl : u = Value.ref p := r
 obtain ⟨its, rv, ⟨o, e1, c1, n, d1⟩, _⟩ := I.tuple (sg.tup hp)
 cases rv with
 | cons r1 rv =>
  cases rv with
  | cons r2 rv =>
   cases rv
   obtain ⟨t, rfl⟩ := r1
   obtain ⟨t2, rfl⟩ := r2
   exact ⟨p, o, t, t2, n, rfl, e1, c1, d1⟩
theorem triples (I : Inv X pins σ H s) (sg : Same G H) : ∀ {vs : List V} {its : List Value} {ps : List (Int × Int)}, Vals vs its → Dats X.K G vs (ps.map dPr) → ∃ Z : List (Value × V × (Int × Int)), Z.map (·.1) = its ∧ Z.map (·.2.2) = ps ∧ ∀ z ∈ Z, RelV z.2.1 z.1 ∧ Dat X.K G z.2.1 (dPr z.2.2) ∧ PairAt s.heap z.1 z.2.2.1 z.2.2.2
 | _, _, [], .nil, _ => ⟨[], rfl, rfl, fun z hz => by cases hz⟩
 | _, _, _ :: _, .nil, h => by obtain ⟨_, _, e, _⟩ := h.cons; cases e
 | _, _, [], .cons _ _, h => by cases h.nil
 | v0 :: vs0, u0 :: us0, q :: ps, .cons r rv, h => by
  obtain ⟨y, ys, e, hy, h'⟩ := h.cons
  cases e
  obtain ⟨Z, e1, e2, e3⟩ := triples I sg rv h'
  refine ⟨(u0, v0, q) :: Z, by rw [List.map_cons, e1], by rw [List.map_cons, e2], fun z hz => ?_⟩
  rcases List.mem_cons.mp hz with rfl | hz
  ·exact ⟨r, hy, pair_of I sg r hy⟩
  ·exact e3 z hz
end
end L2
namespace L2
open PySem PySem.Spec PyProof.Rows StbG
section
variable {X : Cx} {pins : List (Addr × Obj)} {σ : St} {H H' G : Hp} {s : Shared} {h' : Heap}
theorem Inv.laidM {t' : Nat} (I : Inv X pins σ H s) (k : ∀ b u, s.heap.get? b = some u → h'.get? b = some u) (sm : Same H H') (nw : ∀ b o, H' b = some o → H b = none → s.heap.objs.size ≤ b)
  (new : ∀ b o, H' b = some o → H b = none → ObjOk X.prog X.w H' h' b o) : Inv X pins σ H' { s with heap := h', toks := t' } := by
 have fr : ∀ b u, s.heap.get? b = some u → H b = none → H' b = none := fun b u q n => by
  cases e : H' b with
  | none => rfl
  | some o => exact absurd (Heap.lt_size q) (Nat.not_lt.mpr (nw b o e n))
 refine I.un ⟨fun b u q _ _ _ => k b u q, fun b u q _ _ _ => ⟨u.slots, k b u q⟩, fun b u q n _ => fr b u q n, fun b u q _ => ⟨u, k b u q⟩, fun b xs q => sm b _ q, fun b u xs q => sm b _ q, fun b cr q => sm b _ q⟩ fun b u e => ?_
 cases q : H b with
 | none => exact new b u e q
 | some o =>
  have := sm b o q
  rw [e] at this; cases this
  exact (I.hok b u q).stay (fun c v _ z => k c v z) (fun c z => sm c _ z) (fun c xs z => sm c _ z) fun c o u z => sm c _ z
theorem srt_core {K : PySem.W.Frag} {h : Heap} {its : List Value} {Z : List (Value × V × (Int × Int))} (z1 : Z.map (·.1) = its) (z3 : ∀ z ∈ Z, RelV z.2.1 z.1 ∧ Dat K G z.2.1 (dPr z.2.2) ∧ PairAt h z.1 z.2.2.1 z.2.2.2) {st' : SortSt} (a1 : (arrOf st').Perm (pz its)) (a2 : Up (fun p => pN h p.1) (fun _ => 0) (arrOf st') (pz its).size) :
  ∃ Z' : List (Value × V × (Int × Int)), Z'.Perm Z ∧ Vals (Z'.map (·.2.1)) ((arrOf st').map (·.2)).toList ∧ Dats K G (Z'.map (·.2.1)) ((Z'.map (·.2.2)).map dPr) ∧ (Z'.map (·.2.2)).Pairwise (fun a b => a.1 * 1000 + a.2 ≤ b.1 * 1000 + b.2) := by
 have mem : ∀ q ∈ (arrOf st').toList, q.1 ∈ its ∧ q.2 = q.1 := fun q hq => pz_mem ((Array.perm_iff_toList_perm.mp a1).mem_iff.mp hq)
 have hperm : ((arrOf st').toList.map (·.2)).Perm its := by
  have := (Array.perm_iff_toList_perm.mp a1).map (·.2)
  have e : (pz its).toList.map (·.2) = its := by
   have : (pz its).toList = its.zip its := by simp [pz]
   rw [this, ← List.unzip_snd, List.unzip_zip (by rfl)]
  rw [e] at this; exact this
 obtain ⟨Z', p1, e1⟩ := perm_lift hperm z1
 have zl : Z'.length = (arrOf st').size := by have := congrArg List.length e1; simpa using this
 have hZ : ∀ z ∈ Z', RelV z.2.1 z.1 ∧ Dat K G z.2.1 (dPr z.2.2) ∧ PairAt h z.1 z.2.2.1 z.2.2.2 := fun z hz => z3 z (p1.mem_iff.mp hz)
 have hvals : ∀ L : List (Value × V × (Int × Int)), (∀ z ∈ L, RelV z.2.1 z.1 ∧ Dat K G z.2.1 (dPr z.2.2) ∧ PairAt h z.1 z.2.2.1 z.2.2.2) → Vals (L.map (·.2.1)) (L.map (·.1)) ∧ Dats K G (L.map (·.2.1)) ((L.map (·.2.2)).map dPr) := by
  intro L
  induction L with
  | nil => intro _; exact ⟨.nil, dats_nil⟩
  | cons z L ih =>
   intro h
   obtain ⟨i1, i2⟩ := ih fun y hy => h y (List.mem_cons_of_mem _ hy)
   obtain ⟨h1, h2, _⟩ := h z List.mem_cons_self
   exact ⟨.cons h1 i1, dats_cons h2 i2⟩
 obtain ⟨hV, hD⟩ := hvals Z' hZ
 rw [e1] at hV
 have eo : ((arrOf st').map (·.2)).toList = (arrOf st').toList.map (·.2) := by simp
 refine ⟨Z', p1, by rw [eo]; exact hV, hD, ?_⟩
 rw [List.pairwise_iff_getElem]
 intro i j hi hj hij
 have hj' : j < Z'.length := by simpa using hj
 have at_ : ∀ m (hm : m < Z'.length), R (fun p => pN h p.1) (arrOf st') m = Z'[m].2.2.1 * 1000 + Z'[m].2.2.2 := fun m hm => by
  have hm' : m < (arrOf st').size := by omega
  have ea : (arrOf st')[m]? = some (arrOf st')[m] := Array.getElem?_eq_getElem hm'
  have q1 : Z'[m].1 = (arrOf st')[m].2 := by
   have h1 : (Z'.map (·.1))[m]? = some Z'[m].1 := by rw [List.getElem?_map, List.getElem?_eq_getElem hm]; rfl
   rw [e1, List.getElem?_map] at h1
   have h2 : (arrOf st').toList[m]? = some (arrOf st')[m] := by simp [hm']
   rw [h2] at h1
   exact (Option.some.inj h1).symm
  have q2 := (mem (arrOf st')[m] (by simp)).2
  unfold R
  rw [ea]
  show pN h (arrOf st')[m].1 = _
  rw [← q2, ← q1]
  exact pN_of (hZ _ (List.getElem_mem hm)).2.2
 have := a2 i j hij (by rw [← a1.size_eq]; omega)
 rw [at_ i (by omega), at_ j hj'] at this
 simp only [List.getElem_map]
 omega
abbrev dKI (m : List (Int × Int)) : HO := .dK (m.map fun x => (Sum.inl x.1, V.int x.2))
def tSrtM (K : PySem.W.Frag) (td : TE) : TE := fun σ H Q => td σ H fun x H1 => ∃ (a : Addr) (m : List (Int × Int)), x = .ref a ∧ H1 a = some (dKI m) ∧ m.length < 64 ∧ (∀ q ∈ m, 0 ≤ q.2 ∧ q.2 < 1000) ∧
 ∀ (l : Addr) (us : List V) (qs : List (Int × Int)) (H2 : Hp), Same H1 H2 → H1 l = none → H2 l = some (.lst us) → (∀ G, Same G H1 → ∃ G', Grow G H1 G' (fun b => if b = l then none else H2 b) ∧ Dats K G' us (qs.map dPr)) → qs.Perm m → qs.Pairwise (fun a b => a.1 * 1000 + a.2 ≤ b.1 * 1000 + b.2) → Q (.ref l) H2
theorem paired_get {α β : Type} {Rr : α → β → Prop} : ∀ {l : List α} {r : List β}, Paired Rr l r → ∀ {i : Nat} {a : α}, l[i]? = some a → ∃ b, r[i]? = some b ∧ Rr a b
 | _, _, .nil, i, a, h => by simp at h
 | _, _, .cons h t, 0, a, e => by cases e; exact ⟨_, rfl, h⟩
 | _, _, .cons h t, i + 1, a, e => paired_get t (i := i) (by simpa using e)
theorem mix_int {P : Program} {w : World} {i : Int} {u : Value} (h : (mixKind P w).is (Sum.inl i) u = true) : ∃ t, u = .int i t := by
 rcases keyIs_shape (show keyIs (.inl i) u = true from h) with ⟨j, t, e, rfl⟩ | ⟨x, t, e, rfl⟩
 ·injection e with e; subst e; exact ⟨t, rfl⟩
 ·cases e
theorem pe_srtM {K : PySem.W.Frag} (eK : X.K = K) (hc : X.calm = true) (hg : Gl X "sorted") (hm : X.mg "sorted" = none) {o : Expr} {td : TE} {p1 apos cpos q1 : Pos} (ho : PE X o td)
  (hbase : attributeBase o "items" X.env (eval o X.env) = eval o X.env := by rfl) (hline : (apos.endLine == cpos.line) = true := by rfl)
  (hs1 : starEach [.Call (.Attribute o "items" apos) [] [] cpos] X.env = [(false, eval (.Call (.Attribute o "items" apos) [] [] cpos) X.env)] := by rfl) :
  PE X (.Call (.Name "sorted" p1) [.Call (.Attribute o "items" apos) [] [] cpos] [] q1) (tSrtM K td) := by
 subst eK
 intro pins s σ H Q I h
 refine wpAny_Call_Name_kw (ld_blt I hg hm boot_srtI (PyProof.Rows.callWith_builtin1 ?_ hs1 rfl))
 rw [hs1]
 show wpAny _ _ (spliced [(false, eval (.Call (.Attribute o "items" apos) [] [] cpos) X.env)]) _ _ s
 refine Calls.spliced_cons (wpAny_Call_method0_late hbase hline (thn (ho pins s σ H _ I h) fun v s1 ⟨x, H1, I1, r1, a, m, ex, ha, h64, hv, q⟩ => ?_))
 subst ex
 cases r1
 obtain ⟨z, hsm, vs, rel, dd⟩ := dk_of I1.hok ha
 obtain ⟨od, hod, hodn⟩ : ∃ ob, s1.heap.get? a = some ob ∧ ob.dict = none := let ⟨ob, _, _, h1, h2, _⟩ := dd; ⟨ob, h1, h2.2.1⟩
 refine ⟨"dict", "dict.items", PySem.F.plainAttrs_dict, PySem.F.slot_dict_items, PySem.F.type_dict_items, dd.typeIs, fun b e => ?_, Calls.callWith_builtin rfl (PySem.evalArgs_none ?_)⟩
 ·cases e; exact ⟨od, hod, hodn⟩
 refine call_meetsIn PySem.F.slot_dict_items dd.typeIs PySem.F.entry_dict_items (PySem.F.args_dict_items_1 _) (meets_dict_items (mixKind X.prog X.w) a hsm) ⟨⟨vs, dd⟩, Calls.spliced_nil ?_⟩
 obtain ⟨ep, dat⟩ := dd.dictAt
 have zl : (64 : Nat) ≤ sizeLine := by decide
 have hvl : vs.length = m.length := by have := Paired.length rel; rw [List.length_map] at this; omega
 have hview : (s1.heap.push { cls := .type "dict_items", data := .fields #[.ref a] }).IsItemsView s1.heap.objs.size a := ⟨_, Heap.get?_push_size _ rfl, rfl, rfl⟩
 refine Calls.call_function_entry kind_sorted plain_sorted entry_sorted (args_sorted1 _) (show wpAny _ _ (Builtin.«sorted» _) _ _ _ from ?_)
 unfold Builtin.«sorted»
 refine wpAny_bind (m := checkCount "sorted" 1 1 _) (wpAny_pure (wpAny_bind (PySem.W.kdx_collect (knd := mixKind X.prog X.w) (kvs := vs) (ep := ep) (I.ok.hd hc) hview (dat.push _) (by omega) fun h2 tk as hk hl hG => wpAny_bind (wpAny_newList ?_ (by rw [List.length_map]; omega)))))
 have hal : as.length = m.length := by omega
 have hpush : ∀ b u, s1.heap.get? b = some u → h2.get? b = some u := fun b u e => hk b u (Heap.get?_push_of_some _ e)
 have hab : ∀ b ∈ as, s1.heap.objs.size ≤ b ∧ b < h2.objs.size := fun b hb => by
  have h1 := hG.above b hb
  have : (s1.heap.push { cls := .type "dict_items", data := .fields #[.ref a] }).objs.size = s1.heap.objs.size + 1 := Heap.size_push ..
  have h1 : (s1.heap.push { cls := .type "dict_items", data := .fields #[.ref a] }).objs.size < b := h1
  exact ⟨by omega, hG.there hb⟩
 have hbig : s1.heap.objs.size ≤ h2.objs.size := by
  have h3 : (s1.heap.push { cls := .type "dict_items", data := .fields #[.ref a] }).get? s1.heap.objs.size = some { cls := .type "dict_items", data := .fields #[.ref a] } := Heap.get?_push_size _ rfl
  exact Nat.le_of_lt (Heap.lt_size (hk _ _ h3))
 have npair : ∀ (j : Nat) (b : Addr), as[j]? = some b → ∃ (q : Int × Int) (t u : Tok), m[j]? = some q ∧ h2.get? b = some { cls := .type "tuple", data := .seq #[.int q.1 t, .int q.2 u] } := fun j b hb => by
  obtain ⟨key, k, x, hkx, hkey, hobj⟩ := hG.pairs j b hb
  have hjm : j < m.length := by have := (List.getElem?_eq_some_iff.mp hkx).1; omega
  obtain ⟨y, hy, ry⟩ := paired_get rel (i := j) (a := (Sum.inl m[j].1, V.int m[j].2)) (by rw [List.getElem?_map, List.getElem?_eq_getElem hjm]; rfl)
  rw [hkx] at hy
  cases hy
  obtain ⟨e1, tk2, e2⟩ := ry
  have e1 : (Sum.inl m[j].1 : Key) = k := e1
  subst e1
  obtain ⟨t, rfl⟩ := mix_int hkey
  have e2 : x = Value.int m[j].2 tk2 := e2
  subst e2
  exact ⟨m[j], t, tk2, List.getElem?_eq_getElem hjm, hobj⟩
 have pobj : ∀ b ∈ as, ∃ (t u : Tok), h2.get? b = some { cls := .type "tuple", data := .seq #[.int (m.getD (as.idxOf b) (0, 0)).1 t, .int (m.getD (as.idxOf b) (0, 0)).2 u] } := fun b hb => by
  obtain ⟨q, t, u, e1, e2⟩ := npair (as.idxOf b) b (by rw [List.getElem?_eq_getElem (List.idxOf_lt_length_iff.mpr hb)]; simp)
  exact ⟨t, u, by rw [List.getD_eq_getElem?_getD, e1]; exact e2⟩
 have nda : as.Nodup := hG.rise.imp fun q => Nat.ne_of_lt q
 have hBn : h2.objs.size ∉ as := fun z => absurd (hab _ z).2 (Nat.lt_irrefl _)
 have hB1 : H1 h2.objs.size = none := I1.hok.fresh hbig
 have ha1 : ∀ b ∈ as, H1 b = none := fun b hb => I1.hok.fresh (hab b hb).1
 let f : Addr → HO := fun b => .tup [.int (m.getD (as.idxOf b) (0, 0)).1, .int (m.getD (as.idxOf b) (0, 0)).2]
 let Gs : Hp := fun b => if b ∈ as then some (f b) else none
 let H3 : Hp := fun b => if b = h2.objs.size then some (.lst (as.map V.ref)) else if b ∈ as then some (f b) else H1 b
 have H3B : H3 h2.objs.size = some (.lst (as.map V.ref)) := if_pos rfl
 have H3a : ∀ b ∈ as, H3 b = some (f b) := fun b hb => by
  show (if b = h2.objs.size then _ else _) = _
  rw [if_neg fun z => by subst z; exact hBn hb, if_pos hb]
 have sm : Same H1 H3 := fun b o e => by
  show (if b = h2.objs.size then _ else _) = _
  rw [if_neg (ne_of_none e hB1), if_neg fun hb => by rw [ha1 b hb] at e; cases e]
  exact e
 have Gsa : ∀ b ∈ as, Gs b = some (f b) := fun b hb => if_pos hb
 have sgs : Same Gs H3 := fun b o e => by
  by_cases hb : b ∈ as
  ·rw [Gsa b hb] at e; rw [H3a b hb]; exact e
  ·have : Gs b = none := if_neg hb
   rw [this] at e; cases e
 have oL : (h2.push { cls := .type "list", data := .seq (as.map Value.ref).toArray }).get? h2.objs.size = some (seqObj "list" (as.map Value.ref).toArray 0) := Heap.get?_push_size _ rfl
 have vrefs : ∀ l : List Addr, Vals (l.map V.ref) (l.map Value.ref) := fun l => by
  induction l with
  | nil => exact .nil
  | cons x l ih => exact .cons rfl ih
 have I3 : Inv X pins σ H3 { s1 with heap := h2.push { cls := .type "list", data := .seq (as.map Value.ref).toArray }, toks := tk } := by
  refine I1.laidM (fun b u e => Heap.get?_push_of_some _ (hpush b u e)) sm (fun b o e hn => ?_) (fun b o e hn => ?_)
  ·by_cases z : b = h2.objs.size
   ·rw [z]; exact hbig
   ·by_cases hb : b ∈ as
    ·exact (hab b hb).1
    ·have e' : (if b = h2.objs.size then some (HO.lst (as.map V.ref)) else if b ∈ as then some (f b) else H1 b) = some o := e
     rw [if_neg z, if_neg hb, hn] at e'; cases e'
  ·by_cases z : b = h2.objs.size
   ·subst z
    rw [H3B] at e; cases e
    exact ⟨by rw [List.length_map]; omega, as.map Value.ref, 0, vrefs as, oL⟩
   ·by_cases hb : b ∈ as
    ·rw [H3a b hb] at e; cases e
     obtain ⟨t, u, hob⟩ := pobj b hb
     exact ⟨by show 2 ≤ sizeLine; decide, [.int (m.getD (as.idxOf b) (0, 0)).1 t, .int (m.getD (as.idxOf b) (0, 0)).2 u], .cons ⟨t, rfl⟩ (.cons ⟨u, rfl⟩ .nil), ⟨_, Heap.get?_push_of_some _ hob, rfl, _, rfl⟩, _, Heap.get?_push_of_some _ hob, rfl⟩
    ·have e' : (if b = h2.objs.size then some (HO.lst (as.map V.ref)) else if b ∈ as then some (f b) else H1 b) = some o := e
     rw [if_neg z, if_neg hb, hn] at e'; cases e'
 have hd : Dats X.K Gs (as.map V.ref) (m.map dPr) := by
  have key : ∀ (l : List Addr) (p : List (Int × Int)), l.length = p.length → (∀ (j : Nat) b q, l[j]? = some b → p[j]? = some q → b ∈ as ∧ m.getD (as.idxOf b) (0, 0) = q) → Dats X.K Gs (l.map V.ref) (p.map dPr) := by
   intro l
   induction l with
   | nil => intro p hp _; cases p with
    | nil => exact dats_nil
    | cons _ _ => cases hp
   | cons b l ih => intro p hp h; cases p with
    | nil => cases hp
    | cons q p =>
     obtain ⟨hb, eq⟩ := h 0 b q rfl rfl
     refine dats_cons (dat_tup (SqT.of (Gsa b hb)) ?_) (ih p (by simpa using hp) fun j b' q' h1 h2 => h (j + 1) b' q' (by simpa using h1) (by simpa using h2))
     rw [eq]
     exact dats_cons (dat_int _) (dats_cons (dat_int _) dats_nil)
  refine key as m hal fun j b q hb hq => ?_
  have hjl := (List.getElem?_eq_some_iff.mp hb).1
  have hj : as.idxOf b = j := by
   have e1 : as[j] = b := by rw [List.getElem?_eq_getElem hjl] at hb; exact Option.some.inj hb
   rw [← e1]; exact nda.idxOf_getElem j hjl
  exact ⟨List.mem_of_getElem? hb, by rw [hj, List.getD_eq_getElem?_getD, hq]; rfl⟩
 obtain ⟨Z, z1, z2, z3⟩ := triples I3 sgs (vrefs as) hd
 have hvv : ∀ v ∈ as.map Value.ref, ∃ x y, PairAt (h2.push { cls := .type "list", data := .seq (as.map Value.ref).toArray }) v x y ∧ 0 ≤ y ∧ y < 1000 ∧ ∀ q : Value, (fun p : Keyed => pN (h2.push { cls := .type "list", data := .seq (as.map Value.ref).toArray }) p.1) (v, q) = x * 1000 + y := fun v hv' => by
  rw [← z1] at hv'
  obtain ⟨z, hz, rfl⟩ := List.mem_map.mp hv'
  obtain ⟨_, _, pa⟩ := z3 z hz
  have hq2 := hv z.2.2 (by rw [← z2]; exact List.mem_map_of_mem hz)
  exact ⟨_, _, pa, hq2.1, hq2.2, fun _ => pN_of pa⟩
 refine wpAny_bind (wpAny_holding (wpAny_call_entry PyProof.Rows.slot_list_sort ⟨_, oL, rfl⟩ PyProof.Rows.entry_list_sort (lsort_pairs (s := { s1 with heap := h2.push { cls := .type "list", data := .seq (as.map Value.ref).toArray }, toks := tk }) (ρ := fun p => pN (h2.push { cls := .type "list", data := .seq (as.map Value.ref).toArray }) p.1) oL hvv (by rw [List.length_map]; omega) fun st' a1 a2 => ⟨_, rfl, wpAny_pure ⟨_, rfl, ?_⟩⟩) (args_list_sort _)))
 obtain ⟨Z', p1, hV, hD, hS⟩ := srt_core z1 z3 a1 a2
 obtain ⟨e4, he4⟩ := sortedHeap_at (out := (arrOf st').map (·.2)) oL
 have hzl : Z'.length = m.length := by rw [p1.length_eq, ← z2, List.length_map]
 refine ⟨.ref h2.objs.size, upd H3 h2.objs.size (.lst (Z'.map (·.2.1))), I3.write (x := h2.objs.size) (e := h2.objs.size) (by rw [H3B]; exact True.intro) (.inl rfl) (fun b u hb e => by rw [sortedHeap_old hb (Heap.lt_size e)]; exact e) ⟨_, he4⟩ ⟨by rw [List.length_map]; omega, ((arrOf st').map (·.2)).toList, e4, hV, he4⟩, rfl, ?_⟩
 refine q _ _ (Z'.map (·.2.2)) _ (fun b o e => by rw [upd_ne (ne_of_none e hB1)]; exact sm b o e) hB1 upd_same (fun G sg => ?_) (by rw [← z2]; exact p1.map _) hS
 refine ⟨fun b => if b ∈ as then some (f b) else G b, ⟨fun b o e => ?_, fun b o e => ?_, fun b o e => ?_, fun b o e => ?_⟩, hD.same fun b o e => ?_⟩
 ·show (if b ∈ as then _ else _) = _
  rw [if_neg fun hb => by have := sg b o e; rw [ha1 b hb] at this; cases this]
  exact e
 ·have e : (if b ∈ as then some (f b) else G b) = some o := e
  show (if b = h2.objs.size then none else upd H3 h2.objs.size (.lst (Z'.map (·.2.1))) b) = _
  by_cases hb : b ∈ as
  ·have nb : b ≠ h2.objs.size := fun z => by subst z; exact hBn hb
   rw [if_pos hb] at e
   rw [if_neg nb, upd_ne nb, H3a b hb]; exact e
  ·rw [if_neg hb] at e
   have e1 := sg b o e
   have nb := ne_of_none e1 hB1
   rw [if_neg nb, upd_ne nb]; exact sm b o e1
 ·have nb := ne_of_none e hB1
  show (if b = h2.objs.size then none else upd H3 h2.objs.size (.lst (Z'.map (·.2.1))) b) = _
  rw [if_neg nb, upd_ne nb]; exact sm b o e
 ·have e : (if b ∈ as then some (f b) else G b) = some o := e
  by_cases hb : b ∈ as
  ·exact .inr (ha1 b hb)
  ·rw [if_neg hb] at e; exact .inl e
 ·show (if b ∈ as then _ else _) = _
  by_cases hb : b ∈ as
  ·rw [Gsa b hb] at e; rw [if_pos hb]; exact e
  ·have : Gs b = none := if_neg hb
   rw [this] at e; cases e
end
end L2
namespace L2
open PySem PySem.Spec PyProof.Rows Lw
section
variable {K : PySem.W.Frag} {B : Hp} {E : Addr → Prop} {G0 H0 G H G' H' : Hp} {σ : St} {ρ : List PV} {F : Nat → List Addr} {ta tb te : TE} {a b d : PyData} {ds es ds1 ds2 : List PyData}
def spLn (K : PySem.W.Frag) (n1 : Nat) (Pre : List PyData → List PyData → List PyData → Prop) (R : List PyData → List PyData → List PyData → PyData → List PyData → Prop) : Sp := fun vs H Q _ => ∃ (p : Addr) (us1 us2 : List V) (G : Hp) (xs : List V) (es ds1 ds2 : List PyData), vs = us1 ++ .ref p :: us2 ∧ us1.length = n1 ∧ Same G H ∧ G p = none ∧ H p = some (.lst xs) ∧ Dats K G xs es ∧ Dats K G us1 ds1 ∧ Dats K G us2 ds2 ∧ Pre es ds1 ds2 ∧
 ∀ v x es' xs' G' H', R es ds1 ds2 x es' → Gw (· = p) G H G' H' → G' p = none → H' p = some (.lst xs') → Dats K G' xs' es' → Dat K G' v x → Q v H'
theorem lent_rlN {p : Addr} {us1 us2 xs : List V} {N : List Str} (sb : Same B G) (s : Same G H) (gp : G p = none) (hp : H p = some (.lst xs)) (hx : Dats K G xs es) (h1 : Dats K G us1 ds1) (h2 : Dats K G us2 ds2) :
  Rl K B (· = p) G H G H (start N (us1 ++ .ref p :: us2)) (startP N (ds1.map .dat ++ .lnt p es :: ds2.map .dat)) (fun k => if k = ds1.length then [p] else []) := by
 have l1 := h1.length
 have l2 := h2.length
 refine ⟨Gw.refl s, sb, ?_, fun i v h => ?_, fun i a ha => ?_, fun i j a ha hb => ?_, fun i ds' a h ha => ?_⟩
 ·unfold start startP
  simp only [List.length_append, List.length_map, List.length_cons, List.length_replicate]
  omega
 ·unfold startP at h
  unfold start
  rw [List.map_append, List.map_cons]
  by_cases hi : i < ds1.length
  ·rw [if_neg (by omega)]
   rw [List.append_assoc, List.getElem?_append_left (by rw [List.length_map]; exact hi), List.getElem?_map, List.getElem?_eq_getElem hi] at h
   cases h
   obtain ⟨x, hx, hxd⟩ := h1.get (List.getElem?_eq_getElem hi)
   exact ⟨rfl, x, by rw [List.append_assoc, List.getElem?_append_left (by rw [List.length_map]; omega), List.getElem?_map, hx]; rfl, hxd⟩
  ·obtain ⟨j, rfl⟩ : ∃ j, i = ds1.length + j := ⟨i - ds1.length, by omega⟩
   rw [List.append_assoc, List.getElem?_append_right (by rw [List.length_map]; omega), List.length_map, Nat.add_sub_cancel_left] at h
   rw [List.append_assoc, List.getElem?_append_right (by rw [List.length_map]; omega), List.length_map, show ds1.length + j - us1.length = j by omega]
   cases j with
   | zero =>
    have h : some (PV.lnt p es) = some v := h
    cases h
    rw [if_pos (Nat.add_zero _)]
    exact ⟨xs, rfl, rfl, hp, hx⟩
   | succ j =>
    rw [if_neg (by omega)]
    rw [List.cons_append, List.getElem?_cons_succ] at h ⊢
    by_cases hj : j < ds2.length
    ·rw [List.getElem?_append_left (by rw [List.length_map]; exact hj), List.getElem?_map, List.getElem?_eq_getElem hj] at h
     cases h
     obtain ⟨x, hx, hxd⟩ := h2.get (List.getElem?_eq_getElem hj)
     exact ⟨rfl, x, by rw [List.getElem?_append_left (by rw [List.length_map]; omega), List.getElem?_map, hx]; rfl, hxd⟩
    ·rw [List.getElem?_append_right (by rw [List.length_map]; omega)] at h
     have := List.mem_of_getElem? h
     rw [(List.mem_replicate.mp this).2]
     rfl
 ·split at ha
  ·rw [List.mem_singleton.mp ha]; exact ⟨gp, ⟨_, hp⟩, .inl rfl⟩
  ·cases ha
 ·split at ha
  ·split at hb
   ·omega
   ·cases hb
  ·cases ha
 ·split at ha
  ·rename_i z
   subst z
   unfold startP at h
   rw [List.append_assoc, List.getElem?_append_right (by rw [List.length_map]; omega), List.length_map, Nat.sub_self] at h
   cases h
  ·cases ha
variable {P : Program} {w : World} {mg : Str → Option Value} {base : Heap}
theorem Fun.okLn {x qual : Str} {st : Stmt} {f : Addr} {fd : FuncData} {N ps : List Str} {k n1 : Nat} {Pre : List PyData → List PyData → List PyData → Prop} {R : List PyData → List PyData → List PyData → PyData → List PyData → Prop} (Fn : Fun K x qual st f fd) (S : FnScope N ps (defScope st)) (len : ∀ es ds1 ds2, Pre es ds1 ds2 → n1 + 1 + ds2.length = ps.length)
  (hb : ∀ (cdv : Value) (A : Around) (outer : List Env) (s : Shared) (H : Hp) (E : XK), Room k (A.deeper (envOfC qual (defScope st) s.heap.objs.size f cdv)) → ∀ p es ds1 ds2, ds1.length = n1 → Pre es ds1 ds2 →
   ∃ t, PSs (cxOf CX0 P w K mg base N qual (defScope st) f cdv A outer s H E).nox (defBody st) t ∧ Sv K B0 t (startP N (ds1.map .dat ++ .lnt p es :: ds2.map .dat)) { nx := fun ρ' => ∃ es', R es ds1 ds2 .none es' ∧ ρ'[n1]? = some (.lnt p es'), rt := fun r ρ' => ∃ d es', r = .dat d ∧ R es ds1 ds2 d es' ∧ ρ'[n1]? = some (.lnt p es') }) : FnOk P w K mg base CX0 (k + 1) f fd ps (spLn K n1 Pre R) := by
 refine Fn.ok S (fun vs H Q E h => ?_) fun cdv A outer s H vs Q E hr h => ?_
 ·obtain ⟨p, us1, us2, G, xs, es, ds1, ds2, rfl, hl, _, _, _, _, h1, h2, hP, _⟩ := h
  rw [List.length_append, List.length_cons, hl, h2.length]
  have := len es ds1 ds2 hP
  omega
 ·obtain ⟨p, us1, us2, G, xs, es, ds1, ds2, rfl, hl, sg, gp, hp, hx, h1, h2, hP, kk⟩ := h
  have hl1 : ds1.length = n1 := by rw [← h1.length]; exact hl
  obtain ⟨t, ht, hs⟩ := hb cdv A outer s H E hr p es ds1 ds2 hl1 hP
  refine ⟨t, ht, hs _ _ _ _ _ _ _ _ (lent_rlN b0 sg gp hp hx h1 h2) ⟨fun e _ r => ?_, fun e _ r sl n => ?_, fun e => e.elim, fun e => e.elim⟩⟩
  ·obtain ⟨es', hR, h0⟩ := e
   obtain ⟨xs', e, hx', hp', hd'⟩ := r.sl n1 _ h0
   exact kk _ _ es' xs' _ _ hR r.g (r.fr n1 p (by rw [e]; simp)).1 hp' hd' dat_non
  ·obtain ⟨d, es', rfl, hR, h0⟩ := e
   obtain ⟨xs', e, hx', hp', hd'⟩ := r.sl n1 _ h0
   obtain ⟨_, y, hy, hd⟩ := sl
   cases hy
   exact kk _ _ es' xs' _ _ hR r.g (r.fr n1 p (by rw [e]; simp)).1 hp' hd' hd
def EaL (K : PySem.W.Frag) (B : Hp) (t : TA) (ρ : List PV) (i : Nat) (ds1 ds2 : List PyData) : Prop := ∀ G σ p, Rx K B G σ ρ → σ[i]? = some (some (.ref p)) → ∀ G1 H, Same G G1 → Same G1 H → ∀ Q : List V → Hp → Prop,
 (∀ vs1 vs2 G' H', Grow G1 H G' H' → Dats K G' vs1 ds1 → Dats K G' vs2 ds2 → Q (vs1 ++ .ref p :: vs2) H') → t σ H Q
theorem eal_here {i : Nat} {t : TA} (h : Ea K B t ρ ds2) : EaL K B (tCons (tVar i) t) ρ i [] ds2 := fun G σ p r hi G1 H s1 s2 Q k => ⟨_, hi, h G σ r G1 H s1 s2 _ fun vs G' H' g hv => k [] vs G' H' g dats_nil hv⟩
theorem eal_cons {i : Nat} {t : TA} (h : Er K B te ρ d) (h' : EaL K B t ρ i ds1 ds2) : EaL K B (tCons te t) ρ i (d :: ds1) ds2 := fun G σ p r hi G1 H s1 s2 Q k => h G σ r G1 H s1 s2 _ fun v G2 H2 g2 hv => h' G σ p r hi G2 H2 (s1.trans g2.gg) g2.gh _ fun vs1 vs2 G3 H3 g3 h1 h2 => k (v :: vs1) vs2 G3 H3 (g2.trans g3) (dats_cons (hv.same g3.gg) h1) h2
theorem eg_lendN {n1 : Nat} {Pre : List PyData → List PyData → List PyData → Prop} {Rf : List PyData → List PyData → List PyData → PyData → List PyData → Prop} {X : XK} {i : Nat} {t : TA} {R : PV → List PV → Prop} {u : PV} (hi : ρ[i]? = some u) (hu : u.rd = some es) (hn : ds1.length = n1)
  (h : EaL K B t (msk ρ) i ds1 ds2) (hP : Pre es ds1 ds2) (hk : ∀ x es', Rf es ds1 ds2 x es' → R (.dat x) (ρ.set i (u.put es'))) : Eg K B (tCall (spLn K n1 Pre Rf) [] X t) ρ R := fun E G0 H0 G H σ F r Q q => by
 obtain ⟨p, xs, e, hx, hp, hd⟩ := (r.sl i _ hi).rd hu
 refine h G σ p r.rx hx G H (Same.refl _) r.g.gh _ fun vs1 vs2 G1 H1 g1 hv1 hv2 => ?_
 have r1 := r.grow g1
 obtain ⟨p', xs1, e1, hx1, hp1, hd1⟩ := (r1.sl i _ hi).rd hu
 rw [hx] at hx1; cases hx1
 have hpi : p ∈ F i := by rw [e1]; simp
 obtain ⟨gp, _, hE⟩ := r1.fr i p hpi
 rw [List.append_nil]
 refine ⟨p, vs1, vs2, G1, xs1, es, ds1, ds2, rfl, by rw [hv1.length]; exact hn, r1.g.gh, gp, hp1, hd1, hv1, hv2, hP, fun v x es' xs' G2 H2 hR gw gp2 hp2 hd2 hx2 => ?_⟩
 have hlt : i < ρ.length := (List.getElem?_eq_some_iff.mp hi).1
 have r2 : Rl K B E G0 H0 G2 H2 σ (ρ.set i (u.put es')) F := by
  refine ⟨⟨r1.g.gg.trans gw.gg, gw.gh, fun b o n h => ?_, fun b h => r1.g.al b (gw.al b h), fun b o h => ?_⟩, r1.bb.trans gw.gg, by rw [List.length_set]; exact r1.ls, fun j v h => ?_, fun j a ha => ?_, r1.dj, fun j ds' a h ha => ?_⟩
  ·have : b ≠ p := fun z => by
    subst z
    rcases hE with hE | hE
    ·exact n hE
    ·rw [hE] at h; cases h
   exact gw.kp b o this (r1.g.kp b o n h)
  ·rcases gw.fr b o h with h | h
   ·exact r1.g.fr b o h
   ·exact .inr (r1.g.al b h)
  ·by_cases z : j = i
   ·subst z
    rw [List.getElem?_set_self hlt] at h
    cases h
    cases u with
    | own es2 => exact ⟨p, xs', e1, hx, hp2, hd2⟩
    | lnt q es2 =>
     obtain ⟨_, e2, hx2, _⟩ := r1.sl j _ hi
     rw [hx] at hx2; cases hx2
     exact ⟨xs', e1, hx, hp2, hd2⟩
    | _ => cases hu
   ·rw [List.getElem?_set_ne (Ne.symm z)] at h
    refine (r1.sl j v h).grow gw.gg fun a ha => ?_
    obtain ⟨_, ⟨o, ho⟩, _⟩ := r1.fr j a ha
    rw [ho]
    exact gw.kp a o (fun q => by subst q; exact z (r1.dj j i a ha hpi)) ho
  ·obtain ⟨h1, ⟨o, h2⟩, h3⟩ := r1.fr j a ha
   by_cases z : a = p
   ·subst z; exact ⟨gp2, ⟨_, hp2⟩, h3⟩
   ·refine ⟨?_, ⟨o, gw.kp a o z h2⟩, h3⟩
    cases hg : G2 a with
    | none => rfl
    | some o' =>
     rcases gw.fr a o' hg with h | h
     ·rw [h1] at h; cases h
     ·rw [h2] at h; cases h
  ·by_cases z : j = i
   ·subst z
    rw [List.getElem?_set_self hlt] at h
    cases u with
    | own es2 => exact r1.ow j es2 a hi ha
    | lnt q es2 => cases h
    | _ => cases hu
   ·rw [List.getElem?_set_ne (Ne.symm z)] at h
    exact r1.ow j ds' a h ha
 exact q v _ _ G2 H2 F [] (hk x es' hR) (g1.gg.trans gw.gg) r2 ⟨rfl, v, rfl, hx2⟩ nw_nil
def dKg (m : List (Int × Int)) : Tg where
 ok := fun p fp G H => fp = [] ∧ H p = some (dKI m)
 st := fun {p fp G H G' H'} ⟨e, h1⟩ s k => ⟨e, by rw [k p (by simp)]; exact h1⟩
 live := fun {p fp G H} ⟨e, h1⟩ a ha => by
  subst e
  rw [List.mem_singleton.mp ha]; exact ⟨_, h1⟩
def putI (m : List (Int × Int)) (k v : Int) : List (Int × Int) := if (m.any fun x => decide (x.1 = k)) = true then m.map (fun x => if x.1 = k then (x.1, v) else x) else m ++ [(k, v)]
def getI (m : List (Int × Int)) (k : Int) : Option Int := (m.find? fun x => decide (x.1 = k)).map (·.2)
theorem dec_inl (a b : Int) : decide ((Sum.inl a : Key) = Sum.inl b) = decide (a = b) := decide_eq_decide.mpr ⟨fun e => Sum.inl.inj e, fun e => by rw [e]⟩
theorem putK_I (m : List (Int × Int)) (k v : Int) : putK (m.map fun x => ((Sum.inl x.1 : Key), V.int x.2)) (Sum.inl k) (V.int v) = (putI m k v).map fun x => ((Sum.inl x.1 : Key), V.int x.2) := by
 unfold putK putI
 rw [List.any_map]
 have e : ((fun kv : Key × V => decide (kv.1 = Sum.inl k)) ∘ fun x : Int × Int => ((Sum.inl x.1 : Key), V.int x.2)) = fun x : Int × Int => decide (x.1 = k) := by funext x; exact dec_inl x.1 k
 rw [e]
 split
 ·rw [List.map_map, List.map_map]
  refine List.map_congr_left fun x _ => ?_
  show (if (Sum.inl x.1 : Key) = Sum.inl k then ((Sum.inl x.1 : Key), V.int v) else ((Sum.inl x.1 : Key), V.int x.2)) = _
  by_cases h : x.1 = k
  ·rw [if_pos (by rw [h])]
   show _ = (fun x : Int × Int => ((Sum.inl x.1 : Key), V.int x.2)) (if x.1 = k then (x.1, v) else x)
   rw [if_pos h]
  ·rw [if_neg fun z => h (Sum.inl.inj z)]
   show _ = (fun x : Int × Int => ((Sum.inl x.1 : Key), V.int x.2)) (if x.1 = k then (x.1, v) else x)
   rw [if_neg h]
 ·rw [List.map_append]; rfl
theorem valV_I (m : List (Int × Int)) (k : Int) : valV (m.map fun x => ((Sum.inl x.1 : Key), V.int x.2)) (Sum.inl k) = (getI m k).map V.int := by
 unfold valV getI
 rw [List.find?_map]
 have e : ((fun kv : Key × V => decide (kv.1 = Sum.inl k)) ∘ fun x : Int × Int => ((Sum.inl x.1 : Key), V.int x.2)) = fun x : Int × Int => decide (x.1 = k) := by funext x; exact dec_inl x.1 k
 rw [e, Option.map_map, Option.map_map]; rfl
theorem eg_dnewK {R : PV → List PV → Prop} (k : R (.thg (dKg [])) ρ) : Eg K B tDNewK ρ R := fun E G0 H0 G H σ F r Q q p hp => by
 have r1 := r.grow (grow_h r.g.gh (same_new (o := .dK []) hp))
 refine q _ _ ρ G _ F [p] k (Same.refl _) r1 ⟨p, [], rfl, rfl, rfl, upd_same⟩ ⟨fun a ha => ?_, fun a ha j hj => ?_⟩
 ·rw [List.mem_singleton.mp ha]
  exact ⟨r.g.gh.free hp, ⟨_, upd_same⟩, r.g.al p hp⟩
 ·rw [List.mem_singleton.mp ha] at hj
  obtain ⟨_, ⟨o, h⟩, _⟩ := r.fr j p hj
  rw [hp] at h; cases h
theorem er_get2 {i : Nat} {tk td : TE} {m : List (Int × Int)} {k v : Int} (hi : ρ[i]? = some (.thg (dKg m))) (hk : Er K B tk ρ (.int k)) (hd : Er K B td ρ (.int v)) : Er K B (tDGet2 (tVar i) tk td) ρ (.int ((getI m k).getD v)) := fun G σ r G1 H s1 s2 Q kk => by
 obtain ⟨p, fp, hx, _, h1⟩ := r.2.2.2.1 i _ hi
 refine ⟨_, hx, p, rfl, .inl ⟨_, .inl (s2 _ _ (s1 _ _ h1))⟩, hk G σ r G1 H s1 s2 _ fun y G2 H2 g2 hy => hd G σ r G2 H2 (s1.trans g2.gg) g2.gh _ fun z G3 H3 g3 hz => ?_⟩
 have hp3 : H3 p = some (dKI m) := g3.hh _ _ (g2.hh _ _ (s2 _ _ (s1 _ _ h1)))
 rw [hy.int, hz.int]
 refine ⟨_, DGet.k (k := Sum.inl k) hp3, ?_⟩
 rw [valV_I]
 cases e : getI m k with
 | none => exact kk _ G3 H3 (g2.trans g3) (by rw [e]; exact dat_int _)
 | some n => exact kk _ G3 H3 (g2.trans g3) (by rw [e]; exact dat_int _)
theorem sv_dputK {i : Nat} {ty tv : TE} {m : List (Int × Int)} {k n : Int} {R : Pn} (hv : Er K B tv ρ (.int n)) (hk : Er K B ty ρ (.int k)) (hi : ρ[i]? = some (.thg (dKg m))) (hl : m.length < sizeLine) (kk : R.nx (ρ.set i (.thg (dKg (putI m k n))))) : Sv K B (sDPut (tVar i) ty tv) ρ R := fun E G0 H0 G H σ F D r dn => by
 obtain ⟨s1, s2, x⟩ := r.gpl
 refine hv _ σ x _ H (Same.refl _) s2 _ fun v Gp H1 gp hv1 => ?_
 have r1 := r.grow (grow_h r.g.gh gp.hh)
 obtain ⟨p, fp, e, hx, efp, h1⟩ := r1.sl i _ hi
 subst efp
 obtain ⟨t1, t2, y⟩ := r1.gpl
 refine ⟨_, hx, hk _ σ y _ H1 (Same.refl _) t2 _ fun yv Gq H2 gq hy => ?_⟩
 have r2 := r1.grow (grow_h r1.g.gh gq.hh)
 have hpi : p ∈ F i := by rw [e]; simp
 obtain ⟨gpn, _, hE⟩ := r2.fr i p hpi
 have hlt : i < ρ.length := (List.getElem?_eq_some_iff.mp hi).1
 rw [hv1.int, hy.int]
 refine ⟨p, _, rfl, DPut.k (k := Sum.inl k) (gq.hh _ _ h1) (by rw [List.length_map]; exact hl), ?_⟩
 rw [putK_I]
 refine dn.nx kk (Same.refl _) (F := F) ⟨⟨r2.g.gg, same_upd r2.g.gh gpn, fun c o hc h => ?_, fun c h => ?_, r2.g.fr⟩, r2.bb, by rw [List.length_set]; exact r2.ls, fun j v h => ?_, fun j a ha => ?_, r2.dj, fun j ds' a h ha => ?_⟩
 ·have : c ≠ p := fun z => by
   subst z
   rcases hE with hE | hE
   ·exact hc hE
   ·rw [hE] at h; cases h
  rw [upd_ne this]; exact r2.g.kp c o hc h
 ·by_cases z : c = p
  ·subst z; rw [upd_same] at h; cases h
  ·rw [upd_ne z] at h; exact r2.g.al c h
 ·by_cases z : j = i
  ·subst z
   rw [List.getElem?_set_self hlt] at h
   cases h
   exact ⟨p, [], e, hx, rfl, upd_same⟩
  ·rw [List.getElem?_set_ne (Ne.symm z)] at h
   exact (r2.sl j v h).grow (Same.refl _) fun a ha => upd_ne fun q => by subst q; exact z (r2.dj j i a ha hpi)
 ·obtain ⟨h1', ⟨o, h2'⟩, h3'⟩ := r2.fr j a ha
  refine ⟨h1', ?_, h3'⟩
  by_cases z : a = p
  ·subst z; exact ⟨_, upd_same⟩
  ·exact ⟨o, by rw [upd_ne z]; exact h2'⟩
 ·by_cases z : j = i
  ·subst z
   rw [List.getElem?_set_self hlt] at h; cases h
  ·rw [List.getElem?_set_ne (Ne.symm z)] at h
   exact r2.ow j ds' a h ha
theorem er_srtM {i : Nat} {m qs : List (Int × Int)} (hi : ρ[i]? = some (.thg (dKg m))) (h64 : m.length < 64) (hv : ∀ q ∈ m, 0 ≤ q.2 ∧ q.2 < 1000) (hq : ∀ rs : List (Int × Int), rs.Perm m → rs.Pairwise (fun a b => a.1 * 1000 + a.2 ≤ b.1 * 1000 + b.2) → rs = qs) : Er K B (tSrtM K (tVar i)) ρ (.list (qs.map dPr)) := fun G σ r G1 H s1 s2 Q k => by
 obtain ⟨p, fp, hx, _, h1⟩ := r.2.2.2.1 i _ hi
 refine ⟨_, hx, p, m, rfl, s2 _ _ (s1 _ _ h1), h64, hv, fun l us rs H2 sm hl hl2 hg hperm hs => ?_⟩
 have e := hq rs hperm hs
 subst e
 obtain ⟨G', g, hd⟩ := hg G1 s2
 have gl : G' l = none := by
  cases e : G' l with
  | none => rfl
  | some o =>
   have := g.gh l o e
   rw [if_pos rfl] at this; cases this
 refine k _ (upd G' l (.lst us)) H2 ⟨g.gg.trans (same_new gl), fun b o e => ?_, sm, fun b o e => ?_⟩ (dat_lst upd_same (hd.same (same_new gl)))
 ·by_cases z : b = l
  ·subst z; rw [upd_same] at e; rw [hl2, e]
  ·rw [upd_ne z] at e
   have := g.gh b o e
   rw [if_neg z] at this; exact this
 ·by_cases z : b = l
  ·subst z; exact .inr hl
  ·rw [upd_ne z] at e; exact g.fr b o e
end
end L2
namespace Mvs
open L2 Trn
def cnt (l : List Int) : List (Int × Int) := l.foldl (fun m x => putI m x ((getI m x).getD 0 + 1)) []
theorem cnt_snoc (l : List Int) (x : Int) : cnt (l ++ [x]) = putI (cnt l) x ((getI (cnt l) x).getD 0 + 1) := by
 unfold cnt; rw [List.foldl_append]; rfl
theorem getI_put (m : List (Int × Int)) (k j v : Int) : getI (putI m k v) j = if j = k then some v else getI m j := by
 unfold putI
 split
 ·rename_i h
  obtain ⟨p, hp, e⟩ := List.any_eq_true.mp h
  have e : p.1 = k := of_decide_eq_true e
  induction m with
  | nil => cases hp
  | cons a m ih =>
   unfold getI
   rw [List.map_cons, List.find?_cons, List.find?_cons]
   by_cases ha : a.1 = k
   ·rw [if_pos ha]
    by_cases hj : j = k
    ·rw [if_pos hj]
     show Option.map _ (match decide (a.1 = j) with | true => some (a.1, v) | false => _) = _
     rw [decide_eq_true (by rw [ha, hj])]; rfl
    ·rw [if_neg hj]
     show Option.map _ (match decide (a.1 = j) with | true => some (a.1, v) | false => _) = Option.map _ (match decide (a.1 = j) with | true => _ | false => _)
     rw [decide_eq_false fun z => hj (by rw [← z, ha])]
     have key : ∀ l : List (Int × Int), Option.map (fun x : Int × Int => x.2) (List.find? (fun x => decide (x.1 = j)) (l.map fun x => if x.1 = k then (x.1, v) else x)) = Option.map (fun x : Int × Int => x.2) (List.find? (fun x => decide (x.1 = j)) l) := by
      intro l
      induction l with
      | nil => rfl
      | cons b l ih =>
       rw [List.map_cons, List.find?_cons, List.find?_cons]
       by_cases hb : b.1 = k
       ·rw [if_pos hb]
        show Option.map _ (match decide (b.1 = j) with | true => some (b.1, v) | false => _) = Option.map _ (match decide (b.1 = j) with | true => _ | false => _)
        rw [decide_eq_false fun z => hj (by rw [← z, hb])]
        exact ih
       ·rw [if_neg hb]
        cases decide (b.1 = j) with
        | true => rfl
        | false => exact ih
     exact key m
   ·rw [if_neg ha]
    have hp' : p ∈ m := by
     rcases List.mem_cons.mp hp with rfl | hp
     ·exact absurd e ha
     ·exact hp
    have ih' := ih (List.any_eq_true.mpr ⟨p, hp', decide_eq_true e⟩) hp'
    unfold getI at ih'
    by_cases haj : a.1 = j
    ·rw [decide_eq_true haj, if_neg fun z => ha (by rw [haj, z])]
    ·rw [decide_eq_false haj]; exact ih'
 ·rename_i h
  have hn : ∀ x ∈ m, ¬ x.1 = k := fun x hx e => h (List.any_eq_true.mpr ⟨x, hx, decide_eq_true e⟩)
  unfold getI
  rw [List.find?_append]
  by_cases hj : j = k
  ·rw [if_pos hj, hj]
   have : m.find? (fun x => decide (x.1 = k)) = none := List.find?_eq_none.mpr fun x hx => by simpa using hn x hx
   rw [this, Option.none_or]
   rw [List.find?_cons, decide_eq_true rfl]; rfl
  ·rw [if_neg hj]
   cases e : m.find? (fun x => decide (x.1 = j)) with
   | some x => rfl
   | none =>
    rw [Option.none_or, List.find?_cons, decide_eq_false (show ¬ k = j from fun z => hj z.symm)]; rfl
theorem put_keys (m : List (Int × Int)) (k v : Int) (h : (m.map (·.1)).Nodup) : ((putI m k v).map (·.1)).Nodup ∧ (putI m k v).length ≤ m.length + 1 := by
 unfold putI
 split
 ·have e : (m.map fun x => if x.1 = k then (x.1, v) else x).map (·.1) = m.map (·.1) := by
   rw [List.map_map]
   refine List.map_congr_left fun x _ => ?_
   show (if x.1 = k then (x.1, v) else x).1 = x.1
   split <;> rfl
  rw [e, List.length_map]
  exact ⟨h, by omega⟩
 ·rename_i q
  refine ⟨?_, by rw [List.length_append]; exact Nat.le_refl _⟩
  rw [List.map_append]
  refine List.nodup_append.mpr ⟨h, List.pairwise_singleton _ _, fun a ha b hb e => ?_⟩
  have hb : b = k := List.mem_singleton.mp hb
  obtain ⟨x, hx, rfl⟩ := List.mem_map.mp ha
  exact q (List.any_eq_true.mpr ⟨x, hx, decide_eq_true (by rw [e, hb])⟩)
structure CI (l : List Int) (m : List (Int × Int)) : Prop where
 nd : (m.map (·.1)).Nodup
 len : m.length ≤ l.length
 val : ∀ x, getI m x = if l.count x = 0 then none else some (l.count x : Int)
theorem ci (l : List Int) : CI l (cnt l) := by
 rw [← List.reverse_reverse l]
 induction l.reverse with
 | nil => exact ⟨List.nodup_nil, Nat.le_refl _, fun x => by simp [cnt, getI]⟩
 | cons a r ih =>
  rw [List.reverse_cons, cnt_snoc]
  obtain ⟨p1, p2⟩ := put_keys (cnt r.reverse) a ((getI (cnt r.reverse) a).getD 0 + 1) ih.nd
  refine ⟨p1, by rw [List.length_append]; have := ih.len; show _ ≤ _ + 1; omega, fun x => ?_⟩
  rw [getI_put, List.count_append]
  by_cases h : x = a
  ·subst h
   rw [if_pos rfl, ih.val x]
   have : [x].count x = 1 := by simp
   rw [this]
   by_cases hz : r.reverse.count x = 0
   ·rw [if_pos hz, hz]; rfl
   ·rw [if_neg hz, if_neg (show ¬ r.reverse.count x + 1 = 0 from Nat.succ_ne_zero _)]
    show some ((r.reverse.count x : Int) + 1) = _
    rw [Int.natCast_add]; rfl
  ·rw [if_neg h, ih.val x]
   have : [a].count x = 0 := List.count_eq_zero.mpr (by simpa using h)
   rw [this, Nat.add_zero]
theorem getI_mem {m : List (Int × Int)} (nd : (m.map (·.1)).Nodup) (x v : Int) : getI m x = some v ↔ (x, v) ∈ m := by
 unfold getI
 constructor
 ·intro h
  obtain ⟨p, hp, rfl⟩ := Option.map_eq_some_iff.mp h
  have := List.find?_some hp
  have e : p.1 = x := of_decide_eq_true this
  rw [← e]; exact List.mem_of_find?_eq_some hp
 ·intro h
  induction m with
  | nil => cases h
  | cons a m ih =>
   obtain ⟨n1, n2⟩ := List.nodup_cons.mp nd
   rw [List.find?_cons]
   rcases List.mem_cons.mp h with e | h'
   ·rw [← e, decide_eq_true rfl]; rfl
   ·have : ¬ a.1 = x := fun z => n1 (List.mem_map.mpr ⟨(x, v), h', z.symm⟩)
    rw [decide_eq_false this]
    exact ih n2 h'
theorem pairs_nd {m : List (Int × Int)} (nd : (m.map (·.1)).Nodup) : m.Nodup := by
 rw [List.Nodup, List.pairwise_map] at nd
 exact nd.imp fun h e => h (by rw [e])
theorem perm_of_mem {α : Type} [DecidableEq α] {a b : List α} (ha : a.Nodup) (hb : b.Nodup) (h : ∀ x, x ∈ a ↔ x ∈ b) : a.Perm b := by
 rw [List.perm_iff_count]
 intro x
 by_cases hx : x ∈ a
 ·rw [List.Nodup.count ha, List.Nodup.count hb, if_pos hx, if_pos ((h x).mp hx)]
 ·rw [List.Nodup.count ha, List.Nodup.count hb, if_neg hx, if_neg fun z => hx ((h x).mpr z)]
abbrev pr1 (n : Nat) : List (Int × Int) := (List.range n).map fun (i : Nat) => ((i : Int), 1)
theorem cnt_cov (l : List Int) (n : Nat) : (cnt l).Perm (pr1 n) ↔ l.Perm ((List.range n).map fun (i : Nat) => (i : Int)) := by
 have c := ci l
 have hz : ((List.range n).map fun (i : Nat) => (i : Int)).Nodup := by
  rw [List.Nodup, List.pairwise_map]
  exact List.pairwise_lt_range.imp fun h => by omega
 have hzc : ∀ x : Int, ((List.range n).map fun (i : Nat) => (i : Int)).count x = if (0 ≤ x ∧ x < n) then 1 else 0 := fun x => by
  rw [List.Nodup.count hz]
  have : x ∈ ((List.range n).map fun (i : Nat) => (i : Int)) ↔ 0 ≤ x ∧ x < n := by
   constructor
   ·intro h
    obtain ⟨i, hi, rfl⟩ := List.mem_map.mp h
    have := List.mem_range.mp hi
    omega
   ·rintro ⟨h0, h1⟩
    obtain ⟨k, rfl⟩ := Int.eq_ofNat_of_zero_le h0
    exact List.mem_map.mpr ⟨k, List.mem_range.mpr (by omega), rfl⟩
  by_cases q : 0 ≤ x ∧ x < n
  ·rw [if_pos q, if_pos (this.mpr q)]
  ·rw [if_neg q, if_neg fun z => q (this.mp z)]
 have mp1 : ∀ x v : Int, (x, v) ∈ pr1 n ↔ (0 ≤ x ∧ x < n) ∧ v = 1 := fun x v => by
  constructor
  ·intro h
   obtain ⟨i, hi, e⟩ := List.mem_map.mp h
   cases e
   have := List.mem_range.mp hi
   omega
  ·rintro ⟨⟨h0, h1⟩, rfl⟩
   obtain ⟨k, rfl⟩ := Int.eq_ofNat_of_zero_le h0
   exact List.mem_map.mpr ⟨k, List.mem_range.mpr (by omega), rfl⟩
 have mc : ∀ x v : Int, (x, v) ∈ cnt l ↔ (l.count x ≠ 0 ∧ v = l.count x) := fun x v => by
  rw [← getI_mem c.nd, c.val]
  by_cases h : l.count x = 0
  ·rw [if_pos h]; simp [h]
  ·rw [if_neg h]
   constructor
   ·intro e; exact ⟨h, (Option.some.inj e).symm⟩
   ·rintro ⟨_, rfl⟩; rfl
 constructor
 ·intro hp
  rw [List.perm_iff_count]
  intro x
  rw [hzc]
  by_cases q : 0 ≤ x ∧ x < n
  ·rw [if_pos q]
   have := (mc x 1).mp (hp.mem_iff.mpr ((mp1 x 1).mpr ⟨q, rfl⟩))
   omega
  ·rw [if_neg q]
   by_cases h : l.count x = 0
   ·exact h
   ·exact absurd ((mp1 x _).mp (hp.mem_iff.mp ((mc x _).mpr ⟨h, rfl⟩))).1 q
 ·intro hp
  have pn : (pr1 n).Nodup := by
   rw [List.Nodup, List.pairwise_map]
   exact List.pairwise_lt_range.imp fun h e => by have := congrArg Prod.fst e; simp only at this; omega
  refine perm_of_mem (pairs_nd c.nd) pn fun ⟨x, v⟩ => ?_
  rw [mc, mp1]
  have : l.count x = if (0 ≤ x ∧ x < n) then 1 else 0 := by rw [← hzc]; exact List.perm_iff_count.mp hp x
  rw [this]
  by_cases q : 0 ≤ x ∧ x < n
  ·rw [if_pos q]
   constructor
   ·rintro ⟨_, h⟩; exact ⟨q, h⟩
   ·rintro ⟨_, h⟩; exact ⟨by omega, h⟩
  ·rw [if_neg q]
   constructor
   ·rintro ⟨h, _⟩; exact absurd rfl h
   ·rintro ⟨h, _⟩; exact absurd h q
theorem cov_iff (rows : List (List Int)) (n : Nat) : cov rows n = true ↔ rows.flatten.Perm ((List.range n).map fun (i : Nat) => (i : Int)) := by
 unfold cov
 rw [decide_eq_true_iff]
 constructor
 ·intro e; rw [← e]; exact (srtI_perm _).symm
 ·intro h; exact sorted_range h
def srtQ (m : List (Int × Int)) : List (Int × Int) := m.mergeSort fun a b => decide (a.1 * 1000 + a.2 ≤ b.1 * 1000 + b.2)
theorem srtQ_of {m rs : List (Int × Int)} (hv : ∀ q ∈ m, 0 ≤ q.2 ∧ q.2 < 1000) (h : rs.Perm m) (hs : rs.Pairwise (fun a b => a.1 * 1000 + a.2 ≤ b.1 * 1000 + b.2)) : rs = srtQ m := by
 have p2 : (srtQ m).Perm m := List.mergeSort_perm m _
 have s2 : (srtQ m).Pairwise (fun a b => a.1 * 1000 + a.2 ≤ b.1 * 1000 + b.2) := by
  have := List.pairwise_mergeSort (le := fun a b : Int × Int => decide (a.1 * 1000 + a.2 ≤ b.1 * 1000 + b.2)) (fun a b c h1 h2 => by simp at h1 h2 ⊢; omega) (fun a b => by simp; omega) m
  exact this.imp fun {a b} z => by simpa using z
 refine (h.trans p2.symm).eq_of_pairwise (fun x y hx hy h1 h2 => ?_) hs s2
 have := hv x (h.mem_iff.mp hx)
 have := hv y (p2.mem_iff.mp hy)
 exact Prod.ext (by omega) (by omega)
theorem cnt_vals (l : List Int) (h : l.length < 64) : ∀ q ∈ cnt l, 0 ≤ q.2 ∧ q.2 < 1000 := fun ⟨x, v⟩ hq => by
 have c := ci l
 have := (getI_mem c.nd x v).mpr hq
 rw [c.val] at this
 by_cases hz : l.count x = 0
 ·rw [if_pos hz] at this; cases this
 ·rw [if_neg hz] at this
  have e := Option.some.inj this
  have := List.count_le_length (a := x) (l := l)
  show 0 ≤ v ∧ v < 1000
  omega
theorem srtQ_cov (rows : List (List Int)) (n : Nat) (h : rows.flatten.length < 64) : decide (srtQ (cnt rows.flatten) = pr1 n) = cov rows n := by
 have hv := cnt_vals rows.flatten h
 by_cases q : cov rows n = true
 ·rw [q]
  refine decide_eq_true ?_
  have := (cnt_cov rows.flatten n).mpr ((cov_iff rows n).mp q)
  refine (srtQ_of hv this.symm ?_).symm
  rw [List.pairwise_map]
  exact List.pairwise_lt_range.imp fun h => by omega
 ·have q' : cov rows n = false := by simpa using q
  rw [q']
  refine decide_eq_false fun e => q ((cov_iff rows n).mpr ((cnt_cov rows.flatten n).mp ?_))
  rw [← e]; exact (List.mergeSort_perm _ _).symm
def chkR (n : Nat) (vs ps : List Int) (j : Nat) : Bool := inR n (ps.getD j 0) && (decide (j = 0) || rise2 vs (ps.getD (j - 1) 0, ps.getD j 0))
theorem chkR_all (n : Nat) (vs ps : List Int) : (List.range ps.length).all (chkR n vs ps) = (ps.all (inR n) && rise vs ps) := by
 have h1 : ps.all (inR n) = (List.range ps.length).all fun j => inR n (ps.getD j 0) := by
  rw [Bool.eq_iff_iff, List.all_eq_true, List.all_eq_true]
  constructor
  ·intro h j hj
   have := List.mem_range.mp hj
   rw [List.getD_eq_getElem?_getD, List.getElem?_eq_getElem this]
   exact h _ (List.getElem_mem this)
  ·intro h x hx
   obtain ⟨j, hj, rfl⟩ := List.getElem_of_mem hx
   have := h j (List.mem_range.mpr hj)
   rwa [List.getD_eq_getElem?_getD, List.getElem?_eq_getElem hj] at this
 have h2 : rise vs ps = (List.range ps.length).all fun j => decide (j = 0) || rise2 vs (ps.getD (j - 1) 0, ps.getD j 0) := by
  unfold rise
  rw [Bool.eq_iff_iff, List.all_eq_true, List.all_eq_true]
  constructor
  ·intro h j hj
   have hj := List.mem_range.mp hj
   cases j with
   | zero => rfl
   | succ j =>
    show (decide _ || _) = true
    rw [decide_eq_false (by omega), Bool.false_or, Nat.add_sub_cancel]
    refine h _ (List.mem_iff_getElem?.mpr ⟨j, ?_⟩)
    rw [List.getElem?_zip_eq_some, List.getElem?_drop, List.getD_eq_getElem?_getD, List.getD_eq_getElem?_getD, List.getElem?_eq_getElem (show j < ps.length by omega), show 1 + j = j + 1 by omega, List.getElem?_eq_getElem hj]
    exact ⟨rfl, rfl⟩
  ·intro h x hx
   obtain ⟨j, hj⟩ := List.mem_iff_getElem?.mp hx
   rw [List.getElem?_zip_eq_some, List.getElem?_drop, show 1 + j = j + 1 by omega] at hj
   have hj1 := (List.getElem?_eq_some_iff.mp hj.2).1
   have := h (j + 1) (List.mem_range.mpr hj1)
   rw [decide_eq_false (by omega), Bool.false_or, Nat.add_sub_cancel, List.getD_eq_getElem?_getD, List.getD_eq_getElem?_getD, hj.1, hj.2] at this
   exact this
 rw [h1, h2]
 rw [Bool.eq_iff_iff, Bool.and_eq_true, List.all_eq_true, List.all_eq_true, List.all_eq_true]
 constructor
 ·intro h
  exact ⟨fun j hj => (Bool.and_eq_true .. |>.mp (h j hj)).1, fun j hj => (Bool.and_eq_true .. |>.mp (h j hj)).2⟩
 ·rintro ⟨a, b⟩ j hj
  exact Bool.and_eq_true .. |>.mpr ⟨a j hj, b j hj⟩
def holds (turn : List Nat) (kept : List Int) (rows : List (List Int)) : Bool := ((kept.all (inR turn.length) && rise (turn.map fun (n : Nat) => 1 * (n : Int)) kept) && decide (rows.length = kept.length)) && (rows.all (fun r => r.all (inR turn.length) && rise (turn.map fun (n : Nat) => -1 * (n : Int)) r) && cov rows turn.length)
theorem holds_shown (turn : List Nat) (kept : List Int) (rows : List (List Int)) : holds turn kept rows = shown turn kept rows := by
 have e1 : (turn.map fun (n : Nat) => 1 * (n : Int)) = turn.map fun (n : Nat) => (n : Int) := List.map_congr_left fun n _ => by omega
 have e2 : (turn.map fun (n : Nat) => -1 * (n : Int)) = turn.map fun (n : Nat) => -(n : Int) := List.map_congr_left fun n _ => by omega
 unfold holds shown
 rw [e1, e2]
 cases hc : cov rows turn.length with
 | false => simp
 | true =>
  have hr : rows.all (fun r => r.all (inR turn.length) && rise (turn.map fun (n : Nat) => -(n : Int)) r) = rows.all (rise (turn.map fun (n : Nat) => -(n : Int))) := by
   rw [Bool.eq_iff_iff, List.all_eq_true, List.all_eq_true]
   constructor
   ·intro h r hr; exact (Bool.and_eq_true .. |>.mp (h r hr)).2
   ·intro h r hr
    refine Bool.and_eq_true .. |>.mpr ⟨List.all_eq_true.mpr fun p hp => ?_, h r hr⟩
    have := cov_in hc r hr p hp
    unfold inR
    rw [decide_eq_true this.1, decide_eq_true this.2]; rfl
  rw [hr]
  cases kept.all (inR turn.length) <;> cases rise (turn.map fun (n : Nat) => (n : Int)) kept <;> cases decide (rows.length = kept.length) <;> cases rows.all (rise (turn.map fun (n : Nat) => -(n : Int))) <;> rfl
end Mvs
namespace L2
open PySem PySem.Spec PyProof.Rows
section
variable {prog : Program} {w : World} {A : Around} {E : Value → Shared → Prop} {s : Shared}
theorem collect_tup {l : Addr} {vs : List Value} {Q : List Value → Shared → Prop} (hl : IsTup s.heap l vs.toArray)
  (h : Q vs { s with heap := (s.heap.push (seqObj "list" #[] 0)).update s.heap.objs.size (Obj.mapSeq (· ++ vs.toArray)) }) (hsz : vs.length ≤ sizeLine) :
  wpAny (model prog w) A (collect (.ref l)) Q E s := by
 obtain ⟨o, ho, hc, n, hd⟩ := id hl
 unfold collect
 refine wpAny_bind (wpAny_runValue (codeAny_builtin entry_proto_collect' ?_))
 show wpAny _ _ (do again (.builtin "list.__iadd__" ⟨[← newList [], .ref l], []⟩)) _ _ s
 refine wpAny_bind (wpAny_newList (wpAny_pure ⟨Code.quiet_builtin _ (by decide +kernel), codeAny_builtin entry_list_iadd' ?_⟩))
 show wpAny _ _ (Builtin.List.listExtendWith (.ref s.heap.objs.size) (.ref l) (.ref s.heap.objs.size)) _ _ { s with heap := s.heap.push (seqObj "list" #[] 0) }
 unfold Builtin.List.listExtendWith
 have ho' : (s.heap.push (seqObj "list" #[] 0)).get? l = some o := Heap.get?_push_of_some _ ho
 refine wpAny_bind (wpAny_typeOf (T := "tuple") ⟨o, ho', hc⟩ ?_)
 have ht : (Value.type "tuple" == Value.type "tuple") = true := by rfl
 rw [if_pos (by rw [ht]; simp)]
 refine wpAny_bind (listItems_at ho' hd ?_)
 refine wpAny_bind (listItems_at (xs := #[]) (n := 0) (Heap.get?_push_size _ rfl) rfl ?_)
 rw [if_neg (by simp)]
 refine wpAny_bind (listUpdate_at (xs := #[]) (n := 0) (Heap.get?_push_size _ rfl) rfl ?_ (Nat.zero_le _) (by show (#[] ++ vs.toArray).size ≤ sizeLine + 1; simp only [Array.size_append, List.size_toArray, List.length_nil]; omega))
 refine wpAny_pure ?_
 show wpAny (model prog w) A (do
   let o ← load s.heap.objs.size
   match o.data with
   | .seq xs _ => pure xs.toList
   | _ => unsupported "internal:collect") Q E { s with heap := (s.heap.push (seqObj "list" #[] 0)).update s.heap.objs.size (Obj.mapSeq (· ++ vs.toArray)) }
 refine wpAny_bind (wpAny_load (get?_update_seq (Heap.get?_push_size _ rfl) _) ?_)
 show wpAny _ _ (pure ((#[] : Array Value) ++ vs.toArray).toList) Q E _
 rw [show ((#[] : Array Value) ++ vs.toArray).toList = vs by simp]
 exact wpAny_pure h
theorem sorted_intsT {l : Addr} {vs : List Value} {ns : List Int} {Q : Value → Shared → Prop} (hl : IsTup s.heap l vs.toArray) (hI : IntsAre vs ns) (h64 : vs.length < 64)
  (h : ∀ (out : Array Value) (ns' : List Int), IntsAre out.toList ns' → ns'.Perm ns → ns'.Pairwise (· ≤ ·) → Q (.ref (s.heap.objs.size + 1)) { s with heap := sortedAll s.heap vs out }) :
  wpAny (model prog w) A (call (.builtin "sorted") [.ref l]) Q E s := by
 have zl : (64 : Nat) ≤ sizeLine := by decide
 refine Calls.call_function_entry kind_sorted plain_sorted entry_sorted (args_sorted1 _) ?_
 unfold Builtin.«sorted»
 refine wpAny_bind (m := checkCount "sorted" 1 1 _) (wpAny_pure ?_)
 refine wpAny_bind (collect_tup hl ?_ (by omega))
 refine wpAny_bind (wpAny_newList ?_ (by omega))
 have hsz : ((s.heap.push (seqObj "list" #[] 0)).update s.heap.objs.size (Obj.mapSeq (· ++ vs.toArray))).objs.size = s.heap.objs.size + 1 := by
  rw [Heap.size_update, size_push']
 have hoL : (((s.heap.push (seqObj "list" #[] 0)).update s.heap.objs.size (Obj.mapSeq (· ++ vs.toArray))).push (seqObj "list" vs.toArray 0)).get? (s.heap.objs.size + 1) = some (seqObj "list" vs.toArray 0) := by
  rw [← hsz]; exact Heap.get?_push_size _ rfl
 show wpAny _ _ _ _ _ { s with heap := ((s.heap.push (seqObj "list" #[] 0)).update s.heap.objs.size (Obj.mapSeq (· ++ vs.toArray))).push (seqObj "list" vs.toArray 0) }
 rw [hsz]
 refine wpAny_bind (wpAny_holding (wpAny_call_entry slot_list_sort ⟨_, hoL, rfl⟩ entry_list_sort (list_sort_tree hoL hI h64 fun out ns' a1 a2 a3 => ⟨_, rfl, ?_⟩) (args_list_sort _)))
 exact wpAny_pure ⟨_, rfl, h out ns' a1 a2 a3⟩
end
section
variable {X : Cx}
def rSrtT (K : PySem.W.Frag) : List V → Hp → VK → Prop := fun xs H Q => ∃ (p : Addr) (ns : List Int), xs = [.ref p] ∧ SqT K H p (ns.map V.int) ∧ ns.length < 64 ∧ ∀ l : Addr, H l = none → Q (.ref l) (upd H l (.lst ((srtI ns).map V.int)))
theorem call_sortedT {K : PySem.W.Frag} (e : X.K = K) : CallR X (.builtin "sorted") (rSrtT K) := by
 subst e
 intro pins s σ H xs us Q I r h
 obtain ⟨p, ns, rfl, hq, h64, q⟩ := h
 obtain ⟨u, rfl, rx⟩ := vals1 r
 cases rx
 obtain ⟨its, r', pl, hz⟩ := I.tuple hq
 have hS := intsAre_of r'
 have hlen := r'.length
 rw [List.length_map] at hlen hz
 refine sorted_intsT pl hS (by omega) fun out ns' a1 a2 a3 => ?_
 obtain ⟨e, he⟩ := sortedAll_at s.heap its out
 have hl2 := a2.length_eq
 have e3 := srtI_of a2 a3
 subst e3
 refine ⟨.ref (s.heap.objs.size + 1), _, I.laid (t' := s.toks) (fun _ _ => sortedAll_old) (Nat.le_succ _) (show ObjOk X.prog X.w _ (sortedAll s.heap its out) _ (.lst ((srtI ns).map V.int)) from ⟨by rw [List.length_map]; omega, out.toList, e, vals_of_ints a1, ?_⟩), rfl, q _ (I.hok.fresh (Nat.le_succ _))⟩
 exact he
theorem ev_srtT {K : PySem.W.Frag} {σ : St} {G : Hp} {t : TA} {ns : List Int} (h : EvA K t σ G [.tuple (ns.map .int)]) (h64 : ns.length < 64) : Ev K (tCB (rSrtT K) t) σ G (.list ((srtI ns).map .int)) := ev_cb h fun G1 H xs Q s1 s2 hx k => by
 obtain ⟨y, ys, rfl, hy, hn⟩ := hx.cons
 cases hn.nil
 obtain ⟨p, zs, rfl, hp, hz⟩ := hy.tup
 have e := hz.ints
 subst e
 refine ⟨p, ns, rfl, s2.tup hp, h64, fun l hl => ?_⟩
 have g := grow_new (o := .lst ((srtI ns).map V.int)) s2 hl
 exact k _ _ _ g (dat_lst upd_same (dats_ints _))
variable {K : PySem.W.Frag} {B : Hp} {ρ : List PV} {ta te : TE} {ds : List PyData}
theorem er_revT (h : Er K B te ρ (.tuple ds)) : Er K B (tRevT K te (tPart (tUn (rU fun i => .int (-i)) (tC (.int 1))))) ρ (.tuple ds.reverse) := fun G σ r => ev_revT (h G σ r) fun H Q q => ⟨1, rfl, _, rfl, q⟩
theorem er_isB {g : Bool → Bool} {c t : Bool} (h : Er K B ta ρ (.bool c)) : Er K B (tOp (rIsB g) ta (tC (.bl t))) ρ (.bool (g (decide (c = t)))) := fun G σ r => ev_isB (h G σ r)
theorem ex_cb1 {r : List V → Hp → VK → Prop} {a c : PyData} (ha : Ex K B te ρ a) (hop : ∀ G σ va, Dat K G va a → Ev K (tCB r (tCons (tC va) tNil)) σ G c) : Ex K B (tCB r (tCons te tNil)) ρ c := fun E G0 H0 G H σ F R Q k =>
 ha E G0 H0 G H σ F R _ fun v G1 H1 g1 hv => hop G1 σ v hv G1 H1 (Same.refl _) g1.gh Q fun v2 G2 H2 g2 hv2 => k v2 G2 H2 (g1.trans g2) hv2
theorem eg_tup {t : TA} {R : PV → List PV → Prop} (h : EgA K B t ρ fun ds ρ' => ds.length ≤ sizeLine ∧ R (.dat (.tuple ds)) ρ') : Eg K B (tTup t) ρ R := fun E G0 H0 G H σ F r Q q =>
 h E G0 H0 G H σ F r _ fun vs ds ρ1 G1 H1 F1 hR s1 r1 hv => ⟨by rw [hv.length]; exact hR.1, fun p hp => by
  have g := grow_new (o := .tup vs) r1.g.gh hp
  exact q _ _ ρ1 _ _ F1 [] hR.2 (s1.trans g.gg) (r1.grow g) ⟨rfl, _, rfl, dat_tup (SqT.of upd_same) (hv.same g.gg)⟩ nw_nil⟩
theorem er_eqS {g : Bool → Bool} {tb : TE} {a b : PyData} (ha : Er K B ta ρ a) (hb : Er K B tb ρ b) (sh : SeqAt.shaped a = true ∧ SeqAt.shaped b = true ∧ SeqAt.noMix a b = true) : Er K B (tOp (rEqD K g) ta tb) ρ (.bool (g (PySem.Spec.same a b))) := fun G σ r => ev_eqS' (ha G σ r) (hb G σ r) sh
theorem ei_rngN {t : TA} {n : Nat} (h : Ea K B t ρ [.int (n : Nat)]) (hj : n < 2 ^ 60) : Ei K B (iRng1 t) ρ ((List.range n).map fun (i : Nat) => PyData.int (i : Nat)) := by
 have := ei_rng h ⟨by omega, by omega⟩
 rw [Int.toNat_natCast] at this
 have e : (List.range n).map (fun (i : Nat) => PyData.int (0 + i)) = (List.range n).map fun (i : Nat) => PyData.int (i : Nat) := List.map_congr_left fun i _ => by congr 1; omega
 rwa [e] at this
end
end L2
namespace K64
open PySem L2 Lw Mv Mvs Trn
def RRow : List PyData → PyData → Prop := fun as d => ∃ (turn : List Nat) (ps : List Int) (sg : Int), as = [dN turn, dI ps, .int sg] ∧ (sg = 1 ∨ sg = -1) ∧ turn.length ≤ 60 ∧ ps.length ≤ 200 ∧ (∀ x ∈ turn, x < 1000) ∧ d = .bool (ps.all (inR turn.length) && rise (turn.map fun (n : Nat) => sg * (n : Int)) ps)
def RHolds : List PyData → PyData → Prop := fun as d => ∃ (turn : List Nat) (kept : List Int) (rows : List (List Int)), as = [dN turn, .tuple [dI kept, .tuple (rows.map dI)]] ∧ turn.length ≤ 60 ∧ (∀ x ∈ turn, x < 1000) ∧ kept.length ≤ 200 ∧ rows.length ≤ 200 ∧ rows.flatten.length < 64 ∧ d = .bool (holds turn kept rows)
section
variable {P : Program} {w : World} {K : PySem.W.Frag} {mg : Str → Option Value} {base : Heap}
theorem ok_row (T : Top K mg) : FnOk P w K mg base CX0 1 T.f__law_row T.fd__law_row ["turn", "places", "sign"] (spP K RRow) := by
 refine T.F__law_row.okP sc__law_row (by rintro _ _ ⟨turn, ps, sg, rfl, _⟩; rfl) fun cdv A outer s H E hr ds d hR => ?_
 obtain ⟨turn, ps, sg, rfl, hsg, ht, hl, hx, rfl⟩ := hR
 have zl : (200 : Nat) < sizeLine := by decide
 rw [← chkR_all]
 have hall : ∀ k, k < ps.length → chkR turn.length (turn.map fun (n : Nat) => sg * (n : Int)) ps k = false → (List.range ps.length).all (chkR turn.length (turn.map fun (n : Nat) => sg * (n : Int)) ps) = false := fun k hk hf => by
  rw [Bool.eq_false_iff]
  intro h
  have := List.all_eq_true.mp h k (List.mem_range.mpr hk)
  rw [hf] at this; cases this
 have hp : ∀ k, k < ps.length → ixN (ps.map PyData.int).length (k : Nat) = some k ∧ (ps.map PyData.int)[k]? = some (.int (ps.getD k 0)) := fun k hk => by
  refine ⟨by rw [List.length_map]; exact ixN_nat hk, ?_⟩
  rw [List.getElem?_map, List.getD_eq_getElem?_getD, List.getElem?_eq_getElem hk]; rfl
 have htn : ∀ p : Int, inR turn.length p = true → ixN (turn.map fun (n : Nat) => PyData.int (n : Nat)).length p = some p.toNat ∧ (turn.map fun (n : Nat) => PyData.int (n : Nat))[p.toNat]? = some (.int (turn.getD p.toNat 0 : Nat)) ∧ (turn.map fun (n : Nat) => sg * (n : Int)).getD p.toNat 0 = sg * (turn.getD p.toNat 0 : Nat) ∧ turn.getD p.toNat 0 < 1000 := fun p hp => by
  unfold inR at hp
  simp only [Bool.and_eq_true, decide_eq_true_eq] at hp
  obtain ⟨k, rfl⟩ := Int.eq_ofNat_of_zero_le hp.1
  have hk : k < turn.length := by omega
  rw [Int.toNat_natCast, List.length_map]
  refine ⟨ixN_nat hk, ?_, ?_, ?_⟩
  ·rw [List.getElem?_map, List.getD_eq_getElem?_getD, List.getElem?_eq_getElem hk]; rfl
  ·rw [List.getD_eq_getElem?_getD, List.getElem?_map, List.getD_eq_getElem?_getD, List.getElem?_eq_getElem hk]; rfl
  ·rw [List.getD_eq_getElem?_getD, List.getElem?_eq_getElem hk]; exact hx _ (List.getElem_mem hk)
 refine ⟨_, (pss_cons (ps_for PassesOwn.never rfl (pi_range1 (by rfl) T.range_ (pa_cons (pe_callB (call_lenK (K := K) rfl) (by rfl) T.len_ PySem.boot_len (pa_cons (pv 1) pa_nil st_Name)) pa_nil st_Call)) (pg_name (i := 3) sc__law_row.nd rfl (Or.inl rfl)) (pss_cons (ps_if (pt_not (pt_chain op_le op_lt pe_int (pe_ix (ix_tupK (K := K) rfl) (pv 1) (pv 3) (fun _ _ => rfl)) (pe_callB (call_lenK (K := K) rfl) (by rfl) T.len_ PySem.boot_len (pa_cons (pv 0) pa_nil st_Name)))) (pss_one (ps_ret pe_bl)) pss_nil)
   (pss_cons (ps_if ((pw_and (pt_cmpR op_gt (pv 3) pe_int (nomark _)) (pw_and1 (pt_cmpR op_ge (pe_ix (ix_tupK (K := K) rfl) (pv 1) (pe_op op_sub (pv 3) pe_int) (fun _ _ => rfl)) (pe_ix (ix_tupK (K := K) rfl) (pv 1) (pv 3) (fun _ _ => rfl)) (nomark _))))).pt (pss_one (ps_ret pe_bl)) pss_nil)
   (pss_one (ps_if (pt_cmpR op_gt (pv 3) pe_int (nomark _)) (pss_cons (ps_set (i := 4) sc__law_row.nd rfl (Or.inl rfl) (pe_op op_sub (pe_ix (ix_tupK (K := K) rfl) (pv 0) (pe_ix (ix_tupK (K := K) rfl) (pv 1) (pv 3) (fun _ _ => rfl)) (fun _ _ => rfl)) (pe_ix (ix_tupK (K := K) rfl) (pv 0) (pe_ix (ix_tupK (K := K) rfl) (pv 1) (pe_op op_sub (pv 3) pe_int) (fun _ _ => rfl)) (fun _ _ => rfl))))
   (pss_one (ps_if (pt_cmpR op_le (pe_op op_mulW (pv 2) (pv 4)) pe_int (nomark _)) (pss_one (ps_ret pe_bl)) pss_nil))) pss_nil)))))
   (pss_one (ps_ret pe_bl))) , ?_⟩
 refine sv_seq (sv_for (List.range ps.length) (fun (i : Nat) => PyData.int (i : Nat)) (ei_rngN (ea_cons (er_d (er_lenT (ea_cons (er_var rfl) ea_nil)) (by rw [List.length_map])) ea_nil) (by omega)) (fun k ρ => (List.range k).all (chkR turn.length (turn.map fun (n : Nat) => sg * (n : Int)) ps) = true ∧ ∃ v3 v4 : PV, ρ = [.dat (dN turn), .dat (dI ps), .dat (.int sg), v3, v4]) ⟨rfl, _, _, rfl⟩ ?_ ?_)
 ·rintro k hk _ ⟨hI, v3, v4, rfl⟩
  rw [List.length_range] at hk
  have ei : (List.range ps.length)[k]'(by rw [List.length_range]; exact hk) = k := by simp
  rw [ei]
  obtain ⟨i1, i2⟩ := hp k hk
  have hlt : Er K B0 (tCB (fun xs H Q => ∃ p ys, xs = [.ref p] ∧ (SqL K H p ys ∨ SqT K H p ys) ∧ Q (.int ys.length) H) (tCons (tVar 0) tNil)) [.dat (dN turn), .dat (dI ps), .dat (.int sg), .dat (.int (k : Nat)), v4] (.int (turn.length : Nat)) := er_d (er_lenT (ea_cons (er_var rfl) ea_nil)) (by rw [List.length_map])
  refine gt_name (sv_seq (sv_if (et_not (et_test (er_chain er_int (er_ixT (er_var rfl) (er_var rfl) i1 i2) hlt))) (fun h => ?_) fun h => sv_next ?_))
  ·refine sv_ret (eg_er (er_d er_bl ?_) rfl)
   rw [hall k hk]
   unfold chkR
   rw [show inR turn.length (ps.getD k 0) = false from Bool.not_eq_true' _ |>.mp h]; rfl
  have hin : inR turn.length (ps.getD k 0) = true := by unfold inR; simpa using h
  by_cases hk0 : k = 0
  ·subst hk0
   refine sv_seq (sv_ifF (et_and (c := false) (e := true) (et_c (et_test (er_i0 (er_var rfl) er_int fun _ => dat_bl _)) rfl) fun z => absurd z Bool.false_ne_true) (sv_next ?_))
   refine sv_ifF (et_c (et_test (er_i0 (er_var rfl) er_int fun _ => dat_bl _)) rfl) (sv_next ⟨?_, _, _, rfl⟩)
   show ([0].all _) = true
   rw [List.all_cons, List.all_nil, Bool.and_true]
   unfold chkR
   rw [hin]; rfl
  obtain ⟨j1, j2⟩ := hp (k - 1) (by omega)
  have hin1 : inR turn.length (ps.getD (k - 1) 0) = true := by
   have := List.all_eq_true.mp hI (k - 1) (List.mem_range.mpr (by omega))
   unfold chkR at this
   exact (Bool.and_eq_true .. |>.mp this).1
  have hk1 : ∀ {v4 : PV}, Er K B0 (tOp (rI0 fun a b => .int (a - b)) (tVar 3) (tC (.int 1))) [.dat (dN turn), .dat (dI ps), .dat (.int sg), .dat (.int (k : Nat)), v4] (.int ((k - 1 : Nat) : Int)) := er_d (er_i0 (er_var rfl) er_int fun _ => dat_int _) (by congr 1; omega)
  have hgt : decide ((0 : Int) < (k : Nat)) = true := decide_eq_true (by omega)
  have hchk : chkR turn.length (turn.map fun (n : Nat) => sg * (n : Int)) ps k = (decide (ps.getD (k - 1) 0 < ps.getD k 0) && decide (sg * (turn.getD (ps.getD (k - 1) 0).toNat 0 : Nat) < sg * (turn.getD (ps.getD k 0).toNat 0 : Nat))) := by
   unfold chkR rise2
   rw [hin, decide_eq_false hk0, Bool.true_and, Bool.false_or]
   show (decide _ && decide (List.getD _ _ _ < List.getD _ _ _)) = _
   rw [(htn _ hin1).2.2.1, (htn _ hin).2.2.1]
  refine sv_seq (sv_if (et_and (et_c (et_test (er_i0 (er_var rfl) er_int fun _ => dat_bl _)) hgt) fun _ => et_test (er_i0 (er_ixT (er_var rfl) hk1 j1 j2) (er_ixT (er_var rfl) (er_var rfl) i1 i2) fun _ => dat_bl _)) (fun h => ?_) fun h => sv_next ?_)
  ·refine sv_ret (eg_er (er_d er_bl ?_) rfl)
   rw [Bool.true_and, decide_eq_true_eq] at h
   rw [hall k hk (by rw [hchk, decide_eq_false (by omega)]; rfl)]
  rw [Bool.true_and, decide_eq_false_iff_not] at h
  have b1 := (htn _ hin).2.2.2
  have b2 := (htn _ hin1).2.2.2
  refine sv_ifT (et_c (et_test (er_i0 (er_var rfl) er_int fun _ => dat_bl _)) hgt) ?_
  refine sv_seq (sv_asg (eg_er (er_i0 (er_ixT (er_var rfl) (er_ixT (er_var rfl) (er_var rfl) i1 i2) (htn _ hin).1 (htn _ hin).2.1) (er_ixT (er_var rfl) (er_ixT (er_var rfl) hk1 j1 j2) (htn _ hin1).1 (htn _ hin1).2.1) fun _ => dat_int _) ?_))
  have big : (4000 : Nat) < 2 ^ 4000 := Nat.lt_of_lt_of_le (show (4000 : Nat) < 2 ^ 12 by decide) (Nat.pow_le_pow_right (by decide) (by decide))
  refine sv_if (et_test (er_i0 (er_iC (er_var rfl) (er_var rfl) ⟨Nat.lt_of_le_of_lt (show sg.natAbs ≤ 4000 by omega) big, Nat.lt_of_le_of_lt (m := 4000) (by omega) big⟩ fun _ => dat_int _) er_int fun _ => dat_bl _)) (fun h2 => ?_) fun h2 => sv_next ⟨?_, _, _, rfl⟩
  ·refine sv_ret (eg_er (er_d er_bl ?_) rfl)
   have h2 := of_decide_eq_true h2
   rw [hall k hk]
   rw [hchk, decide_eq_false (show ¬ sg * (turn.getD (ps.getD (k - 1) 0).toNat 0 : Nat) < sg * (turn.getD (ps.getD k 0).toNat 0 : Nat) by rcases hsg with rfl | rfl <;> omega), Bool.and_false]
  ·have h2 := of_decide_eq_false h2
   rw [List.range_succ, List.all_append, hI, List.all_cons, List.all_nil, hchk, decide_eq_true (show ps.getD (k - 1) 0 < ps.getD k 0 by omega), decide_eq_true (show sg * (turn.getD (ps.getD (k - 1) 0).toNat 0 : Nat) < sg * (turn.getD (ps.getD k 0).toNat 0 : Nat) by rcases hsg with rfl | rfl <;> omega)]; rfl
 ·rintro _ ⟨hI, v3, v4, rfl⟩
  rw [List.length_range] at hI
  exact sv_ret (eg_er (er_d er_bl (by rw [hI])) rfl)
theorem dPr_inj : ∀ {a b : List (Int × Int)}, a.map dPr = b.map dPr → a = b
 | [], [], _ => rfl
 | [], _ :: _, h => by cases h
 | _ :: _, [], h => by cases h
 | (x, y) :: a, (u, v) :: b, h => by
  rw [List.map_cons, List.map_cons] at h
  injection h with h1 h2
  injection h1 with h1
  injection h1 with h3 h4
  injection h4 with h4 _
  injection h3 with h3
  injection h4 with h4
  have h3 : x = u := h3
  have h4 : y = v := h4
  rw [h3, h4, dPr_inj h2]
theorem pl_prs {n : Nat} (m : List (Int × Int)) : Pl (n + 2) (.list (m.map dPr)) := pl_lst fun x hx => by
 obtain ⟨q, _, rfl⟩ := List.mem_map.mp hx
 refine pl_tup fun y hy => ?_
 rcases List.mem_cons.mp hy with rfl | hy
 ·exact pl_int _
 ·rw [List.mem_singleton.mp hy]; exact pl_int _
theorem ok_holds (T : Top K mg) : FnOk P w K mg base CX0 2 T.f__law_holds T.fd__law_holds ["turn", "paper"] (spP K RHolds) := by
 have G__law_row : FnOk P w K mg base CX0 1 T.f__law_row T.fd__law_row ["turn", "places", "sign"] (spP K RRow) := ok_row T
 refine T.F__law_holds.okP sc__law_holds (by rintro _ _ ⟨vs, ps, nums, rfl, _⟩; rfl) fun cdv A outer s H E hr ds d hR => ?_
 obtain ⟨turn, kept, rows, rfl, ht, hx, hk, hr', hl, rfl⟩ := hR
 have hu := hr.units
 have hu1 := Nat.lt_of_le_of_lt (Nat.add_le_add_left (show 1 ≤ 64 by decide) _) hr.units
 have zl : (2000 : Nat) < sizeLine := by decide
 refine ⟨_, (pss_cons (ps_asg (pv 1) (pg_tup (n := 2) rfl (pgs_cons (pg_name (i := 2) sc__law_holds.nd rfl (Or.inl rfl)) (pgs_cons (pg_name (i := 3) sc__law_holds.nd rfl (Or.inl rfl)) pgs_nil)) (by rfl)))
   (pss_cons (ps_if ((pw_or (pt_not (pt_val (pe_call G__law_row hr (by rfl) T.m__law_row T.F__law_row.kp T.b__law_row .nil pass0 (pa_cons (pv 0) (pa_cons (pv 2) (pa_cons pe_int pa_nil st_Constant) st_Name) st_Name)))) (pw_or1 (pt_cmpR op_ne (pe_callB (call_lenK (K := K) rfl) (by rfl) T.len_ PySem.boot_len (pa_cons (pv 3) pa_nil st_Name)) (pe_callB (call_lenK (K := K) rfl) (by rfl) T.len_ PySem.boot_len (pa_cons (pv 2) pa_nil st_Name)) (nomark _))))).pt (pss_one (ps_ret pe_bl)) pss_nil)
   (pss_cons (ps_set (i := 4) sc__law_holds.nd rfl (Or.inl rfl) pe_dnewK)
   (pss_cons (ps_for PassesOwn.never rfl (pi_tup (pv 3)) (pg_name (i := 5) sc__law_holds.nd rfl (Or.inl rfl)) (pss_cons (ps_if (pt_not (pt_val (pe_call G__law_row hr (by rfl) T.m__law_row T.F__law_row.kp T.b__law_row .nil pass0 (pa_cons (pv 0) (pa_cons (pv 5) (pa_cons (pe_un un_neg pe_int) pa_nil st_UnaryOp) st_Name) st_Name)))) (pss_one (ps_ret pe_bl)) pss_nil)
   (pss_one (ps_for PassesOwn.never rfl (pi_tup (pv 5)) (pg_name (i := 6) sc__law_holds.nd rfl (Or.inl rfl)) (pss_one (ps_dput hu1 (pv 4) (pv 6) (pe_op op_add (pe_dget2 hu1 (pv 4) (pv 6) pe_int ⟨rfl, rfl, rfl, rfl⟩) pe_int) (by rfl)))))))
   (pss_one (ps_ret (pe_cmpR (op_eqDK (K := K) rfl hu) (pe_srtM (K := K) rfl rfl (by rfl) T.sorted_ (pv 4)) (pe_lc (x := "place") (cap := []) (js := []) ⟨rfl, by decide +kernel, by decide +kernel, rfl, (by show ∀ p ∈ (_ : List (Str × NameKind)), p.2 = NameKind.free → List.lookup p.1 (defScope s__law_holds).names = some NameKind.cell; decide +kernel), by decide +kernel, by decide +kernel, by decide +kernel⟩ rfl rfl (fun _ _ h => h) (pi_range1 (by rfl) T.range_ (pa_cons (pe_callB (call_lenK (K := K) rfl) (by rfl) T.len_ PySem.boot_len (pa_cons (pv 0) pa_nil st_Name)) pa_nil st_Call)) (fun _ _ _ _ => ⟨pif_nil, (pe_tup (pa_cons (pv 0) (pa_cons pe_int pa_nil st_Constant) st_Name))⟩)) (nomark _)))))))) , ?_⟩
 have etl : (turn.map fun (n : Nat) => PyData.int (n : Nat)).length = turn.length := List.length_map _
 refine sv_seq (sv_asgT (ex_er (er_var rfl)) (gt_two ?_))
 refine sv_seq (sv_if (et_or (et_not (et_b (er_call (ea_cons (er_var rfl) (ea_cons (er_var rfl) (ea_cons er_int ea_nil))) ⟨turn, kept, 1, rfl, .inl rfl, ht, hk, hx, rfl⟩))) fun _ => et_test (er_ne (er_lenT (ea_cons (er_var rfl) ea_nil)) (er_lenT (ea_cons (er_var rfl) ea_nil)))) (fun h => ?_) fun h => sv_next ?_)
 ·refine sv_ret (eg_er (er_d er_bl ?_) rfl)
  congr 1
  unfold holds
  rw [List.length_map, List.length_map] at h
  revert h
  generalize (kept.all (inR turn.length) && rise (turn.map fun (n : Nat) => 1 * (n : Int)) kept) = c1
  by_cases he : rows.length = kept.length
  ·rw [decide_eq_true (show (rows.length : Int) = kept.length by omega)]
   cases c1
   ·intro _; rfl
   ·intro h; cases h
  ·rw [decide_eq_false he]
   intro _
   cases c1 <;> rfl
 rw [List.length_map, List.length_map] at h
 have h1 : (kept.all (inR turn.length) && rise (turn.map fun (n : Nat) => 1 * (n : Int)) kept) = true := by
  cases hd : (kept.all (inR turn.length) && rise (turn.map fun (n : Nat) => 1 * (n : Int)) kept) with
  | true => rfl
  | false => rw [hd] at h; cases h
 have h2 : rows.length = kept.length := by
  rw [h1] at h
  cases hd : decide ((rows.length : Int) = kept.length) with
  | true => have := of_decide_eq_true hd; omega
  | false => rw [hd] at h; cases h
 refine sv_seq (sv_asg (eg_dnewK ?_))
 refine sv_seq (sv_for rows dI (ei_tup (er_var rfl)) (fun k ρ => (rows.take k).all (fun r => r.all (inR turn.length) && rise (turn.map fun (n : Nat) => -1 * (n : Int)) r) = true ∧ ∃ v5 v6 : PV, ρ = [.dat (dN turn), .dat (.tuple [dI kept, .tuple (rows.map dI)]), .dat (dI kept), .dat (.tuple (rows.map dI)), .thg (dKg (cnt (rows.take k).flatten)), v5, v6]) ⟨rfl, _, _, rfl⟩ ?_ ?_)
 ·rintro k hk' _ ⟨hI, v5, v6, rfl⟩
  have hrl : rows[k].length ≤ 200 := by
   have := (List.sublist_flatten_of_mem (List.getElem_mem hk')).length_le
   omega
  have etk : rows.take (k + 1) = rows.take k ++ [rows[k]] := by rw [List.take_succ, List.getElem?_eq_getElem hk']; rfl
  have hfl : (rows.take k).flatten.length + rows[k].length < 64 := by
   have := @flat_le rows (k + 1)
   rw [etk, List.flatten_append, List.length_append] at this
   simp only [List.flatten_cons, List.flatten_nil, List.append_nil] at this
   omega
  refine gt_name (sv_seq (sv_if (et_not (et_b (er_call (ea_cons (er_var rfl) (ea_cons (er_var rfl) (ea_cons (er_neg er_int) ea_nil))) ⟨turn, rows[k], -1, rfl, .inr rfl, ht, hrl, hx, rfl⟩))) (fun h => ?_) fun h => sv_next ?_))
  ·refine sv_ret (eg_er (er_d er_bl ?_) rfl)
   congr 1
   unfold holds
   have : rows.all (fun r => r.all (inR turn.length) && rise (turn.map fun (n : Nat) => -1 * (n : Int)) r) = false := by
    rw [Bool.eq_false_iff]
    intro hA
    have := List.all_eq_true.mp hA rows[k] (List.getElem_mem hk')
    rw [this] at h; cases h
   rw [this, Bool.false_and, Bool.and_false]
  have h := Bool.not_eq_false' _ |>.mp h
  refine sv_for rows[k] PyData.int (ei_tup (er_var rfl)) (fun j ρ => ∃ v6 : PV, ρ = [.dat (dN turn), .dat (.tuple [dI kept, .tuple (rows.map dI)]), .dat (dI kept), .dat (.tuple (rows.map dI)), .thg (dKg (cnt ((rows.take k).flatten ++ rows[k].take j))), .dat (dI rows[k]), v6]) ⟨v6, by rw [List.take_zero, List.append_nil]; rfl⟩ ?_ ?_
  ·rintro j hj _ ⟨v6, rfl⟩
   refine gt_name (sv_dputK (er_i0 (er_get2 rfl (er_var rfl) er_int) er_int fun _ => dat_int _) (er_var rfl) rfl ?_ ⟨.dat (.int rows[k][j]), ?_⟩)
   ·have := (ci ((rows.take k).flatten ++ rows[k].take j)).len
    rw [List.length_append, List.length_take] at this
    omega
   ·rw [List.take_succ, List.getElem?_eq_getElem hj, Option.toList_some, ← List.append_assoc, cnt_snoc]; rfl
  ·rintro _ ⟨v6, rfl⟩
   refine ⟨?_, _, _, by rw [List.take_length, etk, List.flatten_append, List.flatten_cons, List.flatten_nil, List.append_nil]⟩
   rw [etk, List.all_append, hI, List.all_cons, h]; rfl
 ·rintro _ ⟨hI, v5, v6, rfl⟩
  rw [List.take_length] at hI ⊢
  have cc := ci rows.flatten
  have hv := cnt_vals rows.flatten hl
  refine sv_ret (eg_flat (er_d (er_eqD (n := 4) (er_srtM (qs := srtQ (cnt rows.flatten)) rfl (by have := cc.len; omega) hv fun rs p q => srtQ_of hv p q) (er_d (er_lc (js := []) (List.range turn.length) (fun (i : Nat) => PyData.int (i : Nat)) (fun (i : Nat) => some (dPr ((i : Int), 1))) (ei_rngN (ea_cons (er_d (er_lenT (ea_cons (er_var rfl) ea_nil)) (by rw [etl])) ea_nil) (by omega)) (by rw [List.length_range]; omega) fun a ha => lx1 et_noif (er_tup (ea_cons (er_var rfl) (ea_cons er_int ea_nil)) (by show 2 ≤ sizeLine; decide))) (show _ = PyData.list ((pr1 turn.length).map dPr) by rw [fm_some, List.map_map]; rfl)) (pl_prs _) (pl_prs _) (by decide)) ?_) rfl rfl)
  congr 1
  unfold holds
  rw [h1, h2, hI, ← srtQ_cov rows turn.length hl, decide_eq_true rfl, Bool.true_and, Bool.true_and, Bool.true_and]
  by_cases e : srtQ (cnt rows.flatten) = pr1 turn.length
  ·rw [e, decide_eq_true rfl]; exact same_iff.mpr rfl
  ·rw [decide_eq_false e]
   exact same_ne fun z => e (dPr_inj (by injection z))
end
end K64
namespace K64
open PySem L2 Lw Mv Mvs Trn
theorem two_div {i : Int} : CDivP i 2 := ⟨by decide, Nat.lt_of_lt_of_le (show (2 : Int).natAbs < 2 ^ 2 by decide) (Nat.pow_le_pow_right (by decide) (by decide))⟩
section
variable {P : Program} {w : World} {K : PySem.W.Frag} {mg : Str → Option Value} {base : Heap}
theorem ok_ma (T : Top K mg) (kk : Nat) : FnOkS P w K mg base (kk + 3) T.f_many_ahead T.fd_many_ahead ["places", "lies_ahead"] (spMA P w K mg base kk) := by
 refine T.F_many_ahead.okS (k := kk + 2) sc_many_ahead (fun s vs H Q h => ?_) (fun cdv A outer s H vs Q hr h => ?_)
 ·obtain ⟨n, f, q, params, body, fr, sc, cl, y, cap, vals, te, g, rfl, _⟩ := h
  rfl
 ·obtain ⟨n, f, q, params, body, fr, sc, cl, y, cap, vals, te, g, rfl, hn, S, hcap, L, C, hvl, hbind, hbody, hev, fin⟩ := h
  refine ⟨_, (pss_cons (ps_set (i := 2) sc_many_ahead.nd rfl (Or.inl rfl) pe_int) (pss_cons (ps_set (i := 3) sc_many_ahead.nd rfl (Or.inl rfl) (pv 0))
   (pss_cons (ps_while PassesOwn.never (pt_cmpR op_lt (pv 2) (pv 3) (nomark _)) (pss_cons (ps_set (i := 4) sc_many_ahead.nd rfl (Or.inl rfl) (pe_op op_fdivP (pe_op op_add (pv 2) (pv 3)) pe_int))
    (pss_one (ps_if (pt_val (pe_callV (i := 1) rfl (Or.inl rfl) (hr.mono (by omega)) rfl L C S hcap hbind hvl hbody (pa_cons (pv 4) pa_nil st_Name)))
     (pss_one (ps_set (i := 2) sc_many_ahead.nd rfl (Or.inl rfl) (pe_op op_add (pv 4) pe_int))) (pss_one (ps_set (i := 3) sc_many_ahead.nd rfl (Or.inl rfl) (pv 4)))))))
   (pss_one (ps_ret (pv 2)))))), ?_⟩
  refine ⟨_, rfl, ?_⟩
  refine while_by (fun σ H' => ∃ (low high : Nat) (v : Option V), σ = [some (.int (n : Nat)), some (.ref f), some (.int (low : Nat)), some (.int (high : Nat)), v] ∧ high ≤ n ∧ hv g low high = hv g 0 n ∧ Same H H') (fun σ _ => match σ with | [_, _, some (.int l), some (.int h), _] => (h - l).toNat | _ => 0)
   ⟨0, n, none, rfl, Nat.le_refl _, rfl, Same.refl _⟩ ?_ ?_
  ·rintro σ H1 ⟨low, high, v, rfl, c2, c3, s1⟩
   refine ⟨_, rfl, _, rfl, _, _, rfl, rfl, _, rfl, ?_⟩
   by_cases hlt : (low : Int) < high
   ·rw [decide_eq_true hlt]
    refine iteT ?_
    have hlt' : low < high := by omega
    refine ⟨_, rfl, _, rfl, _, _, rfl, rfl, _, _, rfl, rfl, two_div, ?_⟩
    obtain ⟨half, hhalf⟩ : ∃ half : Nat, ((low : Int) + high) / 2 = half := ⟨(((low : Int) + high) / 2).toNat, by omega⟩
    have hh : (low + high) / 2 = half := by omega
    (try dsimp only)
    rw [hhalf]
    have b1 : low ≤ half := by omega
    have b2 : half < high := by omega
    have e3 : hv g low high = if g half then hv g (half + 1) high else hv g low half := by
     rw [hv, dif_pos hlt', hh]
    refine if_ev (c := g half) (G := H1) ?_ (Same.refl _) (fun e G2 H2 g2 => ?_) (fun e G2 H2 g2 => ?_)
    ·refine fun G1 H2 sa sb Q1 k1 => ⟨rfl, _, rfl, rfl, ?_⟩
     exact (hev half (by omega)) G1 H2 (s1.trans sa) sb _ fun v' G' H' g' hv' => ⟨_, hv'.bl, k1 G' H' g'⟩
    ·refine ⟨_, rfl, _, _, rfl, rfl, ⟨half + 1, high, _, rfl, c2, ?_, s1.trans g2.hh⟩, ?_⟩
     ·rw [← c3, e3, if_pos e]
     ·show ((high : Int) - ((half : Int) + 1)).toNat < ((high : Int) - low).toNat
      omega
    ·refine ⟨_, rfl, ⟨low, half, _, rfl, by omega, ?_, s1.trans g2.hh⟩, ?_⟩
     ·rw [← c3, e3, if_neg (by rw [e]; exact Bool.false_ne_true)]
     ·show ((half : Int) - low).toNat < ((high : Int) - low).toNat
      omega
   ·rw [decide_eq_false hlt]
    refine iteF ?_
    refine ⟨_, rfl, ?_⟩
    have e3 : hv g low high = low := by rw [hv, dif_neg (by omega)]
    rw [← e3, c3]
    exact fin H1 s1
  ·rintro σ H1 Q1 Q2 hq ⟨a, e1, b, e2, i, j, e3, e4, c, e5, q⟩
   exact ⟨a, e1, b, e2, i, j, e3, e4, c, e5, hq _ _ q⟩
end
end K64
namespace K64
open PySem L2 Lw Mv Mvs Trn
section
variable {P : Program} {w : World} {K : PySem.W.Frag} {mg : Str → Option Value} {base : Heap}
theorem ok_seed (T : Top K mg) : FnOk P w K mg base CX0 1 T.f__law_seed T.fd__law_seed ["cell"] spSeed := by
 refine T.F__law_seed.ok sc__law_seed (fun vs H Q E h => ?_) (fun cdv A outer s H vs Q E hr h => ?_)
 ·obtain ⟨cell, rfl, _⟩ := h
  rfl
 ·obtain ⟨cell, rfl, fin⟩ := h
  refine ⟨_, (pss_cons (ps_set (i := 1) sc__law_seed.nd rfl (Or.inl rfl) (pe_callB (call_max2 rfl) (by rfl) T.max_ bMax (pa_cons (pv 0) (pa_cons (pe_op op_sub pe_int (pv 0)) pa_nil st_BinOp) st_Name)))
   (pss_one (ps_ret (pe_lst (pa_cons (pv 1) (pa_cons (pe_callTy call_int1 (by rfl) T.int_ bInt (pa_cons (pe_cmpR op_ge (pv 1) (pe_op op_pow pe_int pe_int) (nomark _)) pa_nil st_Compare)) (pa_cons pe_int (pa_cons (pe_op op_mod (pv 0) pe_int) pa_nil st_BinOp) st_Constant) st_Call) st_Name))))) , ?_⟩
  refine ⟨_, rfl, _, rfl, _, _, rfl, rfl, _, _, rfl, ?_⟩
  refine ⟨_, rfl, _, rfl, _, _, rfl, rfl, ⟨by decide, by decide, by decide⟩, _, _, rfl, rfl, .inr ⟨_, rfl, ?_⟩⟩
  refine ⟨_, rfl, _, _, rfl, rfl, (by show (0 : Int) < 1999999927; decide), (by show 4 ≤ sizeLine; decide), fun p hp => ?_⟩
  exact fin p _ hp ⟨_, _, _, _, upd_same, by decide, by decide, Int.emod_nonneg _ (by decide), Int.emod_lt_of_pos _ (by decide)⟩ (same_new hp)
theorem ok_draw (T : Top K mg) : FnOk P w K mg base CX0 1 T.f__law_draw T.fd__law_draw ["seed", "most"] spDraw := by
 refine T.F__law_draw.ok sc__law_draw (fun vs H Q E h => ?_) (fun cdv A outer s H vs Q E hr h => ?_)
 ·obtain ⟨d, m, n, rfl, _⟩ := h
  rfl
 ·obtain ⟨d, m, n, rfl, ⟨a, b, c, e, hd, hc0, hcn, he0, he1⟩, hn, hm1, hm2, fin⟩ := h
  have hu := hr.units
  refine ⟨_, (pss_cons (ps_asg (pe_op op_add (pe_ix (ix_listK (K := K) rfl) (pv 0) pe_int (fun _ _ => rfl)) pe_int) (pg_sub (pv 0) pe_int set_list))
   (pss_cons (ps_if ((pw_and (pt_cmpR op_eq (pe_ix (ix_listK (K := K) rfl) (pv 0) pe_int (fun _ _ => rfl)) pe_int (nomark _)) (pw_and1 (pt_cmpR op_gt (pe_ix (ix_listK (K := K) rfl) (pv 0) pe_int (fun _ _ => rfl)) pe_int (nomark _))))).pt (pss_cons (ps_set (i := 2) sc__law_draw.nd rfl (Or.inl rfl) (pe_op op_mod (pe_ix (ix_listK (K := K) rfl) (pv 0) pe_int (fun _ _ => rfl)) (pv 1)))
   (pss_cons (ps_asg (pe_op op_fdivP (pe_ix (ix_listK (K := K) rfl) (pv 0) pe_int (fun _ _ => rfl)) (pv 1)) (pg_sub (pv 0) pe_int set_list))
   (pss_one (ps_ret (pv 2))))) pss_nil)
   (pss_cons (ps_set (i := 3) sc__law_draw.nd rfl (Or.inl rfl) (pe_op op_mod (pe_op op_mulW (pe_op op_add (pe_op op_add (pe_ix (ix_listK (K := K) rfl) (pv 0) pe_int (fun _ _ => rfl)) (pe_op op_mulW pe_int (pe_ix (ix_listK (K := K) rfl) (pv 0) pe_int (fun _ _ => rfl)))) pe_int) pe_int) pe_int))
   (pss_cons (ps_set (i := 3) sc__law_draw.nd rfl (Or.inl rfl) (pe_op op_mod (pe_op op_mulW (pe_op op_mod (pe_op op_mulW (pv 3) (pv 3)) pe_int) pe_int) pe_int))
   (pss_one (ps_ret (pe_op op_mod (pe_op op_fdivP (pv 3) pe_int) (pv 1)))))))) , ?_⟩
  refine ⟨_, rfl, d, _, 2, _, rfl, rfl, SqL.of hd, rfl, _, _, rfl, rfl, _, rfl, d, _, 2, 2, rfl, rfl, hd, rfl, ?_⟩
  have h1 : upd H d (.lst [V.int a, V.int b, V.int (c + 1), V.int e]) d = some (.lst [V.int a, V.int b, V.int (c + 1), V.int e]) := upd_same
  have B : But d H (upd H d (.lst [V.int a, V.int b, V.int (c + 1), V.int e])) := But.upd
  show tSeq _ _ _ _ (upd H d (.lst [V.int a, V.int b, V.int (c + 1), V.int e]))
  generalize upd H d (.lst [V.int a, V.int b, V.int (c + 1), V.int e]) = H1 at h1 B
  have hs : Dat K H1 (.ref d) (.list [.int a, .int b, .int (c + 1), .int e]) := dat_lst h1 (dats_cons (dat_int _) (dats_cons (dat_int _) (dats_cons (dat_int _) (dats_cons (dat_int _) dats_nil))))
  refine if_ev (G := H1) (evt_and (evt_test (ev_eqI (ev_ixL (K := K) (i := 1) (n := 1) (ev_var rfl hs) ev_int rfl rfl) ev_int)) fun _ => evt_test (ev_i0 (ev_ixL (K := K) (i := 0) (n := 0) (ev_var rfl hs) ev_int rfl rfl) ev_int (dat_bl _))) (Same.refl _) (fun _ G2 H2 g2 => ?_) (fun _ G2 H2 g2 => ?_)
  ·have h2 := g2.hh _ _ h1
   refine ⟨_, rfl, d, _, 0, _, rfl, rfl, SqL.of h2, rfl, _, rfl, _, _, rfl, rfl, (by show 0 < m; omega), ?_⟩
   refine ⟨_, rfl, d, _, 0, _, rfl, rfl, SqL.of h2, rfl, _, rfl, _, _, rfl, rfl, ⟨by omega, w0 (by omega)⟩, _, rfl, d, _, 0, 0, rfl, rfl, h2, rfl, ?_⟩
   exact ⟨_, rfl, fin _ _ (Int.emod_nonneg _ (by omega)) (Int.emod_lt_of_pos _ (by omega)) ⟨_, _, _, _, upd_same, by omega, by omega, he0, he1⟩ ((B.trans (But.of g2.hh)).trans But.upd)⟩
  ·have h2 := g2.hh _ _ h1
   have m1 : (6151 * (c + 1)).natAbs ≤ 10 ^ 10 := by omega
   refine ⟨_, rfl, d, _, 3, _, rfl, rfl, SqL.of h2, rfl, _, rfl, d, _, 2, _, rfl, rfl, SqL.of h2, rfl, _, _, rfl, rfl, mw (by decide) (by omega), _, _, rfl, rfl, _, _, rfl, rfl, _, _, rfl, rfl, mw (by omega) (by decide), _, _, rfl, rfl, (by show (0 : Int) < 2147483647; decide), ?_⟩
   (try dsimp only)
   generalize hM : (e + 6151 * (c + 1) + 3) * 48271 % 2147483647 = x
   have hx : 0 ≤ x ∧ x < 2147483647 := by rw [← hM]; exact ⟨Int.emod_nonneg _ (by decide), Int.emod_lt_of_pos _ (by decide)⟩
   have hxx := Int.emod_nonneg (x * x) (show (2147483629 : Int) ≠ 0 by decide)
   have hxy := Int.emod_lt_of_pos (x * x) (show (0 : Int) < 2147483629 by decide)
   refine ⟨_, rfl, _, rfl, _, _, rfl, rfl, mw (by omega) (by omega), _, _, rfl, rfl, (by show (0 : Int) < 2147483629; decide), _, _, rfl, rfl, mw (by omega) (by decide), _, _, rfl, rfl, (by show (0 : Int) < 2147483399; decide), ?_⟩
   refine ⟨_, rfl, _, _, rfl, rfl, ⟨by decide, by decide⟩, _, rfl, _, _, rfl, rfl, (by show 0 < m; omega), ?_⟩
   exact fin _ _ (Int.emod_nonneg _ (by omega)) (Int.emod_lt_of_pos _ (by omega)) ⟨_, _, _, _, h2, by omega, by omega, he0, he1⟩ (B.trans (But.of g2.hh))
theorem ok_many (T : Top K mg) : FnOk P w K mg base CX0 2 T.f__law_many T.fd__law_many ["seed"] spMany := by
 have G__law_draw : FnOk P w K mg base CX0 1 T.f__law_draw T.fd__law_draw ["seed", "most"] spDraw := ok_draw T
 refine T.F__law_many.ok sc__law_many (fun vs H Q E h => ?_) (fun cdv A outer s H vs Q E hr h => ?_)
 ·obtain ⟨d, n, rfl, _⟩ := h
  rfl
 ·obtain ⟨d, n, rfl, S, hn, fin⟩ := h
  refine ⟨_, (pss_one (ps_ret (pe_ix (ix_listK (K := K) rfl) (pe_lst (pa_cons (pe_call G__law_draw hr (by rfl) T.m__law_draw T.F__law_draw.kp T.b__law_draw .nil pass0 (pa_cons (pv 0) (pa_cons pe_int pa_nil st_Constant) st_Name)) (pa_cons (pe_call G__law_draw hr (by rfl) T.m__law_draw T.F__law_draw.kp T.b__law_draw .nil pass0 (pa_cons (pv 0) (pa_cons pe_int pa_nil st_Constant) st_Name)) (pa_cons (pe_op op_add pe_int (pe_call G__law_draw hr (by rfl) T.m__law_draw T.F__law_draw.kp T.b__law_draw .nil pass0 (pa_cons (pv 0) (pa_cons pe_int pa_nil st_Constant) st_Name))) (pa_cons (pe_call G__law_draw hr (by rfl) T.m__law_draw T.F__law_draw.kp T.b__law_draw .nil pass0 (pa_cons (pv 0) (pa_cons pe_int pa_nil st_Constant) st_Name)) pa_nil st_Call) st_BinOp) st_Call) st_Call)) (pe_call G__law_draw hr (by rfl) T.m__law_draw T.F__law_draw.kp T.b__law_draw .nil pass0 (pa_cons (pv 0) (pa_cons pe_int pa_nil st_Constant) st_Name)) (fun _ _ => rfl)))) , ?_⟩
  refine ⟨_, rfl, d, _, n, rfl, S, by omega, by decide, by decide, fun r1 H1 a1 b1 S1 B1 => ?_⟩
  refine ⟨_, rfl, d, _, n + 1, rfl, S1, by omega, by decide, by decide, fun r2 H2 a2 b2 S2 B2 => ?_⟩
  refine ⟨_, rfl, d, _, n + 2, rfl, S2, by omega, by decide, by decide, fun r3 H3 a3 b3 S3 B3 => ?_⟩
  refine ⟨_, _, rfl, rfl, _, rfl, d, _, n + 3, rfl, S3, by omega, by decide, by decide, fun r4 H4 a4 b4 S4 B4 => ?_⟩
  refine ⟨(by show 4 ≤ sizeLine; decide), fun p hp => ?_⟩
  refine ⟨_, rfl, d, _, n + 4, rfl, S4.same (same_new hp), by omega, by decide, by decide, fun r5 H5 a5 b5 S5 B5 => ?_⟩
  have hp5 : H5 p = some (.lst [V.int r1, V.int r2, V.int (20 + r3), V.int r4]) := B5 p _ upd_same (Ne.symm (S4.ne hp))
  have B := (((B1.trans B2).trans B3).trans B4).trans ((But.of (same_new (o := .lst [V.int r1, V.int r2, V.int (20 + r3), V.int r4]) hp)).trans B5)
  have h5 : r5 = 0 ∨ r5 = 1 ∨ r5 = 2 ∨ r5 = 3 := by omega
  rcases h5 with rfl | rfl | rfl | rfl
  ·exact ⟨p, _, _, _, rfl, rfl, SqL.of hp5, rfl, fin r1 _ a1 (by omega) S5 B⟩
  ·exact ⟨p, _, _, _, rfl, rfl, SqL.of hp5, rfl, fin r2 _ a2 (by omega) S5 B⟩
  ·exact ⟨p, _, _, _, rfl, rfl, SqL.of hp5, rfl, fin (20 + r3) _ (by omega) (by omega) S5 B⟩
  ·exact ⟨p, _, _, _, rfl, rfl, SqL.of hp5, rfl, fin r4 _ a4 (by omega) S5 B⟩
end
end K64
namespace K64
open PySem L2 Lw Mv Mvs Trn
def spTurn (K : PySem.W.Frag) : Sp := fun vs H Q _ => ∃ (d : Addr) (m : Int) (n : Nat), vs = [.ref d, .int m] ∧ Sd H d n ∧ n ≤ 10 ^ 4 ∧ 0 ≤ m ∧ m ≤ 60 ∧
 ∀ (ms : List Nat) (p : Addr) H', Tn m.toNat ms → H p = none → H' p = some (.tup (vN ms)) → Sd H' d (n + 1000) → But d H H' → Q (.ref p) H'
theorem vN_app (a b : List Nat) : vN (a ++ b) = vN a ++ vN b := List.map_append
theorem vN_len (a : List Nat) : (vN a).length = a.length := List.length_map _
theorem map_eraseN : ∀ (l : List Nat) (i : Nat), (vN l).eraseIdx i = vN (l.eraseIdx i)
 | [], _ => rfl
 | _ :: _, 0 => rfl
 | x :: l, i + 1 => by
  show (V.int (x : Nat) :: vN l).eraseIdx (i + 1) = vN ((x :: l).eraseIdx (i + 1))
  rw [List.eraseIdx_cons_succ, List.eraseIdx_cons_succ, map_eraseN l i]; rfl
theorem seq_if {tc : TT} {t u rest : TS} {D : Ends} {σ : St} {H : Hp} (R : St → Hp → Prop) (hr : ∀ σ' H', R σ' H' → rest D σ' H')
  (h : ∀ nx : St → Hp → Prop, (∀ σ' H', R σ' H' → nx σ' H') → tc σ H fun b H1 => if b = true then t { D with nx := nx } σ H1 else u { D with nx := nx } σ H1) : tSeq (tIfS tc t u) rest D σ H := h (rest D) hr
theorem t_eq {σ : St} {H : Hp} {Q : Bool → Hp → Prop} {i : Nat} {x c : Int} (h : σ[i]? = some (some (.int x))) (q : Q (decide (x = c)) H) : tTest (tOp rEq (tVar i) (tC (.int c))) σ H Q := by
 refine ⟨_, h, rfl, _, rfl, ?_⟩
 have e : decide (V.int x = V.int c) = decide (x = c) := by
  by_cases z : x = c
  ·rw [decide_eq_true z, decide_eq_true (by rw [z])]
  ·rw [decide_eq_false z, decide_eq_false fun y => z (by injection y)]
 rw [e]; exact q
section
variable {P : Program} {w : World} {K : PySem.W.Frag} {mg : Str → Option Value} {base : Heap}
theorem ok_turn (T : Top K mg) : FnOk P w K mg base CX0 2 T.f__law_turn T.fd__law_turn ["seed", "many"] (spTurn K) := by
 have G__law_draw : FnOk P w K mg base CX0 1 T.f__law_draw T.fd__law_draw ["seed", "most"] spDraw := ok_draw T
 refine T.F__law_turn.ok sc__law_turn (fun vs H Q E h => ?_) (fun cdv A outer s H vs Q E hr h => ?_)
 ·obtain ⟨d, m, n, rfl, _⟩ := h
  rfl
 ·obtain ⟨d, m, n, rfl, S, hn, hm0, hm1, fin⟩ := h
  refine ⟨_, (pss_cons (ps_set (i := 2) sc__law_turn.nd rfl (Or.inl rfl) (pe_lrange rfl (by rfl) T.list_ (by rfl) T.range_ (pa_cons (pv 1) pa_nil st_Name)))
   (pss_cons (ps_set (i := 3) sc__law_turn.nd rfl (Or.inl rfl) (pe_lst pa_nil))
   (pss_cons (ps_set (i := 4) sc__law_turn.nd rfl (Or.inl rfl) (pe_call G__law_draw hr (by rfl) T.m__law_draw T.F__law_draw.kp T.b__law_draw .nil pass0 (pa_cons (pv 0) (pa_cons pe_int pa_nil st_Constant) st_Name)))
   (pss_cons (ps_for PassesOwn.never rfl (pi_range1 (by rfl) T.range_ (pa_cons (pv 1) pa_nil st_Name)) (pg_name (i := 5) sc__law_turn.nd rfl (Or.inl rfl)) (pss_cons (ps_set (i := 6) sc__law_turn.nd rfl (Or.inl rfl) (pe_call G__law_draw hr (by rfl) T.m__law_draw T.F__law_draw.kp T.b__law_draw .nil pass0 (pa_cons (pv 0) (pa_cons (pe_callB (call_lenK (K := K) rfl) (by rfl) T.len_ PySem.boot_len (pa_cons (pv 2) pa_nil st_Name)) pa_nil st_Call) st_Name)))
   (pss_cons (ps_if ((pw_or (pt_cmpR op_eq (pv 4) pe_int (nomark _)) (pw_or1 ((pw_and (pt_cmpR op_eq (pv 4) pe_int (nomark _)) (pw_and1 (pt_cmpR op_gt (pe_call G__law_draw hr (by rfl) T.m__law_draw T.F__law_draw.kp T.b__law_draw .nil pass0 (pa_cons (pv 0) (pa_cons pe_int pa_nil st_Constant) st_Name)) pe_int (nomark _))))).pt))).pt (pss_one (ps_set (i := 6) sc__law_turn.nd rfl (Or.inl rfl) pe_int)) pss_nil)
   (pss_cons (ps_if ((pw_and (pt_cmpR op_eq (pv 4) pe_int (nomark _)) (pw_and1 (pt_cmpR op_gt (pe_call G__law_draw hr (by rfl) T.m__law_draw T.F__law_draw.kp T.b__law_draw .nil pass0 (pa_cons (pv 0) (pa_cons pe_int pa_nil st_Constant) st_Name)) pe_int (nomark _))))).pt (pss_one (ps_set (i := 6) sc__law_turn.nd rfl (Or.inl rfl) (pe_op op_sub (pe_callB (call_lenK (K := K) rfl) (by rfl) T.len_ PySem.boot_len (pa_cons (pv 2) pa_nil st_Name)) pe_int))) pss_nil)
   (pss_one (ps_expr (pe_bm PySem.F.plainAttrs_list PySem.F.slot_list_append PySem.F.type_list_append mt_append (pv 3) (pa_cons (pe_bm PySem.F.plainAttrs_list PySem.F.slot_list_pop PySem.F.type_list_pop mt_popAt (pv 2) (pa_cons (pv 6) pa_nil st_Name)) pa_nil st_Call))))))))
   (pss_cons (ps_if (pt_cmpR op_eq (pv 4) pe_int (nomark _)) (pss_cons (ps_set (i := 7) sc__law_turn.nd rfl (Or.inl rfl) (pe_call G__law_draw hr (by rfl) T.m__law_draw T.F__law_draw.kp T.b__law_draw .nil pass0 (pa_cons (pv 0) (pa_cons (pe_op op_add (pv 1) pe_int) pa_nil st_BinOp) st_Name)))
   (pss_one (ps_set (i := 3) sc__law_turn.nd rfl (Or.inl rfl) (pe_op op_cat (pe_lrange2 rfl (by rfl) T.list_ (by rfl) T.range_ (pa_cons (pv 7) (pa_cons (pv 1) pa_nil st_Name) st_Name)) (pe_lrange rfl (by rfl) T.list_ (by rfl) T.range_ (pa_cons (pv 7) pa_nil st_Name)))))) pss_nil)
   (pss_one (ps_ret (pe_callTy (call_tupleK (K := K) rfl) (by rfl) T.tuple_ bTup (pa_cons (pv 3) pa_nil st_Name))))))))) , ?_⟩
  have zl : (1000 : Nat) ≤ sizeLine := by decide
  refine ⟨_, rfl, m, rfl, hm0, by omega, fun l hl => ?_⟩
  refine ⟨(by show 0 ≤ sizeLine; decide), fun t ht => ?_⟩
  have hld : l ≠ d := Ne.symm (S.ne hl)
  have ht0 : H t = none := (same_new hl).free ht
  have htd : t ≠ d := Ne.symm (S.ne ht0)
  have htl : l ≠ t := ne_of_none (H := upd H l (.lst ((List.range m.toNat).map fun (i : Nat) => V.int i))) upd_same ht
  have s2 : Same H (upd (upd H l (.lst ((List.range m.toNat).map fun (i : Nat) => V.int i))) t (.lst [])) := (same_new hl).trans (same_new ht)
  refine ⟨_, rfl, d, 6, n, rfl, S.same s2, by omega, by decide, by decide, fun shape H3 sh0 sh1 S3 B3 => ?_⟩
  have hl3 : H3 l = some (.lst (vN (List.range m.toNat))) := B3 _ _ (by rw [upd_ne htl, upd_same]) hld
  have ht3 : H3 t = some (.lst (vN [])) := B3 _ _ upd_same htd
  have B03 : But d H H3 := (But.of s2).trans B3
  refine ⟨_, rfl, m, rfl, by omega, by omega, for_range (n := m.toNat) (fun i σ H' => ∃ (v5 v6 v7 : Option V) (left turn : List Nat), σ = [some (.ref d), some (.int m), some (.ref l), some (.ref t), some (.int shape), v5, v6, v7] ∧ Sd H' d (n + 1 + 3 * i) ∧ But d H H' ∧ H' l = some (.lst (vN left)) ∧ H' t = some (.lst (vN turn)) ∧ (turn ++ left).Perm (List.range m.toNat) ∧ turn.length = i)
   ⟨_, _, _, List.range m.toNat, [], rfl, S3, B03, hl3, ht3, List.Perm.refl _, rfl⟩ ?_ ?_⟩
  ·rintro i σ H4 hi ⟨v5, v6, v7, left, turn, rfl, S4, B4, hl4, ht4, hp, htn⟩
   have hll : left.length = m.toNat - i := by
    have := hp.length_eq
    rw [List.length_append, List.length_range] at this; omega
   refine ⟨_, rfl, _, rfl, l, _, rfl, .inl (SqL.of hl4), d, _, _, rfl, S4, by omega, by rw [vN_len]; omega, by rw [vN_len]; omega, fun at0 H5 at00 at01 S5 B5 => ?_⟩
   rw [vN_len] at at01
   have hl5 := B5 _ _ hl4 hld
   have ht5 := B5 _ _ ht4 htd
   (try dsimp only [gName])
   refine seq_if (fun σ H' => ∃ (at1 : Int), σ = [some (.ref d), some (.int m), some (.ref l), some (.ref t), some (.int shape), some (.int (0 + (i : Int))), some (.int at1), v7] ∧ (0 ≤ at1 ∧ at1 < left.length) ∧ Sd H' d (n + 1 + 3 * i + 2) ∧ But d H H' ∧ H' l = some (.lst (vN left)) ∧ H' t = some (.lst (vN turn))) ?_ ?_
   ·rintro σ H6 ⟨at1, rfl, ⟨a0, a1⟩, S6, B6, hl6, ht6⟩
    (try dsimp only [gName])
    refine seq_if (fun σ H' => ∃ (at1 : Int), σ = [some (.ref d), some (.int m), some (.ref l), some (.ref t), some (.int shape), some (.int (0 + (i : Int))), some (.int at1), v7] ∧ (0 ≤ at1 ∧ at1 < left.length) ∧ Sd H' d (n + 1 + 3 * i + 3) ∧ But d H H' ∧ H' l = some (.lst (vN left)) ∧ H' t = some (.lst (vN turn))) ?_ ?_
    ·rintro σ H7 ⟨at1, rfl, ⟨a0, a1⟩, S7, B7, hl7, ht7⟩
     obtain ⟨z, hz⟩ : ∃ z : Nat, left[at1.toNat]? = some z := ⟨_, List.getElem?_eq_getElem (by omega)⟩
     have ea : at1 = (at1.toNat : Int) := by omega
     refine ⟨_, rfl, tyV_lst ht7, _, rfl, tyV_lst hl7, _, rfl, l, vN left, at1, at1.toNat, V.int (z : Nat), rfl, rfl, hl7, by omega, by omega, ?_, by rw [List.getElem?_map, hz]; rfl, ?_⟩
     ·rw [ea, Int.toNat_natCast]; exact seqIndex_nat (by rw [vN_len]; omega)
     have htl' : t ≠ l := Ne.symm htl
     refine ⟨t, vN turn, V.int (z : Nat), rfl, rfl, by rw [upd_ne htl']; exact ht7, by rw [vN_len]; omega, ?_⟩
     refine ⟨_, _, _, left.eraseIdx at1.toNat, turn ++ [z], rfl, ?_, ?_, ?_, ?_, ?_, by rw [List.length_append, htn]; rfl⟩
     ·exact ((S7.keep (H' := upd H7 l _) (upd_ne (Ne.symm hld))).keep (upd_ne (Ne.symm htd))).mono (by omega)
     ·exact fun b o e nb => by
       have h1 := B7 b o e nb
       rw [upd_ne (fun q => by rw [q, ht0] at e; cases e), upd_ne (fun q => by rw [q, hl] at e; cases e)]; exact h1
     ·rw [upd_ne htl, upd_same, map_eraseN]
     ·rw [upd_same, vN_app]; rfl
     ·refine List.Perm.trans ?_ hp
      rw [List.append_assoc]
      refine List.Perm.append_left _ ?_
      have es : left = left.take at1.toNat ++ z :: left.drop (at1.toNat + 1) := by
       conv => lhs; rw [← List.take_append_drop at1.toNat left, List.drop_eq_getElem_cons (by omega)]
       rw [List.getElem?_eq_getElem (by omega)] at hz
       rw [Option.some.inj hz]
      rw [List.eraseIdx_eq_take_drop_succ]
      conv => rhs; rw [es]
      exact (List.perm_middle (a := z) (l₁ := left.take at1.toNat) (l₂ := left.drop (at1.toNat + 1))).symm
    ·intro nx hnx
     refine t_eq rfl ?_
     by_cases h2 : shape = 2
     ·rw [decide_eq_true h2]
      refine iteT ?_
      refine ⟨_, rfl, d, 4, _, rfl, S6, by omega, by decide, by decide, fun r H7 r0 r1 S7 B7 => ?_⟩
      have hl7 := B7 _ _ hl6 hld
      have ht7 := B7 _ _ ht6 htd
      refine ⟨_, _, rfl, rfl, _, rfl, ?_⟩
      by_cases h3 : (0 : Int) < r
      ·rw [decide_eq_true h3]
       refine iteT ?_
       refine ⟨_, rfl, l, _, rfl, .inl (SqL.of hl7), _, _, rfl, rfl, hnx _ _ ⟨_, rfl, ⟨?_, ?_⟩, S7, B6.trans B7, hl7, ht7⟩⟩
       ·show (0 : Int) ≤ ((vN left).length : Nat) - 1
        rw [vN_len]; omega
       ·show ((vN left).length : Nat) - (1 : Int) < (left.length : Nat)
        rw [vN_len]; omega
      ·rw [decide_eq_false h3]
       exact iteF (hnx _ _ ⟨at1, rfl, ⟨a0, a1⟩, S7, B6.trans B7, hl7, ht7⟩)
     ·rw [decide_eq_false h2]
      exact iteF (iteF (hnx _ _ ⟨at1, rfl, ⟨a0, a1⟩, S6.mono (by omega), B6, hl6, ht6⟩))
   ·intro nx hnx
    have B05 := B4.trans B5
    have h0 : (0 : Int) ≤ 0 ∧ (0 : Int) < left.length := ⟨by decide, by omega⟩
    refine t_eq rfl ?_
    by_cases h1 : shape = 0
    ·rw [decide_eq_true h1]
     exact iteT (iteT (hnx _ _ ⟨0, rfl, h0, S5.mono (by omega), B05, hl5, ht5⟩))
    ·rw [decide_eq_false h1]
     refine iteF ?_
     refine t_eq rfl ?_
     by_cases h2 : shape = 1
     ·rw [decide_eq_true h2]
      refine iteT ?_
      refine ⟨_, rfl, d, 4, _, rfl, S5, by omega, by decide, by decide, fun r H7 r0 r1 S7 B7 => ?_⟩
      have hl7 := B7 _ _ hl5 hld
      have ht7 := B7 _ _ ht5 htd
      refine ⟨_, _, rfl, rfl, _, rfl, ?_⟩
      by_cases h3 : (0 : Int) < r
      ·rw [decide_eq_true h3]
       exact iteT (hnx _ _ ⟨0, rfl, h0, S7.mono (by omega), B05.trans B7, hl7, ht7⟩)
      ·rw [decide_eq_false h3]
       exact iteF (hnx _ _ ⟨at0, rfl, ⟨at00, at01⟩, S7.mono (by omega), B05.trans B7, hl7, ht7⟩)
     ·rw [decide_eq_false h2]
      exact iteF (iteF (hnx _ _ ⟨at0, rfl, ⟨at00, at01⟩, S5.mono (by omega), B05, hl5, ht5⟩))
  ·rintro σ H4 ⟨v5, v6, v7, left, turn, rfl, S4, B4, hl4, ht4, hp, htn⟩
   have hlen := hp.length_eq
   rw [List.length_append, List.length_range] at hlen
   have he : left = [] := List.eq_nil_of_length_eq_zero (by omega)
   subst he
   rw [List.append_nil] at hp
   (try dsimp only [gName])
   refine seq_if (fun σ H' => ∃ (v5 v6 v7 : Option V) (p : Addr) (ms : List Nat), σ = [some (.ref d), some (.int m), some (.ref l), some (.ref p), some (.int shape), v5, v6, v7] ∧ Sd H' d (n + 500) ∧ But d H H' ∧ H' p = some (.lst (vN ms)) ∧ Tn m.toNat ms) ?_ ?_
   ·rintro σ H5 ⟨v5, v6, v7, p, ms, rfl, S5, B5, hp5, tn⟩
    refine ⟨_, rfl, p, _, rfl, .inl ⟨SqL.of hp5, fun q hq => ?_⟩⟩
    exact fin ms q _ tn (B5.free S5 hq) upd_same ((S5.same (same_new hq)).mono (by omega)) (B5.trans (But.of (same_new hq)))
   ·intro nx hnx
    refine t_eq rfl ?_
    by_cases h3 : shape = 3
    ·rw [decide_eq_true h3]
     refine iteT ?_
     refine ⟨_, rfl, _, rfl, _, _, rfl, rfl, d, m + 1, _, rfl, S4, by omega, by omega, by omega, fun cut H5 c0 c1 S5 B5 => ?_⟩
     refine ⟨_, rfl, _, rfl, cut, m, rfl, ⟨c0, by omega, by omega⟩, fun p1 hp1 => ?_⟩
     have sA := same_new (o := .lst ((List.range (m - cut).toNat).map fun (n : Nat) => V.int (cut + n))) hp1
     refine ⟨_, rfl, cut, rfl, c0, by omega, fun p2 hp2 => ?_⟩
     have n12 : p1 ≠ p2 := ne_of_none (H := upd H5 p1 (.lst ((List.range (m - cut).toNat).map fun (n : Nat) => V.int (cut + n)))) upd_same hp2
     have sB := sA.trans (same_new (o := .lst ((List.range cut.toNat).map fun (i : Nat) => V.int i)) hp2)
     refine ⟨p1, p2, _, _, rfl, rfl, by rw [upd_ne n12, upd_same], upd_same, by rw [List.length_map, List.length_map, List.length_range, List.length_range]; omega, fun p3 hp3 => ?_⟩
     have sC := sB.trans (same_new (o := .lst (((List.range (m - cut).toNat).map fun (n : Nat) => V.int (cut + n)) ++ (List.range cut.toNat).map fun (i : Nat) => V.int i)) hp3)
     refine hnx _ _ ⟨_, _, _, p3, (List.range (m - cut).toNat).map (fun n => cut.toNat + n) ++ List.range cut.toNat, rfl, (S5.same sC).mono (by omega), (B4.trans B5).trans (But.of sC), ?_, ?_⟩
     ·rw [upd_same, vN_app]
      congr 3
      show _ = ((List.range (m - cut).toNat).map fun n => cut.toNat + n).map fun n => V.int (n : Nat)
      rw [List.map_map]
      refine List.map_congr_left fun x _ => ?_
      show V.int (cut + x) = V.int ((cut.toNat + x : Nat) : Int)
      congr 1; omega
     ·have hmm : m.toNat = cut.toNat + (m - cut).toNat := by omega
      refine tn_of_perm ?_
      rw [hmm, List.range_add]
      exact List.perm_append_comm
    ·rw [decide_eq_false h3]
     exact iteF (hnx _ _ ⟨_, _, _, t, turn, rfl, S4.mono (by omega), B4, ht4, tn_of_perm hp⟩)
end
end K64
namespace K64
open PySem L2 Lw Mv Mvs Trn
section
variable {P : Program} {w : World} {K : PySem.W.Frag} {mg : Str → Option Value} {base : Heap}
theorem ev_lt {σ : St} {G : Hp} {ta tb : TE} {i j : Int} (ha : Ev K ta σ G (.int i)) (hb : Ev K tb σ G (.int j)) : Ev K (tOp (rI0 fun i j => .bl (decide (i < j))) ta tb) σ G (.bool (decide (i < j))) := ev_i0 ha hb (dat_bl _)
theorem ev_at {σ : St} {G : Hp} {ta tb : TE} {turn : List Nat} {i : Nat} (ha : Ev K ta σ G (dN turn)) (hb : Ev K tb σ G (.int (i : Nat))) (h : i < turn.length) : Ev K (tOp (rIxT K) ta tb) σ G (.int (vl turn i : Nat)) :=
 ev_ixT ha hb (by rw [List.length_map]; exact ixN_nat h) (by
  rw [List.getElem?_map, List.getElem?_eq_getElem h]
  unfold vl
  rw [List.getD_eq_getElem?_getD, List.getElem?_eq_getElem h]; rfl)
end
def RPaper : List PyData → PyData → Prop := fun as d => ∃ turn : List Nat, as = [dN turn] ∧ turn.length ≤ 60 ∧ d = .tuple [dN (keptL (rkS turn turn.length).1 (rkS turn turn.length).2), .tuple ((rowsL (rkS turn turn.length).1 (rkS turn turn.length).2).map dN)]
abbrev crPO : Nat → Nat → Option Str := fun _ _ => some lq_paper_of
def vO : Option Nat → V | some q => .int (q : Nat) | none => .non
def dO : Option Nat → PyData | some q => .int (q : Nat) | none => .none
theorem dat_O {K : PySem.W.Frag} {G : Hp} {v : V} {o : Option Nat} (h : Dat K G v (dO o)) : v = vO o := by
 cases o with
 | none => exact h.non
 | some q => exact h.int
def bfL (rk : List Nat) : List V := (List.range rk.length).map fun p => vO (bf rk p)
theorem bfL_app (rk : List Nat) (w : Nat) : bfL (rk ++ [w]) = bfL rk ++ [vO (if 0 < w then some (tp rk (w - 1)) else none)] := by
 unfold bfL
 rw [List.length_append, List.length_singleton, List.range_succ, List.map_append, List.map_singleton, bf_end]
 congr 1
 exact List.map_congr_left fun p hp => by rw [bf_app (List.mem_range.mp hp)]
theorem bfL_len (rk : List Nat) : (bfL rk).length = rk.length := by unfold bfL; rw [List.length_map, List.length_range]
def own (G H H' : Hp) : Hp := fun b => if H b = none then H' b else G b
theorem own_new {G H H' : Hp} {b : Addr} (h : H b = none) : own G H H' b = H' b := if_pos h
theorem grow_own {G H H' : Hp} (sg : Same G H) (s1 : Same G H') (sH : Same H H') : Grow G H (own G H H') H' := by
 refine ⟨fun b o e => ?_, fun b o e => ?_, sH, fun b o e => ?_⟩
 ·unfold own; rw [if_neg (by rw [sg b o e]; exact fun z => nomatch z)]; exact e
 ·unfold own at e
  split at e
  ·exact e
  ·exact s1 b o e
 ·unfold own at e
  split at e
  ·rename_i h; exact .inr h
  ·exact .inl e
abbrev dL (r : List Nat) : PyData := .list (r.map fun n => PyData.int (n : Nat))
structure PS (G H : Hp) (turn : List Nat) (pr pb : Addr) (rk : List Nat) (k : Nat) (as : List Addr) (H' : Hp) : Prop where
 g : Same G H'
 h : Same H H'
 hr : H' pr = some (.lst (as.map V.ref))
 hb : H' pb = some (.lst (bfL rk))
 la : as.length = k
 nd : as.Nodup
 at_ : ∀ j a, as[j]? = some a → H' a = some (.lst (vN (rw_ rk j)))
 fr : ∀ a ∈ as, H a = none ∧ a ≠ pr ∧ a ≠ pb
theorem PS.same {G H : Hp} {turn : List Nat} {pr pb : Addr} {rk : List Nat} {k : Nat} {as : List Addr} {H1 H2 : Hp} (S : PS G H turn pr pb rk k as H1) (s : Same H1 H2) : PS G H turn pr pb rk k as H2 :=
 ⟨S.g.trans s, S.h.trans s, s _ _ S.hr, s _ _ S.hb, S.la, S.nd, fun j a e => s _ _ (S.at_ j a e), S.fr⟩
theorem dats_refs {K : PySem.W.Frag} {G : Hp} : ∀ (as : List Addr) (rs : List (List Nat)), as.length = rs.length → (∀ (j : Nat) a r, as[j]? = some a → rs[j]? = some r → G a = some (.lst (vN r))) → Dats K G (as.map V.ref) (rs.map dL)
 | [], [], _, _ => dats_nil
 | a :: as, r :: rs, hl, h => dats_cons (dat_lst (h 0 a r rfl rfl) (dats_nats _)) (dats_refs as rs (by simpa using hl) fun j a' r' e1 e2 => h (j + 1) a' r' (by simpa using e1) (by simpa using e2))
 | [], _ :: _, hl, _ => by simp at hl
 | _ :: _, [], hl, _ => by simp at hl
theorem PS.dat {K : PySem.W.Frag} {G H : Hp} {turn : List Nat} {pr pb : Addr} {rk : List Nat} {k : Nat} {as : List Addr} {H1 : Hp} (S : PS G H turn pr pb rk k as H1) : Dat K H1 (.ref pr) (.list ((rowsL rk k).map dL)) :=
 dat_lst S.hr (dats_refs as (rowsL rk k) (by unfold rowsL; rw [List.length_map, List.length_range, S.la]) fun j a r e1 e2 => by
  have := S.at_ j a e1
  have hj : j < k := by
   have := (List.getElem?_eq_some_iff.mp e1).1
   rw [S.la] at this; exact this
  unfold rowsL at e2
  rw [List.getElem?_map, List.getElem?_range hj] at e2
  have e3 : rw_ rk j = r := Option.some.inj e2
  rw [← e3]; exact this)
theorem last_get {l : List Nat} (h : l ≠ []) : l[l.length - 1]? = some (l.getLastD 0) := by
 have hl : 0 < l.length := List.length_pos_iff.mpr h
 rw [List.getElem?_eq_getElem (by omega)]
 congr 1
 rw [← List.getLast_eq_getElem h]
 cases l with
 | nil => exact absurd rfl h
 | cons a l => rw [List.getLastD_cons]; exact (List.getLast_eq_getLastD ..)
theorem ixN_last {n : Nat} (h : 1 ≤ n) : ixN n (-1) = some (n - 1) := by
 unfold ixN
 rw [if_neg (by decide), if_pos (by omega)]
 congr 1; omega
section
variable {P : Program} {w : World} {K : PySem.W.Frag} {mg : Str → Option Value} {base : Heap}
theorem ev_neg {σ : St} {G : Hp} {ta : TE} {i : Int} (h : Ev K ta σ G (.int i)) : Ev K (tUn (rU fun i => .int (-i)) ta) σ G (.int (-i)) :=
 fun G1 H s1 s2 Q k => h G1 H s1 s2 _ fun v G2 H2 g2 hv => ⟨i, hv.int, k _ G2 H2 g2 (dat_int _)⟩
theorem ev_last {σ : St} {G : Hp} {ta tb : TE} {rk : List Nat} {k j : Nat} (ha : Ev K ta σ G (.list ((rowsL rk k).map dL))) (hb : Ev K tb σ G (.int (j : Nat))) (hj : j < k) (hne : rw_ rk j ≠ []) : Ev K (tOp (rIxL K) (tOp (rIxL K) ta tb) (tUn (rU fun i => .int (-i)) (tC (.int 1)))) σ G (.int (tp rk j : Nat)) := by
 have hl : 0 < (rw_ rk j).length := List.length_pos_iff.mpr hne
 refine ev_ixL (n := (rw_ rk j).length - 1) (ev_ixL (n := j) (d := dL (rw_ rk j)) ha hb ?_ ?_) (ev_neg ev_int) ?_ ?_
 ·rw [List.length_map]; unfold rowsL; rw [List.length_map, List.length_range]; exact ixN_nat hj
 ·unfold rowsL; rw [List.getElem?_map, List.getElem?_map, List.getElem?_range hj]; rfl
 ·rw [List.length_map]; exact ixN_last hl
 ·rw [List.getElem?_map, last_get hne]; rfl
theorem ok_paper (T : Top K mg) (M : Bs K mg base) : FnOk P w K mg base CX0 5 T.f_paper_of T.fd_paper_of ["turn"] (spPT K T.P_paper_of crPO RPaper) := by
 have G_many_ahead : FnOkS P w K mg base 4 T.f_many_ahead T.fd_many_ahead ["places", "lies_ahead"] (spMA P w K mg base 1) := ok_ma T 1
 refine T.F_paper_of.okC sc_paper_of (fun vs H Q E h => ?_) (fun cdv A outer s H vs Q E hcd hr h => ?_)
 ·obtain ⟨G, as, d, hT, sg, hv, ⟨p, rfl, _⟩, _⟩ := h
  rw [hv.length]; rfl
 ·obtain ⟨G, as, d, hT, sg, hv, ⟨turn, rfl, l1, rfl⟩, k⟩ := h
  have hu := hr.units
  obtain ⟨v1, r1, rfl, h1, hv⟩ := hv.cons
  cases hv.nil
  obtain ⟨a, xs, rfl, ha, hxs⟩ := h1.tup
  have ex := hxs.nats
  subst ex
  have zz : (1000 : Nat) < sizeLine := by decide
  refine ⟨_, (pss_cons (ps_set (i := 1) sc_paper_of.nd rfl (Or.inr rfl) (pe_lst pa_nil))
   (pss_cons (ps_set (i := 2) sc_paper_of.nd rfl (Or.inl rfl) (pe_lst pa_nil))
   (pss_cons (ps_for PassesOwn.never rfl (pi_enumT (by rfl) T.enumerate_ (pa_cons (pv 0) pa_nil st_Name)) (pg_tup (n := 2) rfl (pgs_cons (pg_name (i := 3) sc_paper_of.nd rfl (Or.inl rfl)) (pgs_cons (pg_name (i := 4) sc_paper_of.nd rfl (Or.inr rfl)) pgs_nil)) (by rfl)) (pss_cons (ps_set (i := 5) sc_paper_of.nd rfl (Or.inl rfl) (pe_ma (kk := 1) (y := "spot") (cap := ["turn", "rows", "number"]) (js := [0, 1, 4]) (q := lq_paper_of) (cr := fun _ _ => some lq_paper_of) G_many_ahead (hr.mono (by decide)) (by rfl) T.m_many_ahead T.F_many_ahead.kp T.b_many_ahead (fun _ _ h => h) ⟨rfl, rfl, rfl, by decide +kernel, by decide +kernel, (by show ∀ p ∈ (_ : List (Str × NameKind)), p.2 = NameKind.free → List.lookup p.1 (defScope s_paper_of).names = some NameKind.cell; decide +kernel), by decide +kernel, by decide +kernel, by decide +kernel⟩ rfl (hcd.trans T.cd_paper_of) (PySem.W.codeHd_of_K M.kin T.ch_paper_of) M.bm rfl rfl (fun _ _ _ _ _ => rfl) (pe_callB (call_lenK (K := K) rfl) (by rfl) T.len_ PySem.boot_len (pa_cons (pv 1) pa_nil st_Name)) (fun _ _ _ _ _ _ _ hr2 => (pe_cmpR op_lt (pe_ix (ix_tupK (K := K) rfl) (pv 1) (pe_ix (ix_listK (K := K) rfl) (pe_ix (ix_listK (K := K) rfl) (pv 2) (pv 0) (fun _ _ => rfl)) (pe_un un_neg pe_int) (fun _ _ => rfl)) (fun _ _ => rfl)) (pv 3) (nomark _)))))
   (pss_cons (ps_expr (pe_bm PySem.F.plainAttrs_list PySem.F.slot_list_append PySem.F.type_list_append mt_append (pv 2) (pa_cons (pe_ifExp (pt_cmpR op_gt (pv 5) pe_int (nomark _)) (pe_ix (ix_listK (K := K) rfl) (pe_ix (ix_listK (K := K) rfl) (pv 1) (pe_op op_sub (pv 5) pe_int) (fun _ _ => rfl)) (pe_un un_neg pe_int) (fun _ _ => rfl)) pe_non) pa_nil st_IfExp)))
   (pss_cons (ps_if (pt_cmpR op_eq (pv 5) (pe_callB (call_lenK (K := K) rfl) (by rfl) T.len_ PySem.boot_len (pa_cons (pv 1) pa_nil st_Name)) (nomark _)) (pss_one (ps_expr (pe_bm PySem.F.plainAttrs_list PySem.F.slot_list_append PySem.F.type_list_append mt_append (pv 1) (pa_cons (pe_lst pa_nil) pa_nil st_List)))) pss_nil)
   (pss_one (ps_expr (pe_bm PySem.F.plainAttrs_list PySem.F.slot_list_append PySem.F.type_list_append mt_append (pe_ix (ix_listK (K := K) rfl) (pv 1) (pv 5) (fun _ _ => rfl)) (pa_cons (pv 3) pa_nil st_Name))))))))
   (pss_cons (ps_set (i := 6) sc_paper_of.nd rfl (Or.inl rfl) (pe_lst pa_nil))
   (pss_cons (ps_set (i := 7) sc_paper_of.nd rfl (Or.inl rfl) (pe_ifExp (pt_cmpR (op_neDK (K := K) rfl hu) (pv 1) (pe_lst pa_nil) (nomark _)) (pe_ix (ix_listK (K := K) rfl) (pe_ix (ix_listK (K := K) rfl) (pv 1) (pe_un un_neg pe_int) (fun _ _ => rfl)) (pe_un un_neg pe_int) (fun _ _ => rfl)) pe_non))
   (pss_cons (ps_while PassesOwn.never (pt_cmpR op_notN (pv 7) pe_non (nomark _)) (pss_cons (ps_expr (pe_bm PySem.F.plainAttrs_list PySem.F.slot_list_insert PySem.F.type_list_insert mt_insert (pv 6) (pa_cons pe_int (pa_cons (pv 7) pa_nil st_Name) st_Constant)))
   (pss_one (ps_set (i := 7) sc_paper_of.nd rfl (Or.inl rfl) (pe_ix (ix_listK (K := K) rfl) (pv 2) (pv 7) (fun _ _ => rfl))))))
   (pss_one (ps_ret (pe_tup (pa_cons (pe_callTy (call_tupleK (K := K) rfl) (by rfl) T.tuple_ bTup (pa_cons (pv 6) pa_nil st_Name)) (pa_cons (pe_callTy (call_tupleK (K := K) rfl) (by rfl) T.tuple_ bTup (pa_cons (pe_lc (x := "row") (cap := []) (js := []) ⟨rfl, by decide +kernel, by decide +kernel, rfl, (by show ∀ p ∈ (_ : List (Str × NameKind)), p.2 = NameKind.free → List.lookup p.1 (defScope s_paper_of).names = some NameKind.cell; decide +kernel), by decide +kernel, by decide +kernel, by decide +kernel⟩ rfl rfl (fun _ _ h => h) (pi_list (pv 1)) (fun _ _ _ _ => ⟨pif_nil, (pe_callTy (call_tupleK (K := K) rfl) (by rfl) T.tuple_ bTup (pa_cons (pv 0) pa_nil st_Name))⟩)) pa_nil st_ListComp)) pa_nil st_Call) st_Call)))))))))) , ?_⟩
  refine ⟨(by show 0 ≤ sizeLine; decide), fun pr hpr => ⟨(by show 0 ≤ sizeLine; decide), fun pb hpb => ?_⟩⟩
  have s0 := same_new (o := .lst []) hpr
  have s1 := s0.trans (same_new (o := .lst []) hpb)
  have nrb : pr ≠ pb := ne_of_none (H := upd H pr (.lst [])) upd_same hpb
  have hpb0 : H pb = none := s0.free hpb
  refine ⟨_, rfl, a, rfl, ⟨_, (sg.trans s1).tup ha⟩, for_enT (xs := turn.map fun n => V.int (n : Nat)) (fun i σ H' => ∃ (v3 v4 v5 v6 v7 : Option V) (as : List Addr), σ = [some (.ref a), some (.ref pr), some (.ref pb), v3, v4, v5, v6, v7] ∧ PS G H turn pr pb (rkS turn i).1 (rkS turn i).2 as H')
   ⟨_, _, _, _, _, [], rfl, sg.trans s1, s1, by rw [upd_ne nrb, upd_same]; rfl, by rw [upd_same]; rfl, rfl, List.nodup_nil, fun j a e => by simp at e, fun a e => by cases e⟩ ?_ ?_ ?_⟩
  ·rintro i σ H' _ ⟨v3, v4, v5, v6, v7, as, rfl, S⟩
   exact S.g.tup ha
  ·rintro i x r σ H' hx ⟨v3, v4, v5, v6, v7, as, rfl, S⟩ hr'
   rw [List.getElem?_map] at hx
   have hi : i < turn.length := by
    cases e : turn[i]? with
    | none => rw [e] at hx; cases hx
    | some n => exact (List.getElem?_eq_some_iff.mp e).1
   have ex : x = V.int (vl turn i : Nat) := by
    rw [List.getElem?_eq_getElem hi] at hx
    unfold vl
    rw [List.getD_eq_getElem?_getD, List.getElem?_eq_getElem hi]
    exact (Option.some.inj hx).symm
   subst ex
   have R := ri turn i
   show gTup _ _ _ _ _ _ _
   refine ⟨r, _, rfl, SqT.of upd_same, rfl, _, _, rfl, _, _, rfl, rfl, ?_⟩
   have S1 := S.same (same_new (o := .tup [V.int (i : Nat), V.int (vl turn i : Nat)]) hr')
   have eR : rkS turn (i + 1) = ((rkS turn i).1 ++ [wi turn (rkS turn i).1 (rkS turn i).2 i], max (rkS turn i).2 (wi turn (rkS turn i).1 (rkS turn i).2 i + 1)) := rfl
   rw [eR]
   generalize (rkS turn i).1 = rk at R S S1
   generalize (rkS turn i).2 = kk at R S S1
   generalize upd H' r (.tup [V.int (i : Nat), V.int (vl turn i : Nat)]) = H1 at S1
   clear S hr' eR
   have hkl : kk ≤ 60 := by have := R.kle; omega
   have hT1 : Dat K H1 (.ref a) (dN turn) := h1.same S1.g
   have hP1 : H1 T.P_paper_of = some (.tbl crPO) := S1.g _ _ hT
   have hR1 : Dat K H1 (.ref pr) (.list ((rowsL rk kk).map dL)) := S1.dat
   have elen : ((rowsL rk kk).map dL).length = kk := by rw [List.length_map]; unfold rowsL; rw [List.length_map, List.length_range]
   refine asg_ev (K := K) (G := H1) (ev_ma (n := kk) (g := gw turn rk i) hP1 (ev_d (ev_lenL (eva_cons (ev_var rfl hR1) eva_nil)) (by rw [elen])) (by omega) fun s hs => ?_) (Same.refl _) fun v5' G2 H2 g2 hv5 => ?_
   ·have htp := R.tp_in hs
    refine ev_d (ev_lt (ev_at (ev_var rfl hT1) (ev_last (ev_var rfl hR1) (ev_var rfl (dat_int _)) hs (R.row_ne hs)) (by omega)) (ev_var rfl (dat_int (vl turn i : Nat)))) ?_
    unfold gw
    by_cases z : vl turn (tp rk s) < vl turn i
    ·rw [decide_eq_true z, decide_eq_true (by omega)]
    ·rw [decide_eq_false z, decide_eq_false (by omega)]
   rw [hv5.int]
   obtain ⟨w1, w2⟩ := R.w
   rw [show L2.hv (gw turn rk i) 0 kk = wi turn rk kk i from rfl]
   generalize wi turn rk kk i = ww at w1 w2
   have S2 := S1.same g2.hh
   have hT2 := hT1.same g2.hh
   have hR2 := hR1.same g2.hh
   clear S1 hT1 hR1 hP1 hv5
   have ei : EvT (tTest (tOp (rI0 fun i j => V.bl (decide (j < i))) (tVar 5) (tC (V.int 0)))) [some (.ref a), some (.ref pr), some (.ref pb), some (V.int (i : Nat)), some (V.int (vl turn i : Nat)), some (V.int (ww : Nat)), v6, v7] H2 (decide (0 < ww)) := evt_c (evt_test (K := K) (ev_i0 (ev_var rfl (dat_int _)) ev_int (dat_bl _))) (by
    by_cases z : 0 < ww
    ·rw [decide_eq_true z]; exact decide_eq_true (by omega)
    ·rw [decide_eq_false z]; exact decide_eq_false (by omega))
   refine ⟨_, rfl, tyV_lst S2.hb, ?_⟩
   refine (ev_ite (K := K) (d := dO (if 0 < ww then some (tp rk (ww - 1)) else none)) ei (fun c => ?_) (fun c => ?_)).use (Same.refl _) fun v8 G3 H3 g3 hv8 => ?_
   ·have c' := of_decide_eq_true c
    rw [if_pos c']
    refine ev_last (ev_var rfl hR2) (ev_d (ev_i0 (ev_var rfl (dat_int (ww : Nat))) ev_int (dat_int _)) ?_) (show ww - 1 < kk by omega) (R.row_ne (by omega))
    congr 1; omega
   ·rw [if_neg (of_decide_eq_false c)]; exact ev_non
   rw [dat_O hv8]
   have S3 := S2.same g3.hh
   refine ⟨pb, _, _, rfl, rfl, S3.hb, by rw [bfL_len, R.len]; omega, ?_⟩
   have hR3 : Dat K (upd H3 pb (.lst (bfL rk ++ [vO (if 0 < ww then some (tp rk (ww - 1)) else none)]))) (.ref pr) (.list ((rowsL rk kk).map dL)) := by
    obtain ⟨p', xs', e', h1', h2'⟩ := (S3.dat (K := K)).lst
    cases e'
    refine dat_lst (by rw [upd_ne nrb]; exact S3.hr) (dats_refs as (rowsL rk kk) (by unfold rowsL; rw [List.length_map, List.length_range, S3.la]) fun j a r e1 e2 => ?_)
    have hj : j < kk := by
     have := (List.getElem?_eq_some_iff.mp e1).1
     rw [S3.la] at this; exact this
    unfold rowsL at e2
    rw [List.getElem?_map, List.getElem?_range hj] at e2
    have e3 : rw_ rk j = r := Option.some.inj e2
    rw [upd_ne (S3.fr a (List.mem_of_getElem? e1)).2.2, ← e3]
    exact S3.at_ j a e1
   have hb3 : upd H3 pb (.lst (bfL rk ++ [vO (if 0 < ww then some (tp rk (ww - 1)) else none)])) pb = some (.lst (bfL (rk ++ [ww]))) := by rw [upd_same, bfL_app]
   have hr3 : upd H3 pb (.lst (bfL rk ++ [vO (if 0 < ww then some (tp rk (ww - 1)) else none)])) pr = some (.lst (as.map V.ref)) := by rw [upd_ne nrb]; exact S3.hr
   have ha3 : ∀ (j : Nat) a, as[j]? = some a → upd H3 pb (.lst (bfL rk ++ [vO (if 0 < ww then some (tp rk (ww - 1)) else none)])) a = some (.lst (vN (rw_ rk j))) := fun j a e => by
    rw [upd_ne (S3.fr a (List.mem_of_getElem? e)).2.2]; exact S3.at_ j a e
   have hg3 : Same G (upd H3 pb (.lst (bfL rk ++ [vO (if 0 < ww then some (tp rk (ww - 1)) else none)]))) := same_upd S3.g (sg.free hpb0)
   have hh3 : Same H (upd H3 pb (.lst (bfL rk ++ [vO (if 0 < ww then some (tp rk (ww - 1)) else none)]))) := same_upd S3.h hpb0
   have la := S3.la
   have nd := S3.nd
   have fr := S3.fr
   clear S2 S3 hT2 hR2 ei hv8
   (try dsimp only)
   generalize upd H3 pb (.lst (bfL rk ++ [vO (if 0 < ww then some (tp rk (ww - 1)) else none)])) = H4 at hR3 hb3 hr3 ha3 hg3 hh3
   refine seq_if (fun σ H' => ∃ (as' : List Addr), σ = [some (.ref a), some (.ref pr), some (.ref pb), some (V.int (i : Nat)), some (V.int (vl turn i : Nat)), some (V.int (ww : Nat)), v6, v7] ∧ Same G H' ∧ Same H H' ∧ H' pb = some (.lst (bfL (rk ++ [ww]))) ∧ H' pr = some (.lst (as'.map V.ref)) ∧ as'.length = max kk (ww + 1) ∧ as'.Nodup ∧ (∀ (j : Nat) a, as'[j]? = some a → H' a = some (.lst (vN (rw_ rk j)))) ∧ ∀ a ∈ as', H a = none ∧ a ≠ pr ∧ a ≠ pb) ?_ ?_
   ·rintro σ H5 ⟨as', rfl, hg5, hh5, hb5, hr5, la5, nd5, ha5, fr5⟩
    obtain ⟨a5, e5⟩ : ∃ a5, as'[ww]? = some a5 := ⟨_, List.getElem?_eq_getElem (by omega)⟩
    have m5 := List.mem_of_getElem? e5
    have h5 := ha5 ww a5 e5
    have lrow : (rw_ rk ww).length ≤ i := by
     unfold rw_
     have := List.length_filter_le (fun p => rk.getD p 0 == ww) (List.range rk.length)
     rw [List.length_range] at this; have h3 := R.len; omega
    refine ⟨_, rfl, _, rfl, pr, _, _, V.ref a5, rfl, rfl, SqL.of hr5, ?_, tyV_lst h5, _, rfl, a5, _, _, rfl, rfl, h5, by rw [vN_len]; omega, ?_⟩
    ·unfold atI
     rw [List.length_map, la5, ixN_nat (by omega)]
     show (as'.map V.ref)[ww]? = _
     rw [List.getElem?_map, e5]; rfl
    refine ⟨_, _, _, _, _, as', rfl, same_upd hg5 (sg.free (fr5 a5 m5).1), same_upd hh5 (fr5 a5 m5).1, by rw [upd_ne (Ne.symm (fr5 a5 m5).2.1)]; exact hr5, by rw [upd_ne (Ne.symm (fr5 a5 m5).2.2)]; exact hb5, la5, nd5, fun j b e => ?_, fr5⟩
    rw [rw_app]
    by_cases hj : ww = j
    ·subst hj
     rw [e5] at e; cases e
     rw [upd_same, if_pos rfl, vN_app, R.len]; rfl
    ·rw [if_neg hj]
     have hne : b ≠ a5 := fun z => by
      subst z
      have q1 := (List.getElem?_eq_some_iff.mp e5)
      have q2 := (List.getElem?_eq_some_iff.mp e)
      exact hj ((List.getElem_inj nd5).mp (q1.2.trans q2.2.symm))
     rw [upd_ne hne]; exact ha5 j b e
   ·intro nx hnx
    refine (evt_test (K := K) (G := H4) (ev_eqI (ev_var rfl (dat_int (ww : Nat))) (ev_lenL (eva_cons (ev_var rfl hR3) eva_nil)))).use (Same.refl _) fun G5 H5 g5 => ?_
    rw [elen]
    by_cases hw : ww = kk
    ·rw [decide_eq_true (by omega)]
     refine iteT ?_
     have hr5 := g5.hh _ _ hr3
     refine ⟨_, rfl, tyV_lst hr5, (by show 0 ≤ sizeLine; decide), fun e he => ?_⟩
     have s6 := g5.hh.trans (same_new (o := .lst []) he)
     have hr6 := s6 _ _ hr3
     refine ⟨pr, _, _, rfl, rfl, hr6, by rw [List.length_map]; omega, hnx _ _ ⟨as ++ [e], rfl, same_upd (hg3.trans s6) (sg.free hpr), same_upd (hh3.trans s6) hpr, by rw [upd_ne (Ne.symm nrb)]; exact s6 _ _ hb3, by rw [upd_same, List.map_append]; rfl, by rw [List.length_append, la]; show kk + 1 = _; omega, ?_, fun j b eb => ?_, fun b hb => ?_⟩⟩
     ·refine List.nodup_append.mpr ⟨nd, List.pairwise_singleton _ _, fun x hx y hy z => ?_⟩
      rw [List.mem_singleton.mp hy] at z
      subst z
      obtain ⟨j, hj⟩ := List.mem_iff_getElem?.mp hx
      have := g5.hh _ _ (ha3 j _ hj)
      rw [this] at he; cases he
     ·by_cases hj : j < as.length
      ·rw [List.getElem?_append_left hj] at eb
       rw [upd_ne (fr b (List.mem_of_getElem? eb)).2.1]
       exact s6 _ _ (ha3 j b eb)
      ·rw [List.getElem?_append_right (by omega)] at eb
       have hj' : j = as.length := by
        have := (List.getElem?_eq_some_iff.mp eb).1
        simp at this; omega
       subst hj'
       simp at eb
       subst eb
       have hne : e ≠ pr := Ne.symm (ne_of_none hr5 he)
       rw [upd_ne hne, upd_same, la, R.row_k]; rfl
     ·rcases List.mem_append.mp hb with hb | hb
      ·exact fr b hb
      ·rw [List.mem_singleton.mp hb]
       refine ⟨(hh3.trans g5.hh).free he, Ne.symm (ne_of_none hr5 he), Ne.symm (ne_of_none (g5.hh _ _ hb3) he)⟩
    ·rw [decide_eq_false (by omega)]
     refine iteF (hnx _ _ ⟨as, rfl, hg3.trans g5.hh, hh3.trans g5.hh, g5.hh _ _ hb3, g5.hh _ _ hr3, by omega, nd, fun j b eb => g5.hh _ _ (ha3 j b eb), fr⟩)
  ·rintro σ H1 ⟨v3, v4, v5, v6, v7, as, rfl, S⟩
   rw [List.length_map] at S
   have R := ri turn turn.length
   generalize (rkS turn turn.length).1 = rk at R S k
   generalize (rkS turn turn.length).2 = kk at R S k
   have hkl : kk ≤ 60 := by have := R.kle; omega
   have Kp := kept_ok R
   have elen : ((rowsL rk kk).map dL).length = kk := by rw [List.length_map]; unfold rowsL; rw [List.length_map, List.length_range]
   refine ⟨(by show 0 ≤ sizeLine; decide), fun pk hpk => ?_⟩
   have S2 := S.same (same_new (o := .lst []) hpk)
   have hpk0 : H pk = none := S.h.free hpk
   have nkb : pb ≠ pk := ne_of_none S.hb hpk
   have nkr : pr ≠ pk := ne_of_none S.hr hpk
   have nka : ∀ b ∈ as, b ≠ pk := fun b hb => by
    obtain ⟨j, hj⟩ := List.mem_iff_getElem?.mp hb
    exact ne_of_none (S.at_ j b hj) hpk
   have hk2 : upd H1 pk (.lst []) pk = some (.lst (vN [])) := upd_same
   (try dsimp only)
   generalize upd H1 pk (.lst []) = H2 at S2 hk2
   clear S hpk
   have hR2 : Dat K H2 (.ref pr) (.list ((rowsL rk kk).map dL)) := S2.dat
   have plr : Pl 3 (.list ((rowsL rk kk).map dL)) := pl_lst fun x hx => by
    obtain ⟨r, _, rfl⟩ := List.mem_map.mp hx
    exact pl_lst fun y hy => by
     obtain ⟨n, _, rfl⟩ := List.mem_map.mp hy
     exact pl_int _
   have pl0 : Pl 3 (.list []) := pl_lst fun x hx => by cases hx
   refine asg_ev (K := K) (G := H2) (ev_ite (K := K) (d := dO (if kk = 0 then none else some (tp rk (kk - 1)))) (evt_test (K := K) (ev_eqD (ev_var rfl hR2) (ev_lst eva_nil (by decide)) plr pl0 (by decide))) (fun c => ?_) (fun c => ?_)) (Same.refl _) fun v7' G3 H3 g3 hv7 => ?_
   ·have hne : kk ≠ 0 := fun z => by
     subst z
     have e : (rowsL rk 0).map dL = [] := rfl
     rw [e, PySem.Spec.same_self] at c; cases c
    rw [if_neg hne]
    have hl : 0 < (rw_ rk (kk - 1)).length := List.length_pos_iff.mpr (R.row_ne (by omega))
    refine ev_ixL (n := (rw_ rk (kk - 1)).length - 1) (ev_ixL (n := kk - 1) (d := dL (rw_ rk (kk - 1))) (ev_var rfl hR2) (ev_neg ev_int) ?_ ?_) (ev_neg ev_int) ?_ ?_
    ·rw [elen]; exact ixN_last (by omega)
    ·unfold rowsL; rw [List.getElem?_map, List.getElem?_map, List.getElem?_range (by omega)]; rfl
    ·rw [List.length_map]; exact ixN_last hl
    ·rw [List.getElem?_map, last_get (R.row_ne (by omega))]; rfl
   ·have he : kk = 0 := by
     by_cases z : kk = 0
     ·exact z
     ·have hne : PyData.list ((rowsL rk kk).map dL) ≠ .list [] := fun q => by
       injection q with q
       have := congrArg List.length q
       rw [elen] at this; exact z this
      rw [same_ne hne] at c; cases c
    rw [if_pos he]; exact ev_non
   rw [dat_O hv7]
   have S3 := S2.same g3.hh
   have hk3 := g3.hh _ _ hk2
   clear hR2 hv7 S2 hk2
   refine while_by (fun σ H' => ∃ (acc : List Nat) (o : Option Nat), σ = [some (.ref a), some (.ref pr), some (.ref pb), v3, v4, v5, some (.ref pk), some (vO o)] ∧ PS G H turn pr pb rk kk as H' ∧ H' pk = some (.lst (vN acc)) ∧ (o = none → acc = keptL rk kk) ∧ ∀ p, o = some p → p < turn.length ∧ acc.length + rk.getD p 0 + 1 = kk ∧ kc rk (rk.getD p 0) p acc = keptL rk kk) (fun σ _ => match σ with | [_, _, _, _, _, _, _, some (.int p)] => rk.getD p.toNat 0 + 1 | _ => 0)
    ⟨[], if kk = 0 then none else some (tp rk (kk - 1)), rfl, S3, hk3, fun e => ?_, fun p e => ?_⟩ ?_ ?_
   ·by_cases z : kk = 0
    ·subst z; rfl
    ·rw [if_neg z] at e; cases e
   ·by_cases z : kk = 0
    ·rw [if_pos z] at e; cases e
    ·rw [if_neg z] at e
     cases e
     obtain ⟨t1, t2⟩ := R.tp_in (j := kk - 1) (by omega)
     refine ⟨t1, by rw [t2]; show 0 + (kk - 1) + 1 = kk; omega, ?_⟩
     rw [t2]; unfold keptL; rw [if_neg z]
   ·rintro σ H4 ⟨acc, o, rfl, S4, hk4, ho1, ho2⟩
    refine ⟨_, rfl, rfl, _, rfl, ?_⟩
    cases o with
    | none =>
     rw [show (!decide (vO none = V.non)) = false from rfl]
     refine iteF ?_
     have hacc := ho1 rfl
     subst hacc
     have gO := grow_own sg S4.g S4.h
     have hkD : Dat K (own G H H4) (.ref pk) (.list ((keptL rk kk).map fun n => PyData.int (n : Nat))) := dat_lst (by rw [own_new hpk0]; exact hk4) (dats_nats _)
     have hRD : Dat K (own G H H4) (.ref pr) (.list ((rowsL rk kk).map dL)) := dat_lst (by rw [own_new hpr]; exact S4.hr) (dats_refs as (rowsL rk kk) (by unfold rowsL; rw [List.length_map, List.length_range, S4.la]) fun j b r e1 e2 => by
      have hj : j < kk := by
       have := (List.getElem?_eq_some_iff.mp e1).1
       rw [S4.la] at this; exact this
      unfold rowsL at e2
      rw [List.getElem?_map, List.getElem?_range hj] at e2
      have e3 : rw_ rk j = r := Option.some.inj e2
      rw [own_new (S4.fr b (List.mem_of_getElem? e1)).1, ← e3]
      exact S4.at_ j b e1)
     refine ret_ev (K := K) (G := own G H H4) (ev_tup (eva_cons (ev_tupleL (eva_cons (ev_var rfl hkD) eva_nil)) (eva_cons (ev_tupleL (eva_cons (ev_lcL (rowsL rk kk) dL (fun r => some (dN r)) (ev_var rfl hRD) (by unfold rowsL; rw [List.length_map, List.length_range]; omega) fun G5 i r x s5 hr' hx => lc1 evt_noif (ev_tupleL (eva_cons (ev_var rfl hx) eva_nil))) eva_nil)) eva_nil)) (by show 2 ≤ sizeLine; decide)) gO.gh fun v G' H' g hv' => k v G' H' (gO.trans g) ?_
     rw [fm_some] at hv'; exact hv'
    | some p =>
     rw [show (!decide (vO (some p) = V.non)) = true from rfl]
     refine iteT ?_
     obtain ⟨p1, p2, p3⟩ := ho2 p rfl
     refine ⟨_, rfl, tyV_lst hk4, _, rfl, pk, vN acc, 0, _, rfl, rfl, hk4, by decide, by omega, by rw [vN_len]; omega, ?_⟩
     have hb5 : upd H4 pk (.lst ((vN acc).take (0 : Int).toNat ++ vO (some p) :: (vN acc).drop (0 : Int).toNat)) pb = some (.lst (bfL rk)) := by rw [upd_ne nkb]; exact S4.hb
     refine ⟨_, rfl, _, rfl, pb, _, _, vO (bf rk p), rfl, rfl, SqL.of hb5, ?_, ?_⟩
     ·unfold atI
      rw [bfL_len, R.len, ixN_nat p1]
      show (bfL rk)[p]? = _
      unfold bfL
      rw [List.getElem?_map, List.getElem?_range (by rw [R.len]; exact p1)]; rfl
     refine ⟨⟨p :: acc, bf rk p, rfl, ⟨same_upd S4.g (sg.free hpk0), same_upd S4.h hpk0, by rw [upd_ne nkr]; exact S4.hr, hb5, S4.la, S4.nd, fun j b e => by rw [upd_ne (nka b (List.mem_of_getElem? e))]; exact S4.at_ j b e, S4.fr⟩, upd_same, fun e => ?_, fun q e => ?_⟩, ?_⟩
     ·have h0 : rk.getD p 0 = 0 := by
       by_cases z : 0 < rk.getD p 0
       ·obtain ⟨q, e', _⟩ := R.bf p1 z
        rw [e'] at e; cases e
       ·omega
      rw [h0] at p3; exact p3
     ·have h0 : 0 < rk.getD p 0 := by
       by_cases z : 0 < rk.getD p 0
       ·exact z
       ·unfold bf at e; rw [if_neg z] at e; cases e
      obtain ⟨q', e', q1, q2, q3⟩ := R.bf p1 h0
      rw [e'] at e; cases e
      refine ⟨by omega, by rw [List.length_cons]; omega, ?_⟩
      rw [← p3, ← q3]
      show _ = kc rk (rk.getD q 0) ((bf rk p).getD 0) (p :: acc)
      rw [e']; rfl
     ·show (match [some (V.ref a), some (V.ref pr), some (V.ref pb), v3, v4, v5, some (V.ref pk), some (vO (bf rk p))] with | [_, _, _, _, _, _, _, some (.int p)] => rk.getD p.toNat 0 + 1 | _ => 0) < rk.getD ((p : Nat) : Int).toNat 0 + 1
      rw [Int.toNat_natCast]
      by_cases z : 0 < rk.getD p 0
      ·obtain ⟨q', e', q1, q2, q3⟩ := R.bf p1 z
       rw [e']
       show rk.getD ((q' : Nat) : Int).toNat 0 + 1 < _
       rw [Int.toNat_natCast]; omega
      ·have : bf rk p = none := by unfold bf; rw [if_neg z]
       rw [this]
       show 0 < _
       omega
   ·rintro σ H1 Q1 Q2 hq ⟨a, e1, e2, c, e3, q⟩
    exact ⟨a, e1, e2, c, e3, hq _ _ q⟩
end
end K64
namespace K64
open PySem L2 Lw Mv Mvs Trn
section
variable {P : Program} {w : World} {K : PySem.W.Frag} {mg : Str → Option Value} {base : Heap}
end
end K64
namespace K64
open PySem L2 Lw Mv Mvs Trn
def SdL (n : Nat) (es : List PyData) : Prop := ∃ a b c e : Int, es = [.int a, .int b, .int c, .int e] ∧ 0 ≤ c ∧ c ≤ n ∧ 0 ≤ e ∧ e < 1999999927
theorem SdL.mono {n m : Nat} {es : List PyData} (h : SdL n es) (k : n ≤ m) : SdL m es := by
 obtain ⟨a, b, c, e, h1, h2, h3, h4⟩ := h
 exact ⟨a, b, c, e, h1, h2, by omega, h4⟩
def PreD : List PyData → List PyData → Prop := fun es ds => ∃ (n : Nat) (m : Int), SdL n es ∧ n ≤ 10 ^ 6 ∧ ds = [.int m] ∧ 1 ≤ m ∧ m ≤ 10 ^ 6
def RDr : List PyData → List PyData → PyData → List PyData → Prop := fun es ds x es' => ∃ m r : Int, ds = [.int m] ∧ x = .int r ∧ 0 ≤ r ∧ r < m ∧ ∀ n, SdL n es → SdL (n + 1) es'
def PreT : List PyData → List PyData → Prop := fun es ds => ∃ (n : Nat) (m : Int), SdL n es ∧ n ≤ 10 ^ 4 ∧ ds = [.int m] ∧ 0 ≤ m ∧ m ≤ 60
def RTu : List PyData → List PyData → PyData → List PyData → Prop := fun es ds x es' => ∃ (m : Int) (ms : List Nat), ds = [.int m] ∧ x = dN ms ∧ Tn m.toNat ms ∧ ∀ n, SdL n es → SdL (n + 1000) es'
theorem sd_of {K : PySem.W.Frag} {G H : Hp} {p : Addr} {xs : List V} {n : Nat} {es : List PyData} (hp : H p = some (.lst xs)) (hx : Dats K G xs es) (h : SdL n es) : ∃ c : Nat, c ≤ n ∧ Sd H p c ∧ ∀ m, SdL m es → c ≤ m := by
 obtain ⟨a, b, c, e, rfl, h2, h3, h4, h5⟩ := h
 have ex : xs = [V.int a, V.int b, V.int c, V.int e] := Dats.ints (ns := [a, b, c, e]) hx
 subst ex
 refine ⟨c.toNat, by omega, ⟨a, b, c, e, hp, h2, by omega, h4, h5⟩, fun m hm => ?_⟩
 obtain ⟨a', b', c', e', q, q2, q3, _⟩ := hm
 simp only [List.cons.injEq, PyData.int.injEq, and_true] at q
 omega
theorem sd_to {K : PySem.W.Frag} {G H : Hp} {p : Addr} {c : Nat} (h : Sd H p c) : ∃ xs es, H p = some (.lst xs) ∧ Dats K G xs es ∧ SdL c es := by
 obtain ⟨a, b, c', e, h1, h2⟩ := h
 exact ⟨_, _, h1, dats_ints [a, b, c', e], a, b, c', e, rfl, h2⟩
theorem gw_but {G H H' : Hp} {p : Addr} {c : Nat} (sg : Same G H) (gp : G p = none) (b : But p H H') (S : Sd H' p c) : Gw (· = p) G H G H' := by
 obtain ⟨o, ho⟩ := S.at
 refine ⟨Same.refl _, b.same sg gp, fun q o n h => b q o h n, fun q h => ?_, fun q o h => .inl h⟩
 cases e : H q with
 | none => rfl
 | some o' =>
  by_cases z : q = p
  ·subst z; rw [ho] at h; cases h
  ·rw [b q o' e z] at h; cases h
section
variable {P : Program} {w : World} {K : PySem.W.Frag} {mg : Str → Option Value} {base : Heap}
theorem draw_L {k : Nat} {f : Addr} {fd : FuncData} {ps : List Str} (h : FnOk P w K mg base CX0 k f fd ps spDraw) : FnOk P w K mg base CX0 k f fd ps (spL K PreD RDr) := h.imp fun vs H Q E ⟨p, us, G, xs, es, ds, hv0, sg, gp, hp, hx, hv, hP, kk⟩ => by
 subst hv0
 obtain ⟨n, m, hS, hn, rfl, m1, m2⟩ := hP
 obtain ⟨y, ys, rfl, hy, hnil⟩ := hv.cons
 cases hnil.nil
 rw [hy.int]
 obtain ⟨c, hc, hSd, hmin⟩ := sd_of hp hx hS
 refine ⟨p, m, c, rfl, hSd, by omega, m1, m2, fun r H' r0 r1 S' b => ?_⟩
 obtain ⟨xs', es', hp', hx', hS'⟩ := sd_to (K := K) (G := G) S'
 exact kk _ _ es' xs' G H' ⟨m, r, rfl, rfl, r0, r1, fun n' hn' => hS'.mono (by have := hmin n' hn'; omega)⟩ (gw_but sg gp b S') gp hp' hx' (dat_int _)
theorem turn_L {k : Nat} {f : Addr} {fd : FuncData} {ps : List Str} (h : FnOk P w K mg base CX0 k f fd ps (spTurn K)) : FnOk P w K mg base CX0 k f fd ps (spL K PreT RTu) := h.imp fun vs H Q E ⟨p, us, G, xs, es, ds, hv0, sg, gp, hp, hx, hv, hP, kk⟩ => by
 subst hv0
 obtain ⟨n, m, hS, hn, rfl, m1, m2⟩ := hP
 obtain ⟨y, ys, rfl, hy, hnil⟩ := hv.cons
 cases hnil.nil
 rw [hy.int]
 obtain ⟨c, hc, hSd, hmin⟩ := sd_of hp hx hS
 refine ⟨p, m, c, rfl, hSd, by omega, m1, m2, fun ms q H' Tm hq hq' S' b => ?_⟩
 obtain ⟨xs', es', hp', hx', hS'⟩ := sd_to (K := K) (G := G) S'
 have g0 := gw_but sg gp b S'
 have hpq : p ≠ q := ne_of_none hp hq
 have gq : G q = none := sg.free hq
 have sq : Same G (L2.upd G q (.tup (vN ms))) := same_new gq
 refine kk _ _ es' xs' (L2.upd G q (.tup (vN ms))) H' ⟨m, ms, rfl, rfl, Tm, fun n' hn' => hS'.mono (by have := hmin n' hn'; omega)⟩ ⟨sq, fun b' o e => ?_, g0.kp, g0.al, fun b' o e => ?_⟩ (upd_none gp hpq) hp' (hx'.same sq) (dat_tup (SqT.of upd_same) (dats_nats ms))
 ·by_cases z : b' = q
  ·subst z; rw [upd_same] at e; rw [hq', e]
  ·rw [upd_ne z] at e; exact g0.gh b' o e
 ·by_cases z : b' = q
  ·subst z; exact .inr hq
  ·rw [upd_ne z] at e; exact .inl e
theorem eg_seed {B : Hp} {ρ : List PV} {te : TE} {cell : Int} {X : XK} {R : PV → List PV → Prop} (h : Er K B te (msk ρ) (.int cell)) (k : ∀ es, SdL 0 es → R (.own es) ρ) : Eg K B (tCall spSeed [] X (tCons te tNil)) ρ R := fun E G0 H0 G H σ F r Q q =>
 h G σ r.rx G H (Same.refl _) r.g.gh _ fun v G1 H1 g hv => by
  rw [hv.int]
  refine ⟨cell, rfl, fun p H' hp S' s => ?_⟩
  obtain ⟨xs', es', hp', hx', hS'⟩ := sd_to (K := K) (G := G1) S'
  have r1 := r.grow g
  have r2 := r1.grow (grow_h r1.g.gh s)
  refine q _ _ ρ G1 H' F [p] (k es' hS') g.gg r2 ⟨p, xs', rfl, rfl, hp', hx'⟩ ⟨fun a ha => ?_, fun a ha j hj => ?_⟩
  ·rw [List.mem_singleton.mp ha]
   exact ⟨r1.g.gh.free hp, ⟨_, hp'⟩, r1.g.al p hp⟩
  ·rw [List.mem_singleton.mp ha] at hj
   obtain ⟨_, ⟨o, h⟩, _⟩ := r1.fr j p hj
   rw [hp] at h; cases h
theorem dI_zs (l : List Nat) : dI (zs l) = dN l := by
 show PyData.tuple _ = PyData.tuple _
 rw [List.map_map]; rfl
theorem flat_set : ∀ (ss : List (List Int)) (i : Nat) (l : List Int), i < ss.length → (ss.set i l).flatten.length + (ss.getD i []).length = ss.flatten.length + l.length
 | [], i, l, h => by cases h
 | s :: ss, 0, l, _ => by
  show (l ++ ss.flatten).length + s.length = (s ++ ss.flatten).length + l.length
  rw [List.length_append, List.length_append]; omega
 | s :: ss, i + 1, l, h => by
  have ih := flat_set ss i l (by simpa using h)
  show (s ++ (ss.set i l).flatten).length + (ss.getD i []).length = (s ++ ss.flatten).length + l.length
  rw [List.length_append, List.length_append]; omega
def PreM : List PyData → List PyData → Prop := fun es ds => ∃ n : Nat, SdL n es ∧ n ≤ 10 ^ 4 ∧ ds = []
def RMa : List PyData → List PyData → PyData → List PyData → Prop := fun es ds x es' => ∃ r : Int, x = .int r ∧ 0 ≤ r ∧ r ≤ 60 ∧ ∀ n, SdL n es → SdL (n + 5) es'
theorem many_L {k : Nat} {f : Addr} {fd : FuncData} {ps : List Str} (h : FnOk P w K mg base CX0 k f fd ps spMany) : FnOk P w K mg base CX0 k f fd ps (spL K PreM RMa) := h.imp fun vs H Q E ⟨p, us, G, xs, es, ds, hv0, sg, gp, hp, hx, hv, hP, kk⟩ => by
 subst hv0
 obtain ⟨n, hS, hn, rfl⟩ := hP
 cases hv.nil
 obtain ⟨c, hc, hSd, hmin⟩ := sd_of hp hx hS
 refine ⟨p, c, rfl, hSd, by omega, fun r H' r0 r1 S' b => ?_⟩
 obtain ⟨xs', es', hp', hx', hS'⟩ := sd_to (K := K) (G := G) S'
 exact kk _ _ es' xs' G H' ⟨r, rfl, r0, r1, fun n' hn' => hS'.mono (by have := hmin n' hn'; omega)⟩ (gw_but sg gp b S') gp hp' hx' (dat_int _)
def PreB : List PyData → List PyData → List PyData → Prop := fun es ds1 ds2 => ∃ (n : Nat) (row : List Int) (m : Nat), SdL n es ∧ n ≤ 10 ^ 5 ∧ ds1 = [dI row] ∧ ds2 = [.int (m : Nat)] ∧ row.length ≤ 200 ∧ m ≤ 1000
def RBe : List PyData → List PyData → List PyData → PyData → List PyData → Prop := fun es ds1 ds2 x es' => ∃ (row out : List Int), ds1 = [dI row] ∧ x = dI out ∧ out.length ≤ row.length + 1 ∧ ∀ n, SdL n es → SdL (n + 3) es'
abbrev dPp (kept : List Int) (rows : List (List Int)) : PyData := .tuple [dI kept, .tuple (rows.map dI)]
def PreS : List PyData → List PyData → List PyData → Prop := fun es ds1 ds2 => ∃ (n : Nat) (turn : List Nat) (kept : List Int) (rows : List (List Int)), SdL n es ∧ n ≤ 10 ^ 4 ∧ ds1 = [dN turn, dPp kept rows] ∧ ds2 = [] ∧ turn.length ≤ 60 ∧ kept.length ≤ 60 ∧ rows.length ≤ 60 ∧ rows.flatten.length ≤ 60
def RSp : List PyData → List PyData → List PyData → PyData → List PyData → Prop := fun es ds1 ds2 x es' => ∃ (kept : List Int) (rows : List (List Int)), x = dPp kept rows ∧ kept.length ≤ 61 ∧ rows.length ≤ 61 ∧ rows.flatten.length ≤ 61 ∧ ∀ n, SdL n es → SdL (n + 10) es'
theorem ok_bent (T : Top K mg) : FnOk P w K mg base CX0 3 T.f__law_bent T.fd__law_bent ["row", "seed", "many"] (spLn K 1 PreB RBe) := by
 have G__law_draw : FnOk P w K mg base CX0 2 T.f__law_draw T.fd__law_draw ["seed", "most"] (spL K PreD RDr) := (draw_L (ok_draw T)).mono (by decide)
 refine T.F__law_bent.okLn sc__law_bent (by rintro _ _ _ ⟨n, row, m, _, _, rfl, rfl, _⟩; rfl) fun cdv A outer s H E hr p es ds1 ds2 hd1 hP => ?_
 obtain ⟨n, row, m, hS, hn, rfl, rfl, hrow, hm⟩ := hP
 have hu := hr.units
 have zl : (2000 : Nat) < sizeLine := by decide
 refine ⟨_, (pss_cons (ps_set (i := 3) sc__law_bent.nd rfl (Or.inl rfl) (pe_call G__law_draw hr (by rfl) T.m__law_draw T.F__law_draw.kp T.b__law_draw .nil pass0 (pa_cons (pv 1) (pa_cons (pe_op op_add (pe_callB (call_lenK (K := K) rfl) (by rfl) T.len_ PySem.boot_len (pa_cons (pv 0) pa_nil st_Name)) pe_int) pa_nil st_BinOp) st_Name)))
   (pss_cons (ps_set (i := 4) sc__law_bent.nd rfl (Or.inl rfl) (pe_op op_sub (pe_call G__law_draw hr (by rfl) T.m__law_draw T.F__law_draw.kp T.b__law_draw .nil pass0 (pa_cons (pv 1) (pa_cons (pe_op op_add (pv 2) pe_int) pa_nil st_BinOp) st_Name)) pe_int))
   (pss_cons (ps_set (i := 5) sc__law_bent.nd rfl (Or.inl rfl) (pe_call G__law_draw hr (by rfl) T.m__law_draw T.F__law_draw.kp T.b__law_draw .nil pass0 (pa_cons (pv 1) (pa_cons pe_int pa_nil st_Constant) st_Name)))
   (pss_cons (ps_if (pt_cmpR op_eq (pv 5) pe_int (nomark _)) (pss_one (ps_ret (pe_op (op_catTE (K := K) rfl) (pe_slice (sl_tupA (K := K) rfl) (pv 0) po_none (po_some (pv 3))) (pe_slice (sl_tupA (K := K) rfl) (pv 0) (po_some (pe_op op_add (pv 3) pe_int)) po_none)))) pss_nil)
   (pss_cons (ps_if (pt_cmpR op_eq (pv 5) pe_int (nomark _)) (pss_one (ps_ret (pe_op (op_catTE (K := K) rfl) (pe_op (op_catTE (K := K) rfl) (pe_slice (sl_tupA (K := K) rfl) (pv 0) po_none (po_some (pv 3))) (pe_tup (pa_cons (pv 4) pa_nil st_Name))) (pe_slice (sl_tupA (K := K) rfl) (pv 0) (po_some (pe_op op_add (pv 3) pe_int)) po_none)))) pss_nil)
   (pss_cons (ps_if (pt_cmpR op_eq (pv 5) pe_int (nomark _)) (pss_one (ps_ret (pe_op (op_catTE (K := K) rfl) (pe_op (op_catTE (K := K) rfl) (pe_slice (sl_tupA (K := K) rfl) (pv 0) po_none (po_some (pv 3))) (pe_slice (sl_tupA (K := K) rfl) (pv 0) (po_some (pv 3)) (po_some (pe_op op_add (pv 3) pe_int)))) (pe_slice (sl_tupA (K := K) rfl) (pv 0) (po_some (pv 3)) po_none)))) pss_nil)
   (pss_one (ps_ret (pe_op (op_catTE (K := K) rfl) (pe_op (op_catTE (K := K) rfl) (pe_slice (sl_tupA (K := K) rfl) (pv 0) po_none (po_some (pv 3))) (pe_tup (pa_cons (pv 4) pa_nil st_Name))) (pe_slice (sl_tupA (K := K) rfl) (pv 0) (po_some (pv 3)) po_none)))))))))) , ?_⟩
 refine sv_seq (sv_asg (eg_lend rfl rfl (ega_ea (ea_cons (er_d (er_i0 (er_lenT (ea_cons (er_var rfl) ea_nil)) er_int fun _ => dat_int _) (show _ = PyData.int ((row.length + 1 : Nat) : Int) by rw [List.length_map]; rfl)) ea_nil) ⟨_, es, rfl, rfl, ⟨n, _, hS, by omega, rfl, by omega, by omega⟩, fun x es1 hx => ?_⟩)))
 obtain ⟨m1, at_, e1, rfl, a0, a1, s1⟩ := hx
 cases e1
 have s1' := s1 n hS
 obtain ⟨a, rfl⟩ := Int.eq_ofNat_of_zero_le a0
 refine sv_seq (sv_asg (eg_op (eg_lend rfl rfl (ega_ea (ea_cons (er_d (er_i0 (er_var rfl) er_int fun _ => dat_int _) (show _ = PyData.int ((m + 2 : Nat) : Int) by rfl)) ea_nil) ⟨_, es1, rfl, rfl, ⟨n + 1, _, s1', by omega, rfl, by omega, by omega⟩, fun x es2 hx => ?_⟩))))
 obtain ⟨m2, oth, e2, rfl, o0, o1, s2⟩ := hx
 cases e2
 have s2' := s2 _ s1'
 refine ⟨_, rfl, eg_er er_int ⟨_, .int (oth - 1), rfl, fun G σ va vb ha hb => ev_i0 (ev_c ha) (ev_c hb) (dat_int _), ?_⟩⟩
 refine sv_seq (sv_asg (eg_lend rfl rfl (ega_ea (ea_cons er_int ea_nil) ⟨_, es2, rfl, rfl, ⟨n + 2, _, s2', by omega, rfl, by decide, by decide⟩, fun x es3 hx => ?_⟩)))
 obtain ⟨m3, way, e3, rfl, w0, w1, s3⟩ := hx
 cases e3
 have sA : ∀ n, SdL n es → SdL (n + 3) es3 := fun n' h => s3 _ (s2 _ (s1 n' h))
 have ha : a ≤ row.length := by omega
 have up : slD (row.map PyData.int) none (some (a : Int)) = (row.take a).map PyData.int := by rw [slD_upto, List.map_take]
 have fr : slD (row.map PyData.int) (some (a : Int)) none = (row.drop a).map PyData.int := by rw [slD_from, List.map_drop]
 have fr1 : slD (row.map PyData.int) (some ((a : Int) + 1)) none = (row.drop (a + 1)).map PyData.int := by rw [show ((a : Int) + 1) = ((a + 1 : Nat) : Int) from rfl, slD_from, List.map_drop]
 have pt : slD (row.map PyData.int) (some (a : Int)) (some ((a : Int) + 1)) = ((row.take (a + 1)).drop a).map PyData.int := by rw [show ((a : Int) + 1) = ((a + 1 : Nat) : Int) from rfl, slD_part, List.map_drop, List.map_take]
 have l1 : (row.take a).length = a := by rw [List.length_take]; omega
 have l2 : (row.drop a).length = row.length - a := List.length_drop
 have l3 : (row.drop (a + 1)).length = row.length - (a + 1) := List.length_drop
 have l4 : ((row.take (a + 1)).drop a).length ≤ 1 := by rw [List.length_drop, List.length_take]; omega
 refine sv_seq (sv_if (et_test (er_eqI (er_var rfl) er_int)) (fun _ => ?_) fun _ => sv_next ?_)
 ·refine sv_ret (eg_er (er_d (er_catE (er_d (er_slT (er_var rfl) eo_none (eo_var rfl)) (by rw [up])) (er_d (er_slT (er_var rfl) (eo_op rfl) eo_none) (by rw [fr1])) (by rw [List.length_map, List.length_map]; omega)) (by rw [← List.map_append])) ⟨_, es3, rfl, ⟨row, _, rfl, rfl, by rw [List.length_append]; omega, sA⟩, rfl⟩)
 refine sv_seq (sv_if (et_test (er_eqI (er_var rfl) er_int)) (fun _ => ?_) fun _ => sv_next ?_)
 ·refine sv_ret (eg_er (er_d (er_catE (er_catE (er_d (er_slT (er_var rfl) eo_none (eo_var rfl)) (by rw [up])) (er_tup (ea_cons (er_var rfl) ea_nil) (by show 1 ≤ sizeLine; decide)) (by rw [List.length_map]; show _ + 1 ≤ _; omega)) (er_d (er_slT (er_var rfl) (eo_op rfl) eo_none) (by rw [fr1])) (by rw [List.length_append, List.length_map, List.length_map]; show _ + 1 + _ ≤ _; omega)) (show _ = dI (row.take a ++ [oth - 1] ++ row.drop (a + 1)) by show PyData.tuple _ = PyData.tuple _; rw [List.map_append, List.map_append]; rfl)) ⟨_, es3, rfl, ⟨row, _, rfl, rfl, by rw [List.length_append, List.length_append]; show _ + 1 + _ ≤ _; omega, sA⟩, rfl⟩)
 refine sv_seq (sv_if (et_test (er_eqI (er_var rfl) er_int)) (fun _ => ?_) fun _ => sv_next ?_)
 ·refine sv_ret (eg_er (er_d (er_catE (er_catE (er_d (er_slT (er_var rfl) eo_none (eo_var rfl)) (by rw [up])) (er_d (er_slT (er_var rfl) (eo_var rfl) (eo_op rfl)) (by rw [pt])) (by rw [List.length_map, List.length_map]; omega)) (er_d (er_slT (er_var rfl) (eo_var rfl) eo_none) (by rw [fr])) (by rw [List.length_append, List.length_map, List.length_map, List.length_map]; omega)) (show _ = dI (row.take a ++ (row.take (a + 1)).drop a ++ row.drop a) by rw [← List.map_append, ← List.map_append])) ⟨_, es3, rfl, ⟨row, _, rfl, rfl, by rw [List.length_append, List.length_append]; omega, sA⟩, rfl⟩)
 refine sv_ret (eg_er (er_d (er_catE (er_catE (er_d (er_slT (er_var rfl) eo_none (eo_var rfl)) (by rw [up])) (er_tup (ea_cons (er_var rfl) ea_nil) (by show 1 ≤ sizeLine; decide)) (by rw [List.length_map]; show _ + 1 ≤ _; omega)) (er_d (er_slT (er_var rfl) (eo_var rfl) eo_none) (by rw [fr])) (by rw [List.length_append, List.length_map, List.length_map]; show _ + 1 + _ ≤ _; omega)) (show _ = dI (row.take a ++ [oth - 1] ++ row.drop a) by show PyData.tuple _ = PyData.tuple _; rw [List.map_append, List.map_append]; rfl)) ⟨_, es3, rfl, ⟨row, _, rfl, rfl, by rw [List.length_append, List.length_append]; show _ + 1 + _ ≤ _; omega, sA⟩, rfl⟩)
theorem fl_put {rows : List (List Int)} {a : Nat} (h : a < rows.length) (xs : List (List Int)) : (rows.take a ++ xs ++ rows.drop (a + 1)).flatten.length + rows[a].length = rows.flatten.length + xs.flatten.length := by
 have e : rows = rows.take a ++ rows[a] :: rows.drop (a + 1) := by rw [List.getElem_cons_drop, List.take_append_drop]
 have e2 : rows.flatten.length = (rows.take a).flatten.length + (rows[a].length + (rows.drop (a + 1)).flatten.length) := by
  conv => lhs; rw [e]
  rw [List.flatten_append, List.length_append, List.flatten_cons, List.length_append]
 rw [List.flatten_append, List.flatten_append, List.length_append, List.length_append]
 omega
theorem fl_rev : ∀ rows : List (List Int), rows.reverse.flatten.length = rows.flatten.length
 | [] => rfl
 | r :: rows => by
  rw [List.reverse_cons, List.flatten_append, List.length_append, fl_rev rows, List.flatten_cons, List.length_append]
  simp only [List.flatten_nil, List.length_nil, List.flatten_cons, List.length_append]; omega
theorem pl_rows {n : Nat} (rows : List (List Int)) : Pl (n + 2) (.tuple (rows.map dI)) := pl_tup fun x hx => by
 obtain ⟨r, _, rfl⟩ := List.mem_map.mp hx
 refine pl_tup fun y hy => ?_
 obtain ⟨i, _, rfl⟩ := List.mem_map.mp hy
 exact pl_int _
theorem ok_spoilt (T : Top K mg) : FnOk P w K mg base CX0 4 T.f__law_spoilt T.fd__law_spoilt ["turn", "paper", "seed"] (spLn K 2 PreS RSp) := by
 have G__law_draw : FnOk P w K mg base CX0 3 T.f__law_draw T.fd__law_draw ["seed", "most"] (spL K PreD RDr) := (draw_L (ok_draw T)).mono (by decide)
 have G__law_bent : FnOk P w K mg base CX0 3 T.f__law_bent T.fd__law_bent ["row", "seed", "many"] (spLn K 1 PreB RBe) := ok_bent T
 refine T.F__law_spoilt.okLn sc__law_spoilt (by rintro _ _ _ ⟨n, turn, kept, rows, _, _, rfl, rfl, _⟩; rfl) fun cdv A outer s H E hr p es ds1 ds2 hd1 hP => ?_
 obtain ⟨n, turn, kept, rows, hS, hn, rfl, rfl, ht, hk, hrl, hfl⟩ := hP
 have hu := hr.units
 have zl : (2000 : Nat) < sizeLine := by decide
 refine ⟨_, (pss_cons (ps_asg (pv 1) (pg_tup (n := 2) rfl (pgs_cons (pg_name (i := 3) sc__law_spoilt.nd rfl (Or.inl rfl)) (pgs_cons (pg_name (i := 4) sc__law_spoilt.nd rfl (Or.inl rfl)) pgs_nil)) (by rfl)))
   (pss_cons (ps_set (i := 5) sc__law_spoilt.nd rfl (Or.inl rfl) (pe_call G__law_draw hr (by rfl) T.m__law_draw T.F__law_draw.kp T.b__law_draw .nil pass0 (pa_cons (pv 2) (pa_cons pe_int pa_nil st_Constant) st_Name)))
   (pss_cons (ps_if ((pw_or (pt_cmpR op_eq (pv 5) pe_int (nomark _)) (pw_or1 (pt_cmpR (op_eqDK (K := K) rfl hu) (pv 4) (pe_tup pa_nil) (nomark _))))).pt (pss_one (ps_ret (pe_tup (pa_cons (pe_call G__law_bent hr (by rfl) T.m__law_bent T.F__law_bent.kp T.b__law_bent .nil pass0 (pa_cons (pv 3) (pa_cons (pv 2) (pa_cons (pe_callB (call_lenK (K := K) rfl) (by rfl) T.len_ PySem.boot_len (pa_cons (pv 0) pa_nil st_Name)) pa_nil st_Call) st_Name) st_Name)) (pa_cons (pv 4) pa_nil st_Name) st_Call)))) pss_nil)
   (pss_cons (ps_set (i := 6) sc__law_spoilt.nd rfl (Or.inl rfl) (pe_call G__law_draw hr (by rfl) T.m__law_draw T.F__law_draw.kp T.b__law_draw .nil pass0 (pa_cons (pv 2) (pa_cons (pe_callB (call_lenK (K := K) rfl) (by rfl) T.len_ PySem.boot_len (pa_cons (pv 4) pa_nil st_Name)) pa_nil st_Call) st_Name)))
   (pss_cons (ps_set (i := 7) sc__law_spoilt.nd rfl (Or.inl rfl) (pe_ix (ix_tupK (K := K) rfl) (pv 4) (pv 6) (fun _ _ => rfl)))
   (pss_cons (ps_if (pt_cmpR op_eq (pv 5) pe_int (nomark _)) (pss_cons (ps_set (i := 8) sc__law_spoilt.nd rfl (Or.inl rfl) (pe_call G__law_bent hr (by rfl) T.m__law_bent T.F__law_bent.kp T.b__law_bent .nil pass0 (pa_cons (pv 7) (pa_cons (pv 2) (pa_cons (pe_callB (call_lenK (K := K) rfl) (by rfl) T.len_ PySem.boot_len (pa_cons (pv 0) pa_nil st_Name)) pa_nil st_Call) st_Name) st_Name)))
   (pss_one (ps_ret (pe_tup (pa_cons (pv 3) (pa_cons (pe_op (op_catTE (K := K) rfl) (pe_op (op_catTE (K := K) rfl) (pe_slice (sl_tupA (K := K) rfl) (pv 4) po_none (po_some (pv 6))) (pe_tup (pa_cons (pv 8) pa_nil st_Name))) (pe_slice (sl_tupA (K := K) rfl) (pv 4) (po_some (pe_op op_add (pv 6) pe_int)) po_none)) pa_nil st_BinOp) st_Name))))) pss_nil)
   (pss_cons (ps_if (pt_cmpR op_eq (pv 5) pe_int (nomark _)) (pss_cons (ps_set (i := 9) sc__law_spoilt.nd rfl (Or.inl rfl) (pe_call G__law_draw hr (by rfl) T.m__law_draw T.F__law_draw.kp T.b__law_draw .nil pass0 (pa_cons (pv 2) (pa_cons (pe_op op_add (pe_callB (call_lenK (K := K) rfl) (by rfl) T.len_ PySem.boot_len (pa_cons (pv 7) pa_nil st_Name)) pe_int) pa_nil st_BinOp) st_Name)))
   (pss_one (ps_ret (pe_tup (pa_cons (pv 3) (pa_cons (pe_op (op_catTE (K := K) rfl) (pe_op (op_catTE (K := K) rfl) (pe_slice (sl_tupA (K := K) rfl) (pv 4) po_none (po_some (pv 6))) (pe_tup (pa_cons (pe_slice (sl_tupA (K := K) rfl) (pv 7) po_none (po_some (pv 9))) (pa_cons (pe_slice (sl_tupA (K := K) rfl) (pv 7) (po_some (pv 9)) po_none) pa_nil st_Subscript) st_Subscript))) (pe_slice (sl_tupA (K := K) rfl) (pv 4) (po_some (pe_op op_add (pv 6) pe_int)) po_none)) pa_nil st_BinOp) st_Name))))) pss_nil)
   (pss_cons (ps_if (pt_cmpR op_eq (pv 5) pe_int (nomark _)) (pss_cons (ps_set (i := 10) sc__law_spoilt.nd rfl (Or.inl rfl) (pe_call G__law_draw hr (by rfl) T.m__law_draw T.F__law_draw.kp T.b__law_draw .nil pass0 (pa_cons (pv 2) (pa_cons (pe_callB (call_lenK (K := K) rfl) (by rfl) T.len_ PySem.boot_len (pa_cons (pv 4) pa_nil st_Name)) pa_nil st_Call) st_Name)))
   (pss_cons (ps_set (i := 11) sc__law_spoilt.nd rfl (Or.inl rfl) (pe_slice (sl_tupA (K := K) rfl) (pv 7) po_none (po_some pe_int)))
   (pss_cons (ps_set (i := 12) sc__law_spoilt.nd rfl (Or.inl rfl) (pe_callTy (call_listK (K := K) rfl) (by rfl) T.list_ boot_lst (pa_cons (pv 4) pa_nil st_Name)))
   (pss_cons (ps_asg (pe_slice (sl_tupA (K := K) rfl) (pv 7) (po_some pe_int) po_none) (pg_sub (pv 12) (pv 6) set_list))
   (pss_cons (ps_asg (pe_callTy (call_tupleK (K := K) rfl) (by rfl) T.tuple_ bTup (pa_cons (pe_callB (call_sortedT (K := K) rfl) (by rfl) T.sorted_ boot_srtI (pa_cons (pe_op (op_catTE (K := K) rfl) (pe_ix (ix_listK (K := K) rfl) (pv 12) (pv 10) (fun _ _ => rfl)) (pv 11)) pa_nil st_BinOp)) pa_nil st_Call)) (pg_sub (pv 12) (pv 10) set_list))
   (pss_one (ps_ret (pe_tup (pa_cons (pv 3) (pa_cons (pe_callTy (call_tupleK (K := K) rfl) (by rfl) T.tuple_ bTup (pa_cons (pv 12) pa_nil st_Name)) pa_nil st_Call) st_Name))))))))) pss_nil)
   (pss_cons (ps_if (pt_cmpR op_eq (pv 5) pe_int (nomark _)) (pss_one (ps_ret (pe_tup (pa_cons (pv 3) (pa_cons (pe_op (op_catTE (K := K) rfl) (pe_op (op_catTE (K := K) rfl) (pe_slice (sl_tupA (K := K) rfl) (pv 4) po_none (po_some (pv 6))) (pe_tup (pa_cons (pe_revT rfl (pv 7) (po_some (pe_un un_neg pe_int))) pa_nil st_Subscript))) (pe_slice (sl_tupA (K := K) rfl) (pv 4) (po_some (pe_op op_add (pv 6) pe_int)) po_none)) pa_nil st_BinOp) st_Name)))) pss_nil)
   (pss_one (ps_ret (pe_tup (pa_cons (pe_revT rfl (pv 3) (po_some (pe_un un_neg pe_int))) (pa_cons (pe_revT rfl (pv 4) (po_some (pe_un un_neg pe_int))) pa_nil st_Subscript) st_Subscript))))))))))))) , ?_⟩
 have etl : (turn.map fun (n : Nat) => PyData.int (n : Nat)).length = turn.length := List.length_map _
 refine sv_seq (sv_asgT (ex_er (er_var rfl)) (gt_two ?_))
 refine sv_seq (sv_asg (eg_lend rfl rfl (ega_ea (ea_cons er_int ea_nil) ⟨_, es, rfl, rfl, ⟨n, _, hS, by omega, rfl, by decide, by decide⟩, fun x es1 hx => ?_⟩)))
 obtain ⟨m1, way, e1, rfl, w0, w1, s1⟩ := hx
 cases e1
 have s1' := s1 n hS
 show Sv K B0 _ [.dat (dN turn), .dat (dPp kept rows), .lnt p es1, .dat (dI kept), .dat (.tuple (rows.map dI)), .dat (.int way), .un, .un, .un, .un, .un, .un, .un] _
 refine sv_seq (sv_if (et_or (et_test (er_eqI (er_var rfl) er_int)) fun _ => et_test (er_eqD (n := 4) (er_var rfl) (er_tup ea_nil (Nat.zero_le _)) (pl_rows rows) (pl_rows []) (by decide))) (fun _ => ?_) fun hno => sv_next ?_)
 ·refine sv_ret (eg_tup (ega_cons (eg_lendN (i := 2) rfl rfl rfl (eal_cons (er_var rfl) (eal_here (ea_cons (er_d (er_lenT (ea_cons (er_var rfl) ea_nil)) (by rw [etl])) ea_nil))) ⟨n + 1, kept, turn.length, s1', by omega, rfl, rfl, by omega, by omega⟩ fun x es2 hx => ?_)))
  obtain ⟨row, out, e2, rfl, ho, s2⟩ := hx
  have e2 : dI kept = dI row := by injection e2
  have e3 : kept.length = row.length := by
   injection e2 with e2
   have := congrArg List.length e2
   rwa [List.length_map, List.length_map] at this
  exact ⟨_, rfl, ega_ea (ea_cons (er_var rfl) ea_nil) ⟨by show 2 ≤ sizeLine; decide, _, es2, rfl, ⟨out, rows, rfl, by omega, by omega, by omega, fun n' h => (s2 _ (s1 n' h)).mono (by omega)⟩, rfl⟩⟩
 have hne : rows.length ≠ 0 := fun z => by
  have : rows = [] := List.length_eq_zero_iff.mp z
  subst this
  rw [Bool.or_eq_false_iff] at hno
  have := hno.2
  cases this
 refine sv_seq (sv_asg (eg_lend rfl rfl (ega_ea (ea_cons (er_d (er_lenT (ea_cons (er_var rfl) ea_nil)) (show _ = PyData.int ((rows.length : Nat) : Int) by rw [List.length_map])) ea_nil) ⟨_, es1, rfl, rfl, ⟨n + 1, _, s1', by omega, rfl, by omega, by omega⟩, fun x es2 hx => ?_⟩)))
 obtain ⟨m2, at_, e2, rfl, a0, a1, s2⟩ := hx
 cases e2
 have s2' := s2 _ s1'
 obtain ⟨a, rfl⟩ := Int.eq_ofNat_of_zero_le a0
 have ha : a < rows.length := by omega
 have sA : ∀ n, SdL n es → SdL (n + 2) es2 := fun n' h => s2 _ (s1 n' h)
 have hra : (rows.map dI)[a]? = some (dI rows[a]) := by rw [List.getElem?_map, List.getElem?_eq_getElem ha]; rfl
 refine sv_seq (sv_asg (eg_er (er_ixT (er_var rfl) (er_var rfl) (by rw [List.length_map]; exact ixN_nat ha) hra) ?_))
 have hR : rows[a].length ≤ rows.flatten.length := (List.sublist_flatten_of_mem (List.getElem_mem ha)).length_le
 have up : slD (rows.map dI) none (some (a : Int)) = (rows.take a).map dI := by rw [slD_upto, List.map_take]
 have fr1 : slD (rows.map dI) (some ((a : Int) + 1)) none = (rows.drop (a + 1)).map dI := by rw [show ((a : Int) + 1) = ((a + 1 : Nat) : Int) from rfl, slD_from, List.map_drop]
 have l1 : (rows.take a).length = a := by rw [List.length_take]; omega
 have l3 : (rows.drop (a + 1)).length = rows.length - (a + 1) := List.length_drop
 have hput := fun xs => fl_put ha xs
 have mk3 : ∀ xs : List (List Int), PyData.tuple ((rows.take a).map dI ++ xs.map dI ++ (rows.drop (a + 1)).map dI) = .tuple ((rows.take a ++ xs ++ rows.drop (a + 1)).map dI) := fun xs => by rw [List.map_append, List.map_append]
 generalize hrow : rows[a] = row at hR hput hra ⊢
 show Sv K B0 _ [.dat (dN turn), .dat (dPp kept rows), .lnt p es2, .dat (dI kept), .dat (.tuple (rows.map dI)), .dat (.int way), .dat (.int (a : Nat)), .dat (dI row), .un, .un, .un, .un, .un] _
 refine sv_seq (sv_if (et_test (er_eqI (er_var rfl) er_int)) (fun _ => ?_) fun _ => sv_next ?_)
 ·refine sv_seq (sv_asg (eg_lendN (i := 2) rfl rfl rfl (eal_cons (er_var rfl) (eal_here (ea_cons (er_d (er_lenT (ea_cons (er_var rfl) ea_nil)) (by rw [etl])) ea_nil))) ⟨n + 2, row, turn.length, s2', by omega, rfl, rfl, by omega, by omega⟩ fun x es3 hx => ?_))
  obtain ⟨row', out, e3, rfl, ho, s3⟩ := hx
  have e4 : row.length = row'.length := by
   have e3 : dI row = dI row' := by injection e3
   injection e3 with e3
   have := congrArg List.length e3
   rwa [List.length_map, List.length_map] at this
  have hp1 := hput [out]
  have : ([out].flatten).length = out.length := by show (out ++ []).length = _; rw [List.append_nil]
  show Sv K B0 _ [.dat (dN turn), .dat (dPp kept rows), .lnt p es3, .dat (dI kept), .dat (.tuple (rows.map dI)), .dat (.int way), .dat (.int (a : Nat)), .dat (dI row), .dat (dI out), .un, .un, .un, .un] _
  refine sv_ret (eg_er (er_tup (ea_cons (er_var rfl) (ea_cons (er_d (er_catE (er_catE (er_d (er_slT (er_var rfl) eo_none (eo_var rfl)) (by rw [up])) (er_tup (ea_cons (er_var rfl) ea_nil) (by show 1 ≤ sizeLine; decide)) (by rw [List.length_map]; show _ + 1 ≤ _; omega)) (er_d (er_slT (er_var rfl) (eo_op rfl) eo_none) (by rw [fr1])) (by rw [List.length_append, List.length_map, List.length_map]; show _ + 1 + _ ≤ _; omega)) (mk3 [out])) ea_nil)) (by show 2 ≤ sizeLine; decide)) ⟨_, es3, rfl, ⟨kept, _, rfl, by omega, by rw [List.length_append, List.length_append]; show _ + 1 + _ ≤ _; omega, by omega, fun n' h => (s3 _ (sA n' h)).mono (by omega)⟩, rfl⟩)
 refine sv_seq (sv_if (et_test (er_eqI (er_var rfl) er_int)) (fun _ => ?_) fun _ => sv_next ?_)
 ·refine sv_seq (sv_asg (eg_lend rfl rfl (ega_ea (ea_cons (er_d (er_i0 (er_lenT (ea_cons (er_var rfl) ea_nil)) er_int fun _ => dat_int _) (show _ = PyData.int ((row.length + 1 : Nat) : Int) by rw [List.length_map]; rfl)) ea_nil) ⟨_, es2, rfl, rfl, ⟨n + 2, _, s2', by omega, rfl, by omega, by omega⟩, fun x es3 hx => ?_⟩)))
  obtain ⟨m3, cut_, e3, rfl, c0, c1, s3⟩ := hx
  cases e3
  obtain ⟨c, rfl⟩ := Int.eq_ofNat_of_zero_le c0
  have cu : slD (row.map PyData.int) none (some (c : Int)) = (row.take c).map PyData.int := by rw [slD_upto, List.map_take]
  have cf : slD (row.map PyData.int) (some (c : Int)) none = (row.drop c).map PyData.int := by rw [slD_from, List.map_drop]
  have hp1 := hput [row.take c, row.drop c]
  show Sv K B0 _ [.dat (dN turn), .dat (dPp kept rows), .lnt p es3, .dat (dI kept), .dat (.tuple (rows.map dI)), .dat (.int way), .dat (.int (a : Nat)), .dat (dI row), .un, .dat (.int (c : Nat)), .un, .un, .un] _
  have : ([row.take c, row.drop c].flatten).length = row.length := by show (row.take c ++ (row.drop c ++ [])).length = _; rw [List.append_nil, List.take_append_drop]
  refine sv_ret (eg_er (er_tup (ea_cons (er_var rfl) (ea_cons (er_d (er_catE (er_catE (er_d (er_slT (er_var rfl) eo_none (eo_var rfl)) (by rw [up])) (er_tup (ea_cons (er_d (er_slT (er_var rfl) eo_none (eo_var rfl)) (by rw [cu])) (ea_cons (er_d (er_slT (er_var rfl) (eo_var rfl) eo_none) (by rw [cf])) ea_nil)) (by show 2 ≤ sizeLine; decide)) (by rw [List.length_map]; show _ + 2 ≤ _; omega)) (er_d (er_slT (er_var rfl) (eo_op rfl) eo_none) (by rw [fr1])) (by rw [List.length_append, List.length_map, List.length_map]; show _ + 2 + _ ≤ _; omega)) (mk3 [row.take c, row.drop c])) ea_nil)) (by show 2 ≤ sizeLine; decide)) ⟨_, es3, rfl, ⟨kept, _, rfl, by omega, by rw [List.length_append, List.length_append]; show _ + 2 + _ ≤ _; omega, by omega, fun n' h => (s3 _ (sA n' h)).mono (by omega)⟩, rfl⟩)
 refine sv_seq (sv_if (et_test (er_eqI (er_var rfl) er_int)) (fun _ => ?_) fun _ => sv_next ?_)
 ·refine sv_seq (sv_asg (eg_lend rfl rfl (ega_ea (ea_cons (er_d (er_lenT (ea_cons (er_var rfl) ea_nil)) (show _ = PyData.int ((rows.length : Nat) : Int) by rw [List.length_map])) ea_nil) ⟨_, es2, rfl, rfl, ⟨n + 2, _, s2', by omega, rfl, by omega, by omega⟩, fun x es3 hx => ?_⟩)))
  obtain ⟨m3, oth, e3, rfl, c0, c1, s3⟩ := hx
  cases e3
  obtain ⟨o, rfl⟩ := Int.eq_ofNat_of_zero_le c0
  have ho : o < rows.length := by omega
  show Sv K B0 _ [.dat (dN turn), .dat (dPp kept rows), .lnt p es3, .dat (dI kept), .dat (.tuple (rows.map dI)), .dat (.int way), .dat (.int (a : Nat)), .dat (dI row), .un, .un, .dat (.int (o : Nat)), .un, .un] _
  have cu : slD (row.map PyData.int) none (some (1 : Int)) = (row.take 1).map PyData.int := by rw [show (1 : Int) = ((1 : Nat) : Int) from rfl, slD_upto, List.map_take]
  have cf : slD (row.map PyData.int) (some (1 : Int)) none = (row.drop 1).map PyData.int := by rw [show (1 : Int) = ((1 : Nat) : Int) from rfl, slD_from, List.map_drop]
  refine sv_seq (sv_asg (eg_er (er_d (er_slT (er_var rfl) eo_none eo_int) (by rw [cu])) ?_))
  refine sv_seq (sv_asg (eg_list (.inl (ea_cons (er_var rfl) ea_nil)) ?_))
  show Sv K B0 _ [.dat (dN turn), .dat (dPp kept rows), .lnt p es3, .dat (dI kept), .dat (.tuple (rows.map dI)), .dat (.int way), .dat (.int (a : Nat)), .dat (dI row), .un, .un, .dat (.int (o : Nat)), .dat (dI (row.take 1)), .own (rows.map dI)] _
  refine sv_seq (sv_seti (i := 12) (eg_er (er_d (er_slT (er_var rfl) eo_int eo_none) (by rw [cf])) ⟨dI (row.drop 1), _, rows.map dI, (a : Int), a, rfl, rfl, rfl, er_var rfl, by rw [List.length_map]; exact ixN_nat ha, ?_⟩))
  have f1 := flat_set rows a (row.drop 1) ha
  have f2 := flat_set (rows.set a (row.drop 1)) o (srtI ((rows.set a (row.drop 1)).getD o [] ++ row.take 1)) (by rw [List.length_set]; exact ho)
  have hga : (rows.getD a []).length = row.length := by rw [List.getD_eq_getElem?_getD, List.getElem?_eq_getElem ha, ← hrow]; rfl
  have hs1 : (srtI ((rows.set a (row.drop 1)).getD o [] ++ row.take 1)).length = ((rows.set a (row.drop 1)).getD o []).length + (row.take 1).length := by rw [(srtI_perm _).length_eq, List.length_append]
  have hd1 : (row.drop 1).length = row.length - 1 := List.length_drop
  have ht1 : (row.take 1).length = min 1 row.length := List.length_take
  have es' : (rows.map dI).set a (dI (row.drop 1)) = (rows.set a (row.drop 1)).map dI := by rw [List.map_set]
  have hlen : (rows.set a (row.drop 1)).length = rows.length := List.length_set
  have hX : ((rows.set a (row.drop 1)).getD o []).length ≤ 60 := by
   have ho' : o < (rows.set a (row.drop 1)).length := by omega
   have hm : (rows.set a (row.drop 1)).getD o [] ∈ rows.set a (row.drop 1) := by rw [List.getD_eq_getElem?_getD, List.getElem?_eq_getElem ho']; exact List.getElem_mem ho'
   have := (List.sublist_flatten_of_mem hm).length_le
   omega
  show Sv K B0 _ [.dat (dN turn), .dat (dPp kept rows), .lnt p es3, .dat (dI kept), .dat (.tuple (rows.map dI)), .dat (.int way), .dat (.int (a : Nat)), .dat (dI row), .un, .un, .dat (.int (o : Nat)), .dat (dI (row.take 1)), .own ((rows.map dI).set a (dI (row.drop 1)))] _
  rw [es']
  have hget : ((rows.set a (row.drop 1)).map dI)[o]? = some (dI ((rows.set a (row.drop 1)).getD o [])) := by
   rw [List.getElem?_map, List.getD_eq_getElem?_getD, List.getElem?_eq_getElem (by omega)]; rfl
  generalize rows.set a (row.drop 1) = rows1 at f1 f2 hs1 hX hlen hget ⊢
  generalize rows1.getD o [] = X at f2 hs1 hX hget
  refine sv_seq (sv_seti (i := 12) (eg_ex (d := dI (srtI (X ++ row.take 1))) (ex_cb1 (ex_cb1 (ex_op (ex_ixo (n := o) rfl rfl (er_var rfl) (by rw [List.length_map]; exact ixN_nat (by omega)) hget) (ex_er (er_var rfl)) fun G σ va vb ha hb => ?_) fun G σ va ha => ev_srtT (ns := X ++ row.take 1) (eva_cons (ev_c ha) eva_nil) (by rw [List.length_append]; omega)) fun G σ va ha => ev_tupleL (eva_cons (ev_c ha) eva_nil)) ⟨_, _, rows1.map dI, (o : Int), o, rfl, rfl, rfl, er_var rfl, by rw [List.length_map]; exact ixN_nat (by omega), ?_⟩))
  ·rw [List.map_append]
   exact ev_catE (ev_c ha) (ev_c hb) (by rw [List.length_map, List.length_map]; omega)
  refine sv_frz1 12 rfl ?_
  refine sv_ret (eg_er (er_tup (ea_cons (er_var rfl) (ea_cons (er_d (er_tupleL (ea_cons (er_var rfl) ea_nil)) (show _ = PyData.tuple ((rows1.set o (srtI (X ++ row.take 1))).map dI) by rw [List.map_set])) ea_nil)) (by show 2 ≤ sizeLine; decide)) ⟨_, es3, rfl, ⟨kept, _, rfl, by omega, by rw [List.length_set]; omega, by omega, fun n' h => (s3 _ (sA n' h)).mono (by omega)⟩, rfl⟩)
 refine sv_seq (sv_if (et_test (er_eqI (er_var rfl) er_int)) (fun _ => ?_) fun _ => sv_next ?_)
 ·have hp1 := hput [row.reverse]
  have : ([row.reverse].flatten).length = row.length := by show (row.reverse ++ []).length = _; rw [List.append_nil, List.length_reverse]
  refine sv_ret (eg_er (er_tup (ea_cons (er_var rfl) (ea_cons (er_d (er_catE (er_catE (er_d (er_slT (er_var rfl) eo_none (eo_var rfl)) (by rw [up])) (er_tup (ea_cons (er_d (er_revT (er_var rfl)) (show _ = dI row.reverse by rw [← List.map_reverse])) ea_nil) (by show 1 ≤ sizeLine; decide)) (by rw [List.length_map]; show _ + 1 ≤ _; omega)) (er_d (er_slT (er_var rfl) (eo_op rfl) eo_none) (by rw [fr1])) (by rw [List.length_append, List.length_map, List.length_map]; show _ + 1 + _ ≤ _; omega)) (mk3 [row.reverse])) ea_nil)) (by show 2 ≤ sizeLine; decide)) ⟨_, es2, rfl, ⟨kept, _, rfl, by omega, by rw [List.length_append, List.length_append]; show _ + 1 + _ ≤ _; omega, by omega, fun n' h => (sA n' h).mono (by omega)⟩, rfl⟩)
 refine sv_ret (eg_er (er_tup (ea_cons (er_d (er_revT (er_var rfl)) (show _ = dI kept.reverse by rw [← List.map_reverse])) (ea_cons (er_d (er_revT (er_var rfl)) (show _ = PyData.tuple (rows.reverse.map dI) by rw [← List.map_reverse])) ea_nil)) (by show 2 ≤ sizeLine; decide)) ⟨_, es2, rfl, ⟨kept.reverse, rows.reverse, rfl, by rw [List.length_reverse]; omega, by rw [List.length_reverse]; omega, by rw [fl_rev]; omega, fun n' h => (sA n' h).mono (by omega)⟩, rfl⟩)
end
end K64
namespace K64
open PySem L2 Lw Mv Mvs Trn
section
variable {P : Program} {w : World} {K : PySem.W.Frag} {mg : Str → Option Value} {base : Heap}
theorem ok_law {f : Addr} {fd : FuncData} (F : Fun K "law" "law" s_law f fd) (T : Top K mg) (M : Bs K mg base) : FnOk P w K mg base CX0 8 f fd ["script"] (spLawT K [(T.P_paper_of, fun _ _ => some lq_paper_of)]) := by
 have G__law_seed : FnOk P w K mg base CX0 7 T.f__law_seed T.fd__law_seed ["cell"] spSeed := (ok_seed T).mono (by decide)
 have G__law_many : FnOk P w K mg base CX0 7 T.f__law_many T.fd__law_many ["seed"] (spL K PreM RMa) := (many_L (ok_many T)).mono (by decide)
 have G__law_turn : FnOk P w K mg base CX0 7 T.f__law_turn T.fd__law_turn ["seed", "many"] (spL K PreT RTu) := (turn_L (ok_turn T)).mono (by decide)
 have G_paper_of : FnOk P w K mg base CX0 7 T.f_paper_of T.fd_paper_of ["turn"] (spPT K T.P_paper_of crPO RPaper) := (ok_paper T M).mono (by decide)
 have G_moves_shown : FnOk P w K mg base CX0 7 T.f_moves_shown T.fd_moves_shown ["turn", "paper"] (spP K RShown) := (ok_shown T).mono (by decide)
 have G__law_holds : FnOk P w K mg base CX0 7 T.f__law_holds T.fd__law_holds ["turn", "paper"] (spP K RHolds) := (ok_holds T).mono (by decide)
 have G__law_spoilt : FnOk P w K mg base CX0 7 T.f__law_spoilt T.fd__law_spoilt ["turn", "paper", "seed"] (spLn K 2 PreS RSp) := (ok_spoilt T).mono (by decide)
 refine F.okLawT sc_law fun cdv A outer s H E hr ns hns => ?_
 have hu := hr.units
 have zl : (2000 : Nat) < sizeLine := by decide
 have hB : tabB [(T.P_paper_of, fun _ _ => some lq_paper_of)] T.P_paper_of = some (.tbl crPO) := by unfold tabB; simp
 generalize tabB [(T.P_paper_of, fun _ _ => some lq_paper_of)] = B at hB
 refine ⟨_, (pss_cons (ps_for PassesOwn.never rfl (pi_list (pe_op op_cat (pe_slice (sl_listK (K := K) rfl) (pv 0) po_none (po_some pe_int)) (pe_lst (pa_cons (pe_callB (call_lenK (K := K) rfl) (by rfl) T.len_ PySem.boot_len (pa_cons (pv 0) pa_nil st_Name)) pa_nil st_Call)))) (pg_name (i := 1) sc_law.nd rfl (Or.inl rfl)) (pss_cons (ps_set (i := 2) sc_law.nd rfl (Or.inl rfl) (pe_call G__law_seed hr (by rfl) T.m__law_seed T.F__law_seed.kp T.b__law_seed .nil pass0 (pa_cons (pv 1) pa_nil st_Name)))
   (pss_cons (ps_set (i := 3) sc_law.nd rfl (Or.inl rfl) (pe_call G__law_turn hr (by rfl) T.m__law_turn T.F__law_turn.kp T.b__law_turn .nil pass0 (pa_cons (pv 2) (pa_cons (pe_call G__law_many hr (by rfl) T.m__law_many T.F__law_many.kp T.b__law_many .nil pass0 (pa_cons (pv 2) pa_nil st_Name)) pa_nil st_Call) st_Name)))
   (pss_cons (ps_set (i := 4) sc_law.nd rfl (Or.inl rfl) (pe_call G_paper_of hr (by rfl) T.m_paper_of T.F_paper_of.kp T.b_paper_of .nil pass0 (pa_cons (pv 3) pa_nil st_Name)))
   (pss_cons (ps_if ((pw_or (pt_not (pt_val (pe_callB (call_isD (K := K) rfl) (by rfl) T.isinstance_ bIsi (pa_cons (pv 4) (pa_cons (pe_bltn (v := .ty "tuple") (by rfl) T.tuple_ bTup rfl) pa_nil))))) (pw_or (pt_cmpR op_ne (pe_callB (call_lenK (K := K) rfl) (by rfl) T.len_ PySem.boot_len (pa_cons (pv 4) pa_nil st_Name)) pe_int (nomark _)) (pw_or1 (pt_not (pt_val (pe_callB (call_isD (K := K) rfl) (by rfl) T.isinstance_ bIsi (pa_cons (pe_ix (ix_tupK (K := K) rfl) (pv 4) pe_int (fun _ _ => rfl)) (pa_cons (pe_bltn (v := .ty "tuple") (by rfl) T.tuple_ bTup rfl) pa_nil))))))))).pt (pss_one (ps_ret pe_bl)) pss_nil)
   (pss_cons (ps_if ((pw_or (pt_not (pt_val (pe_callB (call_isD (K := K) rfl) (by rfl) T.isinstance_ bIsi (pa_cons (pe_ix (ix_tupK (K := K) rfl) (pv 4) pe_int (fun _ _ => rfl)) (pa_cons (pe_bltn (v := .ty "tuple") (by rfl) T.tuple_ bTup rfl) pa_nil))))) (pw_or1 (pt_cmpR (op_neDK (K := K) rfl hu) (pe_lc (x := "row") (cap := []) (js := []) ⟨rfl, by decide +kernel, by decide +kernel, rfl, (by show ∀ p ∈ (_ : List (Str × NameKind)), p.2 = NameKind.free → List.lookup p.1 (defScope s_law).names = some NameKind.cell; decide +kernel), by decide +kernel, by decide +kernel, by decide +kernel⟩ rfl rfl (fun _ _ h => h) (pi_tup (pe_ix (ix_tupK (K := K) rfl) (pv 4) pe_int (fun _ _ => rfl))) (fun _ _ _ _ => ⟨(pif_one (pt_not (pt_val (pe_callB (call_isD (K := K) rfl) (by rfl) T.isinstance_ bIsi (pa_cons (pv 0) (pa_cons (pe_bltn (v := .ty "tuple") (by rfl) T.tuple_ bTup rfl) pa_nil)))))), (pv 0)⟩)) (pe_lst pa_nil) (nomark _))))).pt (pss_one (ps_ret pe_bl)) pss_nil)
   (pss_cons (ps_if ((pw_or (pt_not (pt_val (pe_call G__law_holds hr (by rfl) T.m__law_holds T.F__law_holds.kp T.b__law_holds .nil pass0 (pa_cons (pv 3) (pa_cons (pv 4) pa_nil st_Name) st_Name)))) (pw_or1 (pt_cmpR op_notB (pe_call G_moves_shown hr (by rfl) T.m_moves_shown T.F_moves_shown.kp T.b_moves_shown .nil pass0 (pa_cons (pv 3) (pa_cons (pv 4) pa_nil st_Name) st_Name)) pe_bl (nomark _))))).pt (pss_one (ps_ret pe_bl)) pss_nil)
   (pss_one (ps_for PassesOwn.never rfl (pi_range1 (by rfl) T.range_ (pa_cons pe_int pa_nil st_Constant)) (pg_name (i := 5) sc_law.nd rfl (Or.inl rfl)) (pss_cons (ps_set (i := 6) sc_law.nd rfl (Or.inl rfl) (pe_call G__law_spoilt hr (by rfl) T.m__law_spoilt T.F__law_spoilt.kp T.b__law_spoilt .nil pass0 (pa_cons (pv 3) (pa_cons (pv 4) (pa_cons (pv 2) pa_nil st_Name) st_Name) st_Name)))
   (pss_cons (ps_set (i := 7) sc_law.nd rfl (Or.inl rfl) (pe_call G_moves_shown hr (by rfl) T.m_moves_shown T.F_moves_shown.kp T.b_moves_shown .nil pass0 (pa_cons (pv 3) (pa_cons (pv 6) pa_nil st_Name) st_Name)))
   (pss_one (ps_if ((pw_or (pt_not (pt_val (pe_callB (call_isD (K := K) rfl) (by rfl) T.isinstance_ bIsi (pa_cons (pv 7) (pa_cons (pe_bltn (v := .ty "bool") (by rfl) T.bool_ bBool rfl) pa_nil))))) (pw_or1 (pt_cmpR (op_neDK (K := K) rfl hu) (pv 7) (pe_call G__law_holds hr (by rfl) T.m__law_holds T.F__law_holds.kp T.b__law_holds .nil pass0 (pa_cons (pv 3) (pa_cons (pv 6) pa_nil st_Name) st_Name)) (nomark _))))).pt (pss_one (ps_ret pe_bl)) pss_nil)))))))))))))
   (pss_one (ps_ret pe_bl))) , ?_⟩
 obtain ⟨cs, hcs, hcl, _⟩ := slD_map PyData.int ns none (some 12)
 refine sv_seq (sv_for (cs ++ [(ns.length : Int)]) PyData.int (ei_lst (er_d (er_catL (er_scrSl rfl eo_none eo_int) (er_lst (ea_cons (er_scrLen rfl) ea_nil) (by show 1 ≤ sizeLine; decide)) (by rw [hcs, List.length_map]; show _ + 1 ≤ _; omega)) (by rw [hcs, List.map_append]; rfl))) (fun _ ρ => ∃ v1 v2 v3 v4 v5 v6 v7 : PV, ρ = [.scr ns, v1, v2, v3, v4, v5, v6, v7]) ⟨_, _, _, _, _, _, _, rfl⟩ ?_ ?_)
 ·rintro i hi _ ⟨v1, v2, v3, v4, v5, v6, v7, rfl⟩
  generalize (cs ++ [(ns.length : Int)])[i] = cell
  refine gt_name ?_
  refine sv_seq (sv_asg (eg_seed (er_var rfl) fun es hes => ?_))
  refine sv_seq (sv_asg (eg_lend rfl rfl (ega_cons (eg_lend rfl rfl (ega_ea ea_nil ⟨_, es, rfl, rfl, ⟨0, hes, by decide, rfl⟩, fun x es1 hx => ?_⟩)))))
  obtain ⟨r6, rfl, r60, r61, s6⟩ := hx
  have s6 := s6 0 hes
  refine ⟨_, rfl, ega_ea ea_nil ⟨_, es1, rfl, rfl, ⟨0 + 5, r6, s6, by decide, rfl, r60, by omega⟩, fun x es2 hx => ?_⟩⟩
  obtain ⟨m7, turn, e7, rfl, Tt, s7⟩ := hx
  cases e7
  have s7 := s7 _ s6
  have hn6 : turn.length ≤ 60 := by rw [Tt.len]; omega
  have Tt : Tn turn.length turn := by rw [Tt.len]; exact Tt
  have hxl : ∀ x ∈ turn, x < 1000 := fun x hx => by have := Tt.lt x hx; omega
  have R := ri turn turn.length
  have Kp := kept_ok R
  have hkn : (rkS turn turn.length).2 ≤ turn.length := R.kle
  have ekr : (rowsL (rkS turn turn.length).1 (rkS turn turn.length).2).map dN = ((rowsL (rkS turn turn.length).1 (rkS turn turn.length).2).map zs).map dI := by rw [List.map_map]; exact List.map_congr_left fun l _ => (dI_zs l).symm
  have hsp := shown_paper Tt R Kp
  have hrl : ((rowsL (rkS turn turn.length).1 (rkS turn turn.length).2).map zs).length ≤ 60 := by unfold rowsL; rw [List.length_map, List.length_map, List.length_range]; omega
  have hfl : ((rowsL (rkS turn turn.length).1 (rkS turn turn.length).2).map zs).flatten.length ≤ 60 := by
   rw [flat_zs, List.length_map]
   have := (rows_perm (rkS turn turn.length).1 (rkS turn turn.length).2 fun p hp => R.lt p (by rw [← R.len]; exact hp)).length_eq
   rw [List.length_range, R.len] at this
   omega
  have hkl : (zs (keptL (rkS turn turn.length).1 (rkS turn turn.length).2)).length ≤ 60 := by rw [List.length_map, Kp.len]; omega
  refine sv_seq (sv_asg (eg_er (er_callPT hB (ea_cons (er_var rfl) ea_nil) ⟨turn, rfl, by omega, rfl⟩) ?_))
  rw [ekr, ← dI_zs (keptL (rkS turn turn.length).1 (rkS turn turn.length).2)]
  generalize (rowsL (rkS turn turn.length).1 (rkS turn turn.length).2).map zs = rows0 at hsp hrl hfl
  generalize zs (keptL (rkS turn turn.length).1 (rkS turn turn.length).2) = kept0 at hsp hkl
  show Sv K B _ [.scr ns, .dat (.int cell), .own es2, .dat (dN turn), .dat (dPp kept0 rows0), v5, v6, v7] _
  refine sv_seq (sv_ifF (et_c (et_or (et_not (et_b (er_isD (er_var rfl) T.tt))) fun _ => et_or (et_test (er_ne (er_lenT (ea_cons (er_var rfl) ea_nil)) er_int)) fun _ => et_not (et_b (er_isD (er_ixT (er_var rfl) er_int (n := 0) rfl rfl) T.tt))) rfl) (sv_next ?_))
  refine sv_seq (sv_ifF (et_c (et_or (et_not (et_b (er_isD (er_ixT (er_var rfl) er_int (n := 1) rfl rfl) T.tt))) fun _ => et_test (er_eqD (n := 4) (er_lc (js := []) rows0 dI (fun _ => none) (ei_tup (er_ixT (er_var rfl) er_int (n := 1) rfl rfl)) (by omega) fun a ha => lx0 (et_c (et_not (et_b (er_isD (er_var rfl) T.tt))) rfl)) (er_lst ea_nil (Nat.zero_le _)) (by rw [show (rows0.filterMap fun _ => (none : Option PyData)) = [] by simp]; exact pl_listI []) (pl_listI []) (by decide))) (by rw [show (rows0.filterMap fun _ => (none : Option PyData)) = [] by simp]; rfl)) (sv_next ?_))
  refine sv_seq (sv_ifF (et_c (et_or (et_not (et_b (er_call (ea_cons (er_var rfl) (ea_cons (er_var rfl) ea_nil)) ⟨turn, kept0, rows0, rfl, by omega, hxl, by omega, by omega, by omega, rfl⟩))) fun _ => et_test (er_isB (er_call (ea_cons (er_var rfl) (ea_cons (er_var rfl) ea_nil)) ⟨turn, kept0, rows0, rfl, by omega, by omega, by omega, by omega, rfl⟩))) (by rw [holds_shown, hsp]; rfl)) (sv_next ?_))
  refine sv_for (List.range 8) (fun (i : Nat) => PyData.int (i : Nat)) (ei_rngN (n := 8) (ea_cons er_int ea_nil) (by decide)) (fun k ρ => ∃ (es : List PyData) (v5 v6 v7 : PV), SdL (1005 + 10 * k) es ∧ ρ = [.scr ns, .dat (.int cell), .own es, .dat (dN turn), .dat (dPp kept0 rows0), v5, v6, v7]) ⟨es2, _, _, _, s7, rfl⟩ ?_ ?_
  ·rintro k hk _ ⟨es3, v5, v6, v7, s3, rfl⟩
   rw [List.length_range] at hk
   generalize (List.range 8)[k] = k'
   refine gt_name ?_
   refine sv_seq (sv_asg (eg_lendN (i := 2) rfl rfl rfl (eal_cons (er_var rfl) (eal_cons (er_var rfl) (eal_here ea_nil))) ⟨1005 + 10 * k, turn, kept0, rows0, s3, by omega, rfl, rfl, hn6, hkl, hrl, hfl⟩ fun x es4 hx => ?_))
   obtain ⟨kept1, rows1, rfl, b1, b2, b3, s4⟩ := hx
   have s4 := s4 _ s3
   refine sv_seq (sv_asg (eg_er (er_call (ea_cons (er_var rfl) (ea_cons (er_var rfl) ea_nil)) ⟨turn, kept1, rows1, rfl, by omega, by omega, by omega, by omega, rfl⟩) ?_))
   refine sv_ifF (et_c (et_or (et_not (et_b (er_isD (er_var rfl) T.bb))) fun _ => et_test (er_eqS (er_var rfl) (er_call (ea_cons (er_var rfl) (ea_cons (er_var rfl) ea_nil)) ⟨turn, kept1, rows1, rfl, by omega, hxl, by omega, by omega, by omega, rfl⟩) ⟨rfl, rfl, rfl⟩)) (by rw [holds_shown, PySem.Spec.same_self]; rfl)) (sv_next ⟨es4, _, _, _, s4.mono (by omega), rfl⟩)
  ·rintro _ ⟨es3, v5, v6, v7, s3, rfl⟩
   exact ⟨_, _, _, _, _, _, _, rfl⟩
 ·rintro _ ⟨v1, v2, v3, v4, v5, v6, v7, rfl⟩
  exact sv_ret (eg_er er_bl rfl)
end
end K64
namespace K64
open PySem L2 Lw Mv Mvs Trn
abbrev tabs : Tabs := [(35, fun _ _ => some lq_paper_of)]
theorem all_mk {l : PySem.W.OpenLaw} {w : World} {K : PySem.W.Frag} {h : Heap} {mg : Str → Option Value} {fa : Addr} {fz0 fz1 fz2 fz3 fz4 fz5 fz6 fz7 fz8 fz9 fz10 fz11 fz12 fz13 fz14 : Addr} (X : K.In h) (G : h.Ns mainGlobals mg) (hfa : mg "law" = some (.ref fa))
  {odz0 anz0 odz1 anz1 odz2 anz2 odz3 anz3 odz4 anz4 odz5 anz5 odz6 anz6 odz7 anz7 odz8 anz8 odz9 anz9 odz10 anz10 odz11 anz11 odz12 anz12 odz13 anz13 odz14 anz14 : Option Addr} {slz0 slz1 slz2 slz3 slz4 slz5 slz6 slz7 slz8 slz9 slz10 slz11 slz12 slz13 slz14 : Array (Option Value)} {ocz0 kVz0 dcz0 pmz0 cdz0 ctz0 ocz1 kVz1 dcz1 pmz1 cdz1 ctz1 ocz2 kVz2 dcz2 pmz2 cdz2 ctz2 ocz3 kVz3 dcz3 pmz3 cdz3 ctz3 ocz4 kVz4 dcz4 pmz4 cdz4 ctz4 ocz5 kVz5 dcz5 pmz5 cdz5 ctz5 ocz6 kVz6 dcz6 pmz6 cdz6 ctz6 ocz7 kVz7 dcz7 pmz7 cdz7 ctz7 ocz8 kVz8 dcz8 pmz8 cdz8 ctz8 ocz9 kVz9 dcz9 pmz9 cdz9 ctz9 ocz10 kVz10 dcz10 pmz10 cdz10 ctz10 ocz11 kVz11 dcz11 pmz11 cdz11 ctz11 ocz12 kVz12 dcz12 pmz12 cdz12 ctz12 ocz13 kVz13 dcz13 pmz13 cdz13 ctz13 ocz14 kVz14 dcz14 pmz14 cdz14 ctz14 : Value}
  (az0 : PySem.W.nsIn K mainGlobals "are_places" = some (some (.ref fz0))) (lz0 : K.lookup fz0 = some ⟨ocz0, odz0, .func (PySem.W.fnOf "are_places" "are_places" (defArgs s_are_places) (defBody s_are_places) (defScope s_are_places) .none kVz0 dcz0 pmz0 anz0 cdz0 ctz0), slz0⟩) (cz0 : PySem.W.codeIn K cdz0 "are_places" = true) (kz0 : PySem.W.keepIn K (.ref fz0) = true)
  (az1 : PySem.W.nsIn K mainGlobals "cover" = some (some (.ref fz1))) (lz1 : K.lookup fz1 = some ⟨ocz1, odz1, .func (PySem.W.fnOf "cover" "cover" (defArgs s_cover) (defBody s_cover) (defScope s_cover) .none kVz1 dcz1 pmz1 anz1 cdz1 ctz1), slz1⟩) (cz1 : PySem.W.codeIn K cdz1 "cover" = true) (kz1 : PySem.W.keepIn K (.ref fz1) = true)
  (az2 : PySem.W.nsIn K mainGlobals "many_ahead" = some (some (.ref fz2))) (lz2 : K.lookup fz2 = some ⟨ocz2, odz2, .func (PySem.W.fnOf "many_ahead" "many_ahead" (defArgs s_many_ahead) (defBody s_many_ahead) (defScope s_many_ahead) .none kVz2 dcz2 pmz2 anz2 cdz2 ctz2), slz2⟩) (cz2 : PySem.W.codeIn K cdz2 "many_ahead" = true) (kz2 : PySem.W.keepIn K (.ref fz2) = true)
  (az3 : PySem.W.nsIn K mainGlobals "paper_of" = some (some (.ref fz3))) (lz3 : K.lookup fz3 = some ⟨ocz3, odz3, .func (PySem.W.fnOf "paper_of" "paper_of" (defArgs s_paper_of) (defBody s_paper_of) (defScope s_paper_of) .none kVz3 dcz3 pmz3 anz3 cdz3 ctz3), slz3⟩) (cz3 : PySem.W.codeIn K cdz3 "paper_of" = true) (kz3 : PySem.W.keepIn K (.ref fz3) = true)
  (az4 : PySem.W.nsIn K mainGlobals "moves_shown" = some (some (.ref fz4))) (lz4 : K.lookup fz4 = some ⟨ocz4, odz4, .func (PySem.W.fnOf "moves_shown" "moves_shown" (defArgs s_moves_shown) (defBody s_moves_shown) (defScope s_moves_shown) .none kVz4 dcz4 pmz4 anz4 cdz4 ctz4), slz4⟩) (cz4 : PySem.W.codeIn K cdz4 "moves_shown" = true) (kz4 : PySem.W.keepIn K (.ref fz4) = true)
  (az5 : PySem.W.nsIn K mainGlobals "numbers_rise" = some (some (.ref fz5))) (lz5 : K.lookup fz5 = some ⟨ocz5, odz5, .func (PySem.W.fnOf "numbers_rise" "numbers_rise" (defArgs s_numbers_rise) (defBody s_numbers_rise) (defScope s_numbers_rise) .none kVz5 dcz5 pmz5 anz5 cdz5 ctz5), slz5⟩) (cz5 : PySem.W.codeIn K cdz5 "numbers_rise" = true) (kz5 : PySem.W.keepIn K (.ref fz5) = true)
  (az6 : PySem.W.nsIn K mainGlobals "_law_seed" = some (some (.ref fz6))) (lz6 : K.lookup fz6 = some ⟨ocz6, odz6, .func (PySem.W.fnOf "_law_seed" "_law_seed" (defArgs s__law_seed) (defBody s__law_seed) (defScope s__law_seed) .none kVz6 dcz6 pmz6 anz6 cdz6 ctz6), slz6⟩) (cz6 : PySem.W.codeIn K cdz6 "_law_seed" = true) (kz6 : PySem.W.keepIn K (.ref fz6) = true)
  (az7 : PySem.W.nsIn K mainGlobals "_law_draw" = some (some (.ref fz7))) (lz7 : K.lookup fz7 = some ⟨ocz7, odz7, .func (PySem.W.fnOf "_law_draw" "_law_draw" (defArgs s__law_draw) (defBody s__law_draw) (defScope s__law_draw) .none kVz7 dcz7 pmz7 anz7 cdz7 ctz7), slz7⟩) (cz7 : PySem.W.codeIn K cdz7 "_law_draw" = true) (kz7 : PySem.W.keepIn K (.ref fz7) = true)
  (az8 : PySem.W.nsIn K mainGlobals "_law_turn" = some (some (.ref fz8))) (lz8 : K.lookup fz8 = some ⟨ocz8, odz8, .func (PySem.W.fnOf "_law_turn" "_law_turn" (defArgs s__law_turn) (defBody s__law_turn) (defScope s__law_turn) .none kVz8 dcz8 pmz8 anz8 cdz8 ctz8), slz8⟩) (cz8 : PySem.W.codeIn K cdz8 "_law_turn" = true) (kz8 : PySem.W.keepIn K (.ref fz8) = true)
  (az9 : PySem.W.nsIn K mainGlobals "_law_many" = some (some (.ref fz9))) (lz9 : K.lookup fz9 = some ⟨ocz9, odz9, .func (PySem.W.fnOf "_law_many" "_law_many" (defArgs s__law_many) (defBody s__law_many) (defScope s__law_many) .none kVz9 dcz9 pmz9 anz9 cdz9 ctz9), slz9⟩) (cz9 : PySem.W.codeIn K cdz9 "_law_many" = true) (kz9 : PySem.W.keepIn K (.ref fz9) = true)
  (az10 : PySem.W.nsIn K mainGlobals "_law_row" = some (some (.ref fz10))) (lz10 : K.lookup fz10 = some ⟨ocz10, odz10, .func (PySem.W.fnOf "_law_row" "_law_row" (defArgs s__law_row) (defBody s__law_row) (defScope s__law_row) .none kVz10 dcz10 pmz10 anz10 cdz10 ctz10), slz10⟩) (cz10 : PySem.W.codeIn K cdz10 "_law_row" = true) (kz10 : PySem.W.keepIn K (.ref fz10) = true)
  (az11 : PySem.W.nsIn K mainGlobals "_law_holds" = some (some (.ref fz11))) (lz11 : K.lookup fz11 = some ⟨ocz11, odz11, .func (PySem.W.fnOf "_law_holds" "_law_holds" (defArgs s__law_holds) (defBody s__law_holds) (defScope s__law_holds) .none kVz11 dcz11 pmz11 anz11 cdz11 ctz11), slz11⟩) (cz11 : PySem.W.codeIn K cdz11 "_law_holds" = true) (kz11 : PySem.W.keepIn K (.ref fz11) = true)
  (az12 : PySem.W.nsIn K mainGlobals "_law_bent" = some (some (.ref fz12))) (lz12 : K.lookup fz12 = some ⟨ocz12, odz12, .func (PySem.W.fnOf "_law_bent" "_law_bent" (defArgs s__law_bent) (defBody s__law_bent) (defScope s__law_bent) .none kVz12 dcz12 pmz12 anz12 cdz12 ctz12), slz12⟩) (cz12 : PySem.W.codeIn K cdz12 "_law_bent" = true) (kz12 : PySem.W.keepIn K (.ref fz12) = true)
  (az13 : PySem.W.nsIn K mainGlobals "_law_spoilt" = some (some (.ref fz13))) (lz13 : K.lookup fz13 = some ⟨ocz13, odz13, .func (PySem.W.fnOf "_law_spoilt" "_law_spoilt" (defArgs s__law_spoilt) (defBody s__law_spoilt) (defScope s__law_spoilt) .none kVz13 dcz13 pmz13 anz13 cdz13 ctz13), slz13⟩) (cz13 : PySem.W.codeIn K cdz13 "_law_spoilt" = true) (kz13 : PySem.W.keepIn K (.ref fz13) = true)
  (az14 : PySem.W.nsIn K mainGlobals "law" = some (some (.ref fz14))) (lz14 : K.lookup fz14 = some ⟨ocz14, odz14, .func (PySem.W.fnOf "law" "law" (defArgs s_law) (defBody s_law) (defScope s_law) .none kVz14 dcz14 pmz14 anz14 cdz14 ctz14), slz14⟩) (cz14 : PySem.W.codeIn K cdz14 "law" = true) (kz14 : PySem.W.keepIn K (.ref fz14) = true)
  (qz3 : cdz3 = .ref 37) (hz3 : PySem.W.codeHdIn K 37 35 = true) (nz3 : K.lookup 35 = none)
  (z_len : PySem.W.nsIn K mainGlobals "len" = some none)
  (z_range : PySem.W.nsIn K mainGlobals "range" = some none)
  (z_tuple : PySem.W.nsIn K mainGlobals "tuple" = some none)
  (z_isinstance : PySem.W.nsIn K mainGlobals "isinstance" = some none)
  (z_list : PySem.W.nsIn K mainGlobals "list" = some none)
  (z_int : PySem.W.nsIn K mainGlobals "int" = some none)
  (z_max : PySem.W.nsIn K mainGlobals "max" = some none)
  (z_enumerate : PySem.W.nsIn K mainGlobals "enumerate" = some none)
  (z_bool : PySem.W.nsIn K mainGlobals "bool" = some none)
  (z_sorted : PySem.W.nsIn K mainGlobals "sorted" = some none)
  (z_all : PySem.W.nsIn K mainGlobals "all" = some none)
  (z_zip : PySem.W.nsIn K mainGlobals "zip" = some none)
  (tt : PySem.W.kitOne K (.type "tuple") (.type "tuple") = some true)
  (ii : PySem.W.kitOne K (.type "int") (.type "int") = some true)
  (ib : PySem.W.kitOne K (.type "int") (.type "bool") = some false)
  (bb : PySem.W.kitOne K (.type "bool") (.type "bool") = some true) :
  ∃ fd : FuncData, (∀ (s : Shared) (v : Value), BindsTo s fd ⟨[v], []⟩ [("script", v)]) ∧ ((∀ p ∈ tabs, K.lookup p.1 = none) ∧ (∀ p ∈ tabs, isCodeTable h p.1) ∧ (tabs.map (·.1)).Nodup) ∧ ∀ base : Heap, K.In base → base.Ns mainGlobals mg → Bs K mg base → FnOk l.prog w K mg base CX0 8 fa fd ["script"] (spLawT K tabs) := by
 have e := hfa.symm.trans (PySem.W.mg_of X G az14)
 cases e
 exact ⟨PySem.W.fnOf "law" "law" (defArgs s_law) (defBody s_law) (defScope s_law) .none kVz14 dcz14 pmz14 anz14 cdz14 ctz14, fun s v => .of_eq rfl, ⟨(List.forall_mem_cons.mpr ⟨nz3, (fun _ h => nomatch h)⟩), (List.forall_mem_cons.mpr ⟨isTab_of X hz3, (fun _ h => nomatch h)⟩), by decide⟩, fun base _ _ M => ok_law (fun_mk (st := s_law) lz14 cz14 kz14)
  ⟨fz0, _, (fun_mk (st := s_are_places) lz0 cz0 kz0), (fun_mk (st := s_are_places) lz0 cz0 kz0).binds (ps := ["numbers", "many"]) fun _ _ _ _ _ _ us hl => match us, hl with | [_, _], _ => rfl, PySem.W.mg_of X G az0,
   fz1, _, (fun_mk (st := s_cover) lz1 cz1 kz1), (fun_mk (st := s_cover) lz1 cz1 kz1).binds (ps := ["parts", "many"]) fun _ _ _ _ _ _ us hl => match us, hl with | [_, _], _ => rfl, PySem.W.mg_of X G az1,
   fz2, _, (fun_mk (st := s_many_ahead) lz2 cz2 kz2), (fun_mk (st := s_many_ahead) lz2 cz2 kz2).binds (ps := ["places", "lies_ahead"]) fun _ _ _ _ _ _ us hl => match us, hl with | [_, _], _ => rfl, PySem.W.mg_of X G az2,
   fz3, _, (fun_mk (st := s_paper_of) lz3 cz3 kz3), (fun_mk (st := s_paper_of) lz3 cz3 kz3).binds (ps := ["turn"]) fun _ _ _ _ _ _ us hl => match us, hl with | [_], _ => rfl, PySem.W.mg_of X G az3,
   fz4, _, (fun_mk (st := s_moves_shown) lz4 cz4 kz4), (fun_mk (st := s_moves_shown) lz4 cz4 kz4).binds (ps := ["turn", "paper"]) fun _ _ _ _ _ _ us hl => match us, hl with | [_, _], _ => rfl, PySem.W.mg_of X G az4,
   fz5, _, (fun_mk (st := s_numbers_rise) lz5 cz5 kz5), (fun_mk (st := s_numbers_rise) lz5 cz5 kz5).binds (ps := ["numbers", "places"]) fun _ _ _ _ _ _ us hl => match us, hl with | [_, _], _ => rfl, PySem.W.mg_of X G az5,
   fz6, _, (fun_mk (st := s__law_seed) lz6 cz6 kz6), (fun_mk (st := s__law_seed) lz6 cz6 kz6).binds (ps := ["cell"]) fun _ _ _ _ _ _ us hl => match us, hl with | [_], _ => rfl, PySem.W.mg_of X G az6,
   fz7, _, (fun_mk (st := s__law_draw) lz7 cz7 kz7), (fun_mk (st := s__law_draw) lz7 cz7 kz7).binds (ps := ["seed", "most"]) fun _ _ _ _ _ _ us hl => match us, hl with | [_, _], _ => rfl, PySem.W.mg_of X G az7,
   fz8, _, (fun_mk (st := s__law_turn) lz8 cz8 kz8), (fun_mk (st := s__law_turn) lz8 cz8 kz8).binds (ps := ["seed", "many"]) fun _ _ _ _ _ _ us hl => match us, hl with | [_, _], _ => rfl, PySem.W.mg_of X G az8,
   fz9, _, (fun_mk (st := s__law_many) lz9 cz9 kz9), (fun_mk (st := s__law_many) lz9 cz9 kz9).binds (ps := ["seed"]) fun _ _ _ _ _ _ us hl => match us, hl with | [_], _ => rfl, PySem.W.mg_of X G az9,
   fz10, _, (fun_mk (st := s__law_row) lz10 cz10 kz10), (fun_mk (st := s__law_row) lz10 cz10 kz10).binds (ps := ["turn", "places", "sign"]) fun _ _ _ _ _ _ us hl => match us, hl with | [_, _, _], _ => rfl, PySem.W.mg_of X G az10,
   fz11, _, (fun_mk (st := s__law_holds) lz11 cz11 kz11), (fun_mk (st := s__law_holds) lz11 cz11 kz11).binds (ps := ["turn", "paper"]) fun _ _ _ _ _ _ us hl => match us, hl with | [_, _], _ => rfl, PySem.W.mg_of X G az11,
   fz12, _, (fun_mk (st := s__law_bent) lz12 cz12 kz12), (fun_mk (st := s__law_bent) lz12 cz12 kz12).binds (ps := ["row", "seed", "many"]) fun _ _ _ _ _ _ us hl => match us, hl with | [_, _, _], _ => rfl, PySem.W.mg_of X G az12,
   fz13, _, (fun_mk (st := s__law_spoilt) lz13 cz13 kz13), (fun_mk (st := s__law_spoilt) lz13 cz13 kz13).binds (ps := ["turn", "paper", "seed"]) fun _ _ _ _ _ _ us hl => match us, hl with | [_, _, _], _ => rfl, PySem.W.mg_of X G az13,
   37, 35, qz3, hz3,
   PySem.W.mg_none_of X G z_len,
   PySem.W.mg_none_of X G z_range,
   PySem.W.mg_none_of X G z_tuple,
   PySem.W.mg_none_of X G z_isinstance,
   PySem.W.mg_none_of X G z_list,
   PySem.W.mg_none_of X G z_int,
   PySem.W.mg_none_of X G z_max,
   PySem.W.mg_none_of X G z_enumerate,
   PySem.W.mg_none_of X G z_bool,
   PySem.W.mg_none_of X G z_sorted,
   PySem.W.mg_none_of X G z_all,
   PySem.W.mg_none_of X G z_zip,
   tt,
   ii,
   ib,
   bb⟩ M⟩
theorem walk {l : PySem.W.OpenLaw} {q : Program} {loose : List Str} {XP : (Str → Option Value) → Heap → Prop} {YP : World → Heap → Prop} {d : DefRec} {K : Params → PySem.W.Frag} (hn : l.most = some 63) (hdf : d.params.defaults = [])
  (hY : ∀ (w : World) (h : Heap), YP w h → (K w.params).In h ∧ ∀ p ∈ tabs, h.get? p.1 = some { cls := .none, data := .fields #[] })
  (F : ∀ (w : World) (mg : Str → Option Value) (fa : Addr) (h : Heap), (K w.params).In h → h.Ns mainGlobals mg → mg d.name = some (.ref fa) →
   ∃ fd : FuncData, (∀ (s : Shared) (u : Value), BindsTo s fd ⟨[u], []⟩ [("script", u)]) ∧ ((∀ p ∈ tabs, (K w.params).lookup p.1 = none) ∧ (∀ p ∈ tabs, isCodeTable h p.1) ∧ (tabs.map (·.1)).Nodup) ∧ ∀ base : Heap, (K w.params).In base → base.Ns mainGlobals mg → Bs (K w.params) mg base → FnOk l.prog w (K w.params) mg base CX0 8 fa fd ["script"] (spLawT (K w.params) tabs)) :
  PySem.W.WalkO q loose XP YP l.row.toRowW d [] (fun f vs => PySem.call f vs) :=
 L2.walk_ofT (n := 63) (k := 8) (x := "script") (sp := fun w => spLawT (K w.params) tabs) (fun _ => tabs) hn (by decide) hdf ⟨rfl, by decide, by decide⟩ hY F (fun _ _ a ns hl hT hS => ⟨a, ns, rfl, hS, hl, hT, fun _ => rfl⟩)
end K64
def PySem.W.Fast.tw2970267403917822272 : Nat := 0
def PySem.W.Fast.tw7027407286234078177 : Nat := 0
def PySem.W.Fast.tw7342592740072112796 : Nat := 0
open PySem PySem.W PyProof.Rows
set_option maxRecDepth 100000 in
set_option maxHeartbeats 0 in
theorem PySem.Challenge.cw_ordertext_k64_paper_of_fewest_holds : PySem.Challenge.rw_ordertext_k64_paper_of_fewest.Holds := by
 w_on; o_law; k_head; (case hw => w_witness2)
 k_fill
 refine K64.walk (l := PySem.Challenge.rw_ordertext_k64_paper_of_fewest) rfl rfl (fun w h Y => ⟨PySem.W.km_in_of Y, (List.forall_mem_cons.mpr ⟨PySem.W.km_tabs_of Y _ (by first | k_mem | simp), (fun _ h => nomatch h)⟩)⟩) ?F
 case F =>
  intro w mg fa h KX G hmg
  refine' K64.all_mk KX G hmg ?az0 ?lz0 ?cz0 ?kz0 ?az1 ?lz1 ?cz1 ?kz1 ?az2 ?lz2 ?cz2 ?kz2 ?az3 ?lz3 ?cz3 ?kz3 ?az4 ?lz4 ?cz4 ?kz4 ?az5 ?lz5 ?cz5 ?kz5 ?az6 ?lz6 ?cz6 ?kz6 ?az7 ?lz7 ?cz7 ?kz7 ?az8 ?lz8 ?cz8 ?kz8 ?az9 ?lz9 ?cz9 ?kz9 ?az10 ?lz10 ?cz10 ?kz10 ?az11 ?lz11 ?cz11 ?kz11 ?az12 ?lz12 ?cz12 ?kz12 ?az13 ?lz13 ?cz13 ?kz13 ?az14 ?lz14 ?cz14 ?kz14 ?qz3 ?hz3 ?nz3 ?z_len ?z_range ?z_tuple ?z_isinstance ?z_list ?z_int ?z_max ?z_enumerate ?z_bool ?z_sorted ?z_all ?z_zip ?tt ?ii ?ib ?bb
  (case az0 => k_is)
  (case lz0 => k_is)
  (case cz0 => k_is)
  (case kz0 => k_is)
  (case az1 => k_is)
  (case lz1 => k_is)
  (case cz1 => k_is)
  (case kz1 => k_is)
  (case az2 => k_is)
  (case lz2 => k_is)
  (case cz2 => k_is)
  (case kz2 => k_is)
  (case az3 => k_is)
  (case lz3 => k_is)
  (case cz3 => k_is)
  (case kz3 => k_is)
  (case az4 => k_is)
  (case lz4 => k_is)
  (case cz4 => k_is)
  (case kz4 => k_is)
  (case az5 => k_is)
  (case lz5 => k_is)
  (case cz5 => k_is)
  (case kz5 => k_is)
  (case az6 => k_is)
  (case lz6 => k_is)
  (case cz6 => k_is)
  (case kz6 => k_is)
  (case az7 => k_is)
  (case lz7 => k_is)
  (case cz7 => k_is)
  (case kz7 => k_is)
  (case az8 => k_is)
  (case lz8 => k_is)
  (case cz8 => k_is)
  (case kz8 => k_is)
  (case az9 => k_is)
  (case lz9 => k_is)
  (case cz9 => k_is)
  (case kz9 => k_is)
  (case az10 => k_is)
  (case lz10 => k_is)
  (case cz10 => k_is)
  (case kz10 => k_is)
  (case az11 => k_is)
  (case lz11 => k_is)
  (case cz11 => k_is)
  (case kz11 => k_is)
  (case az12 => k_is)
  (case lz12 => k_is)
  (case cz12 => k_is)
  (case kz12 => k_is)
  (case az13 => k_is)
  (case lz13 => k_is)
  (case cz13 => k_is)
  (case kz13 => k_is)
  (case az14 => k_is)
  (case lz14 => k_is)
  (case cz14 => k_is)
  (case kz14 => k_is)
  (case qz3 => first | rfl | kernel_rfl | k_is)
  (case hz3 => first | rfl | kernel_rfl | k_is)
  (case nz3 => first | rfl | kernel_rfl | k_is)
  (case z_len => k_is)
  (case z_range => k_is)
  (case z_tuple => k_is)
  (case z_isinstance => k_is)
  (case z_list => k_is)
  (case z_int => k_is)
  (case z_max => k_is)
  (case z_enumerate => k_is)
  (case z_bool => k_is)
  (case z_sorted => k_is)
  (case z_all => k_is)
  (case z_zip => k_is)
  (case tt => first | kit_is | k_is | rfl)
  (case ii => first | kit_is | k_is | rfl)
  (case ib => first | kit_is | k_is | rfl)
  (case bb => first | kit_is | k_is | rfl)
