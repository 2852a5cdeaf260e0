import PyProof.Rows.All
import Wide.All
import OpenK.AllK
import Wide.FinOn
import Lean
import PyProof.EqAt
import PyProof.EqKinds
import PyProof.TupleCall
import PySem.Challenge.RW_ordertext_k12_whole_orders_of_things
set_option Elab.async false
set_option linter.all false
set_option maxRecDepth 100000
namespace L2
open PySem PySem.Spec PyProof.Rows
abbrev Key := Sum Int Str
def keyIs : Key → Value → Bool
  | .inl k, v => Value.isInt k v
  | .inr x, v => Value.isStrOf x v
def keyH (w : World) : Key → Int
  | .inl k => hashInt k
  | .inr x => hashStr w x
theorem keyIs_shape : ∀ {k : Key} {v : Value}, keyIs k v = true → (∃ i t, k = Sum.inl i ∧ v = Value.int i t) ∨ (∃ x t, k = Sum.inr x ∧ v = Value.str x t)
  | .inl i, v, h => by
    obtain ⟨t, e⟩ := Value.isInt_shape (k := i) (v := v) h
    exact .inl ⟨i, t, rfl, e⟩
  | .inr x, v, h => by
    obtain ⟨t, e⟩ := Value.isStrOf_shape (x := x) (v := v) h
    exact .inr ⟨x, t, rfl, e⟩
theorem keyIs_int (i : Int) (t : Tok) : keyIs (.inl i) (.int i t) = true := by simp [keyIs, Value.isInt]
theorem keyIs_str (x : Str) (t : Tok) : keyIs (.inr x) (.str x t) = true := by simp [keyIs, Value.isStrOf]
theorem key_ll (a b : Int) : decide ((Sum.inl a : Key) = Sum.inl b) = (a == b) := by
  by_cases e : a = b
  · subst e; simp
  · have h : ¬ (Sum.inl a : Key) = Sum.inl b := fun q => e (Sum.inl.inj q)
    rw [decide_eq_false h]
    exact (beq_eq_false_iff_ne.mpr e).symm
theorem key_rr (a b : Str) : decide ((Sum.inr a : Key) = Sum.inr b) = decide (a = b) := by
  by_cases e : a = b
  · subst e; simp
  · have h : ¬ (Sum.inr a : Key) = Sum.inr b := fun q => e (Sum.inr.inj q)
    rw [decide_eq_false h, decide_eq_false e]
theorem key_lr (a : Int) (b : Str) : decide ((Sum.inl a : Key) = Sum.inr b) = false := decide_eq_false (fun q => nomatch q)
theorem key_rl (a : Str) (b : Int) : decide ((Sum.inr a : Key) = Sum.inl b) = false := decide_eq_false (fun q => nomatch q)
def mixKind (prog : Program) (w : World) : PySem.KeyKind prog w Key where
  is := keyIs
  hash := keyH w
  inj := fun v a b ha hb => by
    rcases keyIs_shape ha with ⟨i, t, rfl, rfl⟩ | ⟨x, t, rfl, rfl⟩
    · rcases keyIs_shape hb with ⟨j, u, rfl, e⟩ | ⟨y, u, rfl, e⟩
      · injection e with e1 _; rw [e1]
      · exact nomatch e
    · rcases keyIs_shape hb with ⟨j, u, rfl, e⟩ | ⟨y, u, rfl, e⟩
      · exact nomatch e
      · injection e with e1 _; rw [e1]
  byValue := fun k v h => by
    rcases keyIs_shape h with ⟨i, t, rfl, rfl⟩ | ⟨x, t, rfl, rfl⟩ <;> rfl
  pyHash := fun hv h => by
    rcases keyIs_shape hv with ⟨i, t, rfl, rfl⟩ | ⟨x, t, rfl, rfl⟩
    · exact wpAny_pyHash_int h
    · exact wpAny_pyHash_str h
  eqBool := fun hu hv h => by
    rcases keyIs_shape hu with ⟨i, t, rfl, rfl⟩ | ⟨x, t, rfl, rfl⟩
    · rcases keyIs_shape hv with ⟨j, u, rfl, rfl⟩ | ⟨y, u, rfl, rfl⟩
      · rw [key_ll] at h; exact wpAny_eqBool_int h
      · rw [key_lr] at h; exact SeqAt.EqAt.int_str i t y u _ _ _ _ h
    · rcases keyIs_shape hv with ⟨j, u, rfl, rfl⟩ | ⟨y, u, rfl, rfl⟩
      · rw [key_rl] at h; exact SeqAt.EqAt.str_int x t j u _ _ _ _ h
      · rw [key_rr] at h; exact wpAny_eqBool_str h
  «strs» := fun k x t v h => by
    rcases keyIs_shape h with ⟨i, u, rfl, e⟩ | ⟨y, u, rfl, e⟩
    · exact nomatch e
    · injection e with e1 _
      subst e1
      cases v <;> rfl
theorem mixKind_int (prog : Program) (w : World) (i : Int) (t : Tok) : (mixKind prog w).is (.inl i) (.int i t) = true := keyIs_int i t
theorem mixKind_str (prog : Program) (w : World) (x : Str) (t : Tok) : (mixKind prog w).is (.inr x) (.str x t) = true := keyIs_str x t
end L2
namespace L2
open PySem PySem.Spec PyProof.Rows
inductive V where
  | non | bl (b : Bool) | int (i : Int) | str (x : Str) | byt (b : Array UInt8) | flt (b : UInt64) | ref (a : Addr) | ty (n : String)
  deriving DecidableEq
def RelV : V → Value → Prop
  | .non, u => u = Value.none
  | .bl b, u => u = Value.bool b
  | .int i, u => ∃ t, u = Value.int i t
  | .str x, u => ∃ t, u = Value.str x t
  | .byt b, u => ∃ t, u = Value.bytes b t
  | .flt b, u => ∃ t, u = Value.float b t
  | .ref a, u => u = Value.ref a
  | .ty n, u => u = Value.type n
abbrev Vals : List V → List Value → Prop := Paired RelV
theorem Vals.length {xs : List V} {us : List Value} (r : Vals xs us) : xs.length = us.length := Paired.length r
theorem Vals.get : ∀ {xs : List V} {us : List Value} {i : Nat} {x : V}, Vals xs us → xs[i]? = some x → ∃ u, us[i]? = some u ∧ RelV x u
  | _, _, _, _, .nil, e => by simp at e
  | _, _, 0, _, .cons r _, e => by simp at e; subst e; exact ⟨_, rfl, r⟩
  | _, _, i + 1, x, .cons _ t, e => by
    obtain ⟨u, h1, h2⟩ := Vals.get (i := i) (x := x) t (by simpa using e)
    exact ⟨u, by simpa using h1, h2⟩
theorem Vals.set {x : V} {u : Value} (r : RelV x u) : ∀ {xs : List V} {us : List Value} (i : Nat), Vals xs us → Vals (xs.set i x) (us.set i u)
  | _, _, _, .nil => .nil
  | _, _, 0, .cons _ t => .cons r t
  | _, _, i + 1, .cons q t => .cons q (Vals.set r i t)
theorem Vals.append : ∀ {xs ys : List V} {us ws : List Value}, Vals xs us → Vals ys ws → Vals (xs ++ ys) (us ++ ws)
  | _, _, _, _, .nil, s => s
  | _, _, _, _, .cons r t, s => .cons r (Vals.append t s)
theorem Vals.take : ∀ {xs : List V} {us : List Value} (n : Nat), Vals xs us → Vals (xs.take n) (us.take n)
  | _, _, 0, _ => .nil
  | _, _, _ + 1, .nil => .nil
  | _, _, n + 1, .cons r t => .cons r (Vals.take n t)
theorem Vals.drop : ∀ {xs : List V} {us : List Value} (n : Nat), Vals xs us → Vals (xs.drop n) (us.drop n)
  | _, _, 0, r => r
  | _, _, _ + 1, .nil => .nil
  | _, _, n + 1, .cons _ t => Vals.drop n t
theorem Vals.none_of : ∀ {xs : List V} {us : List Value} {i : Nat}, Vals xs us → xs[i]? = none → us[i]? = none := fun {xs us i} r e => by
  have h1 := r.length
  have h2 : xs.length ≤ i := List.getElem?_eq_none_iff.mp e
  exact List.getElem?_eq_none_iff.mpr (by omega)
def RelO : Option V → Option Value → Prop
  | some v, some u => RelV v u
  | none, none => True
  | _, _ => False
def KV {κ : Type} : List (κ × V) → List (κ × Value) → Prop := Paired fun (p : κ × V) (q : κ × Value) => p.1 = q.1 ∧ RelV p.2 q.2
def kV : Key → V
  | .inl i => .int i
  | .inr x => .str x
inductive HO where
  
  | lst (xs : List V)
  
  | tup (xs : List V)
  
  | dK (kvs : List (Key × V)) | dT (kvs : List (List Key × V))
  
  | set (S : Int → Bool) (n : Nat)
  
  | ins (C dx : Addr) (fs : List (Str × V))
  
  | own (x : Addr)
  
  | xd (fs : List (Str × V))
  
  | met (f x : Addr)
  
  | rng (lo hi : Int)
  
  | frz (o : Obj) (u : HO)
  
  | tbl (cr : Nat → Nat → Option Str)
  
  | ext (φ : Heap → Prop)
abbrev Hp := Addr → Option HO
def upd (H : Hp) (a : Addr) (o : HO) : Hp := fun b => if b = a then some o else H b
theorem upd_same {H : Hp} {a : Addr} {o : HO} : upd H a o a = some o := by unfold upd; rw [if_pos rfl]
theorem upd_ne {H : Hp} {a b : Addr} {o : HO} (h : b ≠ a) : upd H a o b = H b := by unfold upd; rw [if_neg h]
theorem ne_of {H : Hp} {a b : Addr} {o u : HO} (h : H a = some o) (h' : H b = some u) (d : o ≠ u) : a ≠ b := by
  intro e; subst e; rw [h] at h'; exact d (Option.some.inj h')
theorem ne_of_none {H : Hp} {a b : Addr} {o : HO} (h : H a = some o) (h' : H b = none) : a ≠ b := by
  intro e; subst e; rw [h] at h'; cases h'
def CodeOf (oc : Obj) (q : Str) : Prop := ∃ (vs : Array Value) (t : Tok), oc.data = .fields vs ∧ vs[1]? = some (.str q t)
def NoDict (h : Heap) (a : Addr) : Prop := ∃ o, h.get? a = some o ∧ o.dict = none
section
variable (P : Program) (w : World)
def ObjOk (H : Hp) (h : Heap) (a : Addr) : HO → Prop
  | .lst xs => xs.length ≤ sizeLine ∧ ∃ (its : List Value) (n : Nat), Vals xs its ∧ h.get? a = some { cls := .type "list", data := .seq its.toArray n }
  | .tup xs => xs.length ≤ sizeLine ∧ ∃ its : List Value, Vals xs its ∧ IsTup h a its.toArray ∧ NoDict h a
  | .dK kvs => kvs.length ≤ sizeLine ∧ (a == sysModules) = false ∧ ∃ vs, KV kvs vs ∧ h.DictOf (mixKind P w) a vs
  | .dT kvs => kvs.length ≤ sizeLine ∧ (a == sysModules) = false ∧ ∃ xs : List (List Key × Addr × Value),
      Paired (fun (p : List Key × V) (q : List Key × Addr × Value) => p.1 = q.1 ∧ H q.2.1 = some (.tup (p.1.map kV)) ∧ RelV p.2 q.2.2) kvs xs ∧
      ∃ o es ep, h.get? a = some o ∧ o.ExactDict ∧ o.data = .dict es ep ∧ es.toList = xs.map (entryOfKey (tupleKind (mixKind P w))) ∧ (xs.map (·.1)).Nodup
  | .set S n => h.SetOf (intKind P w) a S n
  | .ins C dx fs => H dx = some (.own a) ∧ fs.length ≤ 1000 ∧ dx ≠ a ∧ h.get? a = some (PySem.W.instObj C dx) ∧
      ∃ mA, h.Ns1 dx mA ∧ (∀ f, RelO (fs.lookup f) (mA f)) ∧ PySem.Within mA (fs.map (·.1))
  | .own _ => ∃ o, h.get? a = some o
  | .xd fs => ∃ mA, h.Ns1 a mA ∧ ∀ f, RelO (fs.lookup f) (mA f)
  | .rng lo hi => ∃ t u v, h.get? a = some { cls := .type "range", data := .fields #[.int lo t, .int hi u, .int 1 v] }
  | .frz o u => h.get? a = some o ∧ ObjOk H h a u
  | .tbl cr => ∃ ps : Array Value, h.get? a = some { cls := .none, data := .fields ps } ∧ TriplesOk ps.toList ∧ ∀ (pos : Pos) (v : Value), codeAmong pos ps.toList = some v →
      ∃ (c : Addr) (oc : Obj) (q : Str), v = .ref c ∧ cr pos.line pos.col = some q ∧ H c = some (.frz oc (.own c)) ∧ CodeOf oc q
  | .met f x => h.get? a = some (PySem.W.methodObj (.ref f) (.ref x))
  | .ext φ => φ h ∧ (∃ o, h.get? a = some o) ∧ ∀ h1 h2 : Heap, φ h1 → (∀ o, h1.get? a = some o → h2.get? a = some o) → φ h2
def HOk (H : Hp) (h : Heap) : Prop := ∀ a o, H a = some o → ObjOk P w H h a o
end
section
variable {P : Program} {w : World} {H H' : Hp} {h h' : Heap} {a : Addr} {o : HO}
theorem ObjOk.lt (x : ObjOk P w H h a o) : a < h.objs.size := by
  cases o with
  | lst xs => obtain ⟨_, _, _, _, e⟩ := x; exact Heap.lt_size e
  | tup xs => obtain ⟨_, _, _, p, _⟩ := x; exact p.lt
  | dK kvs => obtain ⟨_, _, _, _, o, _, _, e, _⟩ := x; exact Heap.lt_size e
  | dT kvs => obtain ⟨_, _, _, _, o, _, _, e, _⟩ := x; exact Heap.lt_size e
  | set S n => obtain ⟨o, _, _, _, e, _⟩ := x; exact Heap.lt_size e
  | ins C dx fs => obtain ⟨_, _, _, e, _⟩ := x; exact Heap.lt_size e
  | own y => obtain ⟨_, e⟩ := x; exact Heap.lt_size e
  | xd fs => obtain ⟨_, ⟨_, _, _, e, _⟩, _⟩ := x; exact Heap.lt_size e
  | rng lo hi => obtain ⟨_, _, _, e⟩ := x; exact Heap.lt_size e
  | frz ob u => obtain ⟨e, _⟩ := x; exact Heap.lt_size e
  | tbl cr => obtain ⟨_, e, _⟩ := x; exact Heap.lt_size e
  | met f y => exact Heap.lt_size (show h.get? a = some _ from x)
  | ext φ => obtain ⟨_, ⟨_, e⟩, _⟩ := x; exact Heap.lt_size e
theorem Paired.mapP {α β : Type} {F G : α → β → Prop} : ∀ {l₁ : List α} {l₂ : List β}, Paired F l₁ l₂ → (∀ a b, F a b → G a b) → Paired G l₁ l₂
  | _, _, .nil, _ => .nil
  | _, _, .cons r t, f => .cons (f _ _ r) (Paired.mapP t f)
theorem ObjOk.stay (x : ObjOk P w H h a o) (k : ∀ b u, (b = a ∨ H b = some (.own a)) → h.get? b = some u → h'.get? b = some u)
    (ho : ∀ b, H b = some (.own a) → H' b = some (.own a)) (ht : ∀ b xs, H b = some (.tup xs) → H' b = some (.tup xs)) (hz : ∀ b o u, H b = some (.frz o u) → H' b = some (.frz o u)) : ObjOk P w H' h' a o := by
  induction o with
  | lst xs => obtain ⟨z, its, n, r, e⟩ := x; exact ⟨z, its, n, r, k _ _ (.inl rfl) e⟩
  | tup xs => obtain ⟨z, its, r, ⟨ob, e, c⟩, od, e', d'⟩ := x; exact ⟨z, its, r, ⟨ob, k _ _ (.inl rfl) e, c⟩, od, k _ _ (.inl rfl) e', d'⟩
  | dK kvs => obtain ⟨z, y, vs, r, ob, es, ep, e, c⟩ := x; exact ⟨z, y, vs, r, ob, es, ep, k _ _ (.inl rfl) e, c⟩
  | dT kvs =>
    obtain ⟨z, y, xs, r, ob, es, ep, e, c⟩ := x
    exact ⟨z, y, xs, Paired.mapP r fun p q z => ⟨z.1, ht _ _ z.2.1, z.2.2⟩, ob, es, ep, k _ _ (.inl rfl) e, c⟩
  | set S n => obtain ⟨ob, es, ep, t, e, c⟩ := x; exact ⟨ob, es, ep, t, k _ _ (.inl rfl) e, c⟩
  | ins C dx fs =>
    obtain ⟨d, z, ne, e, mA, ⟨od, es, ep, e2, c⟩, r⟩ := x
    exact ⟨ho _ d, z, ne, k _ _ (.inl rfl) e, mA, ⟨od, es, ep, k _ _ (.inr d) e2, c⟩, r⟩
  | own y => obtain ⟨ob, e⟩ := x; exact ⟨ob, k _ _ (.inl rfl) e⟩
  | xd fs => obtain ⟨mA, ⟨od, es, ep, e, c⟩, r⟩ := x; exact ⟨mA, ⟨od, es, ep, k _ _ (.inl rfl) e, c⟩, r⟩
  | rng lo hi => obtain ⟨t, u, v, e⟩ := x; exact ⟨t, u, v, k _ _ (.inl rfl) e⟩
  | frz ob u ih => obtain ⟨e, q⟩ := x; exact ⟨k _ _ (.inl rfl) e, ih q⟩
  | tbl cr =>
    obtain ⟨ps, e, ht3, hc⟩ := x
    exact ⟨ps, k a _ (.inl rfl) e, ht3, fun pos v q => let ⟨c, oc, z, h1, h2, h3, h4⟩ := hc pos v q; ⟨c, oc, z, h1, h2, hz _ _ _ h3, h4⟩⟩
  | met f y =>
    have e : h.get? a = some (PySem.W.methodObj (.ref f) (.ref y)) := x
    show h'.get? a = some (PySem.W.methodObj (.ref f) (.ref y))
    exact k a _ (.inl rfl) e
  | ext φ => obtain ⟨p, ⟨o, e⟩, st⟩ := x; exact ⟨st _ _ p fun o q => k _ _ (.inl rfl) q, ⟨o, k _ _ (.inl rfl) e⟩, st⟩
theorem HOk.lt (x : HOk P w H h) (e : H a = some o) : a < h.objs.size := (x a o e).lt
theorem HOk.fresh (x : HOk P w H h) (e : h.objs.size ≤ a) : H a = none := by
  cases q : H a with
  | none => rfl
  | some u => exact absurd (Nat.lt_of_lt_of_le (x.lt q) e) (Nat.lt_irrefl _)
theorem HOk.kept (x : HOk P w H h) (k : ∀ b u, h.get? b = some u → h'.get? b = some u) : HOk P w H h' := fun a o e =>
  (x a o e).stay (fun b u _ q => k b u q) (fun _ q => q) (fun _ _ q => q) fun _ _ _ q => q
theorem HOk.laid (x : HOk P w H h) (k : ∀ b u, h.get? b = some u → h'.get? b = some u) (hp : h.objs.size ≤ a) (new : ObjOk P w (upd H a o) h' a o) : HOk P w (upd H a o) h' := fun b u e => by
  have hn := x.fresh hp
  by_cases hb : b = a
  · subst hb; rw [upd_same] at e; cases e; exact new
  · rw [upd_ne hb] at e
    exact (x b u e).stay (fun c v _ q => k c v q) (fun c q => by rw [upd_ne (ne_of_none q hn)]; exact q) (fun c xs q => by rw [upd_ne (ne_of_none q hn)]; exact q) fun c o u q => by rw [upd_ne (ne_of_none q hn)]; exact q
end
def Rd (H : Hp) (a : Addr) (u : HO) : Prop := H a = some u ∨ ∃ o, H a = some (.frz o u)
theorem Rd.of {H : Hp} {a : Addr} {u : HO} (h : H a = some u) : Rd H a u := .inl h
theorem Rd.ok {P : Program} {w : World} {H : Hp} {h : Heap} {a : Addr} {u : HO} (r : Rd H a u) (x : HOk P w H h) : ObjOk P w H h a u := by
  rcases r with r | ⟨o, r⟩
  · exact x a u r
  · obtain ⟨_, q⟩ := x a _ r
    exact q
def Mut : Option HO → Prop
  | some (.lst _) => True
  | some (.dK _) => True
  | some (.dT _) => True
  | some (.set _ _) => True
  | some (.ins _ _ _) => True
  | some (.ext _) => True
  | _ => False
section
variable {P : Program} {w : World} {H : Hp} {h h' : Heap} {x e : Addr} {o' : HO}
theorem HOk.write (ok : HOk P w H h) (mu : Mut (H x)) (he : e = x ∨ H e = some (.own x)) (k : ∀ b u, b ≠ e → h.get? b = some u → h'.get? b = some u) (heo : ∃ u, h'.get? e = some u)
    (new : ObjOk P w (upd H x o') h' x o') : HOk P w (upd H x o') h' := fun b u q => by
  have nown : ∀ c y, H c = some (.own y) → c ≠ x := fun c y r z => by subst z; rw [r] at mu; exact mu
  have ntup : ∀ c xs, H c = some (.tup xs) → c ≠ x := fun c xs r z => by subst z; rw [r] at mu; exact mu
  have nfrz : ∀ c o u, H c = some (.frz o u) → c ≠ x := fun c o u r z => by subst z; rw [r] at mu; exact mu
  by_cases hb : b = x
  · subst hb; rw [upd_same] at q; cases q; exact new
  · rw [upd_ne hb] at q
    by_cases hbe : b = e
    · have q' : H b = some (.own x) := by
        rcases he with z | z
        · exact absurd (hbe.trans z) hb
        · rw [hbe]; exact z
      rw [q] at q'; cases q'
      obtain ⟨v, hv⟩ := heo
      exact ⟨v, by rw [hbe]; exact hv⟩
    · refine (ok b u q).stay (fun c v hc r => k c v ?_ r) (fun c r => by rw [upd_ne (nown c b r)]; exact r) (fun c xs r => by rw [upd_ne (ntup c xs r)]; exact r) fun c o u r => by rw [upd_ne (nfrz c o u r)]; exact r
      rcases hc with rfl | hc
      · exact hbe
      · rintro rfl
        rcases he with z | z
        · exact nown c b hc z
        · rw [hc] at z; cases z; exact hb rfl
end
structure Un (fs ex : List Addr) (H H' : Hp) (h h' : Heap) : Prop where
  keep : ∀ b o, h.get? b = some o → H b = none → b ∉ fs → b ∉ ex → h'.get? b = some o
  slot : ∀ b o, h.get? b = some o → H b = none → b ∈ fs → b ∉ ex → ∃ sl, h'.get? b = some { o with slots := sl }
  free : ∀ b o, h.get? b = some o → H b = none → b ∉ ex → H' b = none
  there : ∀ b o, h.get? b = some o → b ∉ ex → ∃ o', h'.get? b = some o'
  tups : ∀ b xs, H b = some (.tup xs) → H' b = some (.tup xs)
  frzs : ∀ b o u, H b = some (.frz o u) → H' b = some (.frz o u)
  tbls : ∀ b cr, H b = some (.tbl cr) → H' b = some (.tbl cr)
section
variable {fs fs' ex ex' : List Addr} {H H1 H2 : Hp} {h h1 h2 h' : Heap} {a x e : Addr} {o : HO}
theorem Un.any (u : Un fs ex H H1 h h1) {b : Addr} {ob : Obj} (q : h.get? b = some ob) (n : H b = none) (hx : b ∉ ex) : ∃ sl, h1.get? b = some { ob with slots := sl } := by
  by_cases hb : b ∈ fs
  · exact u.slot b ob q n hb hx
  · exact ⟨ob.slots, u.keep b ob q n hb hx⟩
theorem Un.trans (a : Un fs ex H H1 h h1) (b : Un fs ex H1 H2 h1 h2) : Un fs ex H H2 h h2 where
  keep := fun c ob q n hc hx => b.keep c ob (a.keep c ob q n hc hx) (a.free c ob q n hx) hc hx
  slot := fun c ob q n hc hx => by
    obtain ⟨sl, e1⟩ := a.slot c ob q n hc hx
    obtain ⟨sl', e2⟩ := b.slot c _ e1 (a.free c ob q n hx) hc hx
    exact ⟨sl', e2⟩
  free := fun c ob q n hx => by
    obtain ⟨o', e1⟩ := a.there c ob q hx
    exact b.free c o' e1 (a.free c ob q n hx) hx
  there := fun c ob q hx => by
    obtain ⟨o', e1⟩ := a.there c ob q hx
    exact b.there c o' e1 hx
  tups := fun c xs q => b.tups c xs (a.tups c xs q)
  frzs := fun c ob xs q => b.frzs c ob xs (a.frzs c ob xs q)
  tbls := fun c cr q => b.tbls c cr (a.tbls c cr q)
theorem Un.kept (k : ∀ b u, h.get? b = some u → h'.get? b = some u) : Un fs ex H H h h' :=
  ⟨fun b ob q _ _ _ => k b ob q, fun b ob q _ _ _ => ⟨ob.slots, k b ob q⟩, fun _ _ _ n _ => n, fun b ob q _ => ⟨ob, k b ob q⟩, fun _ _ q => q, fun _ _ _ q => q, fun _ _ q => q⟩
theorem Un.refl : Un fs ex H H h h := Un.kept fun _ _ q => q
theorem Un.laid (k : ∀ b u, h.get? b = some u → h'.get? b = some u) (hp : h.objs.size ≤ a) (hn : H a = none) : Un fs ex H (upd H a o) h h' where
  keep := fun b u q _ _ _ => k b u q
  slot := fun b u q _ _ _ => ⟨u.slots, k b u q⟩
  free := fun b u q n _ => by rw [upd_ne (Nat.ne_of_lt (Nat.lt_of_lt_of_le (Heap.lt_size q) hp))]; exact n
  there := fun b u q _ => ⟨u, k b u q⟩
  tups := fun b xs q => by rw [upd_ne (ne_of_none q hn)]; exact q
  frzs := fun b u xs q => by rw [upd_ne (ne_of_none q hn)]; exact q
  tbls := fun b cr q => by rw [upd_ne (ne_of_none q hn)]; exact q
theorem Un.write (mu : Mut (H x)) (he : e = x ∨ H e = some (.own x)) (k : ∀ b u, b ≠ e → h.get? b = some u → h'.get? b = some u) (heo : ∃ u, h'.get? e = some u) : Un fs ex H (upd H x o) h h' := by
  have hx : ∀ b, H b = none → b ≠ x := fun b n z => by subst z; rw [n] at mu; exact mu
  have hb : ∀ b, H b = none → b ≠ e := fun b n z => by
    subst z
    rcases he with r | r
    · exact hx b n r
    · rw [n] at r; cases r
  have hm : ∀ b u, H b = some u → ¬ Mut (some u) → b ≠ x := fun b u q nm z => by subst z; rw [q] at mu; exact nm mu
  refine ⟨fun b u q n _ _ => k b u (hb b n) q, fun b u q n _ _ => ⟨u.slots, k b u (hb b n) q⟩, fun b u q n _ => by rw [upd_ne (hx b n)]; exact n, fun b u q _ => ?_,
    fun b xs q => by rw [upd_ne (hm b _ q fun z => z)]; exact q, fun b u xs q => by rw [upd_ne (hm b _ q fun z => z)]; exact q, fun b cr q => by rw [upd_ne (hm b _ q fun z => z)]; exact q⟩
  by_cases hbe : b = e
  · subst hbe; exact heo
  · exact ⟨u, k b u hbe q⟩
theorem Un.mono (u : Un fs ex H H1 h h1) (hs : ∀ b ∈ fs, b ∈ fs') (hx : ∀ b ∈ ex, b ∈ ex') : Un fs' ex' H H1 h h1 :=
  ⟨fun b ob q n hb he => u.keep b ob q n (fun z => hb (hs b z)) fun z => he (hx b z), fun _ _ q n _ he => u.any q n fun z => he (hx _ z), fun b ob q n he => u.free b ob q n fun z => he (hx b z), fun b ob q he => u.there b ob q fun z => he (hx b z), u.tups, u.frzs, u.tbls⟩
end
def trk (h : Heap) (H : Hp) : List Addr := (List.range h.objs.size).filter fun a => (H a).isSome
def hidT (h : Heap) (H : Hp) : Heap := PySem.W.hideAll h (trk h H)
theorem hidT_size (h : Heap) (H : Hp) : (hidT h H).objs.size = h.objs.size := PySem.W.hideAll_size _ _
theorem hidT_get {h : Heap} {H : Hp} {b : Addr} {o : Obj} (e : h.get? b = some o) (n : H b = none) : (hidT h H).get? b = some o :=
  PySem.W.hideAll_get _ e fun hm => by
    have q : (H b).isSome = true := (List.mem_filter.mp hm).2
    rw [n] at q; simp at q
theorem of_hidT {h : Heap} {H : Hp} {b : Addr} {o : Obj} (e : (hidT h H).get? b = some o) : h.get? b = some o ∧ H b = none := by
  have e' : h.get? b = some o := PySem.W.of_hideAll (trk h H) e
  refine ⟨e', ?_⟩
  cases q : H b with
  | none => rfl
  | some x =>
    have hm : b ∈ trk h H := List.mem_filter.mpr ⟨List.mem_range.mpr (Heap.lt_size e'), by simp [q]⟩
    have z : (hidT h H).get? b = none := PySem.W.hideAll_none (trk h H) hm
    rw [z] at e; cases e
def allNews (g h : Heap) (L : Addr) : List (Addr × Obj) := (List.range h.objs.size).filterMap fun a => if a = L ∨ (g.get? a).isSome = true then none else (h.get? a).map fun o => (a, o)
def rest (g h : Heap) (L d : Addr) : List (Addr × Obj) := (allNews g h L).filter fun p => decide (p.1 ≠ d)
end L2
namespace L2
open PySem PySem.Spec PyProof.Rows
structure Mod (K : PySem.W.Frag) (mg : Str → Option Value) (base : Heap) : Prop where
  kin : K.In base
  glob : base.Ns mainGlobals mg
  blt : ∃ mb, base.Ns builtinsNs mb ∧ ∀ x : Str, x ≠ "__name__" → mb x = bootBuiltins x
  nolimit : base.NoLimit
structure Cx where
  prog : Program
  w : World
  K : PySem.W.Frag
  mg : Str → Option Value
  base : Heap
  A : Around
  N : List Str
  s₀ : Shared
  H₀ : Hp
  env : Env
  outer : List Env
  stack : List Env
  ex : List Addr
  fn : Str → Bool
  calm : Bool
  pn : List (Addr × Obj)
  xe : Value → Shared → Prop
def frs (l : List Env) : List Addr := l.filterMap (·.frame)
abbrev Cx.fs (X : Cx) : List Addr := frs X.outer
def Vis (sc : Scope) (x : Str) : Prop := sc.names.lookup x = some .local ∨ sc.names.lookup x = some .cell ∨ sc.names.lookup x = some .free
def Loc (sc : Scope) (x : Str) : Prop := sc.names.lookup x = some .local ∨ sc.names.lookup x = some .cell
def Look (env : Env) (h : Heap) (m : Str → Option Value) (x : Str) (u : Value) : Prop :=
  (env.kindOf x = some .local ∧ m x = some u) ∨ ((env.kindOf x = some .cell ∨ env.kindOf x = some .free) ∧ ∃ c, env.cells.lookup x = some c ∧ h.IsCell c (some u))
structure Cx.Ok (X : Cx) : Prop where
  mod : Mod X.K X.mg X.base
  kind : X.env.scope.kind = .function
  glob : X.env.globals = mainGlobals
  blt : X.env.builtins = builtinsNs
  above : X.s₀.heap.objs.size ≤ X.env.locals
  inj : ∀ x y c, X.env.cells.lookup x = some c → X.env.cells.lookup y = some c → x = y
  has : ∀ x, (X.env.kindOf x = some .cell ∨ X.env.kindOf x = some .free) → ∃ c, X.env.cells.lookup x = some c
  cab : ∀ x c, X.fn x = true → X.env.cells.lookup x = some c → X.s₀.heap.objs.size ≤ c
  hd : X.calm = true → X.A.handled = none
  frames : X.A.frames = some X.stack
  stk : X.stack = X.outer ∨ (X.stack = X.env :: X.outer ∧ X.env.frame = some X.env.locals)
  exf : ∀ b ∈ X.ex, b ≠ X.env.locals ∧ ∀ x c, X.env.cells.lookup x = some c → c ≠ b
  bs : ∀ b o, X.base.get? b = some o → X.s₀.heap.get? b = some o ∧ X.H₀ b = none
  bsz : X.base.objs.size ≤ X.s₀.heap.objs.size
  noex : ∀ b o, X.base.get? b = some o → b ∉ X.ex
  exfs : ∀ b ∈ X.ex, b ∉ X.fs
  funs : X.s₀.heap.FunFrames X.base X.outer
  frf : ∀ b ∈ X.fs, X.H₀ b = none
structure Inv (X : Cx) (pins : List (Addr × Obj)) (σ : List (Option V)) (H : Hp) (s : Shared) : Prop where
  ok : X.Ok
  os : s.os = X.s₀.os
  bare : AllBare s.gens
  base : Un X.fs X.ex X.H₀ H X.s₀.heap s.heap
  loc : ∃ m, s.heap.Ns X.env.locals m ∧ ∀ (i : Nat) (x : Str) (v : V), X.N[i]? = some x → σ[i]? = some (some v) → Vis X.env.scope x → ∃ u, RelV v u ∧ Look X.env s.heap m x u
  cell : ∀ x c, X.env.cells.lookup x = some c → ∃ v, s.heap.IsCell c v
  free : H X.env.locals = none
  freeC : ∀ x c, X.env.cells.lookup x = some c → H c = none
  pin : ∀ p ∈ X.pn ++ pins, s.heap.get? p.1 = some p.2 ∧ H p.1 = none ∧ p.1 ≠ X.env.locals ∧ p.1 ∉ X.fs ∧ ∀ v, p.2.data ≠ .cell v
  hok : HOk X.prog X.w H s.heap
  len : σ.length = X.N.length
section
variable {X : Cx} {pins : List (Addr × Obj)} {σ : List (Option V)} {H H' : Hp} {s : Shared} {h' : Heap}
theorem Cx.Ok.nofr (ok : X.Ok) {b : Addr} {o : Obj} (e : X.base.get? b = some o) : b ∉ X.fs := fun hb => by
  have := (ok.funs.mem hb).1
  rw [e] at this; cases this
theorem Inv.bs (I : Inv X pins σ H s) : ∀ b o, X.base.get? b = some o → s.heap.get? b = some o ∧ H b = none := fun b o e =>
  ⟨I.base.keep b o (I.ok.bs b o e).1 (I.ok.bs b o e).2 (I.ok.nofr e) (I.ok.noex b o e), I.base.free b o (I.ok.bs b o e).1 (I.ok.bs b o e).2 (I.ok.noex b o e)⟩
theorem Inv.bk (I : Inv X pins σ H s) : ∀ b o, X.base.get? b = some o → s.heap.get? b = some o := fun b o e => (I.bs b o e).1
theorem Inv.mod (I : Inv X pins σ H s) : Mod X.K X.mg X.base := I.ok.mod
theorem Inv.kIn (I : Inv X pins σ H s) : X.K.In s.heap := I.ok.mod.kin.keeps I.bk
theorem Inv.nolimit (I : Inv X pins σ H s) : s.heap.NoLimit := I.ok.mod.nolimit.keeps I.bk
theorem Inv.fr (I : Inv X pins σ H s) : ∃ m, Fr X.base X.env.locals s.heap m :=
  let ⟨m, hn, _⟩ := I.loc
  ⟨m, hn, I.bk, Nat.le_trans I.ok.bsz I.ok.above⟩
theorem Inv.lt (I : Inv X pins σ H s) : X.env.locals < s.heap.objs.size := let ⟨_, hn, _⟩ := I.loc; hn.lt
theorem Inv.sz (I : Inv X pins σ H s) : X.s₀.heap.objs.size ≤ s.heap.objs.size := Nat.le_trans I.ok.above (Nat.le_of_lt I.lt)
theorem Inv.nofs (I : Inv X pins σ H s) {a : Addr} (h : s.heap.objs.size ≤ a) : a ∉ X.fs := fun hb => by
  obtain ⟨_, o, ho, _⟩ := I.ok.funs.mem hb
  exact absurd (Nat.lt_of_lt_of_le (Heap.lt_size ho) (Nat.le_trans I.sz h)) (Nat.lt_irrefl _)
theorem Inv.cne (I : Inv X pins σ H s) : ∀ x c, X.env.cells.lookup x = some c → c ≠ X.env.locals := fun x c e z => by
  obtain ⟨v, o, ho, hd⟩ := I.cell x c e
  obtain ⟨m, ⟨o', es, ep, ho', hd', _⟩, _⟩ := I.loc
  rw [z, ho'] at ho; cases ho; rw [hd'] at hd; cases hd
theorem Inv.funs (I : Inv X pins σ H s) : s.heap.FunFrames X.base X.outer := by
  have all : ∀ (l : List Env), (∀ b ∈ frs l, b ∈ X.fs) → X.s₀.heap.FunFrames X.base l → s.heap.FunFrames X.base l := by
    intro l
    induction l with
    | nil => intro _ _; trivial
    | cons env r ih =>
      intro hs hl
      obtain ⟨hk, ⟨L, o, hf, hn, ho, hd⟩, hr⟩ := hl
      have hL : L ∈ X.fs := hs L (by unfold frs; rw [List.filterMap_cons, hf]; exact List.mem_cons_self)
      obtain ⟨sl, e⟩ := I.base.slot L o ho (I.ok.frf L hL) hL fun z => I.ok.exfs L z hL
      exact ⟨hk, ⟨L, _, hf, hn, e, hd⟩, ih (fun b hb => hs b (by unfold frs; rw [List.filterMap_cons, hf]; exact List.mem_cons_of_mem _ hb)) hr⟩
  exact all X.outer (fun _ hb => hb) I.ok.funs
theorem Inv.stack (I : Inv X pins σ H s) : s.heap.FunFrames X.base X.stack := by
  rcases I.ok.stk with e | ⟨e, hf⟩
  · rw [e]; exact I.funs
  · rw [e]
    obtain ⟨m, hn, _⟩ := I.loc
    refine .cons (by rw [I.ok.kind]; decide) hf hn ?_ I.funs
    exact Heap.get?_none_of_le (Nat.le_trans I.ok.bsz I.ok.above)
theorem Inv.stkSub (I : Inv X pins σ H s) : ∀ b ∈ frs X.stack, b ∈ X.env.locals :: X.fs := fun b hb => by
  rcases I.ok.stk with e | ⟨e, hf⟩
  · rw [e] at hb; exact List.mem_cons_of_mem _ hb
  · rw [e] at hb
    unfold frs at hb
    rw [List.filterMap_cons, hf] at hb
    exact hb
theorem Inv.stkFree (I : Inv X pins σ H s) : ∀ b ∈ frs X.stack, H b = none := fun b hb => by
  rcases List.mem_cons.mp (I.stkSub b hb) with e | hb
  · rw [e]; exact I.free
  · obtain ⟨_, o, ho, _⟩ := I.ok.funs.mem hb
    exact I.base.free b o ho (I.ok.frf b hb) fun z => I.ok.exfs b z hb
theorem Inv.step {g' : Array GenState} {t' : Nat} {d' : Drawn} {ch : List Addr} (I : Inv X pins σ H s)
    (hch : ∀ b ∈ ch, (b ∈ X.ex ∨ X.s₀.heap.objs.size ≤ b) ∧ b ≠ X.env.locals ∧ (∀ x c, X.env.cells.lookup x = some c → c ≠ b) ∧ ∀ p ∈ X.pn ++ pins, p.1 ≠ b)
    (keep : ∀ b o, b ≠ X.env.locals → b ∉ X.fs → b ∉ ch → s.heap.get? b = some o → H b = none → h'.get? b = some o)
    (slot : ∀ b o, b ≠ X.env.locals → b ∈ X.fs → b ∉ ch → s.heap.get? b = some o → H b = none → ∃ sl, h'.get? b = some { o with slots := sl }) (free : ∀ b o, b ∉ ch → s.heap.get? b = some o → H b = none → H' b = none)
    (there : ∀ b o, b ∉ ch → s.heap.get? b = some o → ∃ o', h'.get? b = some o')
    (tups : ∀ b xs, H b = some (.tup xs) → H' b = some (.tup xs)) (frzs : ∀ b o u, H b = some (.frz o u) → H' b = some (.frz o u)) (tbls : ∀ b cr, H b = some (.tbl cr) → H' b = some (.tbl cr))
    (ns : ∀ m, s.heap.Ns X.env.locals m → h'.Ns X.env.locals m) (hok : HOk X.prog X.w H' h') (hg : AllBare g') :
    Inv X pins σ H' { s with heap := h', gens := g', drawn := d', toks := t' } := by
  have neL : ∀ b o, X.s₀.heap.get? b = some o → b ≠ X.env.locals := fun b o e => Nat.ne_of_lt (Nat.lt_of_lt_of_le (Heap.lt_size e) I.ok.above)
  have neC : ∀ b o, X.s₀.heap.get? b = some o → b ∉ X.ex → b ∉ ch := fun b o e hx hb => by
    rcases (hch b hb).1 with z | z
    · exact hx z
    · exact absurd (Nat.lt_of_lt_of_le (Heap.lt_size e) z) (Nat.lt_irrefl _)
  have cellK : ∀ x c, X.env.cells.lookup x = some c → ∀ v, s.heap.IsCell c v → h'.IsCell c v := fun x c e v ⟨o, ho, hd⟩ => by
    have nch : c ∉ ch := fun z => (hch c z).2.2.1 x c e rfl
    by_cases hc : c ∈ X.fs
    · obtain ⟨sl, q⟩ := slot c o (I.cne x c e) hc nch ho (I.freeC x c e)
      exact ⟨_, q, hd⟩
    · exact ⟨o, keep c o (I.cne x c e) hc nch ho (I.freeC x c e), hd⟩
  refine ⟨I.ok, I.os, hg, ⟨fun b o e n hb hx => ?_, fun b o e n hb hx => ?_, fun b o e n hx => ?_, fun b o e hx => ?_, fun b xs e => tups b xs (I.base.tups b xs e), fun b o xs e => frzs b o xs (I.base.frzs b o xs e), fun b ps e => ?_⟩, ?_, fun x c e => ?_, ?_, fun x c e => ?_, fun p hp => ?_, hok, I.len⟩
  · exact keep b o (neL b o e) hb (neC b o e hx) (I.base.keep b o e n hb hx) (I.base.free b o e n hx)
  · obtain ⟨sl, e1⟩ := I.base.slot b o e n hb hx
    obtain ⟨sl', e2⟩ := slot b _ (neL b o e) hb (neC b o e hx) e1 (I.base.free b o e n hx)
    exact ⟨sl', e2⟩
  · obtain ⟨o', e1⟩ := I.base.there b o e hx
    exact free b o' (neC b o e hx) e1 (I.base.free b o e n hx)
  · obtain ⟨o', e1⟩ := I.base.there b o e hx
    exact there b o' (neC b o e hx) e1
  · exact tbls b ps (I.base.tbls b ps e)
  · obtain ⟨m, hn, hl⟩ := I.loc
    refine ⟨m, ns m hn, fun i x v e1 e2 e3 => ?_⟩
    obtain ⟨u, r, l⟩ := hl i x v e1 e2 e3
    refine ⟨u, r, ?_⟩
    rcases l with l | ⟨k, c, e, z⟩
    · exact .inl l
    · exact .inr ⟨k, c, e, cellK x c e _ z⟩
  · obtain ⟨v, z⟩ := I.cell x c e
    exact ⟨v, cellK x c e v z⟩
  · obtain ⟨m, ⟨o, _, _, ho, _⟩, _⟩ := I.loc
    exact free _ o (fun z => (hch _ z).2.1 rfl) ho I.free
  · obtain ⟨v, o, ho, hd⟩ := I.cell x c e
    exact free c o (fun z => (hch c z).2.2.1 x c e rfl) ho (I.freeC x c e)
  · obtain ⟨e, n, ne, nf, d⟩ := I.pin p hp
    have nch : p.1 ∉ ch := fun z => (hch p.1 z).2.2.2 p hp rfl
    exact ⟨keep p.1 p.2 ne nf nch e n, free p.1 p.2 nch e n, ne, nf, d⟩
theorem Inv.un {t' : Nat} (I : Inv X pins σ H s) (u : Un X.fs [] H H' s.heap h') (hok : HOk X.prog X.w H' h') : Inv X pins σ H' { s with heap := h', toks := t' } := by
  obtain ⟨m, ⟨o, es, ep, ho, r⟩, _⟩ := id I.loc
  obtain ⟨sl, hL⟩ := u.any ho I.free (by simp)
  exact I.step (g' := s.gens) (d' := s.drawn) (ch := []) (fun _ z => nomatch z) (fun b o _ hb _ e n => u.keep b o e n hb (by simp)) (fun b o _ hb _ e n => u.slot b o e n hb (by simp)) (fun b o _ e n => u.free b o e n (by simp)) (fun b o _ e => u.there b o e (by simp)) u.tups u.frzs u.tbls (fun m' hm => by
    obtain ⟨o', es', ep', ho', r'⟩ := hm
    rw [ho] at ho'; cases ho'
    exact ⟨_, es', ep', hL, r'⟩) hok I.bare
theorem Inv.call {g' : Array GenState} {t' : Nat} {d' : Drawn} {ch : List Addr} (I : Inv X pins σ H s) (u : Un (frs X.stack) ch H H' s.heap h') (hok : HOk X.prog X.w H' h') (hg : AllBare g')
    (hch : ∀ b ∈ ch, (b ∈ X.ex ∨ X.s₀.heap.objs.size ≤ b) ∧ b ≠ X.env.locals ∧ (∀ x c, X.env.cells.lookup x = some c → c ≠ b) ∧ ∀ p ∈ X.pn ++ pins, p.1 ≠ b) :
    Inv X pins σ H' { s with heap := h', gens := g', drawn := d', toks := t' } := by
  obtain ⟨m, ⟨o, es, ep, ho, r⟩, _⟩ := id I.loc
  obtain ⟨sl, hL⟩ := u.any ho I.free fun z => (hch _ z).2.1 rfl
  exact I.step (ch := ch) hch (fun b o hL hb hc e n => u.keep b o e n (fun z => (List.mem_cons.mp (I.stkSub b z)).elim hL hb) hc) (fun b o _ _ hc e n => u.any e n hc) (fun b o hc e n => u.free b o e n hc) (fun b o hc e => u.there b o e hc) u.tups u.frzs u.tbls (fun m' hm => by
    obtain ⟨o', es', ep', ho', r'⟩ := hm
    rw [ho] at ho'; cases ho'
    exact ⟨_, es', ep', hL, r'⟩) hok hg
theorem Inv.turned {t' : Nat} {it : Addr} (I : Inv X pins σ H s) (k : ∀ b o, b ≠ it → s.heap.get? b = some o → h'.get? b = some o) (hn : H it = none) (hL : it ≠ X.env.locals)
    (h1 : it ∈ X.ex ∨ X.s₀.heap.objs.size ≤ it) (h2 : ∀ x c, X.env.cells.lookup x = some c → c ≠ it) (h3 : ∀ p ∈ X.pn ++ pins, p.1 ≠ it) : Inv X pins σ H { s with heap := h', toks := t' } := by
  have nit : ∀ b u, H b = some u → b ≠ it := fun b u e z => by rw [z, hn] at e; cases e
  refine I.step (g' := s.gens) (d' := s.drawn) (ch := [it]) (fun b hb => ?_) (fun b o _ _ hc e _ => k b o (fun z => hc (by simp [z])) e) (fun b o _ _ hc e _ => ⟨o.slots, k b o (fun z => hc (by simp [z])) e⟩) (fun _ _ _ _ n => n)
    (fun b o hc e => ⟨o, k b o (fun z => hc (by simp [z])) e⟩) (fun _ _ e => e) (fun _ _ _ e => e) (fun _ _ e => e) (fun m hm => ?_) (fun b u e => ?_) I.bare
  · have e : b = it := by simpa using hb
    subst e
    exact ⟨h1, hL, h2, h3⟩
  · obtain ⟨o, es, ep, ho, r⟩ := hm
    exact ⟨o, es, ep, k _ o (Ne.symm hL) ho, r⟩
  · refine (I.hok b u e).stay (fun c v hc q => k c v ?_ q) (fun _ q => q) (fun _ _ q => q) fun _ _ _ q => q
    rcases hc with z | z
    · rw [z]; exact nit b u e
    · exact nit c _ z
theorem Inv.tok (I : Inv X pins σ H s) (t : Nat) : Inv X pins σ H { s with toks := t } := I.un (h' := s.heap) (t' := t) Un.refl I.hok
theorem Inv.kept {t' : Nat} (I : Inv X pins σ H s) (k : ∀ b u, s.heap.get? b = some u → h'.get? b = some u) : Inv X pins σ H { s with heap := h', toks := t' } := I.un (Un.kept k) (I.hok.kept k)
theorem Inv.laid {a : Addr} {o : HO} {t' : Nat} (I : Inv X pins σ H s) (k : ∀ b u, s.heap.get? b = some u → h'.get? b = some u) (hp : s.heap.objs.size ≤ a) (new : ObjOk X.prog X.w (upd H a o) h' a o) :
    Inv X pins σ (upd H a o) { s with heap := h', toks := t' } := I.un (Un.laid k hp (I.hok.fresh hp)) (I.hok.laid k hp new)
theorem Inv.write {x e : Addr} {o : HO} {t' : Nat} (I : Inv X pins σ H s) (mu : Mut (H x)) (he : e = x ∨ H e = some (.own x)) (k : ∀ b u, b ≠ e → s.heap.get? b = some u → h'.get? b = some u) (heo : ∃ u, h'.get? e = some u)
    (new : ObjOk X.prog X.w (upd H x o) h' x o) : Inv X pins σ (upd H x o) { s with heap := h', toks := t' } := I.un (Un.write mu he k heo) (I.hok.write mu he k heo new)
theorem Inv.pins_of {pins' : List (Addr × Obj)} (I : Inv X pins σ H s) (h : ∀ p ∈ pins', s.heap.get? p.1 = some p.2 ∧ H p.1 = none ∧ p.1 ≠ X.env.locals ∧ p.1 ∉ X.fs ∧ ∀ v, p.2.data ≠ .cell v) : Inv X pins' σ H s :=
  ⟨I.ok, I.os, I.bare, I.base, I.loc, I.cell, I.free, I.freeC, fun p hp => (List.mem_append.mp hp).elim (fun z => I.pin p (List.mem_append_left _ z)) (h p), I.hok, I.len⟩
theorem nodup_ix {N : List Str} (hN : N.Nodup) {i j : Nat} {x : Str} (a : N[i]? = some x) (b : N[j]? = some x) : i = j := by
  obtain ⟨h1, e1⟩ := List.getElem?_eq_some_iff.mp a
  obtain ⟨h2, e2⟩ := List.getElem?_eq_some_iff.mp b
  exact (List.getElem_inj hN).mp (e1.trans e2.symm)
theorem store_ok2 {M : Model} {A : Around} {E : Value → Shared → Prop} {i : Nat} {x : Str} {v : V} {u : Value} {Q : Unit → Shared → Prop} (I : Inv X pins σ H s) (hN : X.N.Nodup) (hi : X.N[i]? = some x) (hx : Loc X.env.scope x) (r : RelV v u)
    (h : ∀ s', Inv X pins (σ.set i (some v)) H s' → (∃ a, Heap.SameBut a s.heap s'.heap ∧ (a = X.env.locals ∨ X.env.cells.lookup x = some a)) → Q () s') (hf : X.fn x = true ∨ X.env.scope.names.lookup x = some .local := by first | exact .inl rfl | exact .inr rfl | assumption) : wpAny M A (storeName X.env x u) Q E s := by
  obtain ⟨m, hn, hl⟩ := id I.loc
  have hcls : (X.env.scope.kind == .class || (X.env.scope.kind == .module && X.env.locals != X.env.globals)) = false := by rw [I.ok.kind]; rfl
  have hiσ : i < σ.length := by rw [I.len]; exact (List.getElem?_eq_some_iff.mp hi).1
  have cne := I.cne
  have tracked : ∀ {a : Addr} {h' : Heap}, (∃ o, s.heap.get? a = some o ∧ H a = none) → Heap.SameBut a s.heap h' → HOk X.prog X.w H h' := fun {a h'} ha hs b ob e => by
    obtain ⟨_, _, hfree⟩ := ha
    refine (I.hok b ob e).stay (fun c w' hc q => (hs.2 c ?_).trans q) (fun _ q => q) (fun _ _ q => q) fun _ _ _ q => q
    rintro rfl
    rcases hc with rfl | hc
    · rw [hfree] at e; cases e
    · rw [hfree] at hc; cases hc
  rcases hx with hk | hk
  · refine wpAny_storeName_local hk hn (fun h' hn' hs => ?_) hcls
    obtain ⟨oL, _, _, hoL, _⟩ := id hn
    refine h _ ⟨I.ok, I.os, I.bare, ⟨fun b o e n hb hx => ?_, fun b o e n hb hx => ?_, I.base.free, fun b o e hx => ?_, I.base.tups, I.base.frzs, I.base.tbls⟩, ⟨_, hn', fun j y v' e1 e2 e3 => ?_⟩, fun y c e => ?_, I.free, I.freeC, fun p hp => ?_, tracked ⟨oL, hoL, I.free⟩ hs, by simpa using I.len⟩ ⟨_, hs, .inl rfl⟩
    · exact (hs.2 b (Nat.ne_of_lt (Nat.lt_of_lt_of_le (Heap.lt_size e) I.ok.above))).trans (I.base.keep b o e n hb hx)
    · obtain ⟨sl, e1⟩ := I.base.slot b o e n hb hx
      exact ⟨sl, (hs.2 b (Nat.ne_of_lt (Nat.lt_of_lt_of_le (Heap.lt_size e) I.ok.above))).trans e1⟩
    · obtain ⟨o', e1⟩ := I.base.there b o e hx
      exact ⟨o', (hs.2 b (Nat.ne_of_lt (Nat.lt_of_lt_of_le (Heap.lt_size e) I.ok.above))).trans e1⟩
    · by_cases hj : j = i
      · subst hj
        rw [hi] at e1; cases e1
        rw [List.getElem?_set_self hiσ] at e2
        cases e2
        exact ⟨u, r, .inl ⟨hk, by simp⟩⟩
      · rw [List.getElem?_set_ne (Ne.symm hj)] at e2
        obtain ⟨u', r', q⟩ := hl j y v' e1 e2 e3
        refine ⟨u', r', ?_⟩
        rcases q with ⟨k, e⟩ | ⟨k, c, e, z⟩
        · refine .inl ⟨k, ?_⟩
          have : y ≠ x := fun e => hj (nodup_ix hN e1 (e ▸ hi))
          simp [this, e]
        · exact .inr ⟨k, c, e, z.sameBut hs (cne y c e)⟩
    · obtain ⟨w', z⟩ := I.cell y c e
      exact ⟨w', z.sameBut hs (cne y c e)⟩
    · obtain ⟨e, n, ne, nf, d⟩ := I.pin p hp
      exact ⟨(hs.2 p.1 ne).trans e, n, ne, nf, d⟩
  · have hfn : X.fn x = true := by
      rcases hf with z | z
      · exact z
      · rw [z] at hk; cases hk
    obtain ⟨c, hc⟩ := I.ok.has x (.inl hk)
    obtain ⟨w', z⟩ := I.cell x c hc
    refine wpAny_storeName_cell I.ok.kind hk hc z (fun h' hc' hs => ?_)
    obtain ⟨oc, hoc, hocd⟩ := id z
    refine h { s with heap := h' } ⟨I.ok, I.os, I.bare, ⟨fun b o e n hb hx => ?_, fun b o e n hb hx => ?_, I.base.free, fun b o e hx => ?_, I.base.tups, I.base.frzs, I.base.tbls⟩, ⟨m, hn.sameBut hs (Ne.symm (cne x c hc)), fun j y v' e1 e2 e3 => ?_⟩, fun y c' e => ?_, I.free, I.freeC, fun p hp => ?_, tracked ⟨oc, hoc, I.freeC x c hc⟩ hs, by simpa using I.len⟩ ⟨c, hs, .inr hc⟩
    · exact (hs.2 b (Nat.ne_of_lt (Nat.lt_of_lt_of_le (Heap.lt_size e) (I.ok.cab x c hfn hc)))).trans (I.base.keep b o e n hb hx)
    · obtain ⟨sl, e1⟩ := I.base.slot b o e n hb hx
      exact ⟨sl, (hs.2 b (Nat.ne_of_lt (Nat.lt_of_lt_of_le (Heap.lt_size e) (I.ok.cab x c hfn hc)))).trans e1⟩
    · obtain ⟨o', e1⟩ := I.base.there b o e hx
      exact ⟨o', (hs.2 b (Nat.ne_of_lt (Nat.lt_of_lt_of_le (Heap.lt_size e) (I.ok.cab x c hfn hc)))).trans e1⟩
    · by_cases hj : j = i
      · subst hj
        rw [hi] at e1; cases e1
        rw [List.getElem?_set_self hiσ] at e2
        cases e2
        exact ⟨u, r, .inr ⟨.inl hk, c, hc, hc'⟩⟩
      · rw [List.getElem?_set_ne (Ne.symm hj)] at e2
        obtain ⟨u', r', q⟩ := hl j y v' e1 e2 e3
        refine ⟨u', r', ?_⟩
        rcases q with q | ⟨k, c', e, z'⟩
        · exact .inl q
        · refine .inr ⟨k, c', e, z'.sameBut hs ?_⟩
          rintro rfl
          exact hj (nodup_ix hN e1 (I.ok.inj _ _ _ e hc ▸ hi))
    · by_cases hcc : c' = c
      · subst hcc; exact ⟨_, hc'⟩
      · obtain ⟨w2, z2⟩ := I.cell y c' e
        exact ⟨w2, z2.sameBut hs hcc⟩
    · obtain ⟨e, n, ne, nf, d⟩ := I.pin p hp
      refine ⟨(hs.2 p.1 ?_).trans e, n, ne, nf, d⟩
      intro q
      rw [q, hoc] at e
      have q' : oc = p.2 := Option.some.inj e
      exact d w' (by rw [← q']; exact hocd)
theorem store_ok {M : Model} {A : Around} {E : Value → Shared → Prop} {i : Nat} {x : Str} {v : V} {u : Value} {Q : Unit → Shared → Prop} (I : Inv X pins σ H s) (hN : X.N.Nodup) (hi : X.N[i]? = some x) (hx : Loc X.env.scope x) (r : RelV v u)
    (h : ∀ s', Inv X pins (σ.set i (some v)) H s' → Q () s') (hf : X.fn x = true ∨ X.env.scope.names.lookup x = some .local := by first | exact .inl rfl | exact .inr rfl | assumption) : wpAny M A (storeName X.env x u) Q E s :=
  store_ok2 I hN hi hx r (fun s' I' _ => h s' I') hf
theorem Inv.call' {s' : Shared} {ch : List Addr} (I : Inv X pins σ H s) (ho : s'.os = s.os) (u : Un (frs X.stack) ch H H' s.heap s'.heap) (hok : HOk X.prog X.w H' s'.heap) (hg : AllBare s'.gens)
    (hch : ∀ b ∈ ch, (b ∈ X.ex ∨ X.s₀.heap.objs.size ≤ b) ∧ b ≠ X.env.locals ∧ (∀ x c, X.env.cells.lookup x = some c → c ≠ b) ∧ ∀ p ∈ X.pn ++ pins, p.1 ≠ b) : Inv X pins σ H' s' := by
  obtain ⟨h', g', d', t', o'⟩ := s'
  have e : o' = s.os := ho
  subst e
  exact I.call (g' := g') (t' := t') (d' := d') u hok hg hch
end
abbrev XK := Value → Option Addr → Hp → Prop
abbrev St := List (Option V)
abbrev VK := V → Hp → Prop
abbrev TE := St → Hp → VK → Prop
abbrev TT := St → Hp → (Bool → Hp → Prop) → Prop
abbrev TA := St → Hp → (List V → Hp → Prop) → Prop
structure Ends where
  nx : St → Hp → Prop
  rt : VK
  bk : St → Hp → Prop := fun _ _ => False
  ct : St → Hp → Prop := fun _ _ => False
abbrev TS := Ends → St → Hp → Prop
def EP (X : Cx) (pins : List (Addr × Obj)) (σ : St) (Q : VK) (u : Value) (s' : Shared) : Prop := ∃ v H', Inv X pins σ H' s' ∧ RelV v u ∧ Q v H'
def TP (X : Cx) (pins : List (Addr × Obj)) (σ : St) (Q : Bool → Hp → Prop) (b : Bool) (s' : Shared) : Prop := ∃ H', Inv X pins σ H' s' ∧ Q b H'
def AP (X : Cx) (pins : List (Addr × Obj)) (σ : St) (Q : List V → Hp → Prop) (us : List Value) (s' : Shared) : Prop := ∃ vs H', Inv X pins σ H' s' ∧ Vals vs us ∧ Q vs H'
def SP (X : Cx) (pins : List (Addr × Obj)) (D : Ends) (f : Flow) (s' : Shared) : Prop :=
  match f with
  | .next => ∃ σ' H', Inv X pins σ' H' s' ∧ D.nx σ' H'
  | .brk => ∃ σ' H', Inv X pins σ' H' s' ∧ D.bk σ' H'
  | .cont => ∃ σ' H', Inv X pins σ' H' s' ∧ D.ct σ' H'
  | .ret u => ∃ v σ' H', Inv X pins σ' H' s' ∧ RelV v u ∧ D.rt v H'
def PE (X : Cx) (e : Expr) (t : TE) : Prop :=
  ∀ (pins : List (Addr × Obj)) (s : Shared) (σ : St) (H : Hp) (Q : VK), Inv X pins σ H s → t σ H Q → wpAny (model X.prog X.w) X.A (eval e X.env) (EP X pins σ Q) X.xe s
def PT (X : Cx) (e : Expr) (t : TT) : Prop :=
  ∀ (pins : List (Addr × Obj)) (s : Shared) (σ : St) (H : Hp) (Q : Bool → Hp → Prop), Inv X pins σ H s → t σ H Q → wpAny (model X.prog X.w) X.A (isTrue e X.env (eval e X.env)) (TP X pins σ Q) X.xe s
def PW (X : Cx) (e : Expr) (t : TT) : Prop :=
  ∀ (whole : Sem Value) (pins : List (Addr × Obj)) (s : Shared) (σ : St) (H : Hp) (Q : Bool → Hp → Prop), Inv X pins σ H s → t σ H Q → wpAny (model X.prog X.w) X.A (isTrue e X.env whole) (TP X pins σ Q) X.xe s
theorem PW.pt {X : Cx} {e : Expr} {t : TT} (h : PW X e t) : PT X e t := h _
def PA (X : Cx) (es : List Expr) (t : TA) : Prop :=
  ∀ (pos : Pos) (pins : List (Addr × Obj)) (s : Shared) (σ : St) (H : Hp) (Q : List V → Hp → Prop), Inv X pins σ H s → t σ H Q → wpAny (model X.prog X.w) X.A (spliced (backTo pos (starEach es X.env))) (AP X pins σ Q) X.xe s
def PS (X : Cx) (st : Stmt) (t : TS) : Prop :=
  ∀ (pins : List (Addr × Obj)) (s : Shared) (σ : St) (H : Hp) (D : Ends), Inv X pins σ H s → t D σ H → wpAny (model X.prog X.w) X.A (exec st X.env) (SP X pins D) X.xe s
def PSs (X : Cx) (st : List Stmt) (t : TS) : Prop :=
  ∀ (pins : List (Addr × Obj)) (s : Shared) (σ : St) (H : Hp) (D : Ends), Inv X pins σ H s → t D σ H → wpAny (model X.prog X.w) X.A (execs st X.env) (SP X pins D) X.xe s
theorem thn {α : Type} {t : Sem α} {Q Q' : α → Shared → Prop} {M : Model} {A : Around} {E : Value → Shared → Prop} {s : Shared} (h : wpAny M A t Q E s) (hQ : ∀ a s, Q a s → Q' a s) : wpAny M A t Q' E s := wpAny_mono h hQ fun _ _ x => x
end L2
namespace L2
open PySem PySem.Spec PyProof.Rows
section
variable {X : Cx}
def tVar (i : Nat) : TE := fun σ H Q => ∃ v, σ[i]? = some (some v) ∧ Q v H
def tC (v : V) : TE := fun _ H Q => Q v H
theorem pe_var {i : Nat} {x : Str} {pos : Pos} (hN : X.N[i]? = some x) (hv : Vis X.env.scope x) (hd : (x == ("__debug__" : Str)) = false := by decide) (hcd : (x == ("__classdict__" : Str)) = false := by decide) : PE X (.Name x pos) (tVar i) := by
  intro pins s σ H Q I h
  obtain ⟨v, e, h⟩ := h
  obtain ⟨m, hn, hl⟩ := I.loc
  obtain ⟨u, r, l⟩ := hl i x v hN e hv
  have fin : EP X pins σ Q u s := ⟨v, H, I, r, h⟩
  rcases l with ⟨hk, hm⟩ | ⟨hk, c, hc, hcell⟩
  · exact wpAny_Name (wpAny_loadName_local I.ok.kind hk hn hm fin) hd
  · rcases hk with hk | hk
    · exact wpAny_Name (wpAny_loadName_cell I.ok.kind hk hc hcell fin) hd
    · exact wpAny_Name (wpAny_loadName_free I.ok.kind hk hc hcell fin hcd) hd
theorem pe_int {i j pos} : PE X (.Constant (.int i) j pos) (tC (.int i)) := fun _ _ _ H _ I h => wpAny_Constant_int ⟨.int i, H, I.tok _, ⟨_, rfl⟩, h⟩
theorem pe_bl {b j pos} : PE X (.Constant (.bool b) j pos) (tC (.bl b)) := fun _ _ _ H _ I h => Constant_bool ⟨.bl b, H, I, rfl, h⟩
theorem pe_non {j pos} : PE X (.Constant .none j pos) (tC .non) := fun _ _ _ H _ I h => Constant_none ⟨.non, H, I, rfl, h⟩
theorem pe_str {x j pos} : PE X (.Constant (.str x) j pos) (tC (.str x)) := fun _ _ _ H _ I h => Calls.Constant_str ⟨.str x, H, I.tok _, ⟨_, rfl⟩, h⟩
def Gl (X : Cx) (x : Str) : Prop := X.env.kindOf x = some .globalImplicit
theorem ld_glob {E : Value → Shared → Prop} {pins : List (Addr × Obj)} {s : Shared} {σ : St} {H : Hp} {x : Str} {u : Value} {pos : Pos} {Q : Value → Shared → Prop} (I : Inv X pins σ H s) (hg : Gl X x) (hm : X.mg x = some u) (h : Q u s)
    (hd : (x == ("__debug__" : Str)) = false := by decide) : wpAny (model X.prog X.w) X.A (eval (.Name x pos) X.env) Q E s :=
  Calls.Name_function_global I.ok.kind hg (Calls.loadGlobal_global (by rw [I.ok.glob]; exact I.mod.glob.keeps I.bk) hm h) hd
theorem ld_blt {E : Value → Shared → Prop} {pins : List (Addr × Obj)} {s : Shared} {σ : St} {H : Hp} {x : Str} {u : Value} {pos : Pos} {Q : Value → Shared → Prop} (I : Inv X pins σ H s) (hg : Gl X x) (hm : X.mg x = none) (hv : bootBuiltins x = some u) (h : Q u s)
    (hn : x ≠ "__name__" := by decide) (hd : (x == ("__debug__" : Str)) = false := by decide) : wpAny (model X.prog X.w) X.A (eval (.Name x pos) X.env) Q E s := by
  obtain ⟨mb, h1, h2⟩ := I.mod.blt
  exact Calls.Name_function_global I.ok.kind hg (Calls.loadGlobal_builtin (by rw [I.ok.glob]; exact I.mod.glob.keeps I.bk) hm (by rw [I.ok.blt]; exact h1.keeps I.bk) ((h2 x hn).trans hv) h) hd
theorem pe_glob {x : Str} {v : V} {u : Value} {pos : Pos} (hg : Gl X x) (hm : X.mg x = some u) (r : RelV v u) (hd : (x == ("__debug__" : Str)) = false := by decide) : PE X (.Name x pos) (tC v) :=
  fun _ _ _ H _ I h => ld_glob I hg hm ⟨v, H, I, r, h⟩ hd
theorem pe_bltn {x : Str} {v : V} {u : Value} {pos : Pos} (hg : Gl X x) (hm : X.mg x = none) (hv : bootBuiltins x = some u) (r : RelV v u) (hn : x ≠ "__name__" := by decide) (hd : (x == ("__debug__" : Str)) = false := by decide) : PE X (.Name x pos) (tC v) :=
  fun _ _ _ H _ I h => ld_blt I hg hm hv ⟨v, H, I, r, h⟩ hn hd
variable {a b : Expr} {ta tb : TE} {pos : Pos}
def tB (t : TE) : TT := fun σ H Q => t σ H fun x H1 => ∃ c, x = .bl c ∧ Q c H1
theorem pt_val {e : Expr} {t : TE} (h : PE X e t) (he : ∀ whole, isTrue e X.env whole = (do let v ← whole; standAt e.pos; holding [v] (truthy v)) := by intro _; rfl) : PT X e (tB t) := by
  intro pins s σ H Q I hw
  refine isTrue_plain (thn (h pins s σ H _ I hw) fun v s1 ⟨x, H1, I1, r1, q1⟩ => ?_) (he _)
  obtain ⟨d, rfl, q⟩ := q1
  cases r1
  exact wpAny_truthy_bool ⟨H1, I1, q⟩
variable {tA tB' : TT} {rest : List Expr}
def tAnd (t u : TT) : TT := fun σ H Q => t σ H fun c H1 => if c = true then u σ H1 Q else Q false H1
def tNot (t : TT) : TT := fun σ H Q => t σ H fun c H1 => Q (!c) H1
theorem pw_and1 (ha : PT X a tA) : PW X (.BoolOp .And [a] pos) tA := by
  intro wh pins s σ H Q I h
  refine isTrue_and (thn (ha pins s σ H Q I h) fun c s1 e => ?_)
  cases c with
  | true => exact isTrue_and_nil e
  | false => exact e
theorem pw_and (ha : PT X a tA) (hb : PW X (.BoolOp .And (b :: rest) pos) tB') : PW X (.BoolOp .And (a :: b :: rest) pos) (tAnd tA tB') := by
  intro wh pins s σ H Q I h
  refine isTrue_and (thn (ha pins s σ H _ I h) fun c s1 ⟨H1, I1, q1⟩ => ?_)
  cases c with
  | true => exact hb wh pins s1 σ H1 Q I1 q1
  | false => exact ⟨H1, I1, q1⟩
theorem pt_not (ha : PT X a tA) : PT X (.UnaryOp .Not a pos) (tNot tA) := by
  intro pins s σ H Q I h
  exact isTrue_not (ha pins s σ H (fun c H1 => Q (!c) H1) I h)
def tNotV (ta : TE) : TE := fun σ H Q => ta σ H fun x H1 => ∃ c, x = .bl c ∧ Q (.bl (!c)) H1
theorem pe_not (ha : PE X a ta) : PE X (.UnaryOp .Not a pos) (tNotV ta) := by
  intro pins s σ H Q I h
  refine UnaryOp_ (thn (ha pins s σ H _ I h) fun v s1 ⟨x, H1, I1, r1, q1⟩ => ?_)
  obtain ⟨c, rfl, q1⟩ := q1
  cases r1
  exact not_of (wpAny_truthy_bool ⟨.bl (!c), H1, I1, rfl, q1⟩)
def tIf (t : TT) (ta tb : TE) : TE := fun σ H Q => t σ H fun c H1 => if c = true then ta σ H1 Q else tb σ H1 Q
theorem pe_ifExp {c : Expr} (hc : PT X c tA) (ha : PE X a ta) (hb : PE X b tb) : PE X (.IfExp c a b pos) (tIf tA ta tb) := by
  intro pins s σ H Q I h
  refine wpAny_IfExp (thn (hc pins s σ H _ I h) fun d s1 ⟨H1, I1, q1⟩ => ?_)
  cases d with
  | true => exact ha pins s1 σ H1 Q I1 q1
  | false => exact hb pins s1 σ H1 Q I1 q1
end
end L2
namespace L2
open PySem PySem.Spec PyProof.Rows
def SqL (K : PySem.W.Frag) (H : Hp) (a : Addr) (xs : List V) : Prop :=
  Rd H a (.lst xs) ∨
    ∃ (o : Obj) (its : Array Value) (n : Nat), K.lookup a = some o ∧ o.cls = .type "list" ∧ o.dict = none ∧ o.data = .seq its n ∧ its.size ≤ sizeLine ∧ Vals xs its.toList
def SqT (K : PySem.W.Frag) (H : Hp) (a : Addr) (xs : List V) : Prop :=
  Rd H a (.tup xs) ∨
    ∃ (o : Obj) (its : Array Value) (n : Nat), K.lookup a = some o ∧ o.cls = .type "tuple" ∧ o.data = .seq its n ∧ its.size ≤ sizeLine ∧ Vals xs its.toList
def absV : Value → Option V
  | .none => some .non
  | .bool b => some (.bl b)
  | .int i _ => some (.int i)
  | .str x _ => some (.str x)
  | .bytes b _ => some (.byt b)
  | .float b _ => some (.flt b)
  | .ref a => some (.ref a)
  | .type n => some (.ty n)
  | _ => none
theorem RelV.abs {x : V} {u : Value} (r : RelV x u) : absV u = some x := by
  cases x with
  | non => cases r; rfl
  | bl _ => cases r; rfl
  | int _ => obtain ⟨t, rfl⟩ := r; rfl
  | str _ => obtain ⟨t, rfl⟩ := r; rfl
  | byt _ => obtain ⟨t, rfl⟩ := r; rfl
  | flt _ => obtain ⟨t, rfl⟩ := r; rfl
  | ref _ => cases r; rfl
  | ty _ => cases r; rfl
theorem RelV.inj {x y : V} {u : Value} (r : RelV x u) (q : RelV y u) : x = y := Option.some.inj (r.abs.symm.trans q.abs)
theorem Vals.inj : ∀ {xs ys : List V} {us : List Value}, Vals xs us → Vals ys us → xs = ys
  | _, _, _, .nil, .nil => rfl
  | _, _, _, .cons r t, .cons r' t' => by rw [r.inj r', Vals.inj t t']
section
variable {X : Cx} {pins : List (Addr × Obj)} {σ : St} {H : Hp} {s : Shared} {a : Addr} {xs ys : List V}
theorem SqL.of {K : PySem.W.Frag} (h : H a = some (.lst xs)) : SqL K H a xs := .inl (.inl h)
theorem SqT.of {K : PySem.W.Frag} (h : H a = some (.tup xs)) : SqT K H a xs := .inl (.inl h)
theorem Inv.list (I : Inv X pins σ H s) (h : SqL X.K H a xs) : ∃ its : List Value, Vals xs its ∧ PlainL s.heap a its.toArray ∧ xs.length ≤ sizeLine := by
  rcases h with h | ⟨o, its, n, hk, hc, hd, hs, hz, r⟩
  · obtain ⟨z, its, n, r, e⟩ := h.ok I.hok
    exact ⟨its, r, ⟨_, n, e, rfl, rfl, rfl⟩, z⟩
  · refine ⟨its.toList, r, ⟨o, n, I.kIn a o hk, hc, hd, by simpa using hs⟩, ?_⟩
    have e := r.length
    simp only [Array.length_toList] at e
    omega
theorem Inv.tuple (I : Inv X pins σ H s) (h : SqT X.K H a xs) : ∃ its : List Value, Vals xs its ∧ IsTup s.heap a its.toArray ∧ xs.length ≤ sizeLine := by
  rcases h with h | ⟨o, its, n, hk, hc, hs, hz, r⟩
  · obtain ⟨z, its, r, p, _⟩ := h.ok I.hok
    exact ⟨its, r, p, z⟩
  · refine ⟨its.toList, r, ⟨o, I.kIn a o hk, hc, n, by simpa using hs⟩, ?_⟩
    have e := r.length
    simp only [Array.length_toList] at e
    omega
theorem Inv.list_inj (I : Inv X pins σ H s) (h : SqL X.K H a xs) (h' : SqL X.K H a ys) : xs = ys := by
  obtain ⟨its, r, ⟨o, n, e, _, _, d⟩, _⟩ := I.list h
  obtain ⟨its', r', ⟨o', n', e', _, _, d'⟩, _⟩ := I.list h'
  rw [e] at e'; cases e'
  rw [d] at d'
  injection d' with d1 _
  have : its = its' := by simpa using congrArg Array.toList d1
  subst this
  exact r.inj r'
theorem Inv.tuple_inj (I : Inv X pins σ H s) (h : SqT X.K H a xs) (h' : SqT X.K H a ys) : xs = ys := by
  obtain ⟨its, r, ⟨o, e, _, n, d⟩, _⟩ := I.tuple h
  obtain ⟨its', r', ⟨o', e', _, n', d'⟩, _⟩ := I.tuple h'
  rw [e] at e'; cases e'
  rw [d] at d'
  injection d' with d1 _
  have : its = its' := by simpa using congrArg Array.toList d1
  subst this
  exact r.inj r'
end
abbrev Cx.wish (X : Cx) (E : Value → Shared → Prop) : Cx := { X with xe := E }
abbrev Cx.nox (X : Cx) : Cx := X.wish fun _ _ => False
theorem Cx.Ok.wish {X : Cx} (ok : X.Ok) (E : Value → Shared → Prop) : (X.wish E).Ok :=
  ⟨ok.mod, ok.kind, ok.glob, ok.blt, ok.above, ok.inj, ok.has, ok.cab, ok.hd, ok.frames, ok.stk, ok.exf, ok.bs, ok.bsz, ok.noex, ok.exfs, ok.funs, ok.frf⟩
theorem Cx.Ok.unwish {X : Cx} {E : Value → Shared → Prop} (ok : (X.wish E).Ok) : X.Ok :=
  ⟨ok.mod, ok.kind, ok.glob, ok.blt, ok.above, ok.inj, ok.has, ok.cab, ok.hd, ok.frames, ok.stk, ok.exf, ok.bs, ok.bsz, ok.noex, ok.exfs, ok.funs, ok.frf⟩
section
variable {X : Cx} {pins : List (Addr × Obj)} {σ : St} {H : Hp} {s : Shared} {E : Value → Shared → Prop}
theorem Inv.wish (I : Inv X pins σ H s) (E : Value → Shared → Prop) : Inv (X.wish E) pins σ H s := ⟨I.ok.wish E, I.os, I.bare, I.base, I.loc, I.cell, I.free, I.freeC, I.pin, I.hok, I.len⟩
theorem Inv.unwish (I : Inv (X.wish E) pins σ H s) : Inv X pins σ H s := ⟨I.ok.unwish, I.os, I.bare, I.base, I.loc, I.cell, I.free, I.freeC, I.pin, I.hok, I.len⟩
theorem SP.unwish {D : Ends} {f : Flow} {s' : Shared} (h : SP (X.wish E) pins D f s') : SP X pins D f s' := by
  cases f with
  | next => obtain ⟨σ', H', I, q⟩ := h; exact ⟨σ', H', I.unwish, q⟩
  | brk => obtain ⟨σ', H', I, q⟩ := h; exact ⟨σ', H', I.unwish, q⟩
  | cont => obtain ⟨σ', H', I, q⟩ := h; exact ⟨σ', H', I.unwish, q⟩
  | ret u => obtain ⟨v, σ', H', I, r, q⟩ := h; exact ⟨v, σ', H', I.unwish, r, q⟩
theorem PE.nox {e : Expr} {t : TE} (h : PE X.nox e t) : PE X e t := fun pins s σ H Q I hw =>
  wpAny_mono (h pins s σ H Q (I.wish _) hw) (fun _ _ ⟨v, H', I', r, q⟩ => ⟨v, H', I'.unwish, r, q⟩) fun _ _ z => False.elim z
theorem PT.nox {e : Expr} {t : TT} (h : PT X.nox e t) : PT X e t := fun pins s σ H Q I hw =>
  wpAny_mono (h pins s σ H Q (I.wish _) hw) (fun _ _ ⟨H', I', q⟩ => ⟨H', I'.unwish, q⟩) fun _ _ z => False.elim z
theorem PSs.nox {st : List Stmt} {t : TS} (h : PSs X.nox st t) : PSs X st t := fun pins s σ H D I hw =>
  wpAny_mono (h pins s σ H D (I.wish _) hw) (fun _ _ q => q.unwish) fun _ _ z => False.elim z
end
section
variable {X : Cx} {st : Stmt} {rest : List Stmt} {t u : TS} {e : Expr} {te : TE} {pos : Pos}
def tNext : TS := fun D σ H => D.nx σ H
def tSeq (t u : TS) : TS := fun D σ H => t { D with nx := u D } σ H
theorem pss_nil : PSs X [] tNext := fun _ _ σ H _ I h => wpAny_execs_nil ⟨σ, H, I, h⟩
theorem pss_cons (h1 : PS X st t) (h2 : PSs X rest u) : PSs X (st :: rest) (tSeq t u) := by
  intro pins s σ H D I h
  refine wpAny_execs_cons (thn (h1 pins s σ H { D with nx := u D } I h) fun f s1 q => ?_)
  cases f with
  | next =>
    obtain ⟨σ', H', I', q⟩ := q
    exact h2 pins s1 σ' H' D I' q
  | ret v => exact q
  | brk => exact q
  | cont => exact q
theorem pss_one (h1 : PS X st t) : PSs X [st] t := by
  intro pins s σ H D I h
  refine wpAny_execs_cons (thn (h1 pins s σ H D I h) fun f s1 q => ?_)
  cases f with
  | next => exact wpAny_execs_nil q
  | ret v => exact q
  | brk => exact q
  | cont => exact q
theorem Inv.quiet {pins : List (Addr × Obj)} {σ : St} {H : Hp} {s : Shared} (I : Inv X pins σ H s) : interactive X.env = false := by simp [interactive, I.ok.kind]
def tDrop (te : TE) : TS := fun D σ H => te σ H fun _ H1 => D.nx σ H1
theorem ps_expr (he : PE X e te) (hs : swapsWith e none pos.line X.env = pure false := by rfl) : PS X (.Expr e pos) (tDrop te) := by
  intro pins s σ H D I h
  exact wpAny_Expr_any (thn (he pins s σ H _ I h) fun v s1 ⟨x, H1, I1, r1, q1⟩ => ⟨σ, H1, I1, q1⟩) I.quiet hs
def tRet (te : TE) : TS := fun D σ H => te σ H D.rt
theorem ps_ret (he : PE X e te) : PS X (.Return (some e) pos) (tRet te) := by
  intro pins s σ H D I h
  exact wpAny_Return_some (thn (he pins s σ H _ I h) fun v s1 ⟨x, H1, I1, r1, q1⟩ => ⟨x, σ, H1, I1, r1, q1⟩)
def tIfS (c : TT) (t u : TS) : TS := fun D σ H => c σ H fun b H1 => if b = true then t D σ H1 else u D σ H1
theorem ps_if {c : Expr} {a b : List Stmt} {tc : TT} (hc : PT X c tc) (ha : PSs X a t) (hb : PSs X b u) : PS X (.If c a b pos) (tIfS tc t u) := by
  intro pins s σ H D I h
  refine wpAny_If (thn (hc pins s σ H _ I h) fun d s1 ⟨H1, I1, q1⟩ => ?_)
  cases d with
  | true => exact ha pins s1 σ H1 D I1 q1
  | false => exact hb pins s1 σ H1 D I1 q1
end
abbrev TG := V → St → Hp → (St → Hp → Prop) → Prop
abbrev TGs := List V → St → Hp → (St → Hp → Prop) → Prop
def PG (X : Cx) (target : Expr) (t : TG) : Prop :=
  ∀ (pins : List (Addr × Obj)) (s : Shared) (σ : St) (H : Hp) (v : V) (u : Value) (Q : St → Hp → Prop), Inv X pins σ H s → RelV v u → t v σ H Q →
    wpAny (model X.prog X.w) X.A (assign target X.env u) (fun _ s' => ∃ σ' H', Inv X pins σ' H' s' ∧ Q σ' H') X.xe s
def PGs (X : Cx) (ts : List Expr) (t : TGs) : Prop :=
  ∀ (pins : List (Addr × Obj)) (s : Shared) (σ : St) (H : Hp) (vs : List V) (us : List Value) (Q : St → Hp → Prop), Inv X pins σ H s → Vals vs us → t vs σ H Q →
    wpAny (model X.prog X.w) X.A (assignInOrder ((assignEach ts X.env).map (·.2)) us) (fun _ s' => ∃ σ' H', Inv X pins σ' H' s' ∧ Q σ' H') X.xe s
abbrev TSet := V → V → V → Hp → (Hp → Prop) → Prop
def PSet (X : Cx) (t : TSet) : Prop :=
  ∀ (pins : List (Addr × Obj)) (s : Shared) (σ : St) (H : Hp) (o i v : V) (ov iv u : Value) (Q : Hp → Prop), Inv X pins σ H s → RelV o ov → RelV i iv → RelV v u → t o i v H Q →
    wpAny (model X.prog X.w) X.A (setItem ov iv u) (fun _ s' => ∃ H', Inv X pins σ H' s' ∧ Q H') X.xe s
section
variable {X : Cx} {pos : Pos}
def gName (i : Nat) : TG := fun v σ H Q => Q (σ.set i (some v)) H
theorem pg_name {i : Nat} {x : Str} (hN : X.N.Nodup) (hi : X.N[i]? = some x) (hx : Loc X.env.scope x) (hf : X.fn x = true ∨ X.env.scope.names.lookup x = some .local := by first | exact .inl rfl | exact .inr rfl | assumption) : PG X (.Name x pos) (gName i) := by
  intro pins s σ H v u Q I r h
  exact wpAny_assign_Name (store_ok I hN hi hx r (fun s' I' => ⟨_, H, I', h⟩) hf)
def gNil : TGs := fun vs σ H Q => vs = [] ∧ Q σ H
def gCons (t : TG) (u : TGs) : TGs := fun vs σ H Q => ∃ v r, vs = v :: r ∧ t v σ H fun σ' H' => u r σ' H' Q
theorem pgs_nil : PGs X [] gNil := by
  intro pins s σ H vs us Q I r h
  obtain ⟨e, h⟩ := h
  subst e
  cases r
  exact assignInOrder_nil ⟨σ, H, I, h⟩
theorem pgs_cons {e : Expr} {es : List Expr} {t : TG} {u : TGs} (h1 : PG X e t) (h2 : PGs X es u)
    (hs : (assignEach (e :: es) X.env).map (·.2) = assign e X.env :: (assignEach es X.env).map (·.2) := by rfl) : PGs X (e :: es) (gCons t u) := by
  intro pins s σ H vs us Q I r h
  obtain ⟨v, vr, e1, h⟩ := h
  subst e1
  cases r with
  | cons r rr =>
    rw [hs]
    refine assignInOrder_cons (thn (h1 pins s σ H _ _ _ I r h) fun _ s1 ⟨σ1, H1, I1, q1⟩ => ?_)
    exact h2 pins s1 σ1 H1 _ _ Q I1 rr q1
def gTup (K : PySem.W.Frag) (n : Nat) (t : TGs) : TG := fun v σ H Q => ∃ a xs, v = .ref a ∧ SqT K H a xs ∧ xs.length = n ∧ t xs σ H Q
theorem pg_tup {es : List Expr} {k : Nat} {t : TGs} {n : Nat} (hc : X.calm = true) (h : PGs X es t)
    (hn : (assignEach es X.env).length = n := by rfl) (hst : (assignEach es X.env).findIdx? (·.1) = none := by rfl) : PG X (.Tuple es k pos) (gTup X.K n t) := by
  intro pins s σ H v u Q I r hw
  obtain ⟨a, xs, e1, hq, hl, hw⟩ := hw
  subst e1
  cases r
  obtain ⟨its, rv, ht, hz⟩ := I.tuple hq
  refine assign_Tuple_tuple (I.ok.hd hc) ht (by simp [hn, ← hl, rv.length]) hst fun h' hx => ?_
  have I1 : Inv X pins σ H { s with heap := h' } := I.kept (t' := s.toks) fun b o e => hx b o (Nat.ne_of_lt (Heap.lt_size e)) e
  exact h pins _ σ H xs _ Q I1 (by simpa using rv) hw
def gSub (to ti : TE) (t : TSet) : TG := fun v σ H Q => to σ H fun o H1 => ti σ H1 fun i H2 => t o i v H2 fun H3 => Q σ H3
theorem pg_sub {o i : Expr} {to ti : TE} {t : TSet} (ho : PE X o to) (hi : PE X i ti) (hs : PSet X t)
    (ha : ∀ v, assign (.Subscript o i pos) X.env v = (do
      let ov ← holding [v] (eval o X.env)
      let iv ← holding [v, ov] (eval i X.env)
      standAt pos
      holding [v, ov, iv] (setItem ov iv v)
      release [v, ov, iv] []) := by intro _; rfl) : PG X (.Subscript o i pos) (gSub to ti t) := by
  intro pins s σ H v u Q I r h
  rw [ha]
  refine wpAny_bind (wpAny_holding (thn (ho pins s σ H _ I h) fun ov s1 ⟨x, H1, I1, r1, q1⟩ => ?_))
  refine wpAny_bind (wpAny_holding (thn (hi pins s1 σ H1 _ I1 q1) fun iv s2 ⟨y, H2, I2, r2, q2⟩ => ?_))
  refine wpAny_bind (wpAny_standAt (wpAny_bind (wpAny_holding (thn (hs pins s2 σ H2 x y v ov iv u _ I2 r1 r2 r q2) fun _ s3 ⟨H3, I3, q3⟩ => ?_))))
  exact wpAny_release ⟨σ, H3, I3, q3⟩
def tAsg (te : TE) (g : TG) : TS := fun D σ H => te σ H fun x H1 => g x σ H1 D.nx
theorem ps_asg {tg e : Expr} {te : TE} {g : TG} (he : PE X e te) (hg : PG X tg g) (hs : swapsWithSole [tg] e pos.line X.env = pure false := by rfl) (hw : swappedStores [tg] e X.env = pure none := by rfl)
    (h1 : (assignEach [tg] X.env).map (·.2) = [assign tg X.env] := by rfl) : PS X (.Assign [tg] e pos) (tAsg te g) := by
  intro pins s σ H D I h
  refine wpAny_Assign_stores (thn (he pins s σ H _ I h) fun v s1 ⟨x, H1, I1, r1, q1⟩ => ?_) hs hw
  rw [h1]
  exact thn (hg pins s1 σ H1 x v _ I1 r1 q1) fun _ s2 q => q
theorem ps_set {i : Nat} {x : Str} {e : Expr} {te : TE} {pos' : Pos} (hN : X.N.Nodup) (hi : X.N[i]? = some x) (hx : Loc X.env.scope x) (he : PE X e te) (hs : swapsWith e (some (.Name x pos')) pos.line X.env = pure false := by rfl) (hf : X.fn x = true ∨ X.env.scope.names.lookup x = some .local := by first | exact .inl rfl | exact .inr rfl | assumption) :
    PS X (.Assign [.Name x pos'] e pos) (tAsg te (gName i)) := by
  intro pins s σ H D I h
  refine wpAny_Assign_Name (thn (he pins s σ H _ I h) fun v s1 ⟨y, H1, I1, r1, q1⟩ => ?_) hs
  exact store_ok I1 hN hi hx r1 (fun s2 I2 => ⟨_, H1, I2, q1⟩) hf
def tPar (i j : Nat) (ta : TA) : TS := fun D σ H => ta σ H fun vs H1 => ∃ v w, vs = [v, w] ∧ D.nx ((σ.set i (some v)).set j (some w)) H1
theorem ps_par {i j : Nat} {x y : Str} {a b : Expr} {ta : TA} {px py pt : Pos} {kt k2 pt2} (hc : X.calm = true) (hN : X.N.Nodup) (hi : X.N[i]? = some x) (hj : X.N[j]? = some y) (hij : i ≠ j)
    (hx : X.env.scope.names.lookup x = some .local) (hy : X.env.scope.names.lookup y = some .local) (ha : PA X [a, b] ta)
    (hw : swappedStores [.Tuple [.Name x px, .Name y py] kt pt] (.Tuple [a, b] k2 pt2) X.env = pure (some [x, y]))
    (hs : swapsWithSole [.Tuple [.Name x px, .Name y py] kt pt] (.Tuple [a, b] k2 pt2) pos.line X.env = pure false := by rfl) :
    PS X (.Assign [.Tuple [.Name x px, .Name y py] kt pt] (.Tuple [a, b] k2 pt2) pos) (tPar i j ta) := by
  intro pins s σ H D I h
  rw [exec_Assign_arm]
  refine wpAny_bind (wpAny_standAt ?_)
  rw [hs]
  refine wpAny_bind (wpAny_pure ?_)
  rw [if_neg (by decide)]
  refine wpAny_bind (Tuple_ (thn (ha _ pins s σ H _ I h) fun us s1 ⟨vs, H1, I1, r1, q1⟩ => ?_))
  obtain ⟨v, w, e1, q1⟩ := q1
  subst e1
  obtain ⟨u1, u2, rfl, rv, rw'⟩ : ∃ u1 u2, us = [u1, u2] ∧ RelV v u1 ∧ RelV w u2 := by
    cases r1 with
    | cons p q =>
      cases q with
      | cons p' q' =>
        cases q'
        exact ⟨_, _, rfl, p, p'⟩
  refine wpAny_newObj_type ?_ (by show 2 ≤ sizeLine; decide)
  have I2 : Inv X pins σ H1 { s1 with heap := s1.heap.push { cls := .type "tuple", data := .seq [u1, u2].toArray } } := I1.kept (t' := s1.toks) fun b o e => Heap.get?_push_of_some _ e
  rw [hw]
  refine wpAny_bind (wpAny_pure ?_)
  show wpAny (model X.prog X.w) X.A (do rule "assign.swapped-stores"; let items ← unpackItems (.ref s1.heap.objs.size) 2 none; assignInOrder [fun v => bindName X.env y v, fun v => bindName X.env x v] items.reverse; pure Flow.next) _ _ _
  refine wpAny_bind (wpAny_rule (wpAny_bind (unpackItems_tuple (items := #[u1, u2]) (I.ok.hd hc) (IsTup.new s1.heap _) fun h' hx' => ?_)))
  have I3 := I2.kept (h' := h') (t' := s1.toks) fun b o e => hx' b o (Nat.ne_of_lt (Heap.lt_size e)) e
  show wpAny _ _ (assignInOrder [fun v => bindName X.env y v, fun v => bindName X.env x v] [u2, u1] >>= fun _ => pure Flow.next) _ _ _
  refine wpAny_bind (assignInOrder_cons (wpAny_bindName (store_ok I3 hN hj (.inl hy) rw' (fun s2 I4 => ?_) (.inr hy))))
  refine assignInOrder_cons (wpAny_bindName (store_ok I4 hN hi (.inl hx) rv (fun s3 I5 => assignInOrder_nil (wpAny_pure ?_)) (.inr hx)))
  rw [List.set_comm _ _ (Ne.symm hij)] at I5
  exact ⟨_, H1, I5, q1⟩
end
section
variable {X : Cx} {pos : Pos}
def tWhile (c : TT) (tb : TS) : TS := fun D σ H => ∃ W : Nat → St → Hp → Prop, (∃ m, W m σ H) ∧ ∀ m σ H, W m σ H →
  c σ H fun b H1 => if b = true then ∃ N : St → Hp → Prop, (∀ σ' H', N σ' H' → ∃ m', m' < m ∧ W m' σ' H') ∧ tb { D with nx := N, ct := N, bk := D.nx } σ H1 else D.nx σ H1
theorem ps_while {c : Expr} {body : List Stmt} {tc : TT} {tb : TS} (hp : PassesOwn (model X.prog X.w) X.A X.env X.xe) (hc : PT X c tc) (hb : PSs X body tb) : PS X (.While c body [] pos) (tWhile tc tb) := by
  intro pins s σ H D I h
  obtain ⟨W, ⟨m0, w0⟩, turn⟩ := h
  refine wpAny_While (codeAny_whileLoop (fun n s' => ∃ σ' H', Inv X pins σ' H' s' ∧ W n σ' H') ?_ m0 ⟨σ, H, I, w0⟩)
  rintro n s1 ⟨σ1, H1, I1, w1⟩
  refine wpAny_passesOwn hp (thn (hc pins s1 σ1 H1 _ I1 (turn n σ1 H1 w1)) fun b s2 ⟨H2, I2, q2⟩ => ?_)
  cases b with
  | true =>
    obtain ⟨N, hN, q2⟩ := q2
    rw [if_pos rfl]
    refine wpAny_passesOwn hp (thn (hb pins s2 σ1 H2 _ I2 q2) fun f s3 q3 => ?_)
    cases f with
    | next =>
      obtain ⟨σ3, H3, I3, n3⟩ := q3
      obtain ⟨m', hm, w3⟩ := hN σ3 H3 n3
      exact ⟨m', hm, σ3, H3, I3, w3⟩
    | cont =>
      obtain ⟨σ3, H3, I3, n3⟩ := q3
      obtain ⟨m', hm, w3⟩ := hN σ3 H3 n3
      exact ⟨m', hm, σ3, H3, I3, w3⟩
    | brk => exact q3
    | ret v => exact q3
  | false =>
    rw [if_neg Bool.false_ne_true]
    exact wpAny_execs_nil ⟨σ1, H2, I2, q2⟩
end
structure It where
  go : Nat → Hp → Prop
  yld : Nat → Hp → V → Hp → Prop
  stop : Nat → Hp → Prop
def FpOk (X : Cx) (pins : List (Addr × Obj)) (H : Hp) (b : Addr) : Prop :=
  H b = none ∧ b ≠ X.env.locals ∧ b ∉ X.fs ∧ (b ∈ X.ex ∨ X.s₀.heap.objs.size ≤ b) ∧ (∀ x c, X.env.cells.lookup x = some c → c ≠ b) ∧ ∀ p ∈ X.pn ++ pins, p.1 ≠ b
theorem Inv.fpOk {X : Cx} {pins : List (Addr × Obj)} {σ : St} {H H' : Hp} {s : Shared} {b : Addr} (I : Inv X pins σ H s) (hb : s.heap.objs.size ≤ b) (hn : H' b = none) : FpOk X pins H' b := by
  refine ⟨hn, Nat.ne_of_gt (Nat.lt_of_lt_of_le I.lt hb), I.nofs hb, .inr (Nat.le_trans I.sz hb), fun x c e z => ?_, fun p hp z => ?_⟩
  · obtain ⟨v, q⟩ := I.cell x c e
    exact absurd (Nat.lt_of_lt_of_le q.lt (by rw [z]; exact hb)) (Nat.lt_irrefl _)
  · exact absurd (Nat.lt_of_lt_of_le (Heap.lt_size (I.pin p hp).1) (by rw [z]; exact hb)) (Nat.lt_irrefl _)
structure Turn (P : Program) (w : World) (K : PySem.W.Frag) (tg : Expr) (J : It) (fp : List Addr) (it : Addr) (tn : Nat → Heap → Prop) : Prop where
  mem : it ∈ fp
  obj : ∀ i h, tn i h → ∀ b ∈ fp, ∃ o, h.get? b = some o ∧ ∀ v, o.data ≠ .cell v
  keep : ∀ i h h', tn i h → (∀ b ∈ fp, ∀ o, h.get? b = some o → h'.get? b = some o) → tn i h'
  item : ∀ (X : Cx), X.prog = P → X.w = w → X.K = K → X.calm = true → ∀ (i : Nat) (pins : List (Addr × Obj)) (s : Shared) (σ : St) (H : Hp) (E : Value → Shared → Prop), Inv X pins σ H s → (∀ b ∈ fp, FpOk X pins H b) → tn i s.heap → J.go i H →
    wpAny (model P w) X.A (pyNext (.ref it)) (fun r s1 => ∃ u, r = some u ∧
      wpAny (model P w) X.A (letOwnedTupleGo tg (.ref it) u) (fun _ s2 => ∃ x H', Inv X pins σ H' s2 ∧ RelV x u ∧ J.yld i H x H' ∧ tn (i + 1) s2.heap ∧ ∀ b ∈ fp, H' b = none) E s1) E s
  done : ∀ (X : Cx), X.prog = P → X.w = w → X.K = K → X.calm = true → ∀ (i : Nat) (pins : List (Addr × Obj)) (s : Shared) (σ : St) (H : Hp) (E : Value → Shared → Prop), Inv X pins σ H s → (∀ b ∈ fp, FpOk X pins H b) → tn i s.heap → J.stop i H →
    wpAny (model P w) X.A (pyNext (.ref it)) (fun r s1 => r = none ∧ Inv X pins σ H s1) E s
  self : ∀ (A : Around) (i : Nat) (s : Shared) (Q : Value → Shared → Prop) (E : Value → Shared → Prop), tn i s.heap → Q (.ref it) s → wpAny (model P w) A (pyIter (.ref it)) Q E s
abbrev TI := St → Hp → (It → Hp → Prop) → Prop
def PIE (X : Cx) (pins : List (Addr × Obj)) (σ : St) (tg : Expr) (R : It → Hp → Prop) (itv : Value) (s2 : Shared) : Prop :=
  ∃ (it : Addr) (fp : List Addr) (tn : Nat → Heap → Prop) (J : It) (H' : Hp), itv = .ref it ∧ Inv X pins σ H' s2 ∧ Turn X.prog X.w X.K tg J fp it tn ∧ tn 0 s2.heap ∧ (∀ b ∈ fp, FpOk X pins H' b) ∧ R J H'
def PI (X : Cx) (tg iter : Expr) (wi : TI) : Prop :=
  ∀ (pins : List (Addr × Obj)) (s : Shared) (σ : St) (H : Hp) (R : It → Hp → Prop), Inv X pins σ H s → wi σ H R →
    wpAny (model X.prog X.w) X.A (eval iter X.env) (fun v s1 => wpAny (model X.prog X.w) X.A (pyIter v) (PIE X pins σ tg R) X.xe s1) X.xe s
theorem go_of {M : Model} {A : Around} {E : Value → Shared → Prop} {s : Shared} {tg : Expr} {it : Addr} {u : Value} {o : Obj} {n : String} {vs : Array Value} {Q : Unit → Shared → Prop} (ho : s.heap.get? it = some o) (hc : o.cls = .type n) (hd : o.data = .fields vs)
    (hn : ["enumerate", "zip", "dict_itemiterator", "dict_reverseitemiterator", "odict_iterator", "itertools.zip_longest", "itertools.pairwise"].contains n = false) (hQ : Q () s) : wpAny M A (letOwnedTupleGo tg (.ref it) u) Q E s := by
  unfold letOwnedTupleGo
  cases tg <;> first
    | exact wpAny_pure hQ
    | (cases u <;> first
        | exact wpAny_pure hQ
        | (refine wpAny_bind (wpAny_load ho ?_)
           rw [hc, hd]
           show wpAny M A (if (["enumerate", "zip", "dict_itemiterator", "dict_reverseitemiterator", "odict_iterator", "itertools.zip_longest", "itertools.pairwise"].contains n && vs[0]? == some (rawInt _)) = true then _ else _) Q E s
           rw [if_neg (by intro h; rw [hn, Bool.false_and] at h; cases h)]
           exact wpAny_pure hQ))
def Itl (K : PySem.W.Frag) (a : Addr) : It :=
  ⟨fun i H => ∃ xs x, SqL K H a xs ∧ xs[i]? = some x, fun i H x H' => H' = H ∧ ∀ xs, SqL K H a xs → xs[i]? = some x, fun i H => ∃ xs, SqL K H a xs ∧ xs.length ≤ i⟩
def Itt (K : PySem.W.Frag) (a : Addr) : It :=
  ⟨fun i H => ∃ xs x, SqT K H a xs ∧ xs[i]? = some x, fun i H x H' => H' = H ∧ ∀ xs, SqT K H a xs → xs[i]? = some x, fun i H => ∃ xs, SqT K H a xs ∧ xs.length ≤ i⟩
def Itr (lo : Int) (n : Nat) : It := ⟨fun i _ => i < n, fun i H x H' => H' = H ∧ x = .int (lo + i), fun i _ => n ≤ i⟩
theorem turn_list {P : Program} {w : World} {K : PySem.W.Frag} {tg : Expr} (a it : Addr) : Turn P w K tg (Itl K a) [it] it (fun i h => h.IsListIter it a i) where
  mem := by simp
  obj := fun i h st b hb => by
    have e : b = it := by simpa using hb
    subst e
    obtain ⟨o, e, c, d⟩ := st
    exact ⟨o, e, fun v z => by rw [d] at z; cases z⟩
  keep := fun i h h' st k => st.at fun o e => k it (by simp) o e
  item := by
    intro X hP hw hK hc i pins s σ H E I hf st hg
    subst hP hw hK
    obtain ⟨xs, x, hq, hx⟩ := hg
    obtain ⟨its, rv, p, hz⟩ := I.list hq
    obtain ⟨u, hu, ru⟩ := rv.get hx
    obtain ⟨f0, f1, f2, f3, f4, f5⟩ := hf it (by simp)
    refine wpAny_pyNext_list_item st p.isList (x := u) (by simpa using hu) fun h' st' sb => ?_
    have I1 : Inv X pins σ H { s with heap := h' } := I.turned (t' := s.toks) (fun b o hb e => (sb.2 b hb).trans e) f0 f1 f3 f4 f5
    obtain ⟨o, e, c, d⟩ := id st'
    exact ⟨u, rfl, go_of (s := { s with heap := h' }) e c d (by decide) ⟨x, H, I1, ru, ⟨rfl, fun ys hy => by rw [I.list_inj hy hq]; exact hx⟩, st', fun b hb => (hf b hb).1⟩⟩
  done := by
    intro X hP hw hK hc i pins s σ H E I hf st hg
    subst hP hw hK
    obtain ⟨xs, hq, hx⟩ := hg
    obtain ⟨its, rv, p, hz⟩ := I.list hq
    obtain ⟨f0, f1, f2, f3, f4, f5⟩ := hf it (by simp)
    have hl := rv.length
    exact wpAny_pyNext_list_end (I.ok.hd hc) st p.isList (by simp; omega) fun h' eb => ⟨rfl, I.turned (t' := s.toks) (fun b o hb e => eb b o hb e) f0 f1 f3 f4 f5⟩
  self := fun _ _ _ _ _ st h => wpAny_pyIter_listiter st h
theorem turn_tuple {P : Program} {w : World} {K : PySem.W.Frag} {tg : Expr} (a it : Addr) : Turn P w K tg (Itt K a) [it] it (fun i h => h.IsTupleIter it a i) where
  mem := by simp
  obj := fun i h st b hb => by
    have e : b = it := by simpa using hb
    subst e
    obtain ⟨o, e, c, d⟩ := st
    exact ⟨o, e, fun v z => by rw [d] at z; cases z⟩
  keep := fun i h h' st k => st.at fun o e => k it (by simp) o e
  item := by
    intro X hP hw hK hc i pins s σ H E I hf st hg
    subst hP hw hK
    obtain ⟨xs, x, hq, hx⟩ := hg
    obtain ⟨its, rv, p, hz⟩ := I.tuple hq
    obtain ⟨u, hu, ru⟩ := rv.get hx
    obtain ⟨f0, f1, f2, f3, f4, f5⟩ := hf it (by simp)
    refine wpAny_pyNext_tuple_item st (show s.heap.IsTuple a its.toArray from p) (x := u) (by simpa using hu) fun h' st' sb => ?_
    have I1 : Inv X pins σ H { s with heap := h' } := I.turned (t' := s.toks) (fun b o hb e => (sb.2 b hb).trans e) f0 f1 f3 f4 f5
    obtain ⟨o, e, c, d⟩ := id st'
    exact ⟨u, rfl, go_of (s := { s with heap := h' }) e c d (by decide) ⟨x, H, I1, ru, ⟨rfl, fun ys hy => by rw [I.tuple_inj hy hq]; exact hx⟩, st', fun b hb => (hf b hb).1⟩⟩
  done := by
    intro X hP hw hK hc i pins s σ H E I hf st hg
    subst hP hw hK
    obtain ⟨xs, hq, hx⟩ := hg
    obtain ⟨its, rv, p, hz⟩ := I.tuple hq
    obtain ⟨f0, f1, f2, f3, f4, f5⟩ := hf it (by simp)
    have hl := rv.length
    exact wpAny_pyNext_tuple_end (I.ok.hd hc) st (show s.heap.IsTuple a its.toArray from p) (by simp; omega) fun h' eb => ⟨rfl, I.turned (t' := s.toks) (fun b o hb e => eb b o hb e) f0 f1 f3 f4 f5⟩
  self := fun _ _ _ _ _ st h => wpAny_pyIter_tupleiter st h
theorem turn_range {P : Program} {w : World} {K : PySem.W.Frag} {tg : Expr} (it : Addr) (lo : Int) (n : Nat) : Turn P w K tg (Itr lo n) [it] it (fun i h => IsRangeIter h it (lo + (i : Nat) * 1) ((n : Int) - (i : Nat)) 1) where
  mem := by simp
  obj := fun i h st b hb => by
    have e : b = it := by simpa using hb
    subst e
    exact ⟨_, st, fun v z => by
      have z' : Data.fields _ = Data.cell v := z
      cases z'⟩
  keep := fun i h h' st k => k it (by simp) _ st
  item := by
    intro X hP hw hK hc i pins s σ H E I hf st hg
    subst hP hw hK
    obtain ⟨f0, f1, f2, f3, f4, f5⟩ := hf it (by simp)
    have W := Walks.range (prog := X.prog) (w := X.w) (I.ok.hd hc) it lo 1 n
    refine W.item i s _ _ hg st fun v h' tk hv st' kk => ?_
    obtain ⟨t, rfl⟩ := hv
    have I1 : Inv X pins σ H { s with heap := h', toks := tk } := I.turned (fun b o hb e => kk b o (by simpa using hb) e) f0 f1 f3 f4 f5
    refine ⟨_, rfl, go_of (s := { s with heap := h', toks := tk }) (n := "range_iterator") st' rfl rfl (by decide) ⟨.int (lo + i), H, I1, ⟨t, ?_⟩, ⟨rfl, rfl⟩, st', fun b hb => (hf b hb).1⟩⟩
    rw [Int.mul_one]
  done := by
    intro X hP hw hK hc i pins s σ H E I hf st hg
    subst hP hw hK
    obtain ⟨f0, f1, f2, f3, f4, f5⟩ := hf it (by simp)
    exact wpAny_pyNext_range_end (I.ok.hd hc) st (by have : n ≤ i := hg; omega) fun h' eb => ⟨rfl, I.turned (t' := s.toks) (fun b o hb e => eb b o hb e) f0 f1 f3 f4 f5⟩
  self := fun _ _ _ _ _ st h => wpAny_pyIter_rangeiter st h
end L2
namespace L2
open PySem PySem.Spec PyProof.Rows
section
variable {X : Cx} {tg : Expr}
def iList (K : PySem.W.Frag) (tl : TE) : TI := fun σ H R => tl σ H fun x H1 => ∃ a, x = .ref a ∧ (∃ xs, SqL K H1 a xs) ∧ R (Itl K a) H1
def iTup (K : PySem.W.Frag) (tl : TE) : TI := fun σ H R => tl σ H fun x H1 => ∃ a, x = .ref a ∧ (∃ xs, SqT K H1 a xs) ∧ R (Itt K a) H1
theorem pi_list {l : Expr} {tl : TE} (hl : PE X l tl) : PI X tg l (iList X.K tl) := by
  intro pins s σ H R I h
  refine thn (hl pins s σ H _ I h) fun v s1 ⟨x, H1, I1, r1, q1⟩ => ?_
  obtain ⟨a, e, ⟨xs, hq⟩, q⟩ := q1
  subst e
  cases r1
  obtain ⟨its, rv, p, hz⟩ := I1.list hq
  refine wpAny_pyIter_list p.isList ?_
  refine ⟨s1.heap.objs.size, [s1.heap.objs.size], _, _, H1, rfl, I1.kept (t' := s1.toks) fun b o e => Heap.get?_push_of_some _ e, turn_list a _, ⟨_, Heap.get?_push_size _ rfl, rfl, rfl⟩, fun b hb => ?_, q⟩
  have e : b = s1.heap.objs.size := by simpa using hb
  subst e
  exact I1.fpOk (Nat.le_refl _) (I1.hok.fresh (Nat.le_refl _))
theorem pi_tup {l : Expr} {tl : TE} (hl : PE X l tl) : PI X tg l (iTup X.K tl) := by
  intro pins s σ H R I h
  refine thn (hl pins s σ H _ I h) fun v s1 ⟨x, H1, I1, r1, q1⟩ => ?_
  obtain ⟨a, e, ⟨xs, hq⟩, q⟩ := q1
  subst e
  cases r1
  obtain ⟨its, rv, p, hz⟩ := I1.tuple hq
  refine wpAny_pyIter_tuple (show s1.heap.IsTuple a its.toArray from p) ?_
  refine ⟨s1.heap.objs.size, [s1.heap.objs.size], _, _, H1, rfl, I1.kept (t' := s1.toks) fun b o e => Heap.get?_push_of_some _ e, turn_tuple a _, ⟨_, Heap.get?_push_size _ rfl, rfl, rfl⟩, fun b hb => ?_, q⟩
  have e : b = s1.heap.objs.size := by simpa using hb
  subst e
  exact I1.fpOk (Nat.le_refl _) (I1.hok.fresh (Nat.le_refl _))
theorem range_it {pins : List (Addr × Obj)} {σ : St} {H : Hp} {s : Shared} {R : It → Hp → Prop} {E : Value → Shared → Prop} {lo hi : Int} {t u v : Tok} {tk : Nat} (I : Inv X pins σ H s) (h1 : -(2 ^ 62) ≤ lo) (h2 : lo < 2 ^ 62) (h3 : -(2 ^ 62) ≤ hi) (h4 : hi < 2 ^ 62)
    (q : R (Itr lo (hi - lo).toNat) H) : wpAny (model X.prog X.w) X.A (pyIter (.ref s.heap.objs.size)) (PIE X pins σ tg R) E { s with heap := s.heap.push { cls := .type "range", data := .fields #[.int lo t, .int hi u, .int 1 v] }, toks := tk } := by
  refine wpAny_pyIter_range (IsRange.new ..) (small_one h1 h2 h3 h4) ?_
  have I1 : Inv X pins σ H { s with heap := s.heap.push { cls := .type "range", data := .fields #[.int lo t, .int hi u, .int 1 v] }, toks := tk } := I.kept fun b o e => Heap.get?_push_of_some _ e
  refine ⟨(s.heap.push { cls := .type "range", data := .fields #[.int lo t, .int hi u, .int 1 v] }).objs.size, [(s.heap.push { cls := .type "range", data := .fields #[.int lo t, .int hi u, .int 1 v] }).objs.size], _, _, H, rfl,
    I1.kept (t' := tk) fun b o e => Heap.get?_push_of_some _ e, turn_range _ lo (hi - lo).toNat, ?_, fun b hb => ?_, q⟩
  · have e1 : lo + ((0 : Nat) : Int) * 1 = lo := by simp
    have e2 : (((hi - lo).toNat : Nat) : Int) - ((0 : Nat) : Int) = Builtin.Range.rangeSize lo hi 1 := by rw [rangeSize_one]; split <;> omega
    show IsRangeIter _ _ (lo + ((0 : Nat) : Int) * 1) ((((hi - lo).toNat : Nat) : Int) - ((0 : Nat) : Int)) 1
    rw [e1, e2]
    exact Heap.get?_push_size _ rfl
  · have e : b = (s.heap.push { cls := .type "range", data := .fields #[.int lo t, .int hi u, .int 1 v] }).objs.size := by simpa using hb
    subst e
    exact I1.fpOk (Nat.le_refl _) (I1.hok.fresh (Nat.le_refl _))
def iRng1 (ta : TA) : TI := fun σ H R => ta σ H fun vs H1 => ∃ j : Int, vs = [.int j] ∧ -(2 ^ 62) ≤ j ∧ j < 2 ^ 62 ∧ R (Itr 0 j.toNat) H1
theorem pi_range1 {a : Expr} {ta : TA} {p pos : Pos} (hg : Gl X "range") (hm : X.mg "range" = none) (ha : PA X [a] ta) (hs : starEach [a] X.env = [(false, eval a X.env)] := by rfl) : PI X tg (.Call (.Name "range" p) [a] [] pos) (iRng1 ta) := by
  intro pins s σ H R I h
  refine Call_ (ld_blt I hg hm boot_range (PyProof.Rows.callWith_type1 (thn (ha pos pins s σ H _ I h) fun us s1 ⟨vs, H1, I1, r1, q1⟩ => ?_) hs rfl))
  obtain ⟨j, e, q1, q2, q⟩ := q1
  subst e
  cases r1 with
  | cons r rr =>
    cases rr
    obtain ⟨t, rfl⟩ := r
    exact call_range_1 (range_it I1 (by omega) (by omega) q1 q2 (by simpa using q))
def tFor (wi : TI) (g : TG) (tb : TS) : TS := fun D σ H => wi σ H fun J H1 => ∃ W : Nat → Nat → St → Hp → Prop, (∃ m, W 0 m σ H1) ∧ ∀ i m σ H, W i m σ H →
  (J.stop i H ∧ D.nx σ H) ∨ (J.go i H ∧ ∃ N : St → Hp → Prop, (∀ σ' H', N σ' H' → ∃ m', m' < m ∧ W (i + 1) m' σ' H') ∧ ∀ x H', J.yld i H x H' → g x σ H' fun σ2 H2 => tb { D with nx := N, ct := N, bk := D.nx } σ2 H2)
def pinsAt (fp : List Addr) (h : Heap) : List (Addr × Obj) := fp.filterMap fun b => (h.get? b).map fun o => (b, o)
theorem mem_pinsAt {fp : List Addr} {h : Heap} {b : Addr} {o : Obj} (hb : b ∈ fp) (e : h.get? b = some o) : (b, o) ∈ pinsAt fp h := List.mem_filterMap.mpr ⟨b, hb, by rw [e]; rfl⟩
theorem of_pinsAt {fp : List Addr} {h : Heap} {p : Addr × Obj} (hp : p ∈ pinsAt fp h) : p.1 ∈ fp ∧ h.get? p.1 = some p.2 := by
  obtain ⟨b, hb, e⟩ := List.mem_filterMap.mp hp
  cases q : h.get? b with
  | none => rw [q] at e; cases e
  | some o =>
    rw [q] at e
    have e' : (b, o) = p := Option.some.inj e
    subst e'
    exact ⟨hb, q⟩
theorem Inv.pinned {pins : List (Addr × Obj)} {σ : St} {H : Hp} {s : Shared} {fp : List Addr} (I : Inv X pins σ H s) (hf : ∀ b ∈ fp, FpOk X pins H b) (ho : ∀ b ∈ fp, ∃ o, s.heap.get? b = some o ∧ ∀ v, o.data ≠ .cell v) : Inv X (pins ++ pinsAt fp s.heap) σ H s :=
  I.pins_of fun p hp => (List.mem_append.mp hp).elim (fun z => I.pin p (List.mem_append_right _ z)) fun z => by
    obtain ⟨hb, e⟩ := of_pinsAt z
    obtain ⟨f0, f1, f2, _⟩ := hf p.1 hb
    obtain ⟨o, e', d⟩ := ho p.1 hb
    rw [e] at e'; cases e'
    exact ⟨e, f0, f1, f2, d⟩
theorem Inv.unpinned {pins pl : List (Addr × Obj)} {σ : St} {H : Hp} {s : Shared} (I : Inv X (pins ++ pl) σ H s) : Inv X pins σ H s := I.pins_of fun p hp => I.pin p (List.mem_append_right _ (List.mem_append_left _ hp))
theorem ps_for {iter : Expr} {body : List Stmt} {wi : TI} {g : TG} {tb : TS} {pos : Pos} (hp : PassesOwn (model X.prog X.w) X.A X.env X.xe) (hc : X.calm = true) (hi : PI X tg iter wi) (hg : PG X tg g) (hb : PSs X body tb)
    (hs : ∀ x, foldedSetIterable iter X.env x = pure x := by intro _; rfl) : PS X (.For tg iter body [] pos) (tFor wi g tb) := by
  intro pins s σ H D I h
  refine wpAny_For (thn (hi pins s σ H _ I h) fun v s1 h1 => thn h1 fun itv s2 h2 => ?_) hs
  obtain ⟨it, fp, tn, J, H2, e, I2, T, st2, f2, W, ⟨m0, w0⟩, turn⟩ := h2
  subst e
  have stat : ∀ {H' : Hp}, (∀ b ∈ fp, H' b = none) → ∀ b ∈ fp, FpOk X pins H' b := fun hn b hb => ⟨hn b hb, (f2 b hb).2⟩
  refine codeAny_forLoop_any (fun n s' => ∃ i σ' H', Inv X pins σ' H' s' ∧ tn i s'.heap ∧ (∀ b ∈ fp, H' b = none) ∧ W i n σ' H') ?_ m0 ⟨0, σ, H2, I2, st2, fun b hb => (f2 b hb).1, w0⟩
  rintro n s3 ⟨i, σ3, H3, I3, st3, fr3, w3⟩
  rcases turn i n σ3 H3 w3 with ⟨stop, qn⟩ | ⟨go, N, hN, step⟩
  · refine wpAny_passesOwn hp (thn (T.done X rfl rfl rfl hc i pins s3 σ3 H3 X.xe I3 (stat fr3) st3 stop) fun r s4 ⟨hr, I4⟩ => ?_)
    subst hr
    exact wpAny_execs_nil ⟨σ3, H3, I4, qn⟩
  · refine wpAny_passesOwn hp (thn (T.item X rfl rfl rfl hc i pins s3 σ3 H3 X.xe I3 (stat fr3) st3 go) fun r s4 ⟨u, hr, h4⟩ => ?_)
    subst hr
    refine wpAny_passesOwn hp (thn h4 fun _ s5 ⟨x, H5, I5, r5, y5, st5, fr5⟩ => ?_)
    have I5' := I5.pinned (stat fr5) (T.obj _ _ st5)
    refine wpAny_passesOwn hp (thn (hg _ s5 σ3 H5 x u _ I5' r5 (step x H5 y5)) fun _ s6 ⟨σ6, H6, I6, q6⟩ => ?_)
    refine wpAny_passesOwn hp (thn (hb _ s6 σ6 H6 _ I6 q6) fun f s7 q7 => ?_)
    have again : ∀ {σ7 : St} {H7 : Hp}, Inv X (pins ++ pinsAt fp s5.heap) σ7 H7 s7 → N σ7 H7 → ∃ m, m < n ∧ ∃ i σ' H', Inv X pins σ' H' s7 ∧ tn i s7.heap ∧ (∀ b ∈ fp, H' b = none) ∧ W i m σ' H' := fun {σ7 H7} I7 n7 => by
      obtain ⟨m', hm, w7⟩ := hN σ7 H7 n7
      refine ⟨m', hm, i + 1, σ7, H7, I7.unpinned, T.keep _ _ _ st5 fun b hb o e => (I7.pin (b, o) (List.mem_append_right _ (List.mem_append_right _ (mem_pinsAt hb e)))).1, fun b hb => ?_, w7⟩
      obtain ⟨o, e, d⟩ := T.obj _ _ st5 b hb
      exact (I7.pin (b, o) (List.mem_append_right _ (List.mem_append_right _ (mem_pinsAt hb e)))).2.1
    cases f with
    | next => obtain ⟨σ7, H7, I7, n7⟩ := q7; exact again I7 n7
    | cont => obtain ⟨σ7, H7, I7, n7⟩ := q7; exact again I7 n7
    | brk => obtain ⟨σ7, H7, I7, q7⟩ := q7; exact ⟨σ7, H7, I7.unpinned, q7⟩
    | ret v => obtain ⟨x7, σ7, H7, I7, r7, q7⟩ := q7; exact ⟨x7, σ7, H7, I7.unpinned, r7, q7⟩
end
theorem for_list {K : PySem.W.Frag} {a : Addr} {xs : List V} {g : TG} {tb : TS} {D : Ends} {σ : St} {H : Hp} (Pv : Nat → St → Hp → Prop) (h0 : Pv 0 σ H) (hl : ∀ i σ H, i ≤ xs.length → Pv i σ H → SqL K H a xs)
    (hs : ∀ i x σ H, xs[i]? = some x → Pv i σ H → g x σ H fun σ2 H2 => tb { D with nx := Pv (i + 1), ct := Pv (i + 1), bk := D.nx } σ2 H2) (hd : ∀ σ H, Pv xs.length σ H → D.nx σ H) :
    ∃ W : Nat → Nat → St → Hp → Prop, (∃ m, W 0 m σ H) ∧ ∀ i m σ H, W i m σ H →
      ((Itl K a).stop i H ∧ D.nx σ H) ∨ ((Itl K a).go i H ∧ ∃ N : St → Hp → Prop, (∀ σ' H', N σ' H' → ∃ m', m' < m ∧ W (i + 1) m' σ' H') ∧ ∀ x H', (Itl K a).yld i H x H' → g x σ H' fun σ2 H2 => tb { D with nx := N, ct := N, bk := D.nx } σ2 H2) := by
  refine ⟨fun i m σ H => m = xs.length - i ∧ i ≤ xs.length ∧ Pv i σ H, ⟨xs.length, by simp, Nat.zero_le _, h0⟩, ?_⟩
  rintro i m σ H ⟨rfl, hi, p⟩
  have q := hl i σ H hi p
  by_cases hlt : i < xs.length
  · refine .inr ⟨⟨xs, xs[i], q, by simp [hlt]⟩, Pv (i + 1), fun σ' H' p' => ⟨xs.length - (i + 1), by omega, rfl, hlt, p'⟩, fun x H' y => ?_⟩
    obtain ⟨e, y⟩ := y
    subst e
    exact hs i x σ _ (y xs q) p
  · have e : i = xs.length := by omega
    subst e
    exact .inl ⟨⟨xs, q, Nat.le_refl _⟩, hd σ H p⟩
theorem for_tup {K : PySem.W.Frag} {a : Addr} {xs : List V} {g : TG} {tb : TS} {D : Ends} {σ : St} {H : Hp} (Pv : Nat → St → Hp → Prop) (h0 : Pv 0 σ H) (hl : ∀ i σ H, i ≤ xs.length → Pv i σ H → SqT K H a xs)
    (hs : ∀ i x σ H, xs[i]? = some x → Pv i σ H → g x σ H fun σ2 H2 => tb { D with nx := Pv (i + 1), ct := Pv (i + 1), bk := D.nx } σ2 H2) (hd : ∀ σ H, Pv xs.length σ H → D.nx σ H) :
    ∃ W : Nat → Nat → St → Hp → Prop, (∃ m, W 0 m σ H) ∧ ∀ i m σ H, W i m σ H →
      ((Itt K a).stop i H ∧ D.nx σ H) ∨ ((Itt K a).go i H ∧ ∃ N : St → Hp → Prop, (∀ σ' H', N σ' H' → ∃ m', m' < m ∧ W (i + 1) m' σ' H') ∧ ∀ x H', (Itt K a).yld i H x H' → g x σ H' fun σ2 H2 => tb { D with nx := N, ct := N, bk := D.nx } σ2 H2) := by
  refine ⟨fun i m σ H => m = xs.length - i ∧ i ≤ xs.length ∧ Pv i σ H, ⟨xs.length, by simp, Nat.zero_le _, h0⟩, ?_⟩
  rintro i m σ H ⟨rfl, hi, p⟩
  have q := hl i σ H hi p
  by_cases hlt : i < xs.length
  · refine .inr ⟨⟨xs, xs[i], q, by simp [hlt]⟩, Pv (i + 1), fun σ' H' p' => ⟨xs.length - (i + 1), by omega, rfl, hlt, p'⟩, fun x H' y => ?_⟩
    obtain ⟨e, y⟩ := y
    subst e
    exact hs i x σ _ (y xs q) p
  · have e : i = xs.length := by omega
    subst e
    exact .inl ⟨⟨xs, q, Nat.le_refl _⟩, hd σ H p⟩
theorem for_range {lo : Int} {n : Nat} {g : TG} {tb : TS} {D : Ends} {σ : St} {H : Hp} (Pv : Nat → St → Hp → Prop) (h0 : Pv 0 σ H)
    (hs : ∀ i σ H, i < n → Pv i σ H → g (.int (lo + i)) σ H fun σ2 H2 => tb { D with nx := Pv (i + 1), ct := Pv (i + 1), bk := D.nx } σ2 H2) (hd : ∀ σ H, Pv n σ H → D.nx σ H) :
    ∃ W : Nat → Nat → St → Hp → Prop, (∃ m, W 0 m σ H) ∧ ∀ i m σ H, W i m σ H →
      ((Itr lo n).stop i H ∧ D.nx σ H) ∨ ((Itr lo n).go i H ∧ ∃ N : St → Hp → Prop, (∀ σ' H', N σ' H' → ∃ m', m' < m ∧ W (i + 1) m' σ' H') ∧ ∀ x H', (Itr lo n).yld i H x H' → g x σ H' fun σ2 H2 => tb { D with nx := N, ct := N, bk := D.nx } σ2 H2) := by
  refine ⟨fun i m σ H => m = n - i ∧ i ≤ n ∧ Pv i σ H, ⟨n, by simp, Nat.zero_le _, h0⟩, ?_⟩
  rintro i m σ H ⟨rfl, hi, p⟩
  by_cases hlt : i < n
  · refine .inr ⟨hlt, Pv (i + 1), fun σ' H' p' => ⟨n - (i + 1), by omega, rfl, hlt, p'⟩, fun x H' y => ?_⟩
    obtain ⟨e, y⟩ := y
    subst e y
    exact hs i σ _ hlt p
  · have e : i = n := by omega
    subst e
    exact .inl ⟨Nat.le_refl _, hd σ H p⟩
theorem while_by {c : TT} {tb : TS} {D : Ends} {σ : St} {H : Hp} (Pv : St → Hp → Prop) (μ : St → Hp → Nat) (h0 : Pv σ H)
    (hs : ∀ σ H, Pv σ H → c σ H fun b H1 => if b = true then tb { D with nx := fun σ' H' => Pv σ' H' ∧ μ σ' H' < μ σ H, ct := fun σ' H' => Pv σ' H' ∧ μ σ' H' < μ σ H, bk := D.nx } σ H1 else D.nx σ H1)
    (mono : ∀ σ H Q Q', (∀ b H1, Q b H1 → Q' b H1) → c σ H Q → c σ H Q') : tWhile c tb D σ H := by
  refine ⟨fun m σ H => m = μ σ H ∧ Pv σ H, ⟨_, rfl, h0⟩, ?_⟩
  rintro m σ H ⟨rfl, p⟩
  refine mono σ H _ _ (fun b H1 q => ?_) (hs σ H p)
  cases b with
  | true => exact ⟨_, fun σ' H' ⟨p', l⟩ => ⟨_, l, rfl, p'⟩, q⟩
  | false => exact q
end L2
namespace L2
open PySem PySem.Spec PyProof.Rows
abbrev R2 := V → V → Hp → VK → Prop
def OpR (X : Cx) (f : Value → Value → Sem Value) (r : R2) : Prop :=
  ∀ (pins : List (Addr × Obj)) (s : Shared) (σ : St) (H : Hp) (x y : V) (v u : Value) (Q : VK), Inv X pins σ H s → RelV x v → RelV y u → r x y H Q →
    wpAny (model X.prog X.w) X.A (f v u) (EP X pins σ Q) X.xe s
def UnR (X : Cx) (f : Value → Sem Value) (r : V → Hp → VK → Prop) : Prop :=
  ∀ (pins : List (Addr × Obj)) (s : Shared) (σ : St) (H : Hp) (x : V) (v : Value) (Q : VK), Inv X pins σ H s → RelV x v → r x H Q →
    wpAny (model X.prog X.w) X.A (f v) (EP X pins σ Q) X.xe s
def CallR (X : Cx) (f : Value) (r : List V → Hp → VK → Prop) : Prop :=
  ∀ (pins : List (Addr × Obj)) (s : Shared) (σ : St) (H : Hp) (xs : List V) (us : List Value) (Q : VK), Inv X pins σ H s → Vals xs us → r xs H Q →
    wpAny (model X.prog X.w) X.A (call f us) (EP X pins σ Q) X.xe s
def tOp (r : R2) (ta tb : TE) : TE := fun σ H Q => ta σ H fun x H1 => tb σ H1 fun y H2 => r x y H2 Q
def tUn (r : V → Hp → VK → Prop) (ta : TE) : TE := fun σ H Q => ta σ H fun x H1 => r x H1 Q
def rI (C : Int → Int → Prop) (g : Int → Int → V) : R2 := fun x y H Q => ∃ i j, x = .int i ∧ y = .int j ∧ C i j ∧ Q (g i j) H
def rI0 (g : Int → Int → V) : R2 := fun x y H Q => ∃ i j, x = .int i ∧ y = .int j ∧ Q (g i j) H
def rU (g : Int → V) : V → Hp → VK → Prop := fun x H Q => ∃ i, x = .int i ∧ Q (g i) H
section
variable {X : Cx} {a b c : Expr} {ta tb tc : TE} {pos : Pos}
theorem binT (ha : PE X a ta) (hb : PE X b tb) {pins : List (Addr × Obj)} {s : Shared} {σ : St} {H : Hp} {R : V → V → Hp → Prop} (I : Inv X pins σ H s)
    (h : ta σ H fun x H1 => tb σ H1 fun y H2 => R x y H2) {Q : Value → Shared → Prop} {f : Value → Value → Sem Value}
    (hf : ∀ v u s2 x y H2, Inv X pins σ H2 s2 → RelV x v → RelV y u → R x y H2 → wpAny (model X.prog X.w) X.A (f v u) Q X.xe s2) :
    wpAny (model X.prog X.w) X.A (eval a X.env) (fun v s₁ => wpAny (model X.prog X.w) X.A (eval b X.env) (fun u s₂ => wpAny (model X.prog X.w) X.A (f v u) Q X.xe s₂) X.xe s₁) X.xe s := by
  refine thn (ha pins s σ H _ I h) fun v s1 ⟨x, H1, I1, r1, q1⟩ => ?_
  refine thn (hb pins s1 σ H1 _ I1 q1) fun u s2 ⟨y, H2, I2, r2, q2⟩ => ?_
  exact hf v u s2 x y H2 I2 r1 r2 q2
theorem pe_op {op : Operator} {r : R2} (ho : OpR X (binaryOp op) r) (ha : PE X a ta) (hb : PE X b tb) : PE X (.BinOp a op b pos) (tOp r ta tb) := by
  intro pins s σ H Q I h
  exact wpAny_BinOp (binT ha hb I h fun v u s2 x y H2 I2 rx ry q => ho pins s2 σ H2 x y v u Q I2 rx ry q)
theorem pe_un {op : UnaryOp} {r : V → Hp → VK → Prop} (ho : UnR X (unaryOp op) r) (ha : PE X a ta) : PE X (.UnaryOp op a pos) (tUn r ta) := by
  intro pins s σ H Q I h
  exact UnaryOp_ (thn (ha pins s σ H _ I h) fun v s1 ⟨x, H1, I1, r1, q1⟩ => ho pins s1 σ H1 x v Q I1 r1 q1)
theorem opI {f : Value → Value → Sem Value} {C : Int → Int → Prop} {g : Int → Int → Int}
    (rule : ∀ (i j : Int) (t u : Tok) (s : Shared) (Q : Value → Shared → Prop) (E : Value → Shared → Prop), C i j → Q (.int (g i j) s.toks) { s with toks := s.toks + 1 } → wpAny (model X.prog X.w) X.A (f (.int i t) (.int j u)) Q E s) :
    OpR X f (rI C fun i j => .int (g i j)) := by
  intro pins s σ H x y v u Q I rx ry h
  obtain ⟨i, j, rfl, rfl, hc, q⟩ := h
  obtain ⟨t, rfl⟩ := rx
  obtain ⟨t', rfl⟩ := ry
  exact rule i j t t' s _ _ hc ⟨.int (g i j), H, I.tok _, ⟨_, rfl⟩, q⟩
theorem opI0 {f : Value → Value → Sem Value} {g : Int → Int → Int}
    (rule : ∀ (i j : Int) (t u : Tok) (s : Shared) (Q : Value → Shared → Prop) (E : Value → Shared → Prop), Q (.int (g i j) s.toks) { s with toks := s.toks + 1 } → wpAny (model X.prog X.w) X.A (f (.int i t) (.int j u)) Q E s) :
    OpR X f (rI0 fun i j => .int (g i j)) := by
  intro pins s σ H x y v u Q I rx ry h
  obtain ⟨i, j, rfl, rfl, q⟩ := h
  obtain ⟨t, rfl⟩ := rx
  obtain ⟨t', rfl⟩ := ry
  exact rule i j t t' s _ _ ⟨.int (g i j), H, I.tok _, ⟨_, rfl⟩, q⟩
theorem opB0 {f : Value → Value → Sem Value} {g : Int → Int → Bool}
    (rule : ∀ (i j : Int) (t u : Tok) (s : Shared) (Q : Value → Shared → Prop) (E : Value → Shared → Prop), Q (.bool (g i j)) s → wpAny (model X.prog X.w) X.A (f (.int i t) (.int j u)) Q E s) :
    OpR X f (rI0 fun i j => .bl (g i j)) := by
  intro pins s σ H x y v u Q I rx ry h
  obtain ⟨i, j, rfl, rfl, q⟩ := h
  obtain ⟨t, rfl⟩ := rx
  obtain ⟨t', rfl⟩ := ry
  exact rule i j t t' s _ _ ⟨.bl (g i j), H, I, rfl, q⟩
def CPow (i j : Int) : Prop := 0 ≤ j ∧ j ≤ 1000000 ∧ i.natAbs < 2 ^ 64
def CMul (i j : Int) : Prop := (-(2 ^ 64) < i ∧ i < 2 ^ 64) ∨ (-(2 ^ 64) < j ∧ j < 2 ^ 64)
theorem CMul.ok {i j : Int} (h : CMul i j) : IntMulOk i j := by
  rcases h with ⟨h1, h2⟩ | ⟨h1, h2⟩
  · exact .of_left (intBits_le_64 h1 h2)
  · exact .of_right (intBits_le_64 h1 h2)
theorem op_add : OpR X (binaryOp .Add) (rI0 fun i j => .int (i + j)) := opI0 fun _ _ _ _ _ _ _ q => add_int q
theorem op_sub : OpR X (binaryOp .Sub) (rI0 fun i j => .int (i - j)) := opI0 fun _ _ _ _ _ _ _ q => sub_int q
theorem op_mod : OpR X (binaryOp .Mod) (rI (fun _ j => 0 < j) fun i j => .int (i % j)) := opI fun i j _ _ _ _ _ hc q => by
  have h1 : (0 : Int) < j := hc
  exact mod_int' (by omega) (by rw [Int.fmod_eq_emod_of_nonneg i (by omega)]; exact q)
theorem op_pow : OpR X (binaryOp .Pow) (rI CPow fun i j => .int (i ^ j.toNat)) := opI fun _ _ _ _ _ _ _ hc q => pow_int_small hc.1 hc.2.1 hc.2.2 q
theorem unI {f : Value → Sem Value} {g : Int → Int}
    (rule : ∀ (i : Int) (t : Tok) (s : Shared) (Q : Value → Shared → Prop) (E : Value → Shared → Prop), Q (.int (g i) s.toks) { s with toks := s.toks + 1 } → wpAny (model X.prog X.w) X.A (f (.int i t)) Q E s) :
    UnR X f (rU fun i => .int (g i)) := by
  intro pins s σ H x v Q I rx h
  obtain ⟨i, rfl, q⟩ := h
  obtain ⟨t, rfl⟩ := rx
  exact rule i t s _ _ ⟨.int (g i), H, I.tok _, ⟨_, rfl⟩, q⟩
theorem un_neg : UnR X (unaryOp .USub) (rU fun i => .int (-i)) := unI fun _ _ _ _ _ q => neg_int q
end
def scal : V → V → Bool
  | .non, .non => true | .non, .int _ => true | .int _, .non => true | .non, .bl _ => true | .bl _, .non => true | .non, .str _ => true | .str _, .non => true
  | .int _, .int _ => true | .bl _, .bl _ => true | .str _, .str _ => true | .byt _, .byt _ => true
  | .int _, .str _ => true | .str _, .int _ => true | .bl _, .str _ => true | .str _, .bl _ => true
  | _, _ => false
def rEq : R2 := fun x y H Q => scal x y = true ∧ Q (.bl (decide (x = y))) H
def rNe : R2 := fun x y H Q => scal x y = true ∧ Q (.bl (!decide (x = y))) H
theorem dec_int {i j : Int} : decide (V.int i = V.int j) = (i == j) := by
  rw [Bool.eq_iff_iff]
  simp
theorem dec_bl {i j : Bool} : decide (V.bl i = V.bl j) = (i == j) := by
  rw [Bool.eq_iff_iff]
  simp
theorem dec_str {i j : Str} : decide (V.str i = V.str j) = (i == j) := by
  rw [Bool.eq_iff_iff]
  simp
theorem dec_byt {i j : Array UInt8} : decide (V.byt i = V.byt j) = (i.toList == j.toList) := by
  rw [Bool.eq_iff_iff]
  cases i
  cases j
  simp
section
variable {X : Cx} {a b c : Expr} {ta tb tc : TE} {pos : Pos}
theorem fin_bl {pins : List (Addr × Obj)} {σ : St} {H : Hp} {s : Shared} {Q : VK} {k k' : Bool} (I : Inv X pins σ H s) (q : Q (.bl k) H) (e : k = k') : EP X pins σ Q (.bool k') s := by
  subst e
  exact ⟨.bl k, H, I, rfl, q⟩
theorem op_eq : OpR X (compareOp .Eq) rEq := by
  intro pins s σ H x y v u Q I rx ry h
  obtain ⟨hs, q⟩ := h
  cases x with
  | non =>
    cases rx
    cases y with
    | non => cases ry; exact PySem.EqNone.eq_none_none (fin_bl I q (by simp))
    | bl j => cases ry; exact PySem.EqNone.eq_none_bool (fin_bl I q (by simp))
    | int j => obtain ⟨t', rfl⟩ := ry; exact PySem.EqNone.eq_none_int (fin_bl I q (by simp))
    | str j => obtain ⟨t', rfl⟩ := ry; exact PySem.EqNone.eq_none_str (fin_bl I q (by simp))
    | _ => exact absurd (show false = true from hs) Bool.false_ne_true
  | bl i =>
    cases rx
    cases y with
    | non => cases ry; exact PySem.EqNone.eq_bool_none (fin_bl I q (by simp))
    | bl j => cases ry; exact eq_bool (fin_bl I q dec_bl)
    | str j => obtain ⟨t', rfl⟩ := ry; exact PySem.EqMixed.eq_bool_str (fin_bl I q (by simp))
    | _ => exact absurd (show false = true from hs) Bool.false_ne_true
  | int i =>
    obtain ⟨t, rfl⟩ := rx
    cases y with
    | non => cases ry; exact PySem.EqNone.eq_int_none (fin_bl I q (by simp))
    | int j => obtain ⟨t', rfl⟩ := ry; exact eq_int (fin_bl I q dec_int)
    | str j => obtain ⟨t', rfl⟩ := ry; exact PySem.EqMixed.eq_int_str (fin_bl I q (by simp))
    | _ => exact absurd (show false = true from hs) Bool.false_ne_true
  | str i =>
    obtain ⟨t, rfl⟩ := rx
    cases y with
    | non => cases ry; exact PySem.EqNone.eq_str_none (fin_bl I q (by simp))
    | bl j => cases ry; exact PySem.EqMixed.eq_str_bool (fin_bl I q (by simp))
    | int j => obtain ⟨t', rfl⟩ := ry; exact PySem.EqMixed.eq_str_int (fin_bl I q (by simp))
    | str j => obtain ⟨t', rfl⟩ := ry; exact eq_str (fin_bl I q dec_str)
    | _ => exact absurd (show false = true from hs) Bool.false_ne_true
  | byt i =>
    obtain ⟨t, rfl⟩ := rx
    cases y with
    | byt j => obtain ⟨t', rfl⟩ := ry; exact PySem.W.eq_bytes (fin_bl I q dec_byt)
    | _ => exact absurd (show false = true from hs) Bool.false_ne_true
  | _ => cases y <;> exact absurd (show false = true from hs) Bool.false_ne_true
theorem op_ne : OpR X (compareOp .NotEq) rNe := by
  intro pins s σ H x y v u Q I rx ry h
  obtain ⟨hs, q⟩ := h
  cases x with
  | non =>
    cases rx
    cases y with
    | non => cases ry; exact PySem.EqNone.ne_none_none (fin_bl I q (by simp))
    | bl j => cases ry; exact PySem.EqNone.ne_none_bool (fin_bl I q (by simp))
    | int j => obtain ⟨t', rfl⟩ := ry; exact PySem.EqNone.ne_none_int (fin_bl I q (by simp))
    | str j => obtain ⟨t', rfl⟩ := ry; exact PySem.EqNone.ne_none_str (fin_bl I q (by simp))
    | _ => exact absurd (show false = true from hs) Bool.false_ne_true
  | bl i =>
    cases rx
    cases y with
    | non => cases ry; exact PySem.EqNone.ne_bool_none (fin_bl I q (by simp))
    | bl j => cases ry; exact ne_bool (fin_bl I q (congrArg not dec_bl))
    | str j => obtain ⟨t', rfl⟩ := ry; exact PySem.EqMixed.ne_bool_str (fin_bl I q (by simp))
    | _ => exact absurd (show false = true from hs) Bool.false_ne_true
  | int i =>
    obtain ⟨t, rfl⟩ := rx
    cases y with
    | non => cases ry; exact PySem.EqNone.ne_int_none (fin_bl I q (by simp))
    | int j => obtain ⟨t', rfl⟩ := ry; exact ne_int (fin_bl I q (congrArg not dec_int))
    | str j => obtain ⟨t', rfl⟩ := ry; exact PySem.EqMixed.ne_int_str (fin_bl I q (by simp))
    | _ => exact absurd (show false = true from hs) Bool.false_ne_true
  | str i =>
    obtain ⟨t, rfl⟩ := rx
    cases y with
    | non => cases ry; exact PySem.EqNone.ne_str_none (fin_bl I q (by simp))
    | bl j => cases ry; exact PySem.EqMixed.ne_str_bool (fin_bl I q (by simp))
    | int j => obtain ⟨t', rfl⟩ := ry; exact PySem.EqMixed.ne_str_int (fin_bl I q (by simp))
    | str j => obtain ⟨t', rfl⟩ := ry; exact ne_str (fin_bl I q (congrArg not dec_str))
    | _ => exact absurd (show false = true from hs) Bool.false_ne_true
  | byt i =>
    obtain ⟨t, rfl⟩ := rx
    cases y with
    | byt j => obtain ⟨t', rfl⟩ := ry; exact PySem.W.ne_bytes (fin_bl I q (congrArg not dec_byt))
    | _ => exact absurd (show false = true from hs) Bool.false_ne_true
  | _ => cases y <;> exact absurd (show false = true from hs) Bool.false_ne_true
theorem op_lt : OpR X (compareOp .Lt) (rI0 fun i j => .bl (decide (i < j))) := opB0 fun _ _ _ _ _ _ _ q => lt_int q
theorem op_le : OpR X (compareOp .LtE) (rI0 fun i j => .bl (decide (i ≤ j))) := opB0 fun _ _ _ _ _ _ _ q => le_int q
theorem op_gt : OpR X (compareOp .Gt) (rI0 fun i j => .bl (decide (j < i))) := opB0 fun _ _ _ _ _ _ _ q => gt_int q
theorem op_isN : OpR X (compareOp .Is) (fun x y H Q => y = .non ∧ Q (.bl (decide (x = .non))) H) := by
  intro pins s σ H x y v u Q I rx ry h
  obtain ⟨rfl, q⟩ := h
  cases ry
  refine is_none_gen (fin_bl I q ?_)
  cases x <;> first
    | (cases rx; rfl)
    | (obtain ⟨t, rfl⟩ := rx; rfl)
theorem OpR.or {f : Value → Value → Sem Value} {r r' : R2} (h : OpR X f r) (h' : OpR X f r') : OpR X f (fun x y H Q => r x y H Q ∨ r' x y H Q) := by
  intro pins s σ H x y v u Q I rx ry q
  rcases q with q | q
  · exact h pins s σ H x y v u Q I rx ry q
  · exact h' pins s σ H x y v u Q I rx ry q
theorem nomark (b : Expr) {op : CmpOp} (h : op ≠ .In := by decide) (h2 : op ≠ .NotIn := by decide) : behindInMarks op b = false := by
  have e1 : (op == CmpOp.In) = false := by cases op <;> first | rfl | exact absurd rfl h
  have e2 : (op == CmpOp.NotIn) = false := by cases op <;> first | rfl | exact absurd rfl h2
  cases b <;> simp [behindInMarks, e1, e2]
theorem pe_cmpR {op : CmpOp} {r : R2} (ho : OpR X (compareOp op) r) (ha : PE X a ta) (hb : PE X b tb) (hm : behindInMarks op b = false) : PE X (.Compare a [op] [b] pos) (tOp r ta tb) := by
  intro pins s σ H Q I h
  exact wpAny_Compare1 (binT ha hb I h fun v u s2 x y H2 I2 rx ry q => ho pins s2 σ H2 x y v u Q I2 rx ry q) hm
def tTest (t : TE) : TT := fun σ H Q => t σ H fun x H' => ∃ k, x = .bl k ∧ Q k H'
theorem pt_cmpR {op : CmpOp} {r : R2} (ho : OpR X (compareOp op) r) (ha : PE X a ta) (hb : PE X b tb) (hm : behindInMarks op b = false) : PT X (.Compare a [op] [b] pos) (tTest (tOp r ta tb)) := by
  intro pins s σ H Q I h
  refine wpAny_isTrue_Compare1 (thn (ha pins s σ H _ I h) fun v s1 ⟨x, H1, I1, r1, q1⟩ => thn (hb pins s1 σ H1 _ I1 q1) fun u s2 ⟨y, H2, I2, r2, q2⟩ =>
    thn (ho pins s2 σ H2 x y v u _ I2 r1 r2 q2) fun c s3 ⟨z, H3, I3, r3, k, e, q3⟩ => ?_) hm
  subst e
  cases r3
  exact wpAny_truthy_bool ⟨H3, I3, q3⟩
theorem line63 : (sizeLine : Nat) < 2 ^ 63 := by rw [sizeLine_eq]; decide
theorem op_add_str : OpR X (binaryOp .Add) (fun x y H Q => ∃ i j, x = .str i ∧ y = .str j ∧ i.length + j.length ≤ sizeLine ∧ Q (.str (i ++ j)) H) := by
  intro pins s σ H x y v u Q I rx ry h
  obtain ⟨i, j, rfl, rfl, hz, q⟩ := h
  obtain ⟨t, rfl⟩ := rx
  obtain ⟨t', rfl⟩ := ry
  exact add_str (fun t' tk => ⟨.str (i ++ j), H, I.tok _, ⟨_, rfl⟩, q⟩) hz
theorem vals1 {x : V} {us : List Value} (r : Vals [x] us) : ∃ u, us = [u] ∧ RelV x u := by
  cases r with
  | cons r1 r2 => cases r2; exact ⟨_, rfl, r1⟩
theorem vals2 {x y : V} {us : List Value} (r : Vals [x, y] us) : ∃ u w', us = [u, w'] ∧ RelV x u ∧ RelV y w' := by
  cases r with
  | cons r1 r2 =>
    cases r2 with
    | cons r3 r4 => cases r4; exact ⟨_, _, rfl, r1, r3⟩
theorem call_max2 (hc : X.calm = true) : CallR X (.builtin "max") (fun xs H Q => ∃ i j, xs = [.int i, .int j] ∧ Q (.int (if j > i then j else i)) H) := by
  intro pins s σ H xs us Q I r h
  obtain ⟨i, j, rfl, q⟩ := h
  obtain ⟨u, w', rfl, ⟨t, rfl⟩, ⟨t', rfl⟩⟩ := vals2 r
  refine max_two_ints (I.ok.hd hc) fun h' tk k => ⟨_, H, I.kept k, ?_, q⟩
  by_cases hj : j > i
  · rw [if_pos hj, if_pos hj]; exact ⟨_, rfl⟩
  · rw [if_neg hj, if_neg hj]; exact ⟨_, rfl⟩
end
end L2
namespace L2
open PySem PySem.Spec PyProof.Rows
structure ObjM (h : Heap) (x dx C : Addr) (mA : Str → Option Value) : Prop where
  obj : h.get? x = some (PySem.W.instObj C dx)
  ns : h.Ns1 dx mA
  ne : dx ≠ x
theorem lookIn_ns {h : Heap} {dx : Addr} {mA : Str → Option Value} (n : h.Ns1 dx mA) : ∃ od, h.get? dx = some od ∧ ∀ name, PySem.W.lookIn name od = some (mA name) := by
  obtain ⟨o, es, ep, ho, hd, hk, _, hm⟩ := n
  refine ⟨o, ho, fun name => ?_⟩
  have e := hm name
  unfold nsFind findBy at e
  rw [← Array.find?_toList] at e
  unfold PySem.W.lookIn
  rw [hd]
  dsimp only
  split
  · rename_i y q
    rw [q] at e
    exact congrArg some e
  · rename_i q
    rw [q] at e
    have a : es.toList.any (·.refKey) = false := by
      rw [List.any_eq_false]
      intro y hy
      obtain ⟨z, t, hkey⟩ := hk y (Array.mem_toList_iff.mp hy)
      simp [DictEntry.refKey, hkey]
    have a' : ¬ es.toList.any (·.refKey) = true := by rw [a]; exact Bool.false_ne_true
    rw [if_neg a']
    exact congrArg some e
theorem ObjM.look {h : Heap} {x dx C : Addr} {mA : Str → Option Value} (I : ObjM h x dx C mA) : ∃ od, PySem.W.InstAt h x (PySem.W.instObj C dx) C (some od) ∧ ∀ name, PySem.W.lookIn name od = some (mA name) :=
  let ⟨od, ho, hl⟩ := lookIn_ns I.ns
  ⟨od, ⟨I.obj, rfl, rfl, ho⟩, hl⟩
section
variable {prog : Program} {w : World} {A : Around} {E : Value → Shared → Prop} {s : Shared} {K : PySem.W.Frag} {x dx C f : Addr} {mA : Str → Option Value} {name : Str} {v : Value}
end
theorem RelO.some_of {v : V} {o : Option Value} (r : RelO (some v) o) : ∃ u, o = some u ∧ RelV v u := by
  cases o with
  | none => exact (show False from r).elim
  | some u => exact ⟨u, rfl, r⟩
theorem RelO.none_of {o : Option Value} (r : RelO none o) : o = none := by
  cases o with
  | none => rfl
  | some u => exact (show False from r).elim
section
variable {P : Program} {w : World} {H H' : Hp} {h h' : Heap} {a C dx : Addr} {fs fs' : List (Str × V)}
theorem ins_get (hok : HOk P w H h) (e : H a = some (.ins C dx fs)) : ∃ mA, ObjM h a dx C mA ∧ (∀ f, RelO (fs.lookup f) (mA f)) ∧ PySem.Within mA (fs.map (·.1)) ∧ fs.length ≤ 1000 ∧ H dx = some (.own a) := by
  obtain ⟨d, z, ne, ob, mA, n, r, q⟩ := (show ObjOk P w H h a (.ins C dx fs) from hok a _ e)
  exact ⟨mA, ⟨ob, n, ne⟩, r, q, z, d⟩
end
structure Cls (K : PySem.W.Frag) (C : Addr) : Prop where
  pg : PySem.W.plainGet K C Str.empty = true
  hd : PySem.W.hasDictIn K C = true
  po : PySem.W.plainOver K C = true
  sa : PySem.W.findIn K (.ref C) "__setattr__" = some (some (.builtin "object.__setattr__"))
theorem Cls.get {K : PySem.W.Frag} {C : Addr} (c : Cls K C) (f : Str) : PySem.W.plainGet K C f = true := c.pg
structure Con (K : PySem.W.Frag) (C : Addr) (f : Str) (v : V) (u : Value) : Prop where
  at_ : PySem.W.findIn K (.ref C) f = some (some u)
  rel : RelV v u
  get : PySem.W.specialIn K u "__get__" = some none
  cp : PySem.W.copiedNames.contains f = false
structure Meth (K : PySem.W.Frag) (C : Addr) (m : Str) (f : Addr) : Prop where
  at_ : PySem.W.findIn K (.ref C) m = some (some (.ref f))
  fn : PySem.W.isFn K (.ref f) = true
  kp : PySem.W.keepIn K (.ref f) = true
section
variable {X : Cx} {pins : List (Addr × Obj)} {σ : St} {H : Hp} {s : Shared} {a C dx : Addr} {fs : List (Str × V)} {f : Str} {v : V} {A : Around} {E : Value → Shared → Prop}
end
section
variable {X : Cx} {o e value : Expr} {f : Str} {pos pos' tpos : Pos} {ta tv : TE}
end
section
variable {X : Cx} {pins : List (Addr × Obj)} {σ : St} {H : Hp} {s : Shared} {A : Around} {E : Value → Shared → Prop} {Q : Value → Shared → Prop} {c : Value} {b : Bool}
inductive TyOf (K : PySem.W.Frag) (H : Hp) : V → Value → Prop where
  | non : TyOf K H .non (.type "NoneType")
  | bl (x : Bool) : TyOf K H (.bl x) (.type "bool")
  | int (i : Int) : TyOf K H (.int i) (.type "int")
  | str (x : Str) : TyOf K H (.str x) (.type "str")
  | flt (x : UInt64) : TyOf K H (.flt x) (.type "float")
  | lst {a : Addr} {xs : List V} (e : H a = some (.lst xs)) : TyOf K H (.ref a) (.type "list")
  | frz {a : Addr} {o : Obj} {xs : List V} (e : H a = some (.frz o (.lst xs))) : TyOf K H (.ref a) (.type "list")
  | tup {a : Addr} {xs : List V} (e : H a = some (.tup xs)) : TyOf K H (.ref a) (.type "tuple")
  | dK {a : Addr} {kvs : List (Key × V)} (e : H a = some (.dK kvs)) : TyOf K H (.ref a) (.type "dict")
  | dT {a : Addr} {kvs : List (List Key × V)} (e : H a = some (.dT kvs)) : TyOf K H (.ref a) (.type "dict")
  | ins {a C dx : Addr} {fs : List (Str × V)} (e : H a = some (.ins C dx fs)) (cl : Cls K C) (ha : PySem.W.findIn K (.ref C) "__class__" = some (some (.builtin "object.__class__")))
      (hn : PySem.W.specialIn K (.builtin "object.__class__") "__get__" = some (some (.builtin "getset_descriptor.__get__"))) (htk : PySem.W.takesIn K (.builtin "object.__class__") = some true)
      (hm : PySem.W.mroIn K C (.type "object") = some true) : TyOf K H (.ref a) (.ref C)
theorem isinst_ok {x : V} {u t : Value} (I : Inv X pins σ H s) (rx : RelV x u) (ty : TyOf X.K H x t) (e : PySem.W.kitOne X.K t c = some b) (h : ∀ tk, Q (.bool b) { s with toks := tk }) :
    wpAny (model X.prog X.w) A (call (.builtin "isinstance") [u, c]) Q E s := by
  cases ty with
  | non => cases (show u = Value.none from rx); exact PySem.W.kia_one PySem.W.kitx_none I.kIn True.intro e (fun z => nomatch z) h
  | bl y => cases (show u = Value.bool y from rx); exact PySem.W.kia_one PySem.W.kitx_bool I.kIn True.intro e (fun z => nomatch z) h
  | int i => obtain ⟨t, q⟩ := (show ∃ t, u = Value.int i t from rx); cases q; exact PySem.W.kia_one PySem.W.kitx_int I.kIn True.intro e (fun z => nomatch z) h
  | str y => obtain ⟨t, q⟩ := (show ∃ t, u = Value.str y t from rx); cases q; exact PySem.W.kia_one PySem.W.kitx_str I.kIn True.intro e (fun z => nomatch z) h
  | flt y => obtain ⟨t, q⟩ := (show ∃ t, u = Value.float y t from rx); cases q; exact PySem.W.kia_one PySem.W.kitx_float I.kIn True.intro e (fun z => nomatch z) h
  | @lst a xs ea =>
    cases (show u = Value.ref a from rx)
    obtain ⟨_, _, n, _, h1⟩ := (show ObjOk X.prog X.w H s.heap a (.lst xs) from I.hok a _ ea)
    exact PySem.W.kia_one PySem.W.kitx_list I.kIn ⟨_, h1, rfl⟩ e (fun z => nomatch z) h
  | @frz a ob xs ea =>
    cases (show u = Value.ref a from rx)
    obtain ⟨_, _, _, n, _, h1⟩ := (show ObjOk X.prog X.w H s.heap a (.frz ob (.lst xs)) from I.hok a _ ea)
    exact PySem.W.kia_one PySem.W.kitx_list I.kIn ⟨_, h1, rfl⟩ e (fun z => nomatch z) h
  | @tup a xs ea =>
    cases (show u = Value.ref a from rx)
    obtain ⟨_, _, _, p, _⟩ := (show ObjOk X.prog X.w H s.heap a (.tup xs) from I.hok a _ ea)
    obtain ⟨o, h1, h2, _⟩ := p
    exact PySem.W.kia_one PySem.W.kitx_tuple I.kIn ⟨o, h1, h2⟩ e (fun z => nomatch z) h
  | @dK a kvs ea =>
    cases (show u = Value.ref a from rx)
    obtain ⟨_, _, vs, _, p⟩ := (show ObjOk X.prog X.w H s.heap a (.dK kvs) from I.hok a _ ea)
    obtain ⟨o, es, ep, h1, h2, _⟩ := p
    exact PySem.W.kia_one PySem.W.kitx_dict I.kIn ⟨o, h1, h2.1⟩ e (fun z => nomatch z) h
  | @dT a kvs ea =>
    cases (show u = Value.ref a from rx)
    obtain ⟨_, _, xs, _, o, es, ep, h1, h2, _⟩ := (show ObjOk X.prog X.w H s.heap a (.dT kvs) from I.hok a _ ea)
    exact PySem.W.kia_one PySem.W.kitx_dict I.kIn ⟨o, h1, h2.1⟩ e (fun z => nomatch z) h
  | @ins a C dx fs ea cl ha hn htk hm =>
    cases (show u = Value.ref a from rx)
    obtain ⟨mA, O, _⟩ := ins_get I.hok ea
    obtain ⟨od, J, _⟩ := O.look
    exact PySem.W.kia_one (PySem.W.kitx_own (cl.get _) cl.hd ha hn htk hm) I.kIn J e (fun z => nomatch z) h
end
end L2
namespace L2
open PySem PySem.Spec PyProof.Rows
structure Room (k : Nat) (A : Around) : Prop where
  hd : A.handled = none
  dp : A.depth + 3 * k + 5 < recursionLimit
  un : A.units + 16 * k + 200 < cLine
theorem Room.mono {j k : Nat} {A : Around} (r : Room k A) (h : j ≤ k) : Room j A := ⟨r.hd, by have := r.dp; omega, by have := r.un; omega⟩
theorem Room.deeper {k : Nat} {A : Around} (r : Room (k + 1) A) (env : Env) : Room k (A.deeper env) :=
  ⟨r.hd, by have := r.dp; show A.depth + 1 + 3 * k + 5 < _; omega, by have := r.un; show A.units + 3 + 16 * k + 200 < _; omega⟩
theorem Room.in1 {k : Nat} {A : Around} (r : Room (k + 1) A) : Room k A.in1 :=
  ⟨r.hd, by have := r.dp; show A.depth + 3 * k + 5 < _; omega, by have := r.un; show A.units + 1 + 16 * k + 200 < _; omega⟩
theorem Room.depth {k : Nat} {A : Around} (r : Room k A) : A.depth < recursionLimit := by have := r.dp; omega
theorem Room.units {k : Nat} {A : Around} (r : Room k A) : A.units + 64 < cLine := by have := r.un; omega
def tNil : TA := fun _ H Q => Q [] H
def tCons (ta : TE) (tr : TA) : TA := fun σ H Q => ta σ H fun x H1 => tr σ H1 fun xs H2 => Q (x :: xs) H2
section
variable {X : Cx} {e : Expr} {es : List Expr} {te : TE} {t : TA} {pos : Pos}
theorem pa_nil : PA X [] tNil := fun _ _ _ _ H Q I h => Calls.spliced_nil ⟨[], H, I, .nil, h⟩
theorem pa_cons (ha : PE X e te) (hr : PA X es t) (hs : starEach (e :: es) X.env = (false, eval e X.env) :: starEach es X.env := by rfl) : PA X (e :: es) (tCons te t) := by
  intro pos pins s σ H Q I h
  rw [hs]
  show wpAny _ _ (spliced ((false, eval e X.env) :: backTo pos (starEach es X.env))) _ _ s
  refine Calls.spliced_cons (thn (ha pins s σ H _ I h) fun u s1 ⟨x, H1, I1, r1, q1⟩ => ?_)
  exact thn (hr pos pins s1 σ H1 _ I1 q1) fun us s2 ⟨xs, H2, I2, r2, q2⟩ => ⟨x :: xs, H2, I2, .cons r1 r2, q2⟩
def tTup (t : TA) : TE := fun σ H Q => t σ H fun xs H1 => xs.length ≤ sizeLine ∧ ∀ p, H1 p = none → Q (.ref p) (upd H1 p (.tup xs))
def tLst (t : TA) : TE := fun σ H Q => t σ H fun xs H1 => xs.length ≤ sizeLine ∧ ∀ p, H1 p = none → Q (.ref p) (upd H1 p (.lst xs))
theorem pe_tup {x1} (h : PA X es t) : PE X (.Tuple es x1 pos) (tTup t) := by
  intro pins s σ H Q I hq
  refine wpAny_Tuple_spliced (thn (h pos pins s σ H _ I hq) fun us s1 ⟨xs, H1, I1, r, z, q⟩ => ⟨by rw [← r.length]; exact z, ?_⟩)
  have hf : H1 s1.heap.objs.size = none := I1.hok.fresh (Nat.le_refl _)
  refine ⟨.ref s1.heap.objs.size, upd H1 s1.heap.objs.size (.tup xs), I1.laid (t' := s1.toks) (fun b u e => Heap.get?_push_of_some _ e) (Nat.le_refl _) ?_, rfl, q _ hf⟩
  exact ⟨z, us, r, ⟨_, Heap.get?_push_size _ rfl, rfl, _, rfl⟩, _, Heap.get?_push_size _ rfl, rfl⟩
theorem pe_lst (h : PA X es t) : PE X (.List es pos) (tLst t) := by
  intro pins s σ H Q I hq
  refine wpAny_List_spliced (thn (h pos pins s σ H _ I hq) fun us s1 ⟨xs, H1, I1, r, z, q⟩ => ⟨by rw [← r.length]; exact z, ?_⟩)
  have hf : H1 s1.heap.objs.size = none := I1.hok.fresh (Nat.le_refl _)
  refine ⟨.ref s1.heap.objs.size, upd H1 s1.heap.objs.size (.lst xs), I1.laid (t' := s1.toks) (fun b u e => Heap.get?_push_of_some _ e) (Nat.le_refl _) ?_, rfl, q _ hf⟩
  exact ⟨z, us, 0, r, Heap.get?_push_size _ rfl⟩
end
abbrev Sp := List V → Hp → VK → XK → Prop
abbrev CXT := List Env → Hp → Shared → XK → Value → Shared → Prop
structure Env0 (P : Program) (w : World) (K : PySem.W.Frag) (mg : Str → Option Value) (base : Heap) (A : Around) (outer : List Env) (s : Shared) (H : Hp) : Prop where
  frames : A.frames = some outer
  mod : Mod K mg base
  bs : ∀ b o, base.get? b = some o → s.heap.get? b = some o ∧ H b = none
  bsz : base.objs.size ≤ s.heap.objs.size
  funs : s.heap.FunFrames base outer
  frf : ∀ b ∈ frs outer, H b = none
  hok : HOk P w H s.heap
  bare : AllBare s.gens
def CE (outer : List Env) (P : Program) (w : World) (H : Hp) (s : Shared) (Q : VK) (u : Value) (s' : Shared) : Prop :=
  ∃ v H', s'.os = s.os ∧ AllBare s'.gens ∧ Un (frs outer) [] H H' s.heap s'.heap ∧ HOk P w H' s'.heap ∧ RelV v u ∧ Q v H'
def CR (CX : CXT) (outer : List Env) (P : Program) (w : World) (H : Hp) (s : Shared) (Q : VK) (E : XK) (r : Result) (s' : Shared) : Prop :=
  match r with
  | .ok (.ret u) => CE outer P w H s Q u s'
  | .ok _ => False
  | .error e => CX outer H s E e s'
structure FnOk (P : Program) (w : World) (K : PySem.W.Frag) (mg : Str → Option Value) (base : Heap) (CX : CXT) (k : Nat) (f : Addr) (fd : FuncData) (ps : List Str) (sp : Sp) : Prop where
  len : ∀ vs H Q E, sp vs H Q E → vs.length = ps.length
  run : ∀ (A : Around) (outer : List Env) (s : Shared) (H : Hp) (args : Args) (us : List Value) (vs : List V) (Q : VK) (E : XK), Room k A → Env0 P w K mg base A outer s H → BindsTo s fd args (ps.zip us) → Vals vs us → sp vs H Q E →
    codeAny (model P w) A (.call (.ref f) args) (CR CX outer P w H s Q E) s
theorem FnOk.mono {P : Program} {w : World} {K : PySem.W.Frag} {mg : Str → Option Value} {base : Heap} {CX : CXT} {j k : Nat} {f : Addr} {fd : FuncData} {ps : List Str} {sp : Sp} (F : FnOk P w K mg base CX j f fd ps sp) (h : j ≤ k) :
    FnOk P w K mg base CX k f fd ps sp := ⟨F.len, fun A outer s H args us vs Q E hr => F.run A outer s H args us vs Q E (hr.mono h)⟩
theorem FnOk.imp {P : Program} {w : World} {K : PySem.W.Frag} {mg : Str → Option Value} {base : Heap} {CX : CXT} {k : Nat} {f : Addr} {fd : FuncData} {ps : List Str} {sp sp' : Sp} (F : FnOk P w K mg base CX k f fd ps sp)
    (h : ∀ vs H Q E, sp' vs H Q E → sp vs H Q E) : FnOk P w K mg base CX k f fd ps sp' :=
  ⟨fun vs H Q E q => F.len vs H Q E (h _ _ _ _ q), fun A outer s H args us vs Q E hr he hb hv hs => F.run A outer s H args us vs Q E hr he hb hv (h _ _ _ _ hs)⟩
theorem Env0.in1 {P : Program} {w : World} {K : PySem.W.Frag} {mg : Str → Option Value} {base : Heap} {A : Around} {outer : List Env} {s : Shared} {H : Hp} (e : Env0 P w K mg base A outer s H) :
    Env0 P w K mg base A.in1 outer s H := ⟨e.frames, e.mod, e.bs, e.bsz, e.funs, e.frf, e.hok, e.bare⟩
section
variable {X : Cx} {pins : List (Addr × Obj)} {σ : St} {H : Hp} {s s' : Shared}
theorem Inv.env0 (I : Inv X pins σ H s) : Env0 X.prog X.w X.K X.mg X.base X.A X.stack s H :=
  ⟨I.ok.frames, I.ok.mod, I.bs, Nat.le_trans I.ok.bsz I.sz, I.stack, I.stkFree, I.hok, I.bare⟩
theorem Inv.after {Q : VK} {u : Value} (I : Inv X pins σ H s) (h : CE X.stack X.prog X.w H s Q u s') : EP X pins σ Q u s' := by
  obtain ⟨v, H', os, bare, un, hok, r, q⟩ := h
  obtain ⟨hh, g, d, t, os'⟩ := s'
  obtain rfl : os' = s.os := os
  exact ⟨v, H', I.call (h' := hh) (g' := g) (d' := d) (t' := t) (ch := []) un hok bare (fun b z => absurd z (by simp)), r, q⟩
end
def tCall (sp : Sp) (dvs : List V) (E : XK) (t : TA) : TE := fun σ H Q => t σ H fun vs H1 => sp (vs ++ dvs) H1 Q E
def Binds (K : PySem.W.Frag) (fd : FuncData) (ps : List Str) (ds : List Value) : Prop :=
  ∀ (s : Shared) (us : List Value), K.In s.heap → (us ++ ds).length = ps.length → BindsTo s fd ⟨us, []⟩ (ps.zip (us ++ ds))
theorem Binds.all {K : PySem.W.Frag} {fd : FuncData} {ps : List Str} (h : ∀ us : List Value, us.length = ps.length → bindArgs fd ⟨us, []⟩ = pure (ps.zip us)) : Binds K fd ps [] := fun s us _ hl => by
  rw [List.append_nil] at hl ⊢
  exact .of_eq (h us hl)
def Passes (CX : CXT) (X : Cx) (E : XK) : Prop := ∀ (pins : List (Addr × Obj)) (σ : St) (H : Hp) (s : Shared) (e : Value) (s' : Shared), Inv X pins σ H s → CX X.stack H s E e s' → X.xe e s'
section
variable {X : Cx} {CX : CXT} {k : Nat} {f C : Addr} {fd : FuncData} {ps : List Str} {sp : Sp} {dvs : List V} {ds : List Value} {E : XK} {x m : Str} {p pos apos : Pos} {e o : Expr} {es : List Expr} {ta : TE} {t : TA}
theorem run_fn {pins : List (Addr × Obj)} {σ : St} {H : Hp} {s : Shared} {Q : VK} {us : List Value} {vs : List V} (F : FnOk X.prog X.w X.K X.mg X.base CX k f fd ps sp) (hr : Room k X.A) (hb : Binds X.K fd ps ds) (hd : Vals dvs ds) (hx : Passes CX X E)
    (I : Inv X pins σ H s) (r : Vals vs us) (h : sp (vs ++ dvs) H Q E) : wpAny (model X.prog X.w) X.A (call (.ref f) us) (EP X pins σ Q) X.xe s := by
  have r2 : Vals (vs ++ dvs) (us ++ ds) := r.append hd
  have hl : (us ++ ds).length = ps.length := by rw [← r2.length]; exact F.len _ _ _ _ h
  refine wpAny_call (codeAny_mono (F.run X.A X.stack s H ⟨us, []⟩ (us ++ ds) (vs ++ dvs) Q E hr I.env0 (hb s us I.kIn hl) r2 h) fun r s' hq => ?_)
  cases r with
  | error e => exact hx pins σ H s e s' I hq
  | ok fl =>
    cases fl with
    | ret u => exact I.after hq
    | next => exact False.elim hq
    | brk => exact False.elim hq
    | cont => exact False.elim hq
theorem pe_call (F : FnOk X.prog X.w X.K X.mg X.base CX k f fd ps sp) (hr : Room k X.A) (hg : Gl X x) (hm : X.mg x = some (.ref f)) (hk : PySem.W.keepIn X.K (.ref f) = true) (hb : Binds X.K fd ps ds) (hd : Vals dvs ds) (hx : Passes CX X E)
    (ha : PA X (e :: es) t) (hdb : (x == ("__debug__" : Str)) = false := by decide) (he : starEach (e :: es) X.env = (false, eval e X.env) :: starEach es X.env := by rfl) (hpl : (backTo pos (starEach es X.env)).any (·.1) = false := by rfl) :
    PE X (.Call (.Name x p) (e :: es) [] pos) (tCall sp dvs E t) := by
  intro pins s σ H Q I h
  refine wpAny_Call_Name_kw (ld_glob I hg hm ?_ hdb)
  refine PySem.W.callWith_K (h₀ := X.base) I.ok.mod.kin hk (thn (ha pos pins s σ H _ I h) fun us s1 ⟨vs, H1, I1, r, q⟩ => ⟨I1.kIn, ?_⟩) he hpl
  exact run_fn F hr hb hd hx I1 r q
structure Mk (K : PySem.W.Frag) (C f : Addr) : Prop where
  makes : PySem.W.makesIn K C = true
  init : PySem.W.findIn K (.ref C) "__init__" = some (some (.ref f))
  fn : PySem.W.isFn K (.ref f) = true
  kp : PySem.W.keepIn K (.ref C) = true
end
section
variable {X : Cx} {CX : CXT} {k : Nat} {f C : Addr} {fd : FuncData} {ps ks : List Str} {sp : Sp} {E : XK} {x m : Str} {p pos apos kpos : Pos} {e o : Expr} {es : List Expr} {kws : List Keyword} {te ta : TE} {t tk : TA} {nm : Option Str}
structure KBinds (K : PySem.W.Frag) (fd : FuncData) (ps ks : List Str) (g : List Value → List Value → List Value) (gV : List V → List V → List V) : Prop where
  to : ∀ (s : Shared) (us ws : List Value), K.In s.heap → (g us ws).length = ps.length → BindsTo s fd ⟨us, ks.zip ws⟩ (ps.zip (g us ws))
  rel : ∀ {vs : List V} {us : List Value} {zs : List V} {ws : List Value}, Vals vs us → Vals zs ws → Vals (gV vs zs) (g us ws)
variable {g : List Value → List Value → List Value} {gV : List V → List V → List V}
end
structure FnScope (N P : List Str) (sc : Scope) : Prop where
  kind : sc.kind = .function
  co : sc.isCoroutine = false
  gen : sc.isGenerator = false
  nd : N.Nodup
  pre : N.take P.length = P
  par : ∀ x ∈ P, sc.names.lookup x = some .local ∨ sc.names.lookup x = some .cell
  nofree : ∀ y ∈ sc.names, y.2 ≠ .free
theorem bindL_out {kindOf : Str → Option NameKind} {x : Str} : ∀ {binds : List (Str × Value)} {m : Str → Option Value}, (∀ v, (x, v) ∉ binds) → bindL kindOf binds m x = m x
  | [], _, _ => rfl
  | (n, v) :: r, m, h => by
    unfold bindL
    rw [bindL_out fun w hw => h w (List.mem_cons_of_mem _ hw)]
    split
    · have : x ≠ n := by rintro rfl; exact h v List.mem_cons_self
      simp [this]
    · rfl
theorem bindC_out {kindOf : Str → Option NameKind} {x : Str} : ∀ {binds : List (Str × Value)} {m : Str → Option Value}, (∀ v, (x, v) ∉ binds) → bindC kindOf binds m x = m x
  | [], _, _ => rfl
  | (n, v) :: r, m, h => by
    unfold bindC
    rw [bindC_out fun w hw => h w (List.mem_cons_of_mem _ hw)]
    split
    · rfl
    · have : x ≠ n := by rintro rfl; exact h v List.mem_cons_self
      simp [this]
theorem bindL_get {kindOf : Str → Option NameKind} {x : Str} {v : Value} : ∀ {P : List Str} {vs : List Value} {i : Nat} {m : Str → Option Value}, P.Nodup → P[i]? = some x → vs[i]? = some v → kindOf x = some .local →
    bindL kindOf (P.zip vs) m x = some v
  | [], _, _, _, _, h, _, _ => by simp at h
  | _ :: _, [], _, _, _, _, h, _ => by simp at h
  | p :: P, w :: vs, 0, m, nd, h1, h2, hk => by
    simp at h1 h2; subst h1; subst h2
    show bindL kindOf ((p, w) :: P.zip vs) m p = _
    unfold bindL
    rw [bindL_out fun v hv => (List.nodup_cons.mp nd).1 (List.of_mem_zip hv).1, if_pos hk]
    simp
  | p :: P, w :: vs, i + 1, m, nd, h1, h2, hk => by
    show bindL kindOf ((p, w) :: P.zip vs) m x = _
    unfold bindL
    exact bindL_get (i := i) (List.nodup_cons.mp nd).2 (by simpa using h1) (by simpa using h2) hk
theorem bindC_get {kindOf : Str → Option NameKind} {x : Str} {v : Value} : ∀ {P : List Str} {vs : List Value} {i : Nat} {m : Str → Option Value}, P.Nodup → P[i]? = some x → vs[i]? = some v → kindOf x ≠ some .local →
    bindC kindOf (P.zip vs) m x = some v
  | [], _, _, _, _, h, _, _ => by simp at h
  | _ :: _, [], _, _, _, _, h, _ => by simp at h
  | p :: P, w :: vs, 0, m, nd, h1, h2, hk => by
    simp at h1 h2; subst h1; subst h2
    show bindC kindOf ((p, w) :: P.zip vs) m p = _
    unfold bindC
    rw [bindC_out fun v hv => (List.nodup_cons.mp nd).1 (List.of_mem_zip hv).1, if_neg hk]
    simp
  | p :: P, w :: vs, i + 1, m, nd, h1, h2, hk => by
    show bindC kindOf ((p, w) :: P.zip vs) m x = _
    unfold bindC
    exact bindC_get (i := i) (List.nodup_cons.mp nd).2 (by simpa using h1) (by simpa using h2) hk
def start (N : List Str) (vs : List V) : St := vs.map some ++ List.replicate (N.length - vs.length) none
def cxOf (CX : CXT) (P : Program) (w : World) (K : PySem.W.Frag) (mg : Str → Option Value) (base : Heap) (N : List Str) (qual : Str) (scope : Scope) (f : Addr) (cd : Value) (A : Around) (outer : List Env) (s : Shared) (H : Hp) (E : XK) : Cx where
  prog := P
  w := w
  K := K
  mg := mg
  base := base
  A := A.deeper (envOfC qual scope s.heap.objs.size f cd)
  N := N
  s₀ := s
  H₀ := H
  env := envOfC qual scope s.heap.objs.size f cd
  outer := outer
  stack := envOfC qual scope s.heap.objs.size f cd :: outer
  ex := []
  calm := true
  fn := fun _ => true
  pn := []
  xe := fun e s' => wpAny (model P w) (A.deeper (envOfC qual scope s.heap.objs.size f cd)) (leaving (envOfC qual scope s.heap.objs.size f cd) e) (fun _ s'' => CX outer H s E e s'') (fun e' s'' => CX outer H s E e' s'') s'
theorem cell_has {sc : Scope} {n : Nat} {x : Str} (h : sc.names.lookup x = some .cell) : ∃ c, (cellsFrom n sc.names []).lookup x = some c := by
  have q := PySem.W.cellsFrom_some sc.names n [] (.inl h)
  exact Option.isSome_iff_exists.mp q
theorem inv_start {CX : CXT} {P : Program} {w : World} {K : PySem.W.Frag} {mg : Str → Option Value} {base : Heap} {N ps : List Str} {qual : Str} {scope : Scope} {f : Addr} {cd : Value} {A : Around} {outer : List Env} {s s1 : Shared} {H : Hp} {E : XK} {us : List Value} {vs : List V}
    (S : FnScope N ps scope) (hd : A.handled = none) (e0 : Env0 P w K mg base A outer s H) (hl : vs.length = ps.length) (r : Vals vs us)
    (x : InCallC s s.heap.objs.size (bindL (envOfC qual scope s.heap.objs.size f cd).kindOf (ps.zip us) fun _ => none) (cellsFrom (s.heap.objs.size + 1) scope.names []) (bindC (envOfC qual scope s.heap.objs.size f cd).kindOf (ps.zip us) fun _ => none) s1) :
    Inv (cxOf CX P w K mg base N qual scope f cd A outer s H E) [] (start N vs) H s1 := by
  have hpl : ps.length ≤ N.length := by have := congrArg List.length S.pre; rw [List.length_take] at this; omega
  obtain ⟨h1, tk, rfl, hk⟩ := x.done
  have noA : ∀ b : Addr, b ∉ (cxOf CX P w K mg base N qual scope f cd A outer s H E).ex := fun b z => absurd (show b ∈ ([] : List Addr) from z) (by simp)
  refine ⟨⟨e0.mod, S.kind, rfl, rfl, Nat.le_refl _, fun y z c h1 h2 => ?_, fun y hy => ?_, fun y c _ h => ?_, fun _ => hd, Around.frames_deeper e0.frames, .inr ⟨rfl, rfl⟩, fun b z => absurd z (noA b), e0.bs, e0.bsz, fun b _ _ => noA b, fun b z => absurd z (noA b), e0.funs, e0.frf⟩,
    rfl, e0.bare, Un.kept hk, ⟨_, x.toInCall.ns, fun i y v h1 h2 h3 => ?_⟩, fun y c h => ⟨_, x.cell y c h⟩, e0.hok.fresh (Nat.le_refl _), fun y c h => ?_, fun p hp => absurd (show p ∈ ([] : List (Addr × Obj)) from hp) (by simp), e0.hok.kept hk, ?_⟩
  · exact name_of_addr x.apart (PySem.mem_of_lookup h1) (PySem.mem_of_lookup h2)
  · have hy : scope.names.lookup y = some .cell ∨ scope.names.lookup y = some .free := hy
    rcases hy with hy | hy
    · exact cell_has hy
    · exact absurd rfl (S.nofree _ (PySem.mem_of_lookup hy))
  · exact Nat.le_of_lt (x.above y c (PySem.mem_of_lookup h))
  · have hi : i < vs.length := by
      unfold start at h2
      by_cases hi : i < vs.length
      · exact hi
      · rw [List.getElem?_append_right (by simpa using hi)] at h2
        rw [List.getElem?_replicate] at h2
        split at h2 <;> cases h2
    have ha : vs[i]? = some v := by
      unfold start at h2
      rw [List.getElem?_append_left (by simpa using hi), List.getElem?_map] at h2
      cases e : vs[i]? with
      | none => rw [e] at h2; cases h2
      | some a => rw [e] at h2; cases h2; rfl
    obtain ⟨u, hu, rv⟩ := r.get ha
    have hp : ps[i]? = some y := by
      rw [← S.pre, List.getElem?_take_of_lt (by omega)]; exact h1
    have ndP : ps.Nodup := by rw [← S.pre]; exact S.nd.sublist (List.take_sublist _ _)
    refine ⟨u, rv, ?_⟩
    rcases S.par y (List.mem_of_getElem? hp) with k | k
    · exact .inl ⟨k, bindL_get ndP hp hu k⟩
    · obtain ⟨c, e⟩ := cell_has (n := s.heap.objs.size + 1) k
      refine .inr ⟨.inl k, c, e, ?_⟩
      have q := x.cell y c e
      rw [bindC_get ndP hp hu (by show scope.names.lookup y ≠ _; rw [k]; decide)] at q
      exact q
  · exact e0.hok.fresh (Nat.le_of_lt (x.above y c (PySem.mem_of_lookup h)))
  · unfold start
    show _ = N.length
    rw [List.length_append, List.length_map, List.length_replicate]
    omega
theorem fn_of {CX : CXT} {P : Program} {w : World} {K : PySem.W.Frag} {mg : Str → Option Value} {base : Heap} {k : Nat} {f : Addr} {name qual : Str} {params : Arguments} {body : List Stmt} {scope : Scope} {dV kV doc pm cdv ct oc : Value} {an od : Option Addr}
    {osl : Array (Option Value)} {N ps : List Str} {sp : Sp} (lk : K.lookup f = some ⟨oc, od, .func (PySem.W.fnOf name qual params body scope dV kV doc pm an cdv ct), osl⟩) (hcd : PySem.W.codeIn K cdv qual = true) (S : FnScope N ps scope)
    (len : ∀ vs H Q E, sp vs H Q E → vs.length = ps.length)
    (hbody : ∀ (A : Around) (outer : List Env) (s : Shared) (H : Hp) (vs : List V) (Q : VK) (E : XK), Room k (A.deeper (envOfC qual scope s.heap.objs.size f cdv)) → sp vs H Q E →
      ∃ t, PSs (cxOf CX P w K mg base N qual scope f cdv A outer s H E) body t ∧ t { nx := fun _ H' => Q .non H', rt := Q } (start N vs) H) :
    FnOk P w K mg base CX (k + 1) f (PySem.W.fnOf name qual params body scope dV kV doc pm an cdv ct) ps sp := by
  refine ⟨len, fun A outer s H args us vs Q E hr e0 hb r hsp => ?_⟩
  have hl := len _ _ _ _ hsp
  have KX : K.In s.heap := e0.mod.kin.keeps fun b o e => (e0.bs b o e).1
  have lim : s.heap.NoLimit := e0.mod.nolimit.keeps fun b o e => (e0.bs b o e).1
  have hkind : ∀ y ∈ ps.zip us, scope.names.lookup y.1 = some .local ∨ (scope.names.lookup y.1 = some .cell ∧ ((cellsFrom (s.heap.objs.size + 1) scope.names []).lookup y.1).isSome = true) := fun ⟨n, v⟩ hy => by
    rcases S.par n (List.of_mem_zip hy).1 with q | q
    · exact .inl q
    · exact .inr ⟨q, PySem.W.cellsFrom_some _ _ _ (.inl q)⟩
  refine codeAny_call_function hr.depth (KX _ _ lk) rfl S.co S.gen rfl (PySem.W.codeRec_of KX hcd) (hb _ _ _ _ ?_)
  refine wpAny_newFunctionEnv_cells S.kind hkind fun env he s1 x => ?_
  subst he
  refine ⟨lim.keeps x.toInCall.keep, codeAny_func ?_⟩
  obtain ⟨t, ht, hq⟩ := hbody A outer s H vs Q E (hr.deeper _) hsp
  have I : Inv (cxOf CX P w K mg base N qual scope f cdv A outer s H E) [] (start N vs) H s1 := inv_start S hr.hd e0 hl r x
  refine wpAny_mono (ht [] s1 (start N vs) H _ I hq) (fun fl s' hs => ?_) fun e s' hs => hs
  have fin : ∀ {σ' : St} {H' : Hp} {v : V} {u : Value}, Inv (cxOf CX P w K mg base N qual scope f cdv A outer s H E) [] σ' H' s' → RelV v u → Q v H' → CE outer P w H s Q u s' :=
    fun {σ' H' v u} J rv q => ⟨v, H', J.os, J.bare, J.base, J.hok, rv, q⟩
  cases fl with
  | ret u =>
    obtain ⟨v, σ', H', J, rv, q⟩ := hs
    exact fin J rv q
  | next =>
    obtain ⟨σ', H', J, q⟩ := hs
    exact fin (v := V.non) (u := Value.none) J rfl q
  | brk =>
    obtain ⟨_, _, _, q⟩ := hs
    exact False.elim q
  | cont =>
    obtain ⟨_, _, _, q⟩ := hs
    exact False.elim q
end L2
namespace L2
open PySem PySem.Spec PyProof.Rows
section
variable {X : Cx} {x : Str} {p pos : Pos} {e : Expr} {es : List Expr} {t : TA} {id T : String} {r : List V → Hp → VK → Prop}
def tCB (r : List V → Hp → VK → Prop) (t : TA) : TE := fun σ H Q => t σ H fun vs H1 => r vs H1 Q
theorem pe_callB (hc : CallR X (.builtin id) r) (hg : Gl X x) (hm : X.mg x = none) (hv : bootBuiltins x = some (.builtin id)) (ha : PA X (e :: es) t) (hn : x ≠ "__name__" := by decide) (hdb : (x == ("__debug__" : Str)) = false := by decide)
    (he : starEach (e :: es) X.env = (false, eval e X.env) :: starEach es X.env := by rfl) (hpl : (backTo pos (starEach es X.env)).any (·.1) = false := by rfl) : PE X (.Call (.Name x p) (e :: es) [] pos) (tCB r t) := by
  intro pins s σ H Q I h
  refine wpAny_Call_Name_kw (ld_blt I hg hm hv ?_ hn hdb)
  exact PyProof.Rows.callWith_builtin1 (thn (ha pos pins s σ H _ I h) fun us s1 ⟨vs, H1, I1, r1, q1⟩ => hc pins s1 σ H1 vs us Q I1 r1 q1) he hpl
theorem pe_callTy (hc : CallR X (.type T) r) (hg : Gl X x) (hm : X.mg x = none) (hv : bootBuiltins x = some (.type T)) (ha : PA X (e :: es) t) (hn : x ≠ "__name__" := by decide) (hdb : (x == ("__debug__" : Str)) = false := by decide)
    (he : starEach (e :: es) X.env = (false, eval e X.env) :: starEach es X.env := by rfl) (hpl : (backTo pos (starEach es X.env)).any (·.1) = false := by rfl) : PE X (.Call (.Name x p) (e :: es) [] pos) (tCB r t) := by
  intro pins s σ H Q I h
  refine wpAny_Call_Name_kw (ld_blt I hg hm hv ?_ hn hdb)
  exact PyProof.Rows.callWith_type1 (thn (ha pos pins s σ H _ I h) fun us s1 ⟨vs, H1, I1, r1, q1⟩ => hc pins s1 σ H1 vs us Q I1 r1 q1) he hpl
end
end L2
namespace HT
open PySem PyProof.Rows
section
open PySem.SeqAt
open PySem.AutoSeq1 (wpAny_loadPart')
open PySem.MeetsSeq PySem.MeetsSeq2 PySem.MeetsSeq3
end
section
variable {prog : Program} {w : World} {A : Around} {E : Value → Shared → Prop} {s : Shared}
theorem cat_tup {t b : Addr} {vs ws : List Value} {Q : Value → Shared → Prop} (ht : IsTup s.heap t vs.toArray) (hb : IsTup s.heap b ws.toArray) (hv : vs ≠ [])
    (h1 : ws = [] → Q (.ref t) s) (h2 : ws ≠ [] → Q (.ref s.heap.objs.size) { s with heap := s.heap.push { cls := .type "tuple", data := .seq (vs ++ ws).toArray } })
    (hsz : vs.length + ws.length ≤ sizeLine) : wpAny (model prog w) A (binaryOp .Add (.ref t) (.ref b)) Q E s := by
  obtain ⟨⟨cls, dd, data, sl⟩, ho, hc, n, hd⟩ := id ht
  obtain ⟨⟨cls2, dd2, data2, sl2⟩, ho2, hc2, n2, hd2⟩ := id hb
  simp only at hc hd hc2 hd2
  subst hc hd hc2 hd2
  have e : vs.toArray ++ ws.toArray = (vs ++ ws).toArray := by simp
  by_cases hw : ws = []
  · exact concat_meets ⟨_, ho, rfl⟩ ⟨_, ho2, rfl⟩ noFill_tuple_add seq_tuple_add PySem.F.slot_tuple_add PySem.F.entry_tuple_add (PySem.F.args_tuple_add_2 _ _)
      (tuple_addW1 t b vs.toArray ws.toArray n n2 dd dd2 sl sl2 (by simpa using hv) (by simp [hw])) ⟨ho, ho2, h1 hw⟩
  · refine concat_meets ⟨_, ho, rfl⟩ ⟨_, ho2, rfl⟩ noFill_tuple_add seq_tuple_add PySem.F.slot_tuple_add PySem.F.entry_tuple_add (PySem.F.args_tuple_add_2 _ _)
      (tuple_addW2 t b vs.toArray ws.toArray n n2 dd dd2 sl sl2 (by simpa using hv) (by simpa using hw) (by rw [List.size_toArray, List.size_toArray]; exact hsz)) ⟨ho, ho2, ?_⟩
    rw [e]
    exact h2 hw
def sIx (n d : Nat) : Option Int → Nat
  | none => d
  | some v => if v < 0 then (v + (n : Int)).toNat else min v.toNat n
theorem sIx_nat (n d k : Nat) : sIx n d (some (k : Int)) = min k n := by
  show (if (k : Int) < 0 then ((k : Int) + (n : Int)).toNat else min (k : Int).toNat n) = min k n
  rw [if_neg (by omega), Int.toNat_natCast]
end
end HT
namespace L2
open PySem PySem.Spec PyProof.Rows
abbrev TO := St → Hp → (Option Int → Hp → Prop) → Prop
def PO (X : Cx) (e : Option Expr) (t : TO) : Prop :=
  ∀ (pins : List (Addr × Obj)) (s : Shared) (σ : St) (H : Hp) (Q : Option Int → Hp → Prop), Inv X pins σ H s → t σ H Q →
    wpAny (model X.prog X.w) X.A (evalPart e X.env) (fun u s' => ∃ o H', Inv X pins σ H' s' ∧ IsPart u o ∧ Q o H') X.xe s
def tNoPart : TO := fun _ H Q => Q none H
def tPart (t : TE) : TO := fun σ H Q => t σ H fun x H1 => ∃ i, x = .int i ∧ Q (some i) H1
theorem intsAre_of {ns : List Int} : ∀ {us : List Value}, Vals (ns.map V.int) us → IntsAre us ns := by
  induction ns with
  | nil => intro us r; rw [List.map_nil] at r; cases r; exact .nil
  | cons n ns ih =>
    intro us r
    rw [List.map_cons] at r
    cases r with
    | cons r1 r2 =>
      obtain ⟨t, e⟩ := r1
      subst e
      exact .cons n t (ih r2)
section
variable {X : Cx} {e : Expr} {te : TE} {lo hi : Option Expr} {tl th : TO} {pos p2 : Pos}
theorem po_none : PO X none tNoPart := by
  intro pins s σ H Q I h
  rw [evalPart_none]
  exact wpAny_pure ⟨none, H, I, .none, h⟩
theorem po_some (h : PE X e te) : PO X (some e) (tPart te) := by
  intro pins s σ H Q I hw
  rw [evalPart_some]
  refine thn (h pins s σ H _ I hw) fun u s1 ⟨x, H1, I1, r1, q1⟩ => ?_
  obtain ⟨i, rfl, q⟩ := q1
  obtain ⟨t, rfl⟩ := r1
  exact ⟨some i, H1, I1, .int i t, q⟩
def SlR (X : Cx) (r : V → Option Int → Option Int → Hp → VK → Prop) : Prop :=
  ∀ (pins : List (Addr × Obj)) (s : Shared) (σ : St) (H : Hp) (x : V) (v vl vu : Value) (lo hi : Option Int) (sl : Addr) (Q : VK), Inv X pins σ H s → RelV x v → s.heap.IsSliceOf sl vl vu .none → IsPart vl lo → IsPart vu hi → r x lo hi H Q →
    ∃ T id, typeLookup (.type T) "__getitem__" = pure (some (.builtin id)) ∧ s.TypeIs v T ∧ wpAny (model X.prog X.w) X.A (getItem v (.ref sl)) (EP X pins σ Q) X.xe s
theorem SlR.or {r r' : V → Option Int → Option Int → Hp → VK → Prop} (h : SlR X r) (h' : SlR X r') : SlR X (fun x lo hi H Q => r x lo hi H Q ∨ r' x lo hi H Q) := by
  intro pins s σ H x v vl vu lo hi sl Q I rx hs pl pu q
  rcases q with q | q
  · exact h pins s σ H x v vl vu lo hi sl Q I rx hs pl pu q
  · exact h' pins s σ H x v vl vu lo hi sl Q I rx hs pl pu q
def tSl (r : V → Option Int → Option Int → Hp → VK → Prop) (te : TE) (tl th : TO) : TE := fun σ H Q => te σ H fun x H1 => tl σ H1 fun l H2 => th σ H2 fun u H3 => r x l u H3 Q
theorem pe_slice {r : V → Option Int → Option Int → Hp → VK → Prop} (hr : SlR X r) (he : PE X e te) (hl : PO X lo tl) (hu : PO X hi th) : PE X (.Subscript e (.Slice lo hi none p2) pos) (tSl r te tl th) := by
  intro pins s σ H Q I h
  refine Subscript_ (thn (he pins s σ H _ I h) fun v s1 ⟨x, H1, I1, r1, q1⟩ => ?_)
  refine wpAny_Slice (thn (hl pins s1 σ H1 _ I1 q1) fun vl s2 ⟨l, H2, I2, pl, q2⟩ => thn (hu pins s2 σ H2 _ I2 q2) fun vu s3 ⟨u, H3, I3, pu, q3⟩ => ?_)
  rw [evalPart_none]
  refine wpAny_pure ?_
  have I4 : Inv X pins σ H3 { s3 with heap := s3.heap.push { cls := .type "slice", data := .fields #[vl, vu, .none] } } := I3.kept (t' := s3.toks) fun b ob q => Heap.get?_push_of_some _ q
  obtain ⟨T, id, hT, ht, hg⟩ := hr pins { s3 with heap := s3.heap.push { cls := .type "slice", data := .fields #[vl, vu, .none] } } σ H3 x v vl vu l u s3.heap.objs.size Q I4 r1 (Heap.IsSliceOf.new ..) pl pu q3
  show wpAny (model X.prog X.w) X.A (subscriptTail e (.Slice lo hi none p2) v (.ref s3.heap.objs.size)) (EP X pins σ Q) X.xe { s3 with heap := s3.heap.push { cls := .type "slice", data := .fields #[vl, vu, .none] } }
  exact tail_any (ops := [.ref s3.heap.objs.size, v]) ht hT hg (by with_unfolding_all rfl)
def cutV (xs : List V) (lo hi : Option Int) : List V := (xs.drop (HT.sIx xs.length 0 lo)).take (HT.sIx xs.length xs.length hi - HT.sIx xs.length 0 lo)
theorem cutV_length (xs : List V) (lo hi : Option Int) : (cutV xs lo hi).length ≤ xs.length := by
  unfold cutV
  rw [List.length_take, List.length_drop]
  omega
def rCatT (K : PySem.W.Frag) : R2 := fun x y H Q => ∃ a b xs ys, x = .ref a ∧ y = .ref b ∧ SqT K H a xs ∧ SqT K H b ys ∧ xs ≠ [] ∧ xs.length + ys.length ≤ sizeLine ∧
  (ys = [] → Q (.ref a) H) ∧ (ys ≠ [] → ∀ p, H p = none → Q (.ref p) (upd H p (.tup (xs ++ ys))))
theorem Vals.nil_iff {xs : List V} {us : List Value} (r : Vals xs us) : us = [] ↔ xs = [] := by
  cases r with
  | nil => simp
  | cons _ _ => simp
theorem op_catT : OpR X (binaryOp .Add) (rCatT X.K) := by
  intro pins s σ H x y v u Q I rx ry h
  obtain ⟨a, b, xs, ys, rfl, rfl, ha, hb, hx, hz, q1, q2⟩ := h
  cases rx
  cases ry
  obtain ⟨its, r1, p1, _⟩ := I.tuple ha
  obtain ⟨its2, r2, p2, _⟩ := I.tuple hb
  refine HT.cat_tup p1 p2 (fun z => hx (r1.nil_iff.mp z)) (fun z => ⟨.ref a, H, I, rfl, q1 (r2.nil_iff.mp z)⟩) (fun z => ?_) (by rw [← r1.length, ← r2.length]; exact hz)
  refine ⟨.ref s.heap.objs.size, _, I.laid (t' := s.toks) (o := .tup (xs ++ ys)) (fun b ob q => Heap.get?_push_of_some _ q) (Nat.le_refl _) ?_, rfl, q2 (fun w => z (r2.nil_iff.mpr w)) _ (I.hok.fresh (Nat.le_refl _))⟩
  exact ⟨by rw [List.length_append]; exact hz, _, r1.append r2, IsTup.new _ _, _, Heap.get?_push_size _ rfl, rfl⟩
end
end L2
namespace L2
open PySem PySem.Spec PyProof.Rows
def ixN (n : Nat) (i : Int) : Option Nat := if 0 ≤ i then (if i < n then some i.toNat else none) else if -(n : Int) ≤ i then some (i + n).toNat else none
def atI {α : Type} (xs : List α) (i : Int) : Option α := (ixN xs.length i).bind fun j => xs[j]?
theorem ixN_seq {n : Nat} {i : Int} {j : Nat} (h : ixN n i = some j) : seqIndex? i n = some j ∧ j < n ∧ -(n : Int) ≤ i ∧ i < n := by
  unfold ixN at h
  by_cases h0 : 0 ≤ i
  · rw [if_pos h0] at h
    by_cases h1 : i < n
    · rw [if_pos h1] at h
      have e : i.toNat = j := Option.some.inj h
      exact ⟨by rw [seqIndex_of h0 h1, e], by omega, by omega, h1⟩
    · rw [if_neg h1] at h; cases h
  · rw [if_neg h0] at h
    by_cases h1 : -(n : Int) ≤ i
    · rw [if_pos h1] at h
      have e : (i + n).toNat = j := Option.some.inj h
      exact ⟨by rw [seqIndex_neg (by omega) h1, e], by omega, h1, by omega⟩
    · rw [if_neg h1] at h; cases h
theorem atI_get {α : Type} {xs : List α} {i : Int} {v : α} (h : atI xs i = some v) : ∃ j, seqIndex? i xs.length = some j ∧ xs[j]? = some v ∧ j < xs.length ∧ -(xs.length : Int) ≤ i ∧ i < xs.length := by
  unfold atI at h
  cases e : ixN xs.length i with
  | none => rw [e] at h; cases h
  | some j =>
    rw [e] at h
    obtain ⟨h1, h2, h3, h4⟩ := ixN_seq e
    exact ⟨j, h1, h, h2, h3, h4⟩
theorem atI_nat {α : Type} {xs : List α} {j : Nat} {v : α} (h : xs[j]? = some v) : atI xs (j : Int) = some v := by
  have hj : j < xs.length := (List.getElem?_eq_some_iff.mp h).1
  have e : ixN xs.length (j : Int) = some j := by
    unfold ixN
    rw [if_pos (by omega), if_pos (by omega)]; simp
  unfold atI; rw [e]; exact h
def PlainIx (b : Expr) : Prop := ∀ o i, subscripted b false o i = operate [o, i] (getItem o i)
def IxR (X : Cx) (r : R2) : Prop :=
  ∀ (value slice : Expr) (pins : List (Addr × Obj)) (s : Shared) (σ : St) (H : Hp) (x y : V) (v u : Value) (Q : VK), Inv X pins σ H s → RelV x v → RelV y u → r x y H Q →
    subscripted slice false v u = operate [v, u] (getItem v u) → wpAny (model X.prog X.w) X.A (subscriptTail value slice v u) (EP X pins σ Q) X.xe s
def MtR (X : Cx) (id : String) (r : V → List V → Hp → VK → Prop) : Prop :=
  ∀ (pins : List (Addr × Obj)) (s : Shared) (σ : St) (H : Hp) (x : V) (xs : List V) (v : Value) (us : List Value) (Q : VK), Inv X pins σ H s → RelV x v → Vals xs us → r x xs H Q →
    wpAny (model X.prog X.w) X.A (call (.builtin id) (v :: us)) (EP X pins σ Q) X.xe s
section
variable {X : Cx} {a b : Expr} {ta tb : TE} {pos : Pos}
theorem IxR.or {r r' : R2} (h : IxR X r) (h' : IxR X r') : IxR X (fun x y H Q => r x y H Q ∨ r' x y H Q) := by
  intro value slice pins s σ H x y v u Q I rx ry q hs
  rcases q with q | q
  · exact h value slice pins s σ H x y v u Q I rx ry q hs
  · exact h' value slice pins s σ H x y v u Q I rx ry q hs
theorem MtR.or {id : String} {r r' : V → List V → Hp → VK → Prop} (h : MtR X id r) (h' : MtR X id r') : MtR X id (fun x xs H Q => r x xs H Q ∨ r' x xs H Q) := by
  intro pins s σ H x xs v us Q I rx rs q
  rcases q with q | q
  · exact h pins s σ H x xs v us Q I rx rs q
  · exact h' pins s σ H x xs v us Q I rx rs q
theorem pe_ix {r : R2} (hr : IxR X r) (ha : PE X a ta) (hb : PE X b tb) (hs : PlainIx b) : PE X (.Subscript a b pos) (tOp r ta tb) := by
  intro pins s σ H Q I h
  exact Subscript_ (binT ha hb I h fun v u s2 x y H2 I2 rx ry q => hr a b pins s2 σ H2 x y v u Q I2 rx ry q (hs _ _))
def rIxL (K : PySem.W.Frag) : R2 := fun x y H Q => ∃ p xs i v, x = .ref p ∧ y = .int i ∧ SqL K H p xs ∧ atI xs i = some v ∧ Q v H
def rIxT (K : PySem.W.Frag) : R2 := fun x y H Q => ∃ p xs i v, x = .ref p ∧ y = .int i ∧ SqT K H p xs ∧ atI xs i = some v ∧ Q v H
def rIxS : R2 := fun x y H Q => ∃ z i c, x = .str z ∧ y = .int i ∧ z.length ≤ sizeLine ∧ atI z.cps.toList i = some c ∧ Q (.str ⟨#[c]⟩) H
theorem ix_list : IxR X (rIxL X.K) := by
  intro value slice pins s σ H x y v u Q I rx ry h hs
  obtain ⟨p, xs, i, z, rfl, rfl, hq, he, q⟩ := h
  cases rx
  obtain ⟨t, rfl⟩ := ry
  obtain ⟨its, r, pl, hz⟩ := I.list hq
  obtain ⟨j, h1, h2, h3, h4, h5⟩ := atI_get he
  obtain ⟨w, ew, rw'⟩ := r.get h2
  have hl := r.length
  have hn := line63
  have fin : EP X pins σ Q w s := ⟨z, H, I, rw', q⟩
  by_cases h0 : 0 ≤ i
  · have hj : i.toNat = j := by
      rw [seqIndex_of h0 h5] at h1
      exact Option.some.inj h1
    exact item_listR pl.isList h0 (by omega) (by rw [hj]; simpa using ew) fin hs
  · have hj : (i + (its.toArray.size : Int)).toNat = j := by
      rw [seqIndex_neg (by omega) h4] at h1
      rw [List.size_toArray, ← hl]
      exact Option.some.inj h1
    exact subscriptTail_builtinR (x := w) pl.isList.typeIs slot_list_getitem.lookup
      (wpAny_getItem_list_neg (Q := fun r s' => r = w ∧ EP X pins σ Q r s') pl.isList (by omega) (by rw [List.size_toArray] <;> omega) (by omega) (by rw [hj]; simpa using ew) ⟨rfl, fin⟩) hs
theorem ix_tup : IxR X (rIxT X.K) := by
  intro value slice pins s σ H x y v u Q I rx ry h hs
  obtain ⟨p, xs, i, z, rfl, rfl, hq, he, q⟩ := h
  cases rx
  obtain ⟨t, rfl⟩ := ry
  obtain ⟨its, r, pl, hz⟩ := I.tuple hq
  obtain ⟨j, h1, h2, h3, h4, h5⟩ := atI_get he
  obtain ⟨w, ew, rw'⟩ := r.get h2
  have hl := r.length
  have hn := line63
  have fin : EP X pins σ Q w s := ⟨z, H, I, rw', q⟩
  exact subscriptTail_builtinR (x := w) pl.typeIs slot_tuple_getitem.lookup
    (getItem_tuple (j := j) (Q := fun r s' => r = w ∧ EP X pins σ Q r s') pl (by omega) (by omega) (by rw [List.size_toArray, ← hl]; exact h1) (by simpa using ew) ⟨rfl, fin⟩) hs
theorem ix_str : IxR X rIxS := by
  intro value slice pins s σ H x y v u Q I rx ry h hs
  obtain ⟨z, i, c, rfl, rfl, hz, he, q⟩ := h
  obtain ⟨t, rfl⟩ := rx
  obtain ⟨t', rfl⟩ := ry
  obtain ⟨j, h1, h2, h3, h4, h5⟩ := atI_get he
  have hl : z.cps.toList.length = z.length := by simp [Str.length]
  rw [hl] at h1 h4 h5
  have hn := line63
  exact tail_any (typeIs_str s z t) slot_str_getitem.lookup (getItem_str (c := c) (by
    have e1 : decide (i < -(2 ^ 63 : Int)) = false := decide_eq_false (by omega)
    have e2 : decide (i ≥ 2 ^ 63) = false := decide_eq_false (by omega)
    rw [e1, e2, Bool.or_false]) (by rw [h1]; simpa using h2) ⟨.str ⟨#[c]⟩, H, I.tok _, ⟨_, rfl⟩, q⟩) hs
theorem mapSeq_set (its : List Value) (n j : Nat) (u : Value) : Obj.mapSeq (·.setIfInBounds j u) { cls := .type "list", data := .seq its.toArray n } = { cls := .type "list", data := .seq (its.set j u).toArray n } := by
  simp [Obj.mapSeq]
theorem Inv.lst {pins : List (Addr × Obj)} {σ : St} {H : Hp} {s : Shared} {p : Addr} {xs : List V} (I : Inv X pins σ H s) (h : H p = some (.lst xs)) :
    ∃ (its : List Value) (n : Nat), Vals xs its ∧ s.heap.get? p = some { cls := .type "list", data := .seq its.toArray n } ∧ xs.length ≤ sizeLine := by
  obtain ⟨z, its, n, r, e⟩ := I.hok p _ h
  exact ⟨its, n, r, e, z⟩
theorem Inv.lstUpd {pins : List (Addr × Obj)} {σ : St} {H : Hp} {s : Shared} {p : Addr} {xs ys : List V} {its its' : List Value} {n n' : Nat} {f : Obj → Obj} (I : Inv X pins σ H s) (h : H p = some (.lst xs))
    (ho : s.heap.get? p = some { cls := .type "list", data := .seq its.toArray n }) (hf : f { cls := .type "list", data := .seq its.toArray n } = { cls := .type "list", data := .seq its'.toArray n' }) (r : Vals ys its') (hz : ys.length ≤ sizeLine) (t : Nat) :
    Inv X pins σ (upd H p (.lst ys)) { s with heap := s.heap.update p f, toks := t } := by
  have e : (s.heap.update p f).get? p = some { cls := .type "list", data := .seq its'.toArray n' } := by
    rw [Heap.get?_update_self f ho (by rw [hf] <;> rfl), hf]
  refine I.write (x := p) (e := p) (by rw [h]; trivial) (.inl rfl) (fun b u hb q => (Heap.get?_update_other _ _ (Ne.symm hb)).trans q) ⟨_, e⟩ ?_
  exact ⟨hz, its', n', r, e⟩
def rSetL : V → V → V → Hp → (Hp → Prop) → Prop := fun o i v H Q => ∃ p xs k j, o = .ref p ∧ i = .int k ∧ H p = some (.lst xs) ∧ ixN xs.length k = some j ∧ Q (upd H p (.lst (xs.set j v)))
theorem set_list : PSet X rSetL := by
  intro pins s σ H o i v ov iv u Q I ro ri rv h
  obtain ⟨p, xs, k, j, rfl, rfl, hp, hj, q⟩ := h
  cases ro
  obtain ⟨t, rfl⟩ := ri
  obtain ⟨its, n, r, ho, hz⟩ := I.lst hp
  obtain ⟨h1, h2, h3, h4⟩ := ixN_seq hj
  have hl := r.length
  have hn := line63
  have I' : Inv X pins σ (upd H p (.lst (xs.set j v))) { s with heap := s.heap.update p (Obj.mapSeq (·.setIfInBounds j u)) } :=
    I.lstUpd hp ho (mapSeq_set its n j u) (r.set rv j) (by rw [List.length_set]; exact hz) s.toks
  by_cases h0 : 0 ≤ k
  · have hk : k.toNat = j := by
      rw [seqIndex_of h0 h4] at h1
      exact Option.some.inj h1
    exact PySem.W.ki_setAt ho h0 (by omega) (by rw [List.size_toArray, ← hl]; exact h4) (by rw [hk]; exact ⟨_, I', q⟩)
  · have hk : (k + (its.toArray.size : Int)).toNat = j := by
      rw [seqIndex_neg (by omega) h3] at h1
      rw [List.size_toArray, ← hl]
      exact Option.some.inj h1
    exact PySem.W.ki_setBack ho (by omega) (by rw [List.size_toArray, ← hl]; exact h3) (by omega) (by rw [hk]; exact ⟨_, I', q⟩)
theorem slice_bounds (lo hi : Option Int) (n : Nat) : (sliceBounds lo hi none n).1 = ((HT.sIx n 0 lo : Nat) : Int) ∧ (sliceBounds lo hi none n).2.1 = ((HT.sIx n n hi : Nat) : Int) ∧ (sliceBounds lo hi none n).2.2 = 1 := by
  refine ⟨?_, ?_, rfl⟩
  · cases lo with
    | none => simp [sliceBounds, HT.sIx]
    | some i =>
      simp only [sliceBounds, HT.sIx, Option.getD_none, show (1 : Int) > 0 by decide, if_true]
      by_cases h : i < 0
      · simp only [h, if_true] <;> omega
      · simp only [h, if_false] <;> omega
  · cases hi with
    | none => simp [sliceBounds, HT.sIx]
    | some i =>
      simp only [sliceBounds, HT.sIx, Option.getD_none, show (1 : Int) > 0 by decide, if_true]
      by_cases h : i < 0
      · simp only [h, if_true] <;> omega
      · simp only [h, if_false] <;> omega
theorem slicePick_cut (its : List Value) (lo hi : Option Int) : slicePick its.toArray lo hi none = ((its.drop (HT.sIx its.length 0 lo)).take (HT.sIx its.length its.length hi - HT.sIx its.length 0 lo)).toArray := by
  obtain ⟨h1, h2, h3⟩ := slice_bounds lo hi its.toArray.size
  unfold slicePick
  rw [h1, h2, h3]
  simp only [sliceRange_one, pick_run, List.size_toArray] <;> rfl
def rSlL (K : PySem.W.Frag) : V → Option Int → Option Int → Hp → VK → Prop := fun x lo hi H Q => ∃ a xs, x = .ref a ∧ SqL K H a xs ∧ ∀ p, H p = none → Q (.ref p) (upd H p (.lst (cutV xs lo hi)))
theorem sl_list : SlR X (rSlL X.K) := by
  intro pins s σ H x v vl vu lo hi sl Q I rx hs pl pu h
  obtain ⟨a, xs, rfl, hx, q⟩ := h
  cases rx
  obtain ⟨its, r, ht, hz⟩ := I.list hx
  have hlen := r.length
  refine ⟨"list", _, slot_list_getitem.lookup, ht.isList.typeIs, ?_⟩
  refine wpAny_getItem_list_slice ht.isList hs pl pu .none (by simp) ?_ (by rw [List.size_toArray] <;> omega)
  rw [slicePick_cut, ← hlen]
  refine ⟨.ref s.heap.objs.size, _, I.laid (t' := s.toks) (o := .lst (cutV xs lo hi)) (fun b ob q => Heap.get?_push_of_some _ q) (Nat.le_refl _) ?_, rfl, q _ (I.hok.fresh (Nat.le_refl _))⟩
  exact ⟨Nat.le_trans (cutV_length xs lo hi) hz, _, 0, (r.drop (HT.sIx xs.length 0 lo)).take (HT.sIx xs.length xs.length hi - HT.sIx xs.length 0 lo), Heap.get?_push_size _ rfl⟩
def flatV : V → Bool
  | .non => true
  | .bl _ => true
  | .int _ => true
  | .str _ => true
  | _ => false
def eqV : V → V → Bool
  | .non, .non => true
  | .bl a, .bl b => a == b
  | .bl a, .int b => (if a then 1 else 0) == b
  | .int a, .bl b => a == (if b then 1 else 0)
  | .int a, .int b => a == b
  | .str a, .str b => a == b
  | _, _ => false
theorem eqAt_V {A : Around} {s : Shared} {y x : V} {u v : Value} (ry : RelV y u) (rx : RelV x v) (fy : flatV y = true) (fx : flatV x = true) : SeqAt.EqAt A s u v (eqV y x) := by
  cases y with
  | non =>
    cases ry
    cases x with
    | non => cases rx; exact SeqAt.EqAt.same _
    | bl b => cases rx; exact SeqAt.EqAt.none_bool b
    | int b => obtain ⟨t, rfl⟩ := rx; exact SeqAt.EqAt.none_int b t
    | str b => obtain ⟨t, rfl⟩ := rx; exact SeqAt.EqAt.none_str b t
    | _ => exact absurd (show false = true from fx) Bool.false_ne_true
  | bl a =>
    cases ry
    cases x with
    | non => cases rx; exact SeqAt.EqAt.bool_none a
    | bl b => cases rx; exact SeqAt.EqAt.bool_bool a b
    | int b => obtain ⟨t, rfl⟩ := rx; exact SeqAt.EqAt.bool_int a b t
    | str b => obtain ⟨t, rfl⟩ := rx; exact SeqAt.EqAt.bool_str a b t
    | _ => exact absurd (show false = true from fx) Bool.false_ne_true
  | int a =>
    obtain ⟨t', rfl⟩ := ry
    cases x with
    | non => cases rx; exact SeqAt.EqAt.int_none a t'
    | bl b => cases rx; exact SeqAt.EqAt.int_bool a t' b
    | int b => obtain ⟨t, rfl⟩ := rx; exact SeqAt.EqAt.int_int a t' b t
    | str b => obtain ⟨t, rfl⟩ := rx; exact SeqAt.EqAt.int_str a t' b t
    | _ => exact absurd (show false = true from fx) Bool.false_ne_true
  | str a =>
    obtain ⟨t', rfl⟩ := ry
    cases x with
    | non => cases rx; exact SeqAt.EqAt.str_none a t'
    | bl b => cases rx; exact SeqAt.EqAt.str_bool a t' b
    | int b => obtain ⟨t, rfl⟩ := rx; exact SeqAt.EqAt.str_int a t' b t
    | str b => obtain ⟨t, rfl⟩ := rx; exact SeqAt.EqAt.str_str a t' b t
    | _ => exact absurd (show false = true from fx) Bool.false_ne_true
  | _ => exact absurd (show false = true from fy) Bool.false_ne_true
def eqU (x : V) (u : Value) : Bool := match u with
  | .none => eqV .non x
  | .bool b => eqV (.bl b) x
  | .int i _ => eqV (.int i) x
  | .str z _ => eqV (.str z) x
  | _ => false
theorem eqU_of {x y : V} {u : Value} (r : RelV y u) (f : flatV y = true) : eqU x u = eqV y x := by
  cases y with
  | non => cases r; rfl
  | bl b => cases r; rfl
  | int i => obtain ⟨t, rfl⟩ := r; rfl
  | str z => obtain ⟨t, rfl⟩ := r; rfl
  | _ => exact absurd (show false = true from f) Bool.false_ne_true
theorem any_eqU {x : V} : ∀ {xs : List V} {us : List Value}, Vals xs us → xs.all flatV = true → us.any (eqU x) = xs.any fun y => eqV y x
  | _, _, .nil, _ => rfl
  | y :: xs, u :: us, .cons r t, f => by
    rw [List.all_cons, Bool.and_eq_true] at f
    rw [List.any_cons, List.any_cons, eqU_of r f.1, any_eqU t f.2]
theorem mem_eqAt {A : Around} {s : Shared} {x : V} {v : Value} (rx : RelV x v) (fx : flatV x = true) : ∀ {xs : List V} {us : List Value}, Vals xs us → xs.all flatV = true → ∀ u ∈ us, SeqAt.EqAt A s u v (eqU x u)
  | _, _, .nil, _ => fun u hu => by cases hu
  | y :: xs, u :: us, .cons r t, f => fun u' hu => by
    rw [List.all_cons, Bool.and_eq_true] at f
    rcases List.mem_cons.mp hu with rfl | hu
    · rw [eqU_of r f.1]; exact eqAt_V r rx f.1 fx
    · exact mem_eqAt rx fx t f.2 u' hu
def inV (x : V) (xs : List V) : Bool := xs.any fun y => eqV y x
def rIn (K : PySem.W.Frag) (neg : Bool) : R2 := fun x y H Q => ∃ p xs, y = .ref p ∧ (SqL K H p xs ∨ SqT K H p xs) ∧ flatV x = true ∧ xs.all flatV = true ∧ Q (.bl (if neg then !inV x xs else inV x xs)) H
theorem op_in_seq : OpR X (compareOp .In) (rIn X.K false) := by
  intro pins s σ H x y v u Q I rx ry h
  obtain ⟨p, xs, rfl, hq, fx, fs, q⟩ := h
  cases ry
  rcases hq with hq | hq
  · obtain ⟨its, r, pl, hz⟩ := I.list hq
    refine SeqAt.in_listAt (eqU x) pl.isList (fun w hw => mem_eqAt rx fx r fs w (by simpa using hw)) ⟨.bl _, H, I, rfl, ?_⟩
    rw [show its.toArray.any (eqU x) = its.any (eqU x) by simp, any_eqU r fs]
    exact q
  · obtain ⟨its, r, pl, hz⟩ := I.tuple hq
    refine SeqAt.in_tupleAt (eqU x) pl (fun w hw => mem_eqAt rx fx r fs w (by simpa using hw)) ⟨.bl _, H, I, rfl, ?_⟩
    rw [show its.toArray.any (eqU x) = its.any (eqU x) by simp, any_eqU r fs]
    exact q
theorem call_len_seq : CallR X (.builtin "len") (fun xs H Q => ∃ p ys, xs = [.ref p] ∧ (SqL X.K H p ys ∨ SqT X.K H p ys) ∧ Q (.int ys.length) H) := by
  intro pins s σ H xs us Q I r h
  obtain ⟨p, ys, rfl, hq, q⟩ := h
  obtain ⟨u, rfl, rx⟩ := vals1 r
  cases rx
  have hn := line63
  rcases hq with hq | hq
  · obtain ⟨its, r', pl, hz⟩ := I.list hq
    have hlen := r'.length
    exact Calls.call_len_list pl.isList (by simp only [List.size_toArray] <;> omega) ⟨.int ys.length, H, I.tok _, ⟨s.toks + 1, by rw [List.size_toArray, hlen]⟩, q⟩
  · obtain ⟨its, r', pl, hz⟩ := I.tuple hq
    have hlen := r'.length
    exact len_tuple pl (by simp only [List.size_toArray] <;> omega) ⟨.int ys.length, H, I.tok _, ⟨s.toks + 1, by rw [List.size_toArray, hlen]⟩, q⟩
theorem call_len_str : CallR X (.builtin "len") (fun xs H Q => ∃ z, xs = [.str z] ∧ z.length ≤ sizeLine ∧ Q (.int z.length) H) := by
  intro pins s σ H xs us Q I r h
  obtain ⟨z, rfl, hz, q⟩ := h
  obtain ⟨u, rfl, t, rfl⟩ := vals1 r
  have hn := line63
  exact len_str (by omega) ⟨.int z.length, H, I.tok _, ⟨_, rfl⟩, q⟩
theorem CallR.or {f : Value} {r r' : List V → Hp → VK → Prop} (h : CallR X f r) (h' : CallR X f r') : CallR X f (fun xs H Q => r xs H Q ∨ r' xs H Q) := by
  intro pins s σ H xs us Q I rs q
  rcases q with q | q
  · exact h pins s σ H xs us Q I rs q
  · exact h' pins s σ H xs us Q I rs q
theorem call_tuple_of : CallR X (.type "tuple") (fun xs H Q => ∃ p ys, xs = [.ref p] ∧ ((SqL X.K H p ys ∧ ∀ l, H l = none → Q (.ref l) (upd H l (.tup ys))) ∨ (SqT X.K H p ys ∧ Q (.ref p) H))) := by
  intro pins s σ H xs us Q I r h
  obtain ⟨p, ys, rfl, h⟩ := h
  obtain ⟨u, rfl, rx⟩ := vals1 r
  cases rx
  rcases h with ⟨hq, q⟩ | ⟨hq, q⟩
  · obtain ⟨its, r', pl, hz⟩ := I.list hq
    have hlen := r'.length
    refine call_tuple_list pl.isList (fun h' kp => ?_) (by simp only [List.size_toArray] <;> omega)
    have I1 : Inv X pins σ H { s with heap := h' } := I.kept (t' := s.toks) kp
    have I2 : Inv X pins σ (upd H h'.objs.size (.tup ys)) { s with heap := h'.push { cls := .type "tuple", data := .seq its.toArray } } :=
      I1.laid (t' := s.toks) (fun b o e => Heap.get?_push_of_some _ e) (Nat.le_refl _) (show ObjOk X.prog X.w _ _ _ (.tup ys) from ⟨hz, its, r', IsTup.new _ _, _, Heap.get?_push_size _ rfl, rfl⟩)
    exact ⟨.ref h'.objs.size, _, I2, rfl, q _ (I1.hok.fresh (Nat.le_refl _))⟩
  · obtain ⟨its, r', pl, hz⟩ := I.tuple hq
    exact call_tuple_same pl ⟨.ref p, H, I, rfl, q⟩
def tyV (K : PySem.W.Frag) (T : String) (x : V) (H : Hp) : Prop := match x with
  | .str _ => T = "str"
  | .int _ => T = "int"
  | .ref p => (T = "list" ∧ ∃ xs, SqL K H p xs) ∨ (T = "tuple" ∧ ∃ o, K.lookup p = some o ∧ o.cls = .type "tuple" ∧ o.dict = none) ∨
      (T = "dict" ∧ ((∃ kvs, H p = some (.dK kvs)) ∨ ∃ kvs, H p = some (.dT kvs))) ∨ (T = "set" ∧ ∃ S n, H p = some (.set S n))
  | _ => False
theorem tyV_is {pins : List (Addr × Obj)} {σ : St} {H : Hp} {s : Shared} {T : String} {x : V} {v : Value} (I : Inv X pins σ H s) (r : RelV x v) (ty : tyV X.K T x H) :
    s.TypeIs v T ∧ ∀ a, v = .ref a → ∃ ob, s.heap.get? a = some ob ∧ ob.dict = none := by
  cases x with
  | str z =>
    obtain ⟨t, rfl⟩ := r
    cases (show T = "str" from ty)
    exact ⟨typeIs_str s z t, fun _ e => nomatch e⟩
  | int i =>
    obtain ⟨t, rfl⟩ := r
    cases (show T = "int" from ty)
    exact ⟨typeIs_int s i t, fun _ e => nomatch e⟩
  | ref p =>
    cases r
    rcases ty with ⟨rfl, xs, hq⟩ | ⟨rfl, o, hk, hc, hd⟩ | ⟨rfl, hk⟩ | ⟨rfl, S, n, hk⟩
    · obtain ⟨its, _, pl, _⟩ := I.list hq
      refine ⟨pl.isList.typeIs, fun a e => ?_⟩
      cases e
      obtain ⟨o, n, e, c, hd, _⟩ := pl
      exact ⟨o, e, hd⟩
    · refine ⟨⟨o, I.kIn p o hk, hc⟩, fun a e => ?_⟩
      cases e
      exact ⟨o, I.kIn _ o hk, hd⟩
    · have z : ∃ o, s.heap.get? p = some o ∧ o.ExactDict := by
        rcases hk with ⟨kvs, hk⟩ | ⟨kvs, hk⟩
        · obtain ⟨_, _, _, _, o, _, _, e, ex, _⟩ := I.hok p _ hk
          exact ⟨o, e, ex⟩
        · obtain ⟨_, _, _, _, o, _, _, e, ex, _⟩ := I.hok p _ hk
          exact ⟨o, e, ex⟩
      obtain ⟨o, e, ex⟩ := z
      refine ⟨⟨o, e, ex.1⟩, fun a e2 => ?_⟩
      cases e2
      exact ⟨o, e, ex.2.1⟩
    · obtain ⟨o, _, _, _, e, ex, _⟩ := I.hok p _ hk
      refine ⟨⟨o, e, ex.1⟩, fun a e2 => ?_⟩
      cases e2
      exact ⟨o, e, ex.2.1⟩
  | _ => exact False.elim ty
def tBM0 (K : PySem.W.Frag) (T : String) (r : V → List V → Hp → VK → Prop) (to : TE) : TE := fun σ H Q => to σ H fun x H1 => tyV K T x H1 ∧ r x [] H1 Q
def tBM (K : PySem.W.Frag) (T : String) (r : V → List V → Hp → VK → Prop) (to : TE) (t : TA) : TE := fun σ H Q => to σ H fun x H1 => tyV K T x H1 ∧ t σ H1 fun xs H2 => r x xs H2 Q
variable {o e : Expr} {es : List Expr} {to : TE} {t : TA} {name : Str} {apos cpos : Pos} {T id : String} {r : V → List V → Hp → VK → Prop}
theorem pe_bm0 (pa : PlainAttrs T) (slot : Slot T name id) (hty : typeOf (.builtin id) = pure (.type "method_descriptor")) (hm : MtR X id r) (ho : PE X o to)
    (hbase : attributeBase o name X.env (eval o X.env) = eval o X.env := by rfl) (hline : (apos.endLine == cpos.line) = true := by rfl) : PE X (.Call (.Attribute o name apos) [] [] cpos) (tBM0 X.K T r to) := by
  intro pins s σ H Q I h
  refine wpAny_Call_method0_late hbase hline (thn (ho pins s σ H _ I h) fun v s1 ⟨x, H1, I1, r1, ty, q1⟩ => ?_)
  obtain ⟨h1, h2⟩ := tyV_is I1 r1 ty
  exact ⟨T, id, pa, slot, hty, h1, h2, Calls.callWith_builtin rfl (PySem.evalArgs_none (hm pins s1 σ H1 x [] v [] Q I1 r1 .nil q1))⟩
theorem pe_bm (pa : PlainAttrs T) (slot : Slot T name id) (hty : typeOf (.builtin id) = pure (.type "method_descriptor")) (hm : MtR X id r) (ho : PE X o to) (ha : PA X (e :: es) t)
    (hbase : attributeBase o name X.env (eval o X.env) = eval o X.env := by rfl)
    (hfew : ((backTo cpos (starEach (e :: es) X.env)).all (fun x => !x.1) && (backToKw cpos (keywordEach [] X.env)).all (fun x => x.1.isSome)
      && decide ((e :: es).length + ([] : List Keyword).length + (if ([] : List Keyword).isEmpty then 0 else 1) < 30)) = true := by rfl)
    (hline : (apos.endLine == cpos.line) = true := by rfl) (hs : starEach (e :: es) X.env = (false, eval e X.env) :: starEach es X.env := by rfl) (hplain : (backTo cpos (starEach es X.env)).any (·.1) = false := by rfl) :
    PE X (.Call (.Attribute o name apos) (e :: es) [] cpos) (tBM X.K T r to t) := by
  intro pins s σ H Q I h
  refine wpAny_Call_method_late hbase hfew hline rfl (thn (ho pins s σ H _ I h) fun v s1 ⟨x, H1, I1, r1, ty, q1⟩ => ?_)
  obtain ⟨h1, h2⟩ := tyV_is I1 r1 ty
  refine ⟨T, id, pa, slot, hty, h1, h2, ?_⟩
  have hA := ha cpos pins s1 σ H1 _ I1 q1
  rw [hs] at hA ⊢
  refine Calls.callWith_builtin (by show (false || (backTo cpos (starEach es X.env)).any (·.1)) = false; rw [hplain] <;> rfl) (Calls.evalArgs_plain ?_)
  exact thn hA fun us s2 ⟨vs, H2, I2, r2, q2⟩ => hm pins s2 σ H2 x vs v us Q I2 r1 r2 q2
end
end L2
namespace L2
open PySem PySem.Spec PyProof.Rows
def MtM (X : Cx) (id : String) (r : V → List V → Hp → VK → Prop) : Prop :=
  ∀ (pins : List (Addr × Obj)) (s : Shared) (σ : St) (H : Hp) (x : V) (xs : List V) (v : Value) (us : List Value) (Q : VK), Inv X pins σ H s → RelV x v → Vals xs us → r x xs H Q →
    wpAny (model X.prog X.w) X.A (call (.builtin id) (v :: us)) (EP X pins σ Q) X.xe s
theorem Vals.one : ∀ {x : V} {us : List Value}, Vals [x] us → ∃ u, us = [u] ∧ RelV x u
  | _, _, .cons r .nil => ⟨_, rfl, r⟩
theorem Vals.two : ∀ {x y : V} {us : List Value}, Vals [x, y] us → ∃ u v, us = [u, v] ∧ RelV x u ∧ RelV y v
  | _, _, _, .cons r (.cons q .nil) => ⟨_, _, rfl, r, q⟩
theorem Vals.zero : ∀ {us : List Value}, Vals [] us → us = []
  | _, .nil => rfl
theorem Vals.dropLast {xs : List V} {us : List Value} (h : Vals xs us) : Vals xs.dropLast us.dropLast := by
  induction h with
  | nil => exact .nil
  | cons r t ih =>
    cases t with
    | nil => exact .nil
    | cons q t' => exact .cons r ih
theorem Vals.eraseIdx : ∀ {xs : List V} {us : List Value} (i : Nat), Vals xs us → Vals (xs.eraseIdx i) (us.eraseIdx i)
  | _, _, _, .nil => .nil
  | _, _, 0, .cons _ t => t
  | _, _, i + 1, .cons r t => .cons r (Vals.eraseIdx i t)
theorem Vals.reverse {xs : List V} {us : List Value} (h : Vals xs us) : Vals xs.reverse us.reverse := by
  induction h with
  | nil => exact .nil
  | cons r t ih => rw [List.reverse_cons, List.reverse_cons]; exact Vals.append ih (.cons r .nil)
theorem Vals.rep {xs : List V} {us : List Value} (h : Vals xs us) : ∀ k : Nat, Vals (List.replicate k xs).flatten (List.replicate k us).flatten
  | 0 => .nil
  | k + 1 => by
    rw [List.replicate_succ, List.replicate_succ, List.flatten_cons, List.flatten_cons]
    exact Vals.append h (Vals.rep h k)
theorem erase_last {α : Type} (l : List α) : l.eraseIdx (l.length - 1) = l.dropLast := by
  induction l with
  | nil => rfl
  | cons a r ih =>
    cases r with
    | nil => rfl
    | cons b r =>
      have e : (a :: b :: r).length - 1 = ((b :: r).length - 1) + 1 := by
        have h1 : (a :: b :: r).length = r.length + 2 := rfl
        have h2 : (b :: r).length = r.length + 1 := rfl
        omega
      rw [e, List.eraseIdx_cons_succ, ih]
      all_goals rfl
theorem foldl_rep (its : List Value) : ∀ (k : Nat) (acc : List Value),
    List.foldl (fun x1 x2 => x1 ++ x2) acc.toArray (List.replicate k its.toArray) = (acc ++ (List.replicate k its).flatten).toArray
  | 0, acc => by simp
  | k + 1, acc => by
    have e : acc.toArray ++ its.toArray = (acc ++ its).toArray := by simp
    have e2 : (acc ++ its) ++ (List.replicate k its).flatten = acc ++ (List.replicate (k + 1) its).flatten := by
      rw [List.replicate_succ, List.flatten_cons, List.append_assoc]
    rw [← e2, ← foldl_rep its k (acc ++ its), ← e, List.replicate_succ, List.foldl_cons]
section
variable {X : Cx} {pins : List (Addr × Obj)} {σ : St} {H : Hp} {s : Shared} {l b : Addr} {xs ys zs : List V}
theorem Inv.lset {its its' : List Value} {n : Nat} {f : Array Value → Array Value} {t' : Nat} (I : Inv X pins σ H s) (hH : H l = some (.lst xs))
    (e : s.heap.get? l = some { cls := .type "list", data := .seq its.toArray n }) (hf : f its.toArray = its'.toArray) (hv : Vals ys its') (hz : ys.length ≤ sizeLine) :
    Inv X pins σ (upd H l (.lst ys)) { s with heap := s.heap.update l (Obj.mapSeq f), toks := t' } := by
  have q := PySem.IsL.update e f
  rw [hf] at q
  refine I.write (x := l) (e := l) (by rw [hH]; exact trivial) (.inl rfl) (fun b' u hb hu => (Heap.get?_update_other s.heap (Obj.mapSeq f) (Ne.symm hb)).trans hu) ⟨_, q⟩ ?_
  exact ⟨hz, its', _, hv, q⟩
theorem Inv.lnew {its : List Value} {t' : Nat} (I : Inv X pins σ H s) (hv : Vals ys its) (hz : ys.length ≤ sizeLine) :
    Inv X pins σ (upd H s.heap.objs.size (.lst ys)) { s with heap := s.heap.push { cls := .type "list", data := .seq its.toArray }, toks := t' } :=
  I.laid (fun _ _ q => Heap.get?_push_of_some _ q) (Nat.le_refl _) ⟨hz, its, 0, hv, Heap.get?_push_size _ rfl⟩
theorem Inv.fresh (I : Inv X pins σ H s) : H s.heap.objs.size = none := I.hok.fresh (Nat.le_refl _)
theorem Inv.lstM (I : Inv X pins σ H s) (hH : H l = some (.lst xs)) : xs.length ≤ sizeLine ∧ ∃ (its : List Value) (n : Nat), Vals xs its ∧ xs.length = its.length ∧ s.heap.get? l = some { cls := .type "list", data := .seq its.toArray n } := by
  obtain ⟨z, its, n, r, e⟩ := I.hok l _ hH
  exact ⟨z, its, n, r, r.length, e⟩
theorem notLongL {n : Nat} (h : n ≤ sizeLine) : Builtin.List.listTooLong n = false := by
  unfold Builtin.List.listTooLong
  exact decide_eq_false (by omega)
end
section
variable {X : Cx}
def rAppend : V → List V → Hp → VK → Prop := fun x vs H Q => ∃ l xs y, x = .ref l ∧ vs = [y] ∧ H l = some (.lst xs) ∧ xs.length < sizeLine ∧ Q .non (upd H l (.lst (xs ++ [y])))
theorem mt_append : MtM X "list.append" rAppend := by
  intro pins s σ H x vs v us Q I rx rv h
  obtain ⟨l, xs, y, rfl, rfl, hH, hz, q⟩ := h
  cases rx
  obtain ⟨u, rfl, ru⟩ := rv.one
  obtain ⟨z, its, n, r, hl, e⟩ := I.lstM hH
  refine call_meets F.slot_list_append ⟨_, e, rfl⟩ F.entry_list_append (F.args_list_append_2 _ _) (PySem.list_append l its.toArray n u (by rw [List.size_toArray]; omega)) ⟨e, ?_⟩
  refine ⟨.non, _, I.lset (its' := its ++ [u]) hH e (by simp) (r.append (.cons ru .nil)) ?_, rfl, q⟩
  rw [List.length_append, List.length_singleton]
  omega
def rPop : V → List V → Hp → VK → Prop := fun x vs H Q => ∃ l xs y, x = .ref l ∧ vs = [] ∧ H l = some (.lst xs) ∧ xs[xs.length - 1]? = some y ∧ Q y (upd H l (.lst xs.dropLast))
theorem mt_pop : MtM X "list.pop" rPop := by
  intro pins s σ H x vs v us Q I rx rv h
  obtain ⟨l, xs, y, rfl, rfl, hH, hy, q⟩ := h
  cases rx
  have hus := rv.zero
  subst hus
  obtain ⟨z, its, n, r, hl, e⟩ := I.lstM hH
  obtain ⟨u, hu, ru⟩ := r.get hy
  have hy' : its.toArray[its.toArray.size - 1]? = some u := by
    show its.toArray[its.length - 1]? = some u
    rw [← Array.getElem?_toList, ← hl]
    exact hu
  refine call_meets F.slot_list_pop ⟨_, e, rfl⟩ F.entry_list_pop (F.args_list_pop_1 _) (MeetsSeq.list_pop_last l its.toArray n u hy' (by rw [List.size_toArray]; omega)) ⟨e, ?_⟩
  refine ⟨y, _, I.lset (its' := its.dropLast) hH e ?_ r.dropLast ?_, ru, q⟩
  · show its.toArray.eraseIdxIfInBounds (its.toArray.size - 1) = its.dropLast.toArray
    rw [List.size_toArray, List.eraseIdxIfInBounds_toArray, erase_last]
  · rw [List.length_dropLast]
    omega
def rCat : R2 := fun x y H Q => ∃ l b xs zs, x = .ref l ∧ y = .ref b ∧ H l = some (.lst xs) ∧ H b = some (.lst zs) ∧ xs.length + zs.length ≤ sizeLine ∧ ∀ p, H p = none → Q (.ref p) (upd H p (.lst (xs ++ zs)))
theorem op_cat : OpR X (binaryOp .Add) rCat := by
  intro pins s σ H x y v u Q I rx ry h
  obtain ⟨l, b, xs, zs, rfl, rfl, hH, hB, hz, q⟩ := h
  cases rx
  cases ry
  obtain ⟨z, its, n, r, hl, e⟩ := I.lstM hH
  obtain ⟨z2, its2, n2, r2, hl2, e2⟩ := I.lstM hB
  refine PySem.P.add_list e e2 ?_ (by rw [List.size_toArray, List.size_toArray]; omega)
  have ea : its.toArray ++ its2.toArray = (its ++ its2).toArray := by simp
  rw [ea]
  exact ⟨.ref _, _, I.lnew (t' := s.toks) (r.append r2) (by rw [List.length_append]; omega), rfl, q _ I.fresh⟩
def rRep : R2 := fun x y H Q => ∃ l k xs, x = .ref l ∧ y = .int k ∧ H l = some (.lst xs) ∧ -(2 ^ 63) ≤ k ∧ k < 2 ^ 63 ∧ xs.length * k.toNat ≤ sizeLine ∧
  ∀ p, H p = none → Q (.ref p) (upd H p (.lst (List.replicate k.toNat xs).flatten))
theorem len_rep {α : Type} (xs : List α) (k : Nat) : (List.replicate k xs).flatten.length = k * xs.length := by
  induction k with
  | zero => simp
  | succ k ih => rw [List.replicate_succ, List.flatten_cons, List.length_append, ih, Nat.succ_mul, Nat.add_comm]
theorem op_rep : OpR X (binaryOp .Mult) rRep := by
  intro pins s σ H x y v u Q I rx ry h
  obtain ⟨l, k, xs, rfl, rfl, hH, h1, h2, hz, q⟩ := h
  cases rx
  obtain ⟨t, rfl⟩ := ry
  obtain ⟨z, its, n, r, hl, e⟩ := I.lstM hH
  have hlen : its.toArray.size * k.toNat ≤ sizeLine := by rw [List.size_toArray, ← hl]; exact hz
  have hcap : ¬ its.toArray.size * k.toNat > (2 ^ 63 - 1) / 8 := by
    have : (sizeLine : Nat) ≤ (2 ^ 63 - 1) / 8 := by decide
    omega
  have hfit : ¬ (!Builtin.List.listFitsIndex k) = true := by
    rw [fitsIndex_both h1 h2]
    exact Bool.false_ne_true
  have hlong : ¬ Builtin.List.listTooLong (its.toArray.size * k.toNat) = true := by
    rw [notLongL hlen]
    exact Bool.false_ne_true
  have hnew : List.foldl (fun x1 x2 => x1 ++ x2) #[] (List.replicate (if its.toArray.isEmpty = true then 0 else k.toNat) its.toArray) = (List.replicate k.toNat its).flatten.toArray := by
    have f0 : ∀ m : Nat, List.foldl (fun x1 x2 => x1 ++ x2) #[] (List.replicate m its.toArray) = (List.replicate m its).flatten.toArray := fun m => by
      have := foldl_rep its m []
      rw [List.nil_append] at this
      exact this
    rw [f0]
    cases its with
    | nil => simp
    | cons a r' => rw [if_neg (by simp)]
  refine wpAny_binaryOp_repeat_ref (T := "list") (U := "int") (by decide) ⟨_, e, rfl⟩ (fun s' => typeIs_int s' k t) noFill_list_mul F.fills_int_mul F.slot_int_rmul repeat_list F.slot_int_index.lookup
    (call_meets F.slot_int_rmul (typeIs_int s k t) F.entry_int_rmul (F.args_int_rmul_2 _ _) (int___rmul___int_list k t l its.toArray n)
      ⟨e, rfl, ⟨_, e, rfl⟩, call_meets F.slot_list_mul ⟨_, e, rfl⟩ F.entry_list_mul (F.args_list_mul_2 _ _) (AutoListH.list___mul___list_int_3 l its.toArray n k t hfit hcap hlong) ⟨e, ?_⟩⟩)
  rw [hnew]
  exact ⟨.ref _, _, I.lnew (t' := s.toks) (r.rep k.toNat) (by rw [len_rep, Nat.mul_comm]; exact hz), rfl, q _ I.fresh⟩
end
section
variable {prog : Program} {w : World} {A : Around} {E : Value → Shared → Prop} {s : Shared}
set_option maxRecDepth 100000 in
end
section
variable {X : Cx}
end
end L2
namespace Att
open PySem PySem.W PySem.Calls PyProof.Rows
theorem ints_of_wellAll {P : Params} {h : Heap} : ∀ (ns : List Int) (vs : List Value), WellAll P h vs (ns.map WData.int) → IntsAre vs ns := by
  intro ns
  induction ns with
  | nil =>
    intro vs w
    rw [List.map_nil] at w
    cases w
    exact .nil
  | cons n ns ih =>
    intro vs w
    rw [List.map_cons] at w
    cases w with
    | cons a b =>
      cases a
      exact .cons _ _ (ih _ b)
theorem script_of {l : OpenLaw} {n : Nat} (hn : l.most = some n) {P : Params} {h : Heap} {args : List WData} {vals : List Value}
    (hpre : l.row.toRowW.claim.pre args = true) (hwl : WellAll P h vals args) :
    ∃ a vs ns, vals = [Value.ref a] ∧ args = [WData.list (ns.map WData.int)] ∧ h.get? a = some { cls := .type "list", data := .seq vs.toArray } ∧ IntsAre vs ns ∧ ns.length ≤ n := by
  have hsh : WShape.hasAll [] args [.list .int] = true := (pre_splitW hpre).1
  have hc : l.pre.holds [] { args := args } = true := (pre_splitW hpre).2
  obtain ⟨d, r, rfl, h1, h2⟩ := hasAllW_cons hsh
  obtain rfl := hasAllW_nil h2
  obtain ⟨xs, rfl, h3⟩ := hasW_list h1
  obtain ⟨ns, rfl⟩ := items_int h3
  have hlen : ns.length ≤ n := by
    unfold OpenLaw.pre at hc
    have h4 : (WTm.not (.lt (.lit (.int (n : Int))) (.len (.arg 0)))).holds [] { args := [.list (ns.map .int)] } = true := by
      have h4 := (holds_andW hc).1
      rw [hn] at h4
      exact h4
    have h5 := condW_of h4 (w_not (w_lt w_lit (w_len_list (w_arg rfl))))
    rw [List.length_map] at h5
    refine Nat.le_of_not_lt fun q => ?_
    have q' : (n : Int) < ((ns.length : Nat) : Int) := by omega
    first
      | (rw [decide_eq_true q'] at h5; exact absurd h5 (by decide))
      | (simp at h5; omega)
  cases hwl with
  | cons w1 w2 =>
    cases w2
    cases w1 with
    | list ho hall => exact ⟨_, _, ns, rfl, rfl, ho, ints_of_wellAll ns _ hall, hlen⟩
theorem post_true (l : OpenLaw) (args : List WData) : l.row.toRowW.claim.post args (.bool true) args = true :=
  postW_of (r := l.row.toRowW) (X := (true == true))
    (show WShape.has [] (.bool true) .bool = true by first | rfl | decide | simp [WShape.has, WShape.arms, WShape.armsAll])
    (show (WTm.eq .res (.lit (.bool true))).value [] { args := args, res := some (.bool true), after := args } = some (.bool (true == true)) from w_eq_bool (w_res rfl) w_lit) rfl
theorem attach_call {l : OpenLaw} {n : Nat} {q : Program} {loose : List Str} {XP : (Str → Option Value) → Heap → Prop} {YP : World → Heap → Prop} {d : DefRec}
    (hn : l.most = some n) (hdf : d.params.defaults = [])
    (call : ∀ (w : World) (s₀ s₁ : Shared) (mg mb : Str → Option Value) (fa : Addr) (o : Obj) (pm cd doc : Value) (a : Addr) (vs : List Value) (ns : List Int),
      Ground q loose [] XP w s₀ mg mb s₁.heap → YP w s₁.heap →
      s₁.heap.get? fa = some o → o.data = .func (docDef d.name d.params d.body d.scope pm cd doc) → s₁.heap.CodeRec cd d.name → mg d.name = some (.ref fa) →
      s₁.heap.get? a = some { cls := .type "list", data := .seq vs.toArray } → IntsAre vs ns → ns.length ≤ n → s₁.gens = #[] →
      codeAny (model l.prog w) callerA (.call (.ref fa) ⟨[.ref a], []⟩) (fun r s' => r = .ok (.ret (.bool true)) ∧ OldK s₁.heap s'.heap ∧ s'.os = s₁.os ∧ AllBare s'.gens) s₁) :
    WalkO q loose XP YP l.row.toRowW d [] (fun f vs => PySem.call f vs) := by
  intro w s₀ s₁ mg mb G Y fa o pm cd doc dV kV ho hd hcd hD hmg hg args vals as hpre hlay hrd hwl hlo
  obtain rfl : dV = .none := Dflts.none hD hdf
  obtain rfl : kV = .none := Dflts.noKw hD
  obtain ⟨a, vs, ns, rfl, rfl, hobj, hints, hlen⟩ := script_of hn hpre hwl
  refine enter_call (codeAny_mono (call w s₀ s₁ mg mb fa o pm cd doc a vs ns G Y ho (fd_plain hd) hcd hmg hobj hints hlen hg) fun r s' hq => ?_)
  obtain ⟨rfl, h2, h3, h4⟩ := hq
  exact ⟨.inl ⟨.bool true, .bool true, [], rfl, fun _ => rfl, .bool true, post_true l _, fun _ => ⟨List.Pairwise.nil, fun _ hm => (nomatch hm)⟩⟩, h2, h3, h4⟩
section
variable {prog : Program} {w : World} {A : Around} {E : Value → Shared → Prop} {s : Shared} {K : Frag}
end
end Att
namespace L2
open PySem PySem.Spec PyProof.Rows
theorem vals_ints : ∀ {vs : List Value} {ns : List Int}, IntsAre vs ns → Vals (ns.map V.int) vs
  | _, _, .nil => .nil
  | _, _, .cons n t h => .cons ⟨t, rfl⟩ (vals_ints h)
end L2
namespace L2
open PySem PySem.Spec PyProof.Rows
end L2
namespace L2
open PySem PySem.Spec PyProof.Rows
def defArgs (s : Stmt) : Arguments := match s with
  | .FunctionDef _ a _ _ _ _ _ _ _ _ => a
  | _ => { posonlyargs := [], args := [], vararg := none, kwonlyargs := [], kw_defaults := [], kwarg := none, defaults := [] }
def defBody (s : Stmt) : List Stmt := match s with
  | .FunctionDef _ _ b _ _ _ _ _ _ _ => b
  | _ => []
def defScope (s : Stmt) : Scope := match s with
  | .FunctionDef _ _ _ _ _ _ sc _ _ _ => sc
  | _ => { kind := .function, names := [], isGenerator := false, isCoroutine := false }
abbrev CX0 : CXT := fun _ _ _ _ _ _ => False
abbrev E0 : XK := fun _ _ _ => False
theorem pass0 {X : Cx} : Passes CX0 X E0 := fun _ _ _ _ _ _ _ h => h.elim
structure Fun (K : PySem.W.Frag) (x qual : Str) (st : Stmt) (f : Addr) (fd : FuncData) : Prop where
  ex : ∃ (oc : Value) (od : Option Addr) (kV doc pm : Value) (an : Option Addr) (cdv ct : Value) (osl : Array (Option Value)),
    fd = PySem.W.fnOf x qual (defArgs st) (defBody st) (defScope st) .none kV doc pm an cdv ct ∧ K.lookup f = some ⟨oc, od, .func fd, osl⟩ ∧ PySem.W.codeIn K cdv qual = true
  kp : PySem.W.keepIn K (.ref f) = true
section
variable {P : Program} {w : World} {K : PySem.W.Frag} {mg : Str → Option Value} {base : Heap}
theorem Fun.ok {x qual : Str} {st : Stmt} {f : Addr} {fd : FuncData} {N ps : List Str} {k : Nat} {sp : Sp} (F : Fun K x qual st f fd) (S : FnScope N ps (defScope st)) (len : ∀ vs H Q E, sp vs H Q E → vs.length = ps.length)
    (hbody : ∀ (cdv : Value) (A : Around) (outer : List Env) (s : Shared) (H : Hp) (vs : List V) (Q : VK) (E : XK), Room k (A.deeper (envOfC qual (defScope st) s.heap.objs.size f cdv)) → sp vs H Q E →
      ∃ t, PSs (cxOf CX0 P w K mg base N qual (defScope st) f cdv A outer s H E).nox (defBody st) t ∧ t { nx := fun _ H' => Q .non H', rt := Q } (start N vs) H) : FnOk P w K mg base CX0 (k + 1) f fd ps sp := by
  obtain ⟨oc, od, kV, doc, pm, an, cdv, ct, osl, rfl, lk, hcd⟩ := F.ex
  refine fn_of lk hcd S len fun A outer s H vs Q E hr hsp => ?_
  obtain ⟨t, h, q⟩ := hbody cdv A outer s H vs Q E hr hsp
  exact ⟨t, h.nox, q⟩
theorem Fun.binds {x qual : Str} {st : Stmt} {f : Addr} {fd : FuncData} {ps : List Str} (F : Fun K x qual st f fd)
    (h : ∀ (kV doc pm : Value) (an : Option Addr) (cdv ct : Value) (us : List Value), us.length = ps.length → bindArgs (PySem.W.fnOf x qual (defArgs st) (defBody st) (defScope st) .none kV doc pm an cdv ct) ⟨us, []⟩ = pure (ps.zip us)) : Binds K fd ps [] := by
  obtain ⟨oc, od, kV, doc, pm, an, cdv, ct, osl, rfl, lk, hcd⟩ := F.ex
  exact .all (h kV doc pm an cdv ct)
theorem fun_mk {x qual : Str} {st : Stmt} {f : Addr} {oc : Value} {od an : Option Addr} {osl : Array (Option Value)} {kV doc pm cdv ct : Value} (l : K.lookup f = some ⟨oc, od, .func (PySem.W.fnOf x qual (defArgs st) (defBody st) (defScope st) .none kV doc pm an cdv ct), osl⟩)
    (c : PySem.W.codeIn K cdv qual = true) (k : PySem.W.keepIn K (.ref f) = true) : Fun K x qual st f (PySem.W.fnOf x qual (defArgs st) (defBody st) (defScope st) .none kV doc pm an cdv ct) := ⟨⟨oc, od, kV, doc, pm, an, cdv, ct, osl, rfl, l, c⟩, k⟩
end
section
variable {X : Cx}
theorem pv (i : Nat) {x : Str} {pos : Pos} (hN : X.N[i]? = some x := by rfl) (hv : Vis X.env.scope x := by first | exact Or.inl rfl | exact Or.inr (Or.inl rfl) | exact Or.inr (Or.inr rfl)) (hd : (x == ("__debug__" : Str)) = false := by decide)
    (hcd : (x == ("__classdict__" : Str)) = false := by decide) : PE X (.Name x pos) (tVar i) := pe_var hN hv hd hcd
end
theorem iteF {A B : Prop} (h : B) : if false = true then A else B := by
  rw [if_neg Bool.false_ne_true]
  exact h
theorem iteT {A B : Prop} (h : A) : if true = true then A else B := by
  rw [if_pos rfl]
  exact h
theorem ite2 {c A B : Prop} [Decidable c] (h1 : c → A) (h2 : ¬ c → B) : if c then A else B := by
  by_cases h : c
  · rw [if_pos h]
    exact h1 h
  · rw [if_neg h]
    exact h2 h
def Same (H H' : Hp) : Prop := ∀ b o, H b = some o → H' b = some o
theorem Same.refl (H : Hp) : Same H H := fun _ _ h => h
theorem Same.trans {H H1 H2 : Hp} (a : Same H H1) (b : Same H1 H2) : Same H H2 := fun c o h => b c o (a c o h)
theorem Same.free {H H' : Hp} (e : Same H H') {l : Addr} (h : H' l = Option.none) : H l = Option.none := by
  cases q : H l with
  | none => rfl
  | some o =>
    rw [e l o q] at h
    cases h
theorem Same.seq {K : PySem.W.Frag} {H H' : Hp} {a : Addr} {xs : List V} (e : Same H H') (h : SqL K H a xs) : SqL K H' a xs := by
  rcases h with (h | ⟨o, h⟩) | h
  · exact .inl (.inl (e _ _ h))
  · exact .inl (.inr ⟨o, e _ _ h⟩)
  · exact .inr h
end L2
set_option maxHeartbeats 4000000
namespace L2
open PySem PySem.Spec PyProof.Rows
section
variable {X : Cx}
def CMulW (i j : Int) : Prop := i.natAbs < 2 ^ 4000 ∧ j.natAbs < 2 ^ 4000
theorem CMulW.ok {i j : Int} (h : CMulW i j) : IntMulOk i j :=
  IntMulOk.of_le (m := 4000) (n := 4000) (intBits_le_iff.mpr h.1) (intBits_le_iff.mpr h.2) (by decide)
theorem op_mulW : OpR X (binaryOp .Mult) (rI CMulW fun i j => .int (i * j)) := opI fun _ _ _ _ _ _ _ hc q => mul_int q hc.ok
def CDivW (i j : Int) : Prop := j ≠ 0 ∧ j.natAbs < 2 ^ 4000
theorem noPy {i j : Int} (h : CDivW i j) : Builtin.divisionGoesByPylong i j = false := by
  refine PyProof.noPylong_of_log2 ?_
  have h0 : j.natAbs ≠ 0 := by have := h.1; omega
  have := (Nat.log2_lt h0).mpr h.2
  omega
def CDivP (i j : Int) : Prop := 0 < j ∧ j.natAbs < 2 ^ 4000
theorem op_fdivP : OpR X (binaryOp .FloorDiv) (rI CDivP fun i j => .int (i / j)) := opI fun i j _ _ _ _ _ hc q => by
  refine floordiv_int (by have := hc.1; omega) ?_ (.inl (noPy ⟨by have := hc.1; omega, hc.2⟩))
  rw [Int.fdiv_eq_ediv_of_nonneg i (by have := hc.1; omega)]
  exact q
theorem call_sum (hc : X.calm = true) : CallR X (.builtin "sum") (fun xs H Q => ∃ (p : Addr) (ns : List Int), xs = [.ref p] ∧ SqL X.K H p (ns.map V.int) ∧ Q (.int ns.sum) H) := by
  intro pins s σ H xs us Q I r h
  obtain ⟨p, ns, rfl, hq, q⟩ := h
  obtain ⟨u, rfl, r1⟩ := vals1 r
  cases r1
  obtain ⟨its, rv, pl, hz⟩ := I.list hq
  have hi : IntsAre its ns := intsAre_of rv
  have hl : s.heap.IsList p its.toArray := by
    obtain ⟨o, n, e, c, _, d⟩ := pl
    exact ⟨o, e, c, n, d⟩
  obtain ⟨xs, hx⟩ := hi.allInts.items
  have hl' : s.heap.IsList p (intItems xs) := hx ▸ hl
  refine sum_intListG (I.ok.hd hc) hl' fun h' tk t' hk => ?_
  have e1 : ns = xs.toList.map (·.1) := by
    rw [← nums_intItems, ← hx]
    exact (show numsOf its.toArray.toList = ns from hi.numsOf).symm
  have e2 : preSum (numAt xs) xs.size = ns.sum := by
    rw [preSum_eq, List.take_of_length_le (by simp), e1]
  rw [e2]
  exact ⟨.int ns.sum, H, I.kept hk, ⟨_, rfl⟩, q⟩
theorem plainIs {h : Heap} {p : Addr} {its : Array Value} (pl : PlainL h p its) : h.IsList p its := by
  obtain ⟨o, n, e, c, _, d⟩ := pl
  exact ⟨o, e, c, n, d⟩
end
end L2
set_option maxHeartbeats 4000000
namespace L2
open PySem PySem.Spec PyProof.Rows
def clOf (env : Env) : List (Str × NameKind) → List (Str × Addr) → List (Str × Addr)
  | [], acc => acc
  | (n, k) :: r, acc => clOf env r (if (k == NameKind.free) = true then (n, (env.cells.lookup n).getD 0) :: acc else acc)
theorem closure_eq {env : Env} : ∀ (names : List (Str × NameKind)) (acc : List (Str × Addr)), (∀ p ∈ names, p.2 = .free → ∃ c, env.cells.lookup p.1 = some c) →
    (forIn names acc fun (x : Str × NameKind) (cs : List (Str × Addr)) => (match x with
      | (name, kind) => if (kind == NameKind.free) = true then (do let __do_lift ← cellOf env name; pure (ForInStep.yield ((name, __do_lift) :: cs))) else pure (ForInStep.yield cs) : Sem (ForInStep (List (Str × Addr))))) = pure (clOf env names acc) := by
  intro names
  induction names with
  | nil => intro acc _; rfl
  | cons p r ih =>
    intro acc h
    obtain ⟨n, k⟩ := p
    rw [List.forIn_cons]
    have hr := fun acc => ih acc fun q hq => h q (List.mem_cons_of_mem _ hq)
    by_cases hk : k = .free
    · subst hk
      obtain ⟨c, hc⟩ := h (n, .free) List.mem_cons_self rfl
      have e : cellOf env n = pure c := by unfold cellOf; rw [hc]
      simp only [beq_self_eq_true, if_true, e, pure_bind]
      rw [hr]
      simp only [clOf, beq_self_eq_true, if_true, hc, Option.getD_some]
    · have hb : (k == NameKind.free) = false := by simpa using hk
      simp only [hb, Bool.false_eq_true, if_false, pure_bind]
      rw [hr]
      simp only [clOf, hb, Bool.false_eq_true, if_false]
theorem closureFor_eq {env : Env} {scope : Scope} (h : ∀ p ∈ scope.names, p.2 = .free → ∃ c, env.cells.lookup p.1 = some c) : closureFor scope env = pure (clOf env scope.names []) := by
  unfold closureFor
  have e := closure_eq (env := env) scope.names [] h
  simp only [e, pure_bind]
theorem clOf_mem {env : Env} {y : Str} {c : Addr} : ∀ {names : List (Str × NameKind)} {acc : List (Str × Addr)}, (∀ p ∈ names, p.2 = .free → ∃ c, env.cells.lookup p.1 = some c) → (∀ y c, acc.lookup y = some c → env.cells.lookup y = some c) →
    (clOf env names acc).lookup y = some c → env.cells.lookup y = some c
  | [], _, _, ha, e => ha _ _ e
  | (n, k) :: r, acc, h, ha, e => by
    refine clOf_mem (names := r) (fun p hp => h p (List.mem_cons_of_mem _ hp)) (fun y c q => ?_) e
    by_cases hk : (k == NameKind.free) = true
    · rw [if_pos hk] at q
      obtain ⟨c', hc'⟩ := h (n, k) List.mem_cons_self (by simpa using hk)
      rw [List.lookup_cons] at q
      cases hy : y == n with
      | true =>
        rw [hy] at q
        have hy' : y = n := by simpa using hy
        subst hy'
        rw [hc'] at q
        cases q
        exact hc'
      | false =>
        rw [hy] at q
        exact ha y c q
    · rw [if_neg hk] at q
      exact ha y c q
theorem clOf_acc {env : Env} {y : Str} : ∀ {names : List (Str × NameKind)} {acc : List (Str × Addr)}, (acc.lookup y).isSome = true → ((clOf env names acc).lookup y).isSome = true
  | [], _, h => h
  | (n, k) :: r, acc, h => by
    refine clOf_acc (names := r) ?_
    split
    · rw [List.lookup_cons]
      split
      · rfl
      · exact h
    · exact h
theorem clOf_has {env : Env} {y : Str} : ∀ {names : List (Str × NameKind)} {acc : List (Str × Addr)}, (y, NameKind.free) ∈ names → ((clOf env names acc).lookup y).isSome = true
  | (n, k) :: r, acc, h => by
    rcases List.mem_cons.mp h with e | h
    · cases e
      refine clOf_acc (names := r) ?_
      rw [if_pos (by simp), List.lookup_cons]
      simp
    · exact clOf_has (names := r) h
abbrev compCx (X : Cx) (scope : Scope) (Nc : List Str) (C : Addr) (s0 : Shared) (H0 : Hp) (ex : List Addr) : Cx :=
  { X with N := Nc, s₀ := s0, H₀ := H0, env := compEnvC scope (clOf X.env scope.names []) C X.env, outer := X.stack, ex := ex, fn := fun _ => false, pn := [], xe := fun _ _ => False }
structure CompScope (fr sc : Scope) (x : Str) (cap : List Str) : Prop where
  kind : sc.kind = .function
  cell : ∀ p ∈ sc.names, p.2 ≠ .cell
  names : ∀ p ∈ sc.names, p.2 = .local → sc.names.lookup p.1 = some .local
  tgt : sc.names.lookup x = some .local
  free : ∀ p ∈ sc.names, p.2 = .free → fr.names.lookup p.1 = some .cell
  caps : ∀ y ∈ cap, (y, NameKind.free) ∈ sc.names
  nd : (x :: cap).Nodup
  noboth : ∀ y ∈ cap, sc.names.lookup y ≠ some .local
theorem relabel_mem {sc : Scope} {env : Env} {y : Str} {k : NameKind} (h : (y, k) ∈ (relabel sc env).names) : ∃ k', (y, k') ∈ sc.names ∧ (k = k' ∨ (k' = .free ∧ k = .cell)) := by
  unfold relabel at h
  obtain ⟨⟨n, k'⟩, hm, e⟩ := List.mem_map.mp h
  by_cases hc : (k' == NameKind.free && env.scope.kind == .function && env.kindOf n == some .cell) = true
  · have e : (n, NameKind.cell) = (y, k) := by simpa [hc] using e
    cases e
    refine ⟨k', hm, .inr ⟨?_, rfl⟩⟩
    rw [Bool.and_eq_true, Bool.and_eq_true] at hc
    simpa using hc.1.1
  · have e : (n, k') = (y, k) := by simpa [hc] using e
    cases e
    exact ⟨k, hm, .inl rfl⟩
section
variable {X : Cx} {pins : List (Addr × Obj)} {σ : St} {H : Hp} {s : Shared} {sc : Scope} {x : Str} {cap : List Str}
theorem CompScope.cells (S : CompScope X.env.scope sc x cap) (ok : X.Ok) : ∀ p ∈ sc.names, p.2 = .free → ∃ c, X.env.cells.lookup p.1 = some c :=
  fun p hp e => ok.has p.1 (.inl (S.free p hp e))
theorem CompScope.sub (S : CompScope X.env.scope sc x cap) (ok : X.Ok) {y : Str} {c : Addr} (h : (clOf X.env sc.names []).lookup y = some c) : X.env.cells.lookup y = some c :=
  clOf_mem (S.cells ok) (fun _ _ z => by simp at z) h
theorem neLt {a b : Addr} (h : a < b) : a ≠ b := Nat.ne_of_lt h
theorem neGt {a b : Addr} (h : b < a) : a ≠ b := Nat.ne_of_gt h
def capV (σ : St) (js : List Nat) : St := js.map fun j => (σ[j]?).join
theorem comp_inv (S : CompScope X.env.scope sc x cap) {js : List Nat} (hjs : js.map (fun j => X.N[j]?) = cap.map some) (I : Inv X pins σ H s) {fp : List Addr} (hf : ∀ b ∈ fp, FpOk X pins H b) (hlt : ∀ b ∈ fp, b < s.heap.objs.size)
    {h1 : Heap} {tk : Nat} {D C : Addr} {oD : Obj} {m : Str → Option Value} (hD : D = s.heap.objs.size) (hC : C = s.heap.objs.size + 1) (keep : ∀ b o, s.heap.get? b = some o → h1.get? b = some o) (hoD : h1.get? D = some oD) (hnc : ∀ v, oD.data ≠ .cell v) (hns : h1.Ns C m) :
    Inv (compCx X sc (x :: cap) C s H fp) [(D, oD)] (none :: capV σ js) H { s with heap := h1, toks := tk } := by
  subst hD hC
  have lenJ : js.length = cap.length := by have := congrArg List.length hjs; simpa using this
  have ok := I.ok
  refine ⟨⟨ok.mod, S.kind, ok.glob, ok.blt, ?_, fun y z c h1 h2 => ok.inj y z c (S.sub ok h1) (S.sub ok h2), fun y hy => ?_, (fun y c h => Bool.noConfusion h), ok.hd, ok.frames, .inl rfl, fun b hb => ⟨?_, fun y c e => (hf b hb).2.2.2.2.1 y c (S.sub ok e)⟩, I.bs, Nat.le_trans ok.bsz I.sz, fun b o e hb => ?_, fun b hb hb' => ?_, I.stack, I.stkFree⟩,
    rfl, I.bare, Un.kept keep, ⟨m, hns, fun i y v e1 e2 e3 => ?_⟩, fun y c e => ?_, I.hok.fresh (Nat.le_succ _), fun y c e => I.freeC y c (S.sub ok e), fun p hp => ?_, I.hok.kept keep, ?_⟩
  · exact Nat.le_succ _
  · have hy' : ∃ k, (y, k) ∈ (relabel sc X.env).names ∧ (k = .cell ∨ k = .free) := by
      rcases hy with hy | hy
      · exact ⟨_, PySem.mem_of_lookup hy, .inl rfl⟩
      · exact ⟨_, PySem.mem_of_lookup hy, .inr rfl⟩
    obtain ⟨k, hm, hk⟩ := hy'
    obtain ⟨k', hm', hk'⟩ := relabel_mem hm
    have hfree : k' = .free := by
      rcases hk' with e | ⟨e, _⟩
      · subst e
        rcases hk with e | e
        · exact absurd e (S.cell _ hm')
        · exact e
      · exact e
    subst hfree
    exact Option.isSome_iff_exists.mp (clOf_has hm')
  · exact neLt (Nat.lt_succ_of_lt (hlt b hb))
  · obtain ⟨_, _, _, z, _⟩ := hf b hb
    rcases z with z | z
    · exact ok.noex b o e z
    · have := Heap.lt_size (ok.bs b o e).1
      exact absurd (Nat.lt_of_lt_of_le this z) (Nat.lt_irrefl _)
  · obtain ⟨_, z1, z2, _⟩ := hf b hb
    rcases List.mem_cons.mp (I.stkSub b hb') with z | z
    · exact z1 z
    · exact z2 z
  · cases i with
    | zero =>
      have e2' : (none : Option V) = some v := by simpa using e2
      cases e2'
    | succ i =>
      have e1' : cap[i]? = some y := by simpa using e1
      have e2' : (capV σ js)[i]? = some (some v) := by simpa using e2
      have hy : y ∈ cap := List.mem_of_getElem? e1'
      unfold capV at e2'
      rw [List.getElem?_map] at e2'
      cases ej : js[i]? with
      | none => rw [ej] at e2'; cases e2'
      | some j =>
        rw [ej] at e2'
        have e2'' : (σ[j]?).join = some v := Option.some.inj e2'
        have eN : X.N[j]? = some y := by
          have := congrArg (fun l => l[i]?) hjs
          simp only [List.getElem?_map, ej, e1', Option.map_some] at this
          exact Option.some.inj this
        have eσ : σ[j]? = some (some v) := by
          cases q : σ[j]? with
          | none => rw [q] at e2''; cases e2''
          | some w' =>
            rw [q] at e2''
            have : w' = some v := by simpa using e2''
            rw [this]
        have kc : X.env.scope.names.lookup y = some .cell := S.free (y, .free) (S.caps y hy) rfl
        obtain ⟨m0, hn0, hl0⟩ := I.loc
        obtain ⟨u, ru, lk⟩ := hl0 j y v eN eσ (.inr (.inl kc))
        refine ⟨u, ru, ?_⟩
        rcases lk with ⟨k, _⟩ | ⟨_, c, ec, hc⟩
        · have k' : X.env.scope.names.lookup y = some .local := k
          rw [kc] at k'; cases k'
        · obtain ⟨c', hc'⟩ := Option.isSome_iff_exists.mp (clOf_has (env := X.env) (acc := []) (S.caps y hy))
          have hcc : c' = c := Option.some.inj ((S.sub ok hc').symm.trans ec)
          subst hcc
          refine .inr ⟨?_, c', hc', ?_⟩
          · rcases e3 with e3 | e3 | e3
            · exfalso
              have hm := PySem.mem_of_lookup e3
              obtain ⟨k', hm', hk'⟩ := relabel_mem hm
              rcases hk' with e | ⟨_, e⟩
              · subst e
                exact S.noboth y hy (S.names _ hm' rfl)
              · cases e
            · exact .inl e3
            · exact .inr e3
          · obtain ⟨o, ho, hd⟩ := hc
            exact ⟨o, keep _ o ho, hd⟩
  · obtain ⟨v, o, ho, hd⟩ := I.cell y c (S.sub ok e)
    exact ⟨v, o, keep _ o ho, hd⟩
  · have hp' : p = (s.heap.objs.size, oD) := by simpa using hp
    subst hp'
    refine ⟨hoD, I.hok.fresh (Nat.le_refl _), neLt (Nat.lt_succ_self _), fun hb => ?_, hnc⟩
    obtain ⟨_, o, ho, _⟩ := I.stack.mem hb
    exact Nat.lt_irrefl _ (Heap.lt_size ho)
  · show (none :: capV σ js).length = (x :: cap).length
    unfold capV
    simp [lenJ]
theorem comp_end (S : CompScope X.env.scope sc x cap) (I : Inv X pins σ H s) {fp : List Addr} (hf : ∀ b ∈ fp, FpOk X pins H b) {D C : Addr} {pn' : List (Addr × Obj)} {σ' : St} {H' : Hp} {s' : Shared} {ys : List V} {its : List Value} {k : Nat} {h' : Heap}
    (hD : D = s.heap.objs.size) (hC : C = s.heap.objs.size + 1) (J : Inv (compCx X sc (x :: cap) C s H fp) pn' σ' H' s') (hnD : H' D = none) (hoD : s'.heap.get? D = some { cls := .type "list", data := .seq its.toArray k }) (rv : Vals ys its) (hz : ys.length ≤ sizeLine)
    (hs : Heap.SameBut C s'.heap h') : Inv X pins σ (upd H' D (.lst ys)) { s' with heap := h' } := by
  subst hD hC
  have base : Un (frs X.stack) fp H H' s.heap s'.heap := J.base
  have hnC : H' (s.heap.objs.size + 1) = none := J.free
  have neC : ∀ {b : Addr} {o : Obj}, s.heap.get? b = some o → b ≠ s.heap.objs.size + 1 := fun e => neLt (Nat.lt_succ_of_lt (Heap.lt_size e))
  have neD : ∀ {b : Addr} {o : Obj}, s.heap.get? b = some o → b ≠ s.heap.objs.size := fun e => neLt (Heap.lt_size e)
  have neDH : ∀ {b : Addr} {o : HO}, H b = some o → b ≠ s.heap.objs.size := fun e => neLt (I.hok.lt e)
  refine I.call' (s' := { s' with heap := h' }) (ch := fp) J.os ⟨fun b o e n hb hx => ?_, fun b o e n hb hx => ?_, fun b o e n hx => ?_, fun b o e hx => ?_, fun b xs e => ?_, fun b o u e => ?_, fun b ps e => ?_⟩ (fun b u e => ?_) J.bare fun b hb => ?_
  · exact (hs.2 b (neC e)).trans (base.keep b o e n hb hx)
  · obtain ⟨sl, q⟩ := base.slot b o e n hb hx
    exact ⟨sl, (hs.2 b (neC e)).trans q⟩
  · rw [upd_ne (neD e)]; exact base.free b o e n hx
  · obtain ⟨o', q⟩ := base.there b o e hx
    exact ⟨o', (hs.2 b (neC e)).trans q⟩
  · rw [upd_ne (neDH e)]; exact base.tups b xs e
  · rw [upd_ne (neDH e)]; exact base.frzs b o u e
  · rw [upd_ne (neDH e)]; exact base.tbls b ps e
  · by_cases hb : b = s.heap.objs.size
    · subst hb
      rw [upd_same] at e
      cases e
      exact ⟨hz, its, k, rv, (hs.2 _ (neLt (Nat.lt_succ_self _))).trans hoD⟩
    · rw [upd_ne hb] at e
      have J' : ObjOk X.prog X.w H' s'.heap b u := J.hok b u e
      refine J'.stay (fun c v hc q => (hs.2 c ?_).trans q) (fun c q => ?_) (fun c xs q => ?_) fun c o u q => ?_
      · rintro rfl
        rcases hc with rfl | hc
        · rw [hnC] at e; cases e
        · rw [hnC] at hc; cases hc
      · rw [upd_ne (ne_of_none q hnD)]; exact q
      · rw [upd_ne (ne_of_none q hnD)]; exact q
      · rw [upd_ne (ne_of_none q hnD)]; exact q
  · obtain ⟨_, z1, _, z3, z4, z5⟩ := hf b hb
    exact ⟨z3, z1, z4, z5⟩
def PIf (X : Cx) (ifs : List Expr) (t : TT) : Prop :=
  ∀ (pins : List (Addr × Obj)) (s : Shared) (σ : St) (H : Hp) (Q : Bool → Hp → Prop), Inv X pins σ H s → t σ H Q →
    wpAny (model X.prog X.w) X.A (forIn ifs true fun c r => if r = true then do let ok ← isTrue c X.env (eval c X.env); pure (ForInStep.yield ok) else pure (ForInStep.yield r)) (TP X pins σ Q) X.xe s
def tNoIf : TT := fun _ H Q => Q true H
theorem tNoIf_of {σ : St} {H : Hp} {A B : Hp → Prop} (h : A H) : tNoIf σ H (fun b H2 => if b = true then A H2 else B H2) := by
  unfold tNoIf
  exact iteT h
theorem pif_nil {X : Cx} : PIf X [] tNoIf := fun _ _ _ H _ I h => wpAny_tests_nil ⟨H, I, h⟩
theorem pif_one {X : Cx} {c : Expr} {t : TT} (h : PT X c t) : PIf X [c] t := fun pins s σ H Q I q => wpAny_tests_one (h pins s σ H Q I q)
end
section
variable {prog : Program} {w : World} {A : Around} {R : Result → Shared → Prop} {s : Shared}
theorem comp_turns {elt target iter : Expr} {ifs : List Expr} {scope : Scope} {pos : Pos} {it acc : Value} {env : Env} (J : Nat → Shared → Prop)
    (turn : ∀ n s, J n s → wpAny (model prog w) A (pyNext it) (fun r s₁ => match r with
      | none => R (.ok .next) s₁
      | some v => wpAny (model prog w) A (letOwnedTupleGo target it v) (fun _ s₂ => wpAny (model prog w) A (assign target env v) (fun _ s₃ =>
          wpAny (model prog w) A (forIn ifs true fun c r => if r = true then do let ok ← isTrue c env (eval c env); pure (ForInStep.yield ok) else pure (ForInStep.yield r)) (fun ok s₄ =>
            if ok = true then wpAny (model prog w) A (eval elt env) (fun x s₅ =>
              wpAny (model prog w) A (call (.builtin "list.append") [acc, x]) (fun _ s₆ => ∃ m, m < n ∧ J m s₆) (fun _ _ => False) s₅) (fun _ _ => False) s₄
            else ∃ m, m < n ∧ J m s₄) (fun _ _ => False) s₃) (fun _ _ => False) s₂) (fun _ _ => False) s₁) (fun _ _ => False) s)
    (n : Nat) (h : J n s) : codeAny (model prog w) A (.compLoop (.ListComp elt [⟨target, iter, ifs, 0⟩] scope pos) 0 it acc env) R s := by
  refine codeAny_loop rfl J (fun n s hJ => ?_) n h
  show wpAny _ A ((compTurn (.ListComp elt [⟨target, iter, ifs, 0⟩] scope pos) 0 it acc env).onRaise (fun x => do noteFrame x env; theTreesLotGoes x)) _ _ s
  refine wpAny_noted ?_
  rw [compTurn_list]
  refine wpAny_bind (wpAny_standAt (wpAny_bind (wpAny_mono (turn n s hJ) (fun r s₁ h₁ => ?_) fun _ _ z => z.elim)))
  cases r with
  | none => exact wpAny_pure h₁
  | some v =>
    refine wpAny_bind (wpAny_mono h₁ (fun _ s₂ h₂ => ?_) fun _ _ z => z.elim)
    refine wpAny_bind (wpAny_mono h₂ (fun _ s₃ h₃ => wpAny_bind (wpAny_mono h₃ (fun ok s₄ h₄ => ?_) fun _ _ z => z.elim)) fun _ _ z => z.elim)
    cases ok with
    | false => exact wpAny_pure ⟨rfl, h₄⟩
    | true =>
      exact wpAny_bind (wpAny_bind (wpAny_mono h₄ (fun x s₅ h₅ => wpAny_bind (wpAny_mono h₅ (fun _ s₆ h₆ => wpAny_pure (wpAny_pure ⟨rfl, h₆⟩)) fun _ _ z => z.elim)) fun _ _ z => z.elim))
end
section
variable {X : Cx} {pins : List (Addr × Obj)} {σ : St} {H : Hp} {s : Shared} {sc : Scope} {x : Str} {cap : List Str}
def LCw (J : It) (js : List Nat) (σ : St) (tt : TT) (te : TE) (Q : VK) (W : Nat → Nat → List V → Hp → Prop) : Prop :=
  ∀ i m ys H, W i m ys H → ys.length < sizeLine ∧
    ((J.stop i H ∧ ∀ p, H p = none → Q (.ref p) (upd H p (.lst ys))) ∨
     (J.go i H ∧ ∀ x H', J.yld i H x H' → tt (some x :: capV σ js) H' fun b H2 => if b = true then te (some x :: capV σ js) H2 fun v H3 => ∃ m', m' < m ∧ W (i + 1) m' (ys ++ [v]) H3 else ∃ m', m' < m ∧ W (i + 1) m' ys H2))
def tLC (wi : TI) (js : List Nat) (tt : TT) (te : TE) : TE := fun σ H Q => wi σ H fun J H1 => ∃ W : Nat → Nat → List V → Hp → Prop, (∃ m, W 0 m [] H1) ∧ LCw J js σ tt te Q W
theorem comp_run (S : CompScope X.env.scope sc x cap) {js : List Nat} (hjs : js.map (fun j => X.N[j]?) = cap.map some) (hc : X.calm = true) {elt iter : Expr} {ifs : List Expr} {pos px : Pos} {tt : TT} {te : TE}
    (hb : ∀ C s0 H0 ex, PIf (compCx X sc (x :: cap) C s0 H0 ex) ifs tt ∧ PE (compCx X sc (x :: cap) C s0 H0 ex) elt te)
    (I : Inv X pins σ H s) {J : It} {fp : List Addr} {it : Addr} {tn : Nat → Heap → Prop} (T : Turn X.prog X.w X.K (.Name x px) J fp it tn) (st : tn 0 s.heap) (hf : ∀ b ∈ fp, FpOk X pins H b)
    {Q : VK} {W : Nat → Nat → List V → Hp → Prop} (w0 : ∃ m, W 0 m [] H) (turn : LCw J js σ tt te Q W) {RR : Value → Addr → Result → Shared → Prop} {E : Value → Shared → Prop}
    (hR : ∀ D C s' σ' H' ys its k, D = s.heap.objs.size → C = s.heap.objs.size + 1 → Inv (compCx X sc (x :: cap) C s H fp) [(D, { cls := .type "list", data := .seq its.toArray k })] σ' H' s' → Vals ys its → ys.length ≤ sizeLine → (∀ p, H' p = none → Q (.ref p) (upd H' p (.lst ys))) → RR (.ref D) C (.ok .next) s') :
    wpAny (model X.prog X.w) X.A (newList []) (fun acc s₃ => wpAny (model X.prog X.w) X.A (newFunctionEnv sc X.env.globals (clOf X.env sc.names []) [] X.env.qual none .none (some X.env)) (fun cenv s₄ =>
      codeAny (model X.prog X.w) X.A (.compStart (.ListComp elt [⟨.Name x px, iter, ifs, 0⟩] sc pos) 0 (.ref it) acc { cenv with scope := relabel sc X.env }) (RR acc cenv.locals) s₄) E s₃) E s := by
  refine wpAny_newObj_type (wpAny_newFunctionEnv S.cell (by intro y hy; simp at hy) (fun h₁ hns₁ hsb₁ => ?_) S.kind)
  dsimp only at hns₁ hsb₁ ⊢
  have hlt : ∀ b ∈ fp, b < s.heap.objs.size := fun b hb' => by
    obtain ⟨o, e, _⟩ := T.obj 0 _ st b hb'
    exact Heap.lt_size e
  generalize hH2 : s.heap.push { cls := .type "list", dict := none, data := .seq ([] : List Value).toArray } = H2 at hns₁ hsb₁ ⊢
  have hC : H2.objs.size = s.heap.objs.size + 1 := by rw [← hH2, Heap.size_push]
  have old : ∀ b o, s.heap.get? b = some o → h₁.get? b = some o := fun b o e =>
    hsb₁.extBut b o (by rw [hC]; exact neLt (Nat.lt_succ_of_lt (Heap.lt_size e))) (Heap.get?_push_of_some _ (hH2 ▸ Heap.get?_push_of_some _ e))
  have hacc : h₁.get? s.heap.objs.size = some { cls := .type "list", data := .seq ([] : List Value).toArray } :=
    hsb₁.extBut _ _ (by rw [hC]; exact neLt (Nat.lt_succ_self _)) (Heap.get?_push_of_some _ (hH2 ▸ Heap.get?_push_size _ rfl))
  have st₁ : tn 0 h₁ := T.keep _ _ _ st fun b _ o e => old b o e
  obtain ⟨m0, w0⟩ := w0
  rw [hC] at hns₁ hsb₁ ⊢
  generalize hCe : s.heap.objs.size + 1 = C at hns₁ hsb₁ hR ⊢
  generalize hDe : s.heap.objs.size = D at hacc hR ⊢
  have hDe' := hDe.symm
  have hC' : C = s.heap.objs.size + 1 := hCe.symm
  have ltD : ∀ {b : Addr}, b < s.heap.objs.size → b ≠ D := fun h => by rw [← hDe]; exact neLt h
  have loop : ∀ s₃ : Shared, s₃ = { s with heap := h₁, toks := s.toks + ([] : List (Str × Value)).length } →
      codeAny (model X.prog X.w) X.A (.compLoop (.ListComp elt [⟨.Name x px, iter, ifs, 0⟩] sc pos) 0 (.ref it) (.ref D) (compEnvC sc (clOf X.env sc.names []) C X.env)) (RR (.ref D) C) s₃ := by
    rintro s₃ rfl
    have I0 : Inv (compCx X sc (x :: cap) C s H fp) [(D, { cls := .type "list", data := .seq ([] : List Value).toArray })] (none :: capV σ js) H { s with heap := h₁, toks := s.toks + ([] : List (Str × Value)).length } :=
      comp_inv S hjs I hf hlt hDe' hC' old hacc (fun v z => by cases z) hns₁
    have ndN : (compCx X sc (x :: cap) C s H fp).N.Nodup := S.nd
    have hxl : (compCx X sc (x :: cap) C s H fp).env.scope.names.lookup x = some .local := lookup_relabel_local S.tgt
    have fpD : ∀ b ∈ fp, b ≠ D := fun b hb' => ltD (hlt b hb')
    refine comp_turns (fun n s' => ∃ i v0 H' ys its k, Inv (compCx X sc (x :: cap) C s H fp) [(D, { cls := .type "list", data := .seq its.toArray k })] (v0 :: capV σ js) H' s' ∧ tn i s'.heap ∧ (∀ b ∈ fp, H' b = none) ∧ Vals ys its ∧ W i n ys H')
      ?_ m0 ⟨0, none, H, [], [], 0, I0, st₁, fun b hb' => (hf b hb').1, .nil, w0⟩
    rintro n s3 ⟨i, v0, H3, ys, its, k, I3, st3, fr3, rv, w3⟩
    obtain ⟨hlen, hor⟩ := turn i n ys H3 w3
    have stat : ∀ {H' : Hp} {o : Obj}, (∀ b ∈ fp, H' b = none) → ∀ b ∈ fp, FpOk (compCx X sc (x :: cap) C s H fp) [(D, o)] H' b := fun {H' o} hn b hb' =>
      ⟨hn b hb', (I3.ok.exf b hb').1, I3.ok.exfs b hb', .inl hb', (I3.ok.exf b hb').2, fun p hp => by
        have hp' : p = (D, o) := by simpa using hp
        rw [hp']
        exact Ne.symm (fpD b hb')⟩
    rcases hor with ⟨stop, qn⟩ | ⟨go, step⟩
    · refine thn (T.done (compCx X sc (x :: cap) C s H fp) rfl rfl rfl hc i _ s3 _ H3 _ I3 (stat fr3) st3 stop) fun r s4 ⟨hr, I4⟩ => ?_
      subst hr
      exact hR D C s4 _ H3 ys its k rfl rfl I4 rv (Nat.le_of_lt hlen) qn
    · refine thn (T.item (compCx X sc (x :: cap) C s H fp) rfl rfl rfl hc i _ s3 _ H3 _ I3 (stat fr3) st3 go) fun r s4 ⟨u, hr, h4⟩ => ?_
      subst hr
      refine thn h4 fun _ s5 ⟨xv, H5, I5, r5, y5, st5, fr5⟩ => ?_
      have I5' := I5.pinned (stat fr5) (T.obj _ _ st5)
      have hg : PG (compCx X sc (x :: cap) C s H fp) (.Name x px) (gName 0) := pg_name ndN rfl (.inl hxl) (.inr hxl)
      refine thn (hg _ s5 _ H5 xv u (fun σ2 H2 => σ2 = some xv :: capV σ js ∧ H2 = H5) I5' r5 ⟨rfl, rfl⟩) fun _ s6 ⟨σ6, H6, I6, e6, e6'⟩ => ?_
      subst e6 e6'
      refine thn ((hb C s H fp).1 _ s6 _ H6 _ I6 (step xv H6 y5)) fun ok s7 ⟨H7, I7, q7⟩ => ?_
      have fin : ∀ {s8 : Shared} {H8 : Hp} {v8 : Option V}, Inv (compCx X sc (x :: cap) C s H fp) ([(D, { cls := .type "list", data := .seq its.toArray k })] ++ pinsAt fp s5.heap) (v8 :: capV σ js) H8 s8 → tn (i + 1) s8.heap ∧ (∀ b ∈ fp, H8 b = none) ∧ s8.heap.get? D = some { cls := .type "list", data := .seq its.toArray k } ∧ H8 D = none ∧ D ≠ C := fun {s8 H8 v8} I8 => by
        have pinD := I8.pin (D, { cls := .type "list", data := .seq its.toArray k }) (List.mem_append_right _ (List.mem_append_left _ (List.mem_singleton.mpr rfl)))
        have pinF : ∀ b ∈ fp, ∀ o, s5.heap.get? b = some o → s8.heap.get? b = some o ∧ H8 b = none := fun b hb' o e =>
          have z := I8.pin (b, o) (List.mem_append_right _ (List.mem_append_right _ (mem_pinsAt hb' e)))
          ⟨z.1, z.2.1⟩
        refine ⟨T.keep _ _ _ st5 fun b hb' o e => (pinF b hb' o e).1, fun b hb' => ?_, pinD.1, pinD.2.1, pinD.2.2.1⟩
        obtain ⟨o, e, _⟩ := T.obj _ _ st5 b hb'
        exact (pinF b hb' o e).2
      cases ok with
      | false =>
        rw [if_neg Bool.false_ne_true] at q7 ⊢
        obtain ⟨m', hm, w7⟩ := q7
        obtain ⟨f1, f2, _⟩ := fin I7
        exact ⟨m', hm, i + 1, some xv, H7, ys, its, k, I7.unpinned, f1, f2, rv, w7⟩
      | true =>
        rw [if_pos rfl] at q7 ⊢
        refine thn ((hb C s H fp).2 _ s7 _ H7 _ I7 q7) fun u8 s8 ⟨v, H8, I8, r8, q8⟩ => ?_
        obtain ⟨f1, f2, f3, f4, f5⟩ := fin I8
        obtain ⟨m', hm, w8⟩ := q8
        have rv' : Vals (ys ++ [v]) (its ++ [u8]) := rv.append (.cons r8 .nil)
        refine wpAny_list_append_plain ⟨k, f3⟩ (fun h9 hl9 hs9 => ?_) (by rw [List.size_toArray, ← rv.length]; exact Nat.le_of_lt hlen)
        obtain ⟨k9, e9⟩ := hl9
        have e9' : h9.get? D = some { cls := .type "list", data := .seq (its ++ [u8]).toArray k9 } := by rw [e9]; simp
        have In : Inv (compCx X sc (x :: cap) C s H fp) (pinsAt fp s5.heap) (some xv :: capV σ js) H8 s8 := I8.pins_of fun p hp => I8.pin p (List.mem_append_right _ (List.mem_append_right _ hp))
        have It' : Inv (compCx X sc (x :: cap) C s H fp) (pinsAt fp s5.heap) (some xv :: capV σ js) H8 { s8 with heap := h9 } :=
          In.turned (it := D) (h' := h9) (t' := s8.toks) (fun b o hb' e => hs9.extBut b o hb' e) f4 f5 (.inr (Nat.le_of_eq hDe)) (fun y c e z => by
            obtain ⟨v', o, ho, _⟩ := I.cell y c (S.sub I.ok e)
            exact ltD (Heap.lt_size ho) z) fun p hp z => by
            have hp' : p ∈ pinsAt fp s5.heap := by simpa using hp
            exact fpD p.1 (of_pinsAt hp').1 z
        refine ⟨m', hm, i + 1, some xv, H8, ys ++ [v], its ++ [u8], k9, It'.pins_of fun p hp => ?_, T.keep _ _ _ f1 fun b hb' o e => hs9.extBut b o (fpD b hb') e, f2, rv', w8⟩
        have hp' : p = (D, { cls := .type "list", data := .seq (its ++ [u8]).toArray k9 }) := by simpa using hp
        subst hp'
        refine ⟨e9', f4, f5, fun hb' => ?_, fun v z => by cases z⟩
        obtain ⟨_, o, ho, _⟩ := I.stack.mem hb'
        exact ltD (Heap.lt_size ho) rfl
  exact codeAny_compStart_list (loop _ rfl) (T.self X.A 0 _ _ _ st₁ (loop _ rfl))
theorem pe_lc (S : CompScope X.env.scope sc x cap) {js : List Nat} (hjs : js.map (fun j => X.N[j]?) = cap.map some) (hc : X.calm = true) (hxe : ∀ e s, ¬ X.xe e s) {elt iter : Expr} {ifs : List Expr} {pos px : Pos} {wi : TI} {tt : TT} {te : TE}
    (hi : PI X (.Name x px) iter wi) (hb : ∀ C s0 H0 ex, PIf (compCx X sc (x :: cap) C s0 H0 ex) ifs tt ∧ PE (compCx X sc (x :: cap) C s0 H0 ex) elt te)
    (hs : ∀ x, foldedSetIterable iter X.env x = pure x := by intro _; rfl) : PE X (.ListComp elt [⟨.Name x px, iter, ifs, 0⟩] sc pos) (tLC wi js tt te) := by
  intro pins s σ H Q I h
  rw [eval_ListComp]
  refine wpAny_comprehension_free (use := none) rfl hs (closureFor_eq (S.cells I.ok)) S.kind S.names (thn (hi pins s σ H _ I h) fun xv s₁ h₁ => thn h₁ fun itv s₂ h₂ => ?_)
  obtain ⟨it, fp, tn, J, H2, e, I2, T, st2, f2, W, w0, turn⟩ := h₂
  subst e
  refine comp_run (Q := Q) (RR := fun acc C => compPost (model X.prog X.w) X.A X.xe none (EP X pins σ Q) acc C) S hjs hc hb I2 T st2 f2 w0 turn ?_
  intro D C s' σ' H' ys its k hD hC J' rv hz q
  obtain ⟨m, hn, _⟩ := J'.loc
  have pinD := J'.pin (D, { cls := .type "list", data := .seq its.toArray k }) (List.mem_append_right _ (List.mem_singleton.mpr rfl))
  exact ⟨m, hn, fun h' hs' => ⟨.ref D, _, comp_end S I2 f2 hD hC J' pinD.2.1 pinD.1 rv hz hs', rfl, q D pinD.2.1⟩⟩
end
end L2
set_option maxHeartbeats 4000000
namespace L2
open PySem PySem.Spec PyProof.Rows
section
variable {X : Cx} {pins : List (Addr × Obj)} {σ : St} {H : Hp} {s : Shared} {sc : Scope} {x : Str} {cap : List Str}
def tLCs (i : Nat) (wi : TI) (js : List Nat) (tt : TT) (te : TE) : TS := fun D σ H => tLC wi js tt te σ H fun v H' => D.nx (σ.set i (some v)) H'
theorem ps_lc (S : CompScope X.env.scope sc x cap) {js : List Nat} (hjs : js.map (fun j => X.N[j]?) = cap.map some) (hc : X.calm = true) (hxe : ∀ e s, ¬ X.xe e s) {elt iter : Expr} {ifs : List Expr} {pos px py spos : Pos} {wi : TI} {tt : TT} {te : TE} {i : Nat} {y : Str}
    (hN : X.N.Nodup) (hi' : X.N[i]? = some y) (hy : X.env.scope.names.lookup y = some .local)
    (hi : PI X (.Name x px) iter wi) (hb : ∀ C s0 H0 ex, PIf (compCx X sc (x :: cap) C s0 H0 ex) ifs tt ∧ PE (compCx X sc (x :: cap) C s0 H0 ex) elt te)
    (hsw : swapsWith (.ListComp elt [⟨.Name x px, iter, ifs, 0⟩] sc pos) (some (.Name y py)) spos.line X.env = pure true := by rfl)
    (hs : ∀ x, foldedSetIterable iter X.env x = pure x := by intro _; rfl) : PS X (.Assign [.Name y py] (.ListComp elt [⟨.Name x px, iter, ifs, 0⟩] sc pos) spos) (tLCs i wi js tt te) := by
  intro pins s σ H D0 I h
  rw [exec_Assign_Name_used _ _ _ _ hsw]
  refine wpAny_bind (wpAny_standAt (wpAny_bind ?_))
  show wpAny _ X.A (do let _ ← comprehension (.ListComp elt [⟨.Name x px, iter, ifs, 0⟩] sc pos) sc X.env _ (newList []) false (eval iter X.env) (some (assign (.Name y py) X.env))) _ _ s
  refine wpAny_bind (wpAny_mono (wpAny_comprehension_free (use := some (assign (.Name y py) X.env)) (Q := fun _ s' => SP X pins D0 .next s') rfl hs (closureFor_eq (S.cells I.ok)) S.kind S.names
    (thn (hi pins s σ H _ I h) fun xv s₁ h₁ => thn h₁ fun itv s₂ h₂ => ?_)) (fun _ s' hq => wpAny_pure (wpAny_pure hq)) fun _ _ e => e)
  obtain ⟨it, fp, tn, J, H2, e, I2, T, st2, f2, W, w0, turn⟩ := h₂
  subst e
  refine comp_run (Q := fun v H' => D0.nx (σ.set i (some v)) H') (RR := fun acc C => compPost (model X.prog X.w) X.A X.xe (some (assign (.Name y py) X.env)) (fun _ s' => SP X pins D0 .next s') acc C) S hjs hc hb I2 T st2 f2 w0 turn ?_
  intro D C s' σ' H' ys its k hD hC J' rv hz q
  have gtC : ∀ {b : Addr}, b < s₂.heap.objs.size → b ≠ C := fun h => by rw [hC]; exact neLt (Nat.lt_succ_of_lt h)
  have pinD := J'.pin (D, { cls := .type "list", data := .seq its.toArray k }) (List.mem_append_right _ (List.mem_singleton.mpr rfl))
  obtain ⟨m, hn, _⟩ := id J'.loc
  have hn : s'.heap.Ns C m := hn
  obtain ⟨oC, es, ep, hoC, hdC, rest⟩ := id hn
  have hCn : C ∉ X.fs ∧ C ≠ X.env.locals := by
    constructor
    · intro hb'
      obtain ⟨_, o, ho, _⟩ := I2.funs.mem hb'
      exact gtC (Heap.lt_size ho) rfl
    · exact fun z => gtC I2.lt z.symm
  have I3 : Inv X pins σ (upd H' D (.lst ys)) s' := comp_end (h' := s'.heap) S I2 f2 hD hC J' pinD.2.1 pinD.1 rv hz (.refl ..)
  have hDC : C ≠ D := by rw [hC, hD]; exact neGt (Nat.lt_succ_self _)
  have hH'C : H' C = none := J'.free
  have I4 : Inv X [(C, oC)] σ (upd H' D (.lst ys)) s' := I3.pins_of fun p hp => by
    have hp' : p = (C, oC) := by simpa using hp
    subst hp'
    exact ⟨hoC, by rw [upd_ne hDC]; exact hH'C, hCn.2, hCn.1, fun v z => by rw [hdC] at z; cases z⟩
  have I5 : Inv X (pins ++ [(C, oC)]) σ (upd H' D (.lst ys)) s' := I3.pins_of fun p hp => by
    rcases List.mem_append.mp hp with hp | hp
    · exact I3.pin p (List.mem_append_right _ hp)
    · exact I4.pin p (List.mem_append_right _ hp)
  show wpAny _ X.A (assign (.Name y py) X.env (.ref D)) _ _ _
  refine wpAny_assign_Name (store_ok I5 hN hi' (.inl hy) (v := .ref D) rfl (fun s6 I6 => ?_) (.inr hy))
  have pinC := I6.pin (C, oC) (List.mem_append_right _ (List.mem_append_right _ (List.mem_singleton.mpr rfl)))
  refine ⟨m, ⟨oC, es, ep, pinC.1, hdC, rest⟩, fun h' hs' => ⟨_, _, ?_, q D pinD.2.1⟩⟩
  refine I6.unpinned.turned (it := C) (h' := h') (t' := s6.toks) (fun b o hb' e => hs'.extBut b o hb' e) pinC.2.1 hCn.2 (.inr ?_) (fun y' c e z => ?_) fun p hp z => ?_
  · rw [hC]; exact Nat.le_succ_of_le I2.sz
  · obtain ⟨v', o, ho, _⟩ := I2.cell y' c e
    exact gtC (Heap.lt_size ho) z
  · exact gtC (Heap.lt_size (I2.pin p hp).1) z
end
section
variable {X : Cx}
end
end L2
set_option maxHeartbeats 4000000
namespace L2
open PySem PySem.Spec PyProof.Rows
mutual
def Dat (K : PySem.W.Frag) (G : Hp) : V → PyData → Prop
  | v, .none => v = .non
  | v, .bool b => v = .bl b
  | v, .int i => v = .int i
  | v, .str x => v = .str x
  | v, .list ds => ∃ p xs, v = .ref p ∧ G p = some (.lst xs) ∧ Dats K G xs ds
  | v, .tuple ds => ∃ p xs, v = .ref p ∧ SqT K G p xs ∧ Dats K G xs ds
  | _, .dict _ => False
def Dats (K : PySem.W.Frag) (G : Hp) : List V → List PyData → Prop
  | xs, [] => xs = []
  | xs, d :: ds => ∃ y ys, xs = y :: ys ∧ Dat K G y d ∧ Dats K G ys ds
end
theorem Same.tup {K : PySem.W.Frag} {H H' : Hp} {a : Addr} {xs : List V} (e : Same H H') (h : SqT K H a xs) : SqT K H' a xs := by
  rcases h with (h | ⟨o, h⟩) | h
  · exact .inl (.inl (e _ _ h))
  · exact .inl (.inr ⟨o, e _ _ h⟩)
  · exact .inr h
section
variable {K : PySem.W.Frag} {G G' : Hp}
theorem dat_int (i : Int) : Dat K G (.int i) (.int i) := by unfold Dat; rfl
theorem dat_str (x : Str) : Dat K G (.str x) (.str x) := by unfold Dat; rfl
theorem dat_bl (b : Bool) : Dat K G (.bl b) (.bool b) := by unfold Dat; rfl
theorem dat_non : Dat K G .non .none := by unfold Dat; rfl
theorem dat_tup {p : Addr} {xs : List V} {ds : List PyData} (h : SqT K G p xs) (r : Dats K G xs ds) : Dat K G (.ref p) (.tuple ds) := by unfold Dat; exact ⟨p, xs, rfl, h, r⟩
theorem dat_lst {p : Addr} {xs : List V} {ds : List PyData} (h : G p = some (.lst xs)) (r : Dats K G xs ds) : Dat K G (.ref p) (.list ds) := by unfold Dat; exact ⟨p, xs, rfl, h, r⟩
theorem dats_nil : Dats K G [] [] := by unfold Dats; rfl
theorem dats_cons {x : V} {xs : List V} {d : PyData} {ds : List PyData} (h : Dat K G x d) (r : Dats K G xs ds) : Dats K G (x :: xs) (d :: ds) := by
  unfold Dats; exact ⟨x, xs, rfl, h, r⟩
theorem Dat.int {v : V} {i : Int} (h : Dat K G v (.int i)) : v = .int i := by unfold Dat at h; exact h
theorem Dat.str {v : V} {x : Str} (h : Dat K G v (.str x)) : v = .str x := by unfold Dat at h; exact h
theorem Dat.bl {v : V} {x : Bool} (h : Dat K G v (.bool x)) : v = .bl x := by unfold Dat at h; exact h
theorem Dat.non {v : V} (h : Dat K G v .none) : v = .non := by unfold Dat at h; exact h
theorem Dat.tup {v : V} {ds : List PyData} (h : Dat K G v (.tuple ds)) : ∃ p xs, v = .ref p ∧ SqT K G p xs ∧ Dats K G xs ds := by unfold Dat at h; exact h
theorem Dat.lst {v : V} {ds : List PyData} (h : Dat K G v (.list ds)) : ∃ p xs, v = .ref p ∧ G p = some (.lst xs) ∧ Dats K G xs ds := by unfold Dat at h; exact h
theorem Dats.nil {xs : List V} (h : Dats K G xs []) : xs = [] := by unfold Dats at h; exact h
theorem Dats.cons {xs : List V} {d : PyData} {ds : List PyData} (h : Dats K G xs (d :: ds)) : ∃ y ys, xs = y :: ys ∧ Dat K G y d ∧ Dats K G ys ds := by unfold Dats at h; exact h
theorem Dats.length : ∀ {ds : List PyData} {xs : List V}, Dats K G xs ds → xs.length = ds.length
  | [], _, h => by rw [h.nil]; rfl
  | d :: ds, _, h => by
    obtain ⟨y, ys, rfl, _, r⟩ := h.cons
    show ys.length + 1 = ds.length + 1
    rw [r.length]
theorem Dats.get : ∀ {ds : List PyData} {xs : List V} {i : Nat} {d : PyData}, Dats K G xs ds → ds[i]? = some d → ∃ x, xs[i]? = some x ∧ Dat K G x d
  | [], _, _, _, _, e => by simp at e
  | d :: ds, _, 0, _, h, e => by
    obtain ⟨y, ys, rfl, hd, r⟩ := h.cons
    simp at e; subst e; exact ⟨y, rfl, hd⟩
  | d :: ds, _, i + 1, d', h, e => by
    obtain ⟨y, ys, rfl, hd, r⟩ := h.cons
    obtain ⟨x, h1, h2⟩ := Dats.get (i := i) (d := d') r (by simpa using e)
    exact ⟨x, by simpa using h1, h2⟩
theorem Dats.get' {ds : List PyData} {xs : List V} {i : Nat} {x : V} (h : Dats K G xs ds) (e : xs[i]? = some x) : ∃ d, ds[i]? = some d ∧ Dat K G x d := by
  have hl := h.length
  have hi : i < xs.length := (List.getElem?_eq_some_iff.mp e).1
  obtain ⟨y, h1, h2⟩ := h.get (List.getElem?_eq_getElem (show i < ds.length by omega))
  rw [e] at h1; cases h1
  exact ⟨_, List.getElem?_eq_getElem (by omega), h2⟩
theorem dats_append : ∀ {ds es : List PyData} {xs ys : List V}, Dats K G xs ds → Dats K G ys es → Dats K G (xs ++ ys) (ds ++ es)
  | [], _, _, _, h, r => by rw [h.nil]; exact r
  | d :: ds, _, _, _, h, r => by
    obtain ⟨y, ys, rfl, hd, r'⟩ := h.cons
    exact dats_cons hd (dats_append r' r)
theorem dats_snoc {ds : List PyData} {d : PyData} {xs : List V} {x : V} (h : Dats K G xs ds) (r : Dat K G x d) : Dats K G (xs ++ [x]) (ds ++ [d]) := dats_append h (dats_cons r dats_nil)
theorem dats_take : ∀ {ds : List PyData} {xs : List V} (n : Nat), Dats K G xs ds → Dats K G (xs.take n) (ds.take n)
  | _, _, 0, _ => dats_nil
  | [], _, n + 1, h => by rw [h.nil]; exact dats_nil
  | d :: ds, _, n + 1, h => by
    obtain ⟨y, ys, rfl, hd, r⟩ := h.cons
    exact dats_cons hd (dats_take n r)
theorem dats_drop : ∀ {ds : List PyData} {xs : List V} (n : Nat), Dats K G xs ds → Dats K G (xs.drop n) (ds.drop n)
  | _, _, 0, h => h
  | [], _, n + 1, h => by rw [h.nil]; exact dats_nil
  | d :: ds, _, n + 1, h => by
    obtain ⟨y, ys, rfl, hd, r⟩ := h.cons
    exact dats_drop n r
theorem dats_rev : ∀ {ds : List PyData} {xs : List V}, Dats K G xs ds → Dats K G xs.reverse ds.reverse
  | [], _, h => by rw [h.nil]; exact dats_nil
  | d :: ds, _, h => by
    obtain ⟨y, ys, rfl, hd, r⟩ := h.cons
    rw [List.reverse_cons, List.reverse_cons]
    exact dats_snoc (dats_rev r) hd
end
mutual
theorem Dat.same {K : PySem.W.Frag} {G G' : Hp} (e : Same G G') : ∀ {d : PyData} {v : V}, Dat K G v d → Dat K G' v d
  | .none, _, h => by rw [h.non]; exact dat_non
  | .bool b, _, h => by rw [h.bl]; exact dat_bl b
  | .int i, _, h => by rw [h.int]; exact dat_int i
  | .str x, _, h => by rw [h.str]; exact dat_str x
  | .list ds, _, h => by
    obtain ⟨p, xs, rfl, h1, h2⟩ := h.lst
    exact dat_lst (e _ _ h1) (Dats.same e h2)
  | .tuple ds, _, h => by
    obtain ⟨p, xs, rfl, h1, h2⟩ := h.tup
    exact dat_tup (e.tup h1) (Dats.same e h2)
  | .dict _, _, h => by unfold Dat at h; exact h.elim
theorem Dats.same {K : PySem.W.Frag} {G G' : Hp} (e : Same G G') : ∀ {ds : List PyData} {xs : List V}, Dats K G xs ds → Dats K G' xs ds
  | [], _, h => by rw [h.nil]; exact dats_nil
  | d :: ds, _, h => by
    obtain ⟨y, ys, rfl, hd, r⟩ := h.cons
    exact dats_cons (Dat.same e hd) (Dats.same e r)
end
section
variable {X : Cx} {pins : List (Addr × Obj)} {σ : St} {H G : Hp} {s : Shared}
mutual
theorem Dat.reads (I : Inv X pins σ H s) (e : Same G H) : ∀ {d : PyData} {v : V} {u : Value}, Dat X.K G v d → RelV v u → ∃ as, Reads s.heap u d as
  | .none, _, u, h, r => by
    rw [h.non] at r
    cases (show u = Value.none from r)
    exact ⟨_, .none⟩
  | .bool b, _, u, h, r => by
    rw [h.bl] at r
    cases (show u = Value.bool b from r)
    exact ⟨_, .bool b⟩
  | .int i, _, u, h, r => by
    rw [h.int] at r
    obtain ⟨t, q⟩ := (show ∃ t, u = Value.int i t from r)
    subst q
    exact ⟨_, .int i t⟩
  | .str x, _, u, h, r => by
    rw [h.str] at r
    obtain ⟨t, q⟩ := (show ∃ t, u = Value.str x t from r)
    subst q
    exact ⟨_, .str x t⟩
  | .list ds, _, u, h, r => by
    obtain ⟨p, xs, rfl, h1, h2⟩ := h.lst
    cases (show u = Value.ref p from r)
    obtain ⟨its, rv, ⟨o, n, e1, c, _, d1⟩, _⟩ := I.list (SqL.of (e _ _ h1))
    obtain ⟨as, ra⟩ := Dats.reads I e h2 rv
    exact ⟨_, Reads.list e1 c d1 (by simpa using ra)⟩
  | .tuple ds, _, u, h, r => by
    obtain ⟨p, xs, rfl, h1, h2⟩ := h.tup
    cases (show u = Value.ref p from r)
    obtain ⟨its, rv, ⟨o, e1, c, n, d1⟩, _⟩ := I.tuple (e.tup h1)
    obtain ⟨as, ra⟩ := Dats.reads I e h2 rv
    exact ⟨_, Reads.tuple e1 c d1 (by simpa using ra)⟩
  | .dict _, _, _, h, _ => by unfold Dat at h; exact h.elim
theorem Dats.reads (I : Inv X pins σ H s) (e : Same G H) : ∀ {ds : List PyData} {xs : List V} {us : List Value}, Dats X.K G xs ds → Vals xs us → ∃ as, ReadsAll s.heap us ds as
  | [], _, us, h, r => by
    rw [h.nil] at r
    cases r
    exact ⟨_, .nil⟩
  | d :: ds, _, us, h, r => by
    obtain ⟨y, ys, rfl, hd, hr⟩ := h.cons
    cases r with
    | cons r1 r2 =>
      obtain ⟨as, ra⟩ := Dat.reads I e hd r1
      obtain ⟨bs, rb⟩ := Dats.reads I e hr r2
      exact ⟨_, .cons ra rb⟩
end
end
mutual
def noBool : PyData → Bool
  | .bool _ => false
  | .dict _ => false
  | .list xs => noBools xs
  | .tuple xs => noBools xs
  | .none | .int _ | .str _ => true
def noBools : List PyData → Bool
  | [] => true
  | x :: xs => noBool x && noBools xs
end
mutual
theorem noMix_of : ∀ a b : PyData, noBool a = true → noBool b = true → SeqAt.noMix a b = true
  | .list xs, .list ys, h, k => by rw [SeqAt.noMix]; exact noMixs_of xs ys (by simpa [noBool] using h) (by simpa [noBool] using k)
  | .tuple xs, .tuple ys, h, k => by rw [SeqAt.noMix]; exact noMixs_of xs ys (by simpa [noBool] using h) (by simpa [noBool] using k)
  | .bool _, _, h, _ => by simp [noBool] at h
  | .dict _, _, h, _ => by simp [noBool] at h
  | .none, .bool _, _, k | .int _, .bool _, _, k | .str _, .bool _, _, k | .list _, .bool _, _, k | .tuple _, .bool _, _, k => by simp [noBool] at k
  | .none, .dict _, _, k | .int _, .dict _, _, k | .str _, .dict _, _, k | .list _, .dict _, _, k | .tuple _, .dict _, _, k => by simp [noBool] at k
  | .none, .none, _, _ | .none, .int _, _, _ | .none, .str _, _, _ | .none, .list _, _, _ | .none, .tuple _, _, _ => by simp [SeqAt.noMix]
  | .int _, .none, _, _ | .int _, .int _, _, _ | .int _, .str _, _, _ | .int _, .list _, _, _ | .int _, .tuple _, _, _ => by simp [SeqAt.noMix]
  | .str _, .none, _, _ | .str _, .int _, _, _ | .str _, .str _, _, _ | .str _, .list _, _, _ | .str _, .tuple _, _, _ => by simp [SeqAt.noMix]
  | .list _, .none, _, _ | .list _, .int _, _, _ | .list _, .str _, _, _ | .list _, .tuple _, _, _ => by simp [SeqAt.noMix]
  | .tuple _, .none, _, _ | .tuple _, .int _, _, _ | .tuple _, .str _, _, _ | .tuple _, .list _, _, _ => by simp [SeqAt.noMix]
theorem noMixs_of : ∀ a b : List PyData, noBools a = true → noBools b = true → SeqAt.noMixAll a b = true
  | [], [], _, _ | [], _ :: _, _, _ | _ :: _, [], _, _ => by simp [SeqAt.noMixAll]
  | x :: xs, y :: ys, h, k => by
    have h' : noBool x = true ∧ noBools xs = true := by simpa [noBools] using h
    have k' : noBool y = true ∧ noBools ys = true := by simpa [noBools] using k
    rw [SeqAt.noMixAll, noMix_of x y h'.1 k'.1, noMixs_of xs ys h'.2 k'.2]; rfl
end
structure Pl (n : Nat) (d : PyData) : Prop where
  lay : d.canLay0 = true
  dep : d.depth ≤ n
  nb : noBool d = true
theorem Pl.mono {n m : Nat} {d : PyData} (h : Pl n d) (k : n ≤ m) : Pl m d := ⟨h.lay, Nat.le_trans h.dep k, h.nb⟩
theorem Pl.shaped {n : Nat} {d : PyData} (h : Pl n d) (k : n ≤ 64) : SeqAt.shaped d = true := by
  show (PyData.canLay0 d && decide (PyData.depth d ≤ 64)) = true
  rw [Bool.and_eq_true]
  exact ⟨h.lay, decide_eq_true (Nat.le_trans h.dep k)⟩
theorem Pl.mix {n : Nat} {a b : PyData} (h : Pl n a) (k : Pl n b) : SeqAt.noMix a b = true := noMix_of a b h.nb k.nb
mutual
theorem same_eq : ∀ {a b : PyData}, PySem.Spec.same a b = true → a = b
  | .none, b, h => by cases b <;> first | rfl | simp [PySem.Spec.same] at h
  | .bool x, b, h => by cases b <;> simp [PySem.Spec.same] at h <;> rw [h]
  | .int x, b, h => by cases b <;> simp [PySem.Spec.same] at h <;> rw [h]
  | .str x, b, h => by cases b <;> simp [PySem.Spec.same] at h <;> rw [h]
  | .list x, b, h => by
    cases b <;> simp [PySem.Spec.same] at h
    rw [sameAll_eq h]
  | .tuple x, b, h => by
    cases b <;> simp [PySem.Spec.same] at h
    rw [sameAll_eq h]
  | .dict x, b, h => by
    cases b <;> simp [PySem.Spec.same] at h
    rw [samePairs_eq h]
theorem sameAll_eq : ∀ {a b : List PyData}, PySem.Spec.sameAll a b = true → a = b
  | [], [], _ => rfl
  | [], _ :: _, h => by simp [PySem.Spec.sameAll] at h
  | _ :: _, [], h => by simp [PySem.Spec.sameAll] at h
  | x :: xs, y :: ys, h => by
    have h' : PySem.Spec.same x y = true ∧ PySem.Spec.sameAll xs ys = true := by simpa [PySem.Spec.sameAll] using h
    rw [same_eq h'.1, sameAll_eq h'.2]
theorem samePairs_eq : ∀ {a b : List (PyData × PyData)}, PySem.Spec.samePairs a b = true → a = b
  | [], [], _ => rfl
  | [], _ :: _, h => by simp [PySem.Spec.samePairs] at h
  | _ :: _, [], h => by simp [PySem.Spec.samePairs] at h
  | (x, z) :: xs, (y, w) :: ys, h => by
    have h' : (PySem.Spec.same x y = true ∧ PySem.Spec.same z w = true) ∧ PySem.Spec.samePairs xs ys = true := by simpa [PySem.Spec.samePairs] using h
    rw [same_eq h'.1.1, same_eq h'.1.2, samePairs_eq h'.2]
end
theorem same_ne {a b : PyData} (h : a ≠ b) : PySem.Spec.same a b = false := by
  cases e : PySem.Spec.same a b with
  | false => rfl
  | true => exact absurd (same_eq e) h
section
variable {X : Cx}
def rEqD (K : PySem.W.Frag) (g : Bool → Bool) : R2 := fun x y H Q => ∃ (G : Hp) (a b : PyData), Same G H ∧ Dat K G x a ∧ Dat K G y b ∧ (SeqAt.shaped a = true ∧ SeqAt.shaped b = true ∧ SeqAt.noMix a b = true) ∧ Q (.bl (g (PySem.Spec.same a b))) H
theorem op_eqD (hu : X.A.units + 64 < cLine) : OpR X (compareOp .Eq) (rEqD X.K fun b => b) := by
  intro pins s σ H x y v u Q I rx ry h
  obtain ⟨G, a, b, e, ha, hb, ⟨sa, sb, nm⟩, q⟩ := h
  obtain ⟨as, ra⟩ := Dat.reads I e ha rx
  obtain ⟨bs, rb⟩ := Dat.reads I e hb ry
  exact eq_dataH_same ra rb sa sb hu nm ⟨.bl (PySem.Spec.same a b), H, I, rfl, q⟩
theorem op_neD (hu : X.A.units + 64 < cLine) : OpR X (compareOp .NotEq) (rEqD X.K fun b => !b) := by
  intro pins s σ H x y v u Q I rx ry h
  obtain ⟨G, a, b, e, ha, hb, ⟨sa, sb, nm⟩, q⟩ := h
  obtain ⟨as, ra⟩ := Dat.reads I e ha rx
  obtain ⟨bs, rb⟩ := Dat.reads I e hb ry
  exact ne_dataH_same ra rb sa sb hu nm ⟨.bl (!PySem.Spec.same a b), H, I, rfl, q⟩
end
theorem canLayAll0_of : ∀ {ds : List PyData}, (∀ d ∈ ds, d.canLay0 = true) → PyData.canLayAll0 ds = true
  | [], _ => rfl
  | d :: ds, h => by
    unfold PyData.canLayAll0
    rw [h d (by simp), canLayAll0_of fun e he => h e (by simp [he])]; rfl
theorem depthAll_of : ∀ {ds : List PyData} {n : Nat}, (∀ d ∈ ds, d.depth ≤ n) → PyData.depthAll ds ≤ n
  | [], _, _ => by unfold PyData.depthAll; omega
  | d :: ds, n, h => by
    have h1 := h d (by simp)
    have h2 := depthAll_of (ds := ds) (n := n) fun e he => h e (by simp [he])
    unfold PyData.depthAll
    omega
theorem noBools_of : ∀ {ds : List PyData}, (∀ d ∈ ds, noBool d = true) → noBools ds = true
  | [], _ => rfl
  | d :: ds, h => by
    unfold noBools
    rw [h d (by simp), noBools_of fun e he => h e (by simp [he])]; rfl
theorem pl_lst {n : Nat} {ds : List PyData} (h : ∀ d ∈ ds, Pl n d) : Pl (n + 1) (.list ds) := by
  refine ⟨?_, ?_, ?_⟩
  · unfold PyData.canLay0; exact canLayAll0_of fun d hd => (h d hd).lay
  · have := depthAll_of fun d hd => (h d hd).dep
    unfold PyData.depth; omega
  · unfold noBool; exact noBools_of fun d hd => (h d hd).nb
end L2
set_option maxHeartbeats 4000000
namespace L2
open PySem PySem.Spec PyProof.Rows
structure Grow (G H G' H' : Hp) : Prop where
  gg : Same G G'
  gh : Same G' H'
  hh : Same H H'
  fr : ∀ b o, G' b = some o → G b = some o ∨ H b = none
theorem Grow.refl {G H : Hp} (s : Same G H) : Grow G H G H := ⟨Same.refl _, s, Same.refl _, fun _ _ h => .inl h⟩
theorem Grow.trans {G H G1 H1 G2 H2 : Hp} (a : Grow G H G1 H1) (b : Grow G1 H1 G2 H2) : Grow G H G2 H2 :=
  ⟨a.gg.trans b.gg, b.gh, a.hh.trans b.hh, fun x o h => by
    rcases b.fr x o h with h | h
    · exact a.fr x o h
    · exact .inr (a.hh.free h)⟩
theorem grow_new {G H : Hp} {p : Addr} {o : HO} (s : Same G H) (hp : H p = none) : Grow G H (upd G p o) (upd H p o) := by
  have hg : G p = none := s.free hp
  refine ⟨fun b u e => ?_, fun b u e => ?_, fun b u e => ?_, fun b u e => ?_⟩
  · rw [upd_ne (ne_of_none e hg)]; exact e
  · by_cases h : b = p
    · subst h; rw [upd_same] at e ⊢; exact e
    · rw [upd_ne h] at e ⊢; exact s b u e
  · rw [upd_ne (ne_of_none e hp)]; exact e
  · by_cases h : b = p
    · subst h; exact .inr hp
    · rw [upd_ne h] at e; exact .inl e
theorem grow_h {G H H' : Hp} (s : Same G H) (h : Same H H') : Grow G H G H' := ⟨Same.refl _, s.trans h, h, fun _ _ e => .inl e⟩
theorem Grow.out {G H G' H' : Hp} (a : Grow G H G' H') {p : Addr} {o : HO} (hp : H p = some o) (hg : G p = none) : G' p = none := by
  cases e : G' p with
  | none => rfl
  | some u =>
    rcases a.fr p u e with h | h
    · rw [hg] at h; cases h
    · rw [hp] at h; cases h
def Ev (K : PySem.W.Frag) (t : TE) (σ : St) (G : Hp) (d : PyData) : Prop :=
  ∀ G1 H, Same G G1 → Same G1 H → ∀ Q : VK, (∀ v G' H', Grow G1 H G' H' → Dat K G' v d → Q v H') → t σ H Q
def EvT (t : TT) (σ : St) (G : Hp) (b : Bool) : Prop :=
  ∀ G1 H, Same G G1 → Same G1 H → ∀ Q : Bool → Hp → Prop, (∀ G' H', Grow G1 H G' H' → Q b H') → t σ H Q
def EvA (K : PySem.W.Frag) (t : TA) (σ : St) (G : Hp) (ds : List PyData) : Prop :=
  ∀ G1 H, Same G G1 → Same G1 H → ∀ Q : List V → Hp → Prop, (∀ vs G' H', Grow G1 H G' H' → Dats K G' vs ds → Q vs H') → t σ H Q
section
variable {K : PySem.W.Frag} {σ : St} {G : Hp} {ta tb tc : TE} {a b d : PyData}
theorem Ev.mono {t : TE} {G' : Hp} (h : Ev K t σ G d) (s : Same G G') : Ev K t σ G' d := fun G1 H s1 s2 Q k => h G1 H (s.trans s1) s2 Q k
theorem Ev.use {t : TE} {H : Hp} {Q : VK} (h : Ev K t σ G d) (s : Same G H) (k : ∀ v G' H', Grow G H G' H' → Dat K G' v d → Q v H') : t σ H Q := h G H (Same.refl _) s Q k
theorem EvT.use {t : TT} {c : Bool} {H : Hp} {Q : Bool → Hp → Prop} (h : EvT t σ G c) (s : Same G H) (k : ∀ G' H', Grow G H G' H' → Q c H') : t σ H Q := h G H (Same.refl _) s Q k
theorem ev_var {i : Nat} {v : V} (h : σ[i]? = some (some v)) (hd : Dat K G v d) : Ev K (tVar i) σ G d := fun G1 H s1 s2 Q k => ⟨v, h, k v G1 H (Grow.refl s2) (hd.same s1)⟩
theorem ev_c {v : V} (hd : Dat K G v d) : Ev K (tC v) σ G d := fun G1 H s1 s2 Q k => k v G1 H (Grow.refl s2) (hd.same s1)
theorem ev_int {i : Int} : Ev K (tC (.int i)) σ G (.int i) := ev_c (dat_int i)
theorem ev_str {x : Str} : Ev K (tC (.str x)) σ G (.str x) := ev_c (dat_str x)
theorem ev_bl {x : Bool} : Ev K (tC (.bl x)) σ G (.bool x) := ev_c (dat_bl x)
theorem ev_op {r : R2} (ha : Ev K ta σ G a) (hb : Ev K tb σ G b) (hr : ∀ G1 H x y (Q : VK), Same G G1 → Same G1 H → Dat K G1 x a → Dat K G1 y b → (∀ v G' H', Grow G1 H G' H' → Dat K G' v d → Q v H') → r x y H Q) : Ev K (tOp r ta tb) σ G d :=
  fun G1 H s1 s2 Q k => ha G1 H s1 s2 _ fun x G2 H2 g2 hx => hb G2 H2 (s1.trans g2.gg) g2.gh _ fun y G3 H3 g3 hy =>
    hr G3 H3 x y Q ((s1.trans g2.gg).trans g3.gg) g3.gh (hx.same g3.gg) hy fun v G' H' g hv => k v G' H' ((g2.trans g3).trans g) hv
theorem ev_i0 {g : Int → Int → V} {i j : Int} (ha : Ev K ta σ G (.int i)) (hb : Ev K tb σ G (.int j)) (hg : Dat K G (g i j) d) : Ev K (tOp (rI0 g) ta tb) σ G d :=
  ev_op ha hb fun G1 H x y Q s1 s2 hx hy k => by
    rw [hx.int, hy.int]
    exact ⟨i, j, rfl, rfl, k _ G1 H (Grow.refl s2) (hg.same s1)⟩
theorem ev_iC {C : Int → Int → Prop} {g : Int → Int → V} {i j : Int} (ha : Ev K ta σ G (.int i)) (hb : Ev K tb σ G (.int j)) (hc : C i j) (hg : Dat K G (g i j) d) : Ev K (tOp (rI C g) ta tb) σ G d :=
  ev_op ha hb fun G1 H x y Q s1 s2 hx hy k => by
    rw [hx.int, hy.int]
    exact ⟨i, j, rfl, rfl, hc, k _ G1 H (Grow.refl s2) (hg.same s1)⟩
theorem ev_ixT {ds : List PyData} {i : Int} {n : Nat} (ha : Ev K ta σ G (.tuple ds)) (hb : Ev K tb σ G (.int i)) (hn : ixN ds.length i = some n) (hd : ds[n]? = some d) : Ev K (tOp (rIxT K) ta tb) σ G d :=
  ev_op ha hb fun G1 H x y Q s1 s2 hx hy k => by
    obtain ⟨p, xs, rfl, hp, hxs⟩ := hx.tup
    obtain ⟨z, hz, hzd⟩ := hxs.get hd
    rw [hy.int]
    exact ⟨p, xs, i, z, rfl, rfl, s2.tup hp, by unfold atI; rw [hxs.length, hn]; exact hz, k z G1 H (Grow.refl s2) hzd⟩
theorem ev_ixL {ds : List PyData} {i : Int} {n : Nat} (ha : Ev K ta σ G (.list ds)) (hb : Ev K tb σ G (.int i)) (hn : ixN ds.length i = some n) (hd : ds[n]? = some d) : Ev K (tOp (rIxL K) ta tb) σ G d :=
  ev_op ha hb fun G1 H x y Q s1 s2 hx hy k => by
    obtain ⟨p, xs, rfl, hp, hxs⟩ := hx.lst
    obtain ⟨z, hz, hzd⟩ := hxs.get hd
    rw [hy.int]
    exact ⟨p, xs, i, z, rfl, rfl, SqL.of (s2 _ _ hp), by unfold atI; rw [hxs.length, hn]; exact hz, k z G1 H (Grow.refl s2) hzd⟩
theorem ev_eqD {g : Bool → Bool} {n : Nat} (ha : Ev K ta σ G a) (hb : Ev K tb σ G b) (pa : Pl n a) (pb : Pl n b) (hn : n ≤ 64) : Ev K (tOp (rEqD K g) ta tb) σ G (.bool (g (PySem.Spec.same a b))) :=
  ev_op ha hb fun G1 H x y Q s1 s2 hx hy k => ⟨G1, a, b, s2, hx, hy, ⟨pa.shaped hn, pb.shaped hn, pa.mix pb⟩, k _ G1 H (Grow.refl s2) (dat_bl _)⟩
theorem eva_nil : EvA K tNil σ G [] := fun G1 H s1 s2 Q k => k [] G1 H (Grow.refl s2) dats_nil
theorem eva_cons {t : TA} {ds : List PyData} (ha : Ev K ta σ G a) (hb : EvA K t σ G ds) : EvA K (tCons ta t) σ G (a :: ds) :=
  fun G1 H s1 s2 Q k => ha G1 H s1 s2 _ fun x G2 H2 g2 hx => hb G2 H2 (s1.trans g2.gg) g2.gh _ fun ys G3 H3 g3 hy => k (x :: ys) G3 H3 (g2.trans g3) (dats_cons (hx.same g3.gg) hy)
theorem ev_tup {t : TA} {ds : List PyData} (h : EvA K t σ G ds) (hl : ds.length ≤ sizeLine) : Ev K (tTup t) σ G (.tuple ds) :=
  fun G1 H s1 s2 Q k => h G1 H s1 s2 _ fun vs G2 H2 g2 hv => ⟨by rw [hv.length]; exact hl, fun p hp => by
    have g := grow_new (o := .tup vs) g2.gh hp
    exact k _ _ _ (g2.trans g) (dat_tup (SqT.of upd_same) (hv.same g.gg))⟩
theorem ev_lst {t : TA} {ds : List PyData} (h : EvA K t σ G ds) (hl : ds.length ≤ sizeLine) : Ev K (tLst t) σ G (.list ds) :=
  fun G1 H s1 s2 Q k => h G1 H s1 s2 _ fun vs G2 H2 g2 hv => ⟨by rw [hv.length]; exact hl, fun p hp => by
    have g := grow_new (o := .lst vs) g2.gh hp
    exact k _ _ _ (g2.trans g) (dat_lst upd_same (hv.same g.gg))⟩
theorem ev_cb {r : List V → Hp → VK → Prop} {t : TA} {ds : List PyData} (h : EvA K t σ G ds) (hr : ∀ G1 H xs (Q : VK), Same G G1 → Same G1 H → Dats K G1 xs ds → (∀ v G' H', Grow G1 H G' H' → Dat K G' v d → Q v H') → r xs H Q) : Ev K (tCB r t) σ G d :=
  fun G1 H s1 s2 Q k => h G1 H s1 s2 _ fun vs G2 H2 g2 hv => hr G2 H2 vs Q (s1.trans g2.gg) g2.gh hv fun v G' H' g hd => k v G' H' (g2.trans g) hd
theorem ev_lenL {t : TA} {ds : List PyData} (h : EvA K t σ G [.list ds]) : Ev K (tCB (fun xs H Q => ∃ p ys, xs = [.ref p] ∧ (SqL K H p ys ∨ SqT K H p ys) ∧ Q (.int ys.length) H) t) σ G (.int ds.length) :=
  ev_cb h fun G1 H xs Q s1 s2 hx k => by
    obtain ⟨y, ys, rfl, hy, r⟩ := hx.cons
    rw [r.nil]
    obtain ⟨p, zs, rfl, hp, hz⟩ := hy.lst
    refine ⟨p, zs, rfl, .inl (SqL.of (s2 _ _ hp)), ?_⟩
    rw [hz.length]
    exact k _ G1 H (Grow.refl s2) (dat_int _)
theorem ev_lenT {t : TA} {ds : List PyData} (h : EvA K t σ G [.tuple ds]) : Ev K (tCB (fun xs H Q => ∃ p ys, xs = [.ref p] ∧ (SqL K H p ys ∨ SqT K H p ys) ∧ Q (.int ys.length) H) t) σ G (.int ds.length) :=
  ev_cb h fun G1 H xs Q s1 s2 hx k => by
    obtain ⟨y, ys, rfl, hy, r⟩ := hx.cons
    rw [r.nil]
    obtain ⟨p, zs, rfl, hp, hz⟩ := hy.tup
    refine ⟨p, zs, rfl, .inr (s2.tup hp), ?_⟩
    rw [hz.length]
    exact k _ G1 H (Grow.refl s2) (dat_int _)
theorem evt_test {t : TE} {c : Bool} (h : Ev K t σ G (.bool c)) : EvT (tTest t) σ G c := fun G1 H s1 s2 Q k => h G1 H s1 s2 _ fun v G' H' g hv => ⟨c, hv.bl, k G' H' g⟩
theorem evt_b {t : TE} {c : Bool} (h : Ev K t σ G (.bool c)) : EvT (tB t) σ G c := fun G1 H s1 s2 Q k => h G1 H s1 s2 _ fun v G' H' g hv => ⟨c, hv.bl, k G' H' g⟩
theorem evt_not {t : TT} {c : Bool} (h : EvT t σ G c) : EvT (tNot t) σ G (!c) := fun G1 H s1 s2 Q k => h G1 H s1 s2 _ fun G' H' g => k G' H' g
theorem evt_and {t u : TT} {c e : Bool} (h : EvT t σ G c) (h' : c = true → EvT u σ G e) : EvT (tAnd t u) σ G (c && e) := fun G1 H s1 s2 Q k => h G1 H s1 s2 _ fun G' H' g => by
  cases c with
  | false => rw [if_neg Bool.false_ne_true]; exact k G' H' g
  | true =>
    rw [if_pos rfl]
    exact h' rfl G' H' (s1.trans g.gg) g.gh _ fun G2 H2 g2 => k G2 H2 (g.trans g2)
theorem evt_c {t : TT} {c e : Bool} (h : EvT t σ G c) (q : c = e) : EvT t σ G e := q ▸ h
theorem ev_d {t : TE} {e : PyData} (h : Ev K t σ G d) (q : d = e) : Ev K t σ G e := q ▸ h
theorem ev_ite {t : TT} {c : Bool} (h : EvT t σ G c) (h1 : c = true → Ev K ta σ G d) (h2 : c = false → Ev K tb σ G d) : Ev K (tIf t ta tb) σ G d := fun G1 H s1 s2 Q k => h G1 H s1 s2 _ fun G' H' g => by
  cases c with
  | true => rw [if_pos rfl]; exact h1 rfl G' H' (s1.trans g.gg) g.gh _ fun v G2 H2 g2 hv => k v G2 H2 (g.trans g2) hv
  | false => rw [if_neg Bool.false_ne_true]; exact h2 rfl G' H' (s1.trans g.gg) g.gh _ fun v G2 H2 g2 hv => k v G2 H2 (g.trans g2) hv
def spP (K : PySem.W.Frag) (R : List PyData → PyData → Prop) : Sp := fun vs H Q _ => ∃ (G : Hp) (ds : List PyData) (d : PyData), Same G H ∧ Dats K G vs ds ∧ R ds d ∧ ∀ v G' H', Grow G H G' H' → Dat K G' v d → Q v H'
theorem ev_call {R : List PyData → PyData → Prop} {E : XK} {t : TA} {ds : List PyData} (h : EvA K t σ G ds) (hR : R ds d) : Ev K (tCall (spP K R) [] E t) σ G d :=
  fun G1 H s1 s2 Q k => h G1 H s1 s2 _ fun vs G2 H2 g2 hv => by
    refine ⟨G2, ds, d, g2.gh, ?_, hR, fun v G' H' g hd => k v G' H' (g2.trans g) hd⟩
    rw [List.append_nil]; exact hv
theorem range_bind {α β : Type} (f : α → Option β) : ∀ ds : List α, (List.range ds.length).filterMap (fun i => (ds[i]?).bind f) = ds.filterMap f
  | [] => rfl
  | d :: ds => by
    rw [List.length_cons, List.range_succ_eq_map, List.filterMap_cons, List.filterMap_map]
    have e : (fun i => ((d :: ds)[i]?).bind f) ∘ Nat.succ = fun i => (ds[i]?).bind f := by
      funext i; simp
    rw [e, range_bind f ds]
    rw [List.filterMap_cons]
    simp
structure Walk (J : It) (n : Nat) (H : Hp) (items : Nat → V → Prop) : Prop where
  go : ∀ i H', Same H H' → i < n → J.go i H'
  stop : ∀ i H', Same H H' → n ≤ i → J.stop i H'
  yld : ∀ i H' x H'', Same H H' → J.yld i H' x H'' → H'' = H' ∧ items i x
theorem walk_tup {a : Addr} {xs : List V} {H : Hp} (h : SqT K H a xs) : Walk (Itt K a) xs.length H (fun i x => xs[i]? = some x) :=
  ⟨fun i H' s hi => ⟨xs, _, s.tup h, List.getElem?_eq_getElem hi⟩, fun i H' s hi => ⟨xs, s.tup h, hi⟩, fun i H' x H'' s y => ⟨y.1, y.2 xs (s.tup h)⟩⟩
theorem walk_lst {a : Addr} {xs : List V} {H : Hp} (h : SqL K H a xs) : Walk (Itl K a) xs.length H (fun i x => xs[i]? = some x) :=
  ⟨fun i H' s hi => ⟨xs, _, s.seq h, List.getElem?_eq_getElem hi⟩, fun i H' s hi => ⟨xs, s.seq h, hi⟩, fun i H' x H'' s y => ⟨y.1, y.2 xs (s.seq h)⟩⟩
theorem lc_of {wi : TI} {js : List Nat} {tt : TT} {te : TE} {H : Hp} {Q : VK} {n : Nat} (f : Nat → Option PyData) (items : Hp → Nat → V → Prop) {G1 : Hp} (s2 : Same G1 H)
    (hw : ∀ R : It → Hp → Prop, (∀ J G2 H2, Grow G1 H G2 H2 → Walk J n H2 (items G2) → R J H2) → wi σ H R)
    (hn : n < sizeLine)
    (hc : ∀ G2 i x, Same G1 G2 → i < n → items G2 i x → (∃ d, f i = some d ∧ EvT tt (some x :: capV σ js) G2 true ∧ Ev K te (some x :: capV σ js) G2 d) ∨ (f i = none ∧ EvT tt (some x :: capV σ js) G2 false))
    (k : ∀ v G' H', Grow G1 H G' H' → Dat K G' v (.list ((List.range n).filterMap f)) → Q v H') : tLC wi js tt te σ H Q := by
  refine hw _ fun J G2 H2 g2 W => ?_
  refine ⟨fun i m ys H' => m = n - i ∧ i ≤ n ∧ ys.length ≤ i ∧ ∃ G', Grow G2 H2 G' H' ∧ Dats K G' ys ((List.range i).filterMap f), ⟨n, by omega, by omega, by simp, G2, Grow.refl g2.gh, by simpa using dats_nil⟩, ?_⟩
  rintro i m ys H' ⟨rfl, hi, hl, G', g', hys⟩
  refine ⟨by omega, ?_⟩
  by_cases h : i = n
  · subst h
    refine .inl ⟨W.stop i H' g'.hh (Nat.le_refl _), fun p hp => ?_⟩
    have g3 := grow_new (o := .lst ys) g'.gh hp
    exact k _ _ _ ((g2.trans g').trans g3) (dat_lst upd_same (hys.same g3.gg))
  · refine .inr ⟨W.go i H' g'.hh (by omega), fun x H'' hy => ?_⟩
    obtain ⟨rfl, hit⟩ := W.yld i H' x H'' g'.hh hy
    rcases hc G2 i x g2.gg (by omega) hit with ⟨d, hf, ht, he⟩ | ⟨hf, ht⟩
    · refine ht G' H'' g'.gg g'.gh _ fun G4 H4 g4 => ?_
      rw [if_pos rfl]
      refine he G4 H4 (g'.gg.trans g4.gg) g4.gh _ fun v G5 H5 g5 hv => ⟨n - (i + 1), by omega, rfl, by omega, by rw [List.length_append]; show ys.length + 1 ≤ i + 1; omega, G5, (g'.trans g4).trans g5, ?_⟩
      rw [List.range_succ, List.filterMap_append]
      simp only [List.filterMap_cons, hf, List.filterMap_nil]
      exact dats_snoc (hys.same (g4.gg.trans g5.gg)) hv
    · refine ht G' H'' g'.gg g'.gh _ fun G4 H4 g4 => ?_
      rw [if_neg Bool.false_ne_true]
      refine ⟨n - (i + 1), by omega, rfl, by omega, by omega, G4, g'.trans g4, ?_⟩
      rw [List.range_succ, List.filterMap_append]
      simp only [List.filterMap_cons, hf, List.filterMap_nil, List.append_nil]
      exact hys.same g4.gg
def Lc1 (K : PySem.W.Frag) (tt : TT) (te : TE) (σ' : St) (G : Hp) (o : Option PyData) : Prop :=
  (∃ d, o = some d ∧ EvT tt σ' G true ∧ Ev K te σ' G d) ∨ (o = none ∧ EvT tt σ' G false)
theorem ev_lcT {α : Type} {tl : TE} {js : List Nat} {tt : TT} {te : TE} (as : List α) (enc : α → PyData) (f : α → Option PyData) (h : Ev K tl σ G (.tuple (as.map enc))) (hj : as.length < sizeLine)
    (hc : ∀ G2 (i : Nat) (a : α) x, Same G G2 → as[i]? = some a → Dat K G2 x (enc a) → Lc1 K tt te (some x :: capV σ js) G2 (f a)) : Ev K (tLC (iTup K tl) js tt te) σ G (.list (as.filterMap f)) :=
  fun G1 H s1 s2 Q k => lc_of (n := as.length) (fun i => (as[i]?).bind f) (fun G2 i x => ∃ a, as[i]? = some a ∧ Dat K G2 x (enc a)) s2 (fun R hR => h G1 H s1 s2 _ fun v G2 H2 g2 hv => by
    obtain ⟨p, xs, rfl, hp, hxs⟩ := hv.tup
    refine ⟨p, rfl, ⟨xs, g2.gh.tup hp⟩, hR _ G2 H2 g2 ?_⟩
    have W := walk_tup (K := K) (H := H2) (g2.gh.tup hp)
    rw [hxs.length, List.length_map] at W
    refine ⟨W.go, W.stop, fun i H' x H'' s y => ⟨(W.yld i H' x H'' s y).1, ?_⟩⟩
    obtain ⟨d, hd, hx⟩ := hxs.get' (W.yld i H' x H'' s y).2
    rw [List.getElem?_map] at hd
    cases e : as[i]? with
    | none => rw [e] at hd; cases hd
    | some a => rw [e] at hd; cases hd; exact ⟨a, rfl, hx⟩) hj
    (fun G2 i x s3 hi ⟨a, ha, hx⟩ => by
      show Lc1 K tt te (some x :: capV σ js) G2 ((as[i]?).bind f)
      rw [ha]; exact hc G2 i a x (s1.trans s3) ha hx) (by rw [range_bind]; exact k)
theorem ev_lcL {α : Type} {tl : TE} {js : List Nat} {tt : TT} {te : TE} (as : List α) (enc : α → PyData) (f : α → Option PyData) (h : Ev K tl σ G (.list (as.map enc))) (hj : as.length < sizeLine)
    (hc : ∀ G2 (i : Nat) (a : α) x, Same G G2 → as[i]? = some a → Dat K G2 x (enc a) → Lc1 K tt te (some x :: capV σ js) G2 (f a)) : Ev K (tLC (iList K tl) js tt te) σ G (.list (as.filterMap f)) :=
  fun G1 H s1 s2 Q k => lc_of (n := as.length) (fun i => (as[i]?).bind f) (fun G2 i x => ∃ a, as[i]? = some a ∧ Dat K G2 x (enc a)) s2 (fun R hR => h G1 H s1 s2 _ fun v G2 H2 g2 hv => by
    obtain ⟨p, xs, rfl, hp, hxs⟩ := hv.lst
    refine ⟨p, rfl, ⟨xs, SqL.of (g2.gh _ _ hp)⟩, hR _ G2 H2 g2 ?_⟩
    have W := walk_lst (K := K) (H := H2) (SqL.of (g2.gh _ _ hp))
    rw [hxs.length, List.length_map] at W
    refine ⟨W.go, W.stop, fun i H' x H'' s y => ⟨(W.yld i H' x H'' s y).1, ?_⟩⟩
    obtain ⟨d, hd, hx⟩ := hxs.get' (W.yld i H' x H'' s y).2
    rw [List.getElem?_map] at hd
    cases e : as[i]? with
    | none => rw [e] at hd; cases hd
    | some a => rw [e] at hd; cases hd; exact ⟨a, rfl, hx⟩) hj
    (fun G2 i x s3 hi ⟨a, ha, hx⟩ => by
      show Lc1 K tt te (some x :: capV σ js) G2 ((as[i]?).bind f)
      rw [ha]; exact hc G2 i a x (s1.trans s3) ha hx) (by rw [range_bind]; exact k)
theorem lc1 {tt : TT} {te : TE} {σ' : St} (ht : EvT tt σ' G true) (he : Ev K te σ' G d) : Lc1 K tt te σ' G (some d) := .inl ⟨d, rfl, ht, he⟩
theorem lc0 {tt : TT} {te : TE} {σ' : St} (ht : EvT tt σ' G false) : Lc1 K tt te σ' G none := .inr ⟨rfl, ht⟩
theorem lcB {tt : TT} {te : TE} {σ' : St} {c : Bool} (ht : EvT tt σ' G c) (he : c = true → Ev K te σ' G d) : Lc1 K tt te σ' G (if c then some d else none) := by
  cases c with
  | true => exact lc1 ht (he rfl)
  | false => exact lc0 ht
theorem evt_noif : EvT tNoIf σ G true := fun G1 H s1 s2 Q k => k G1 H (Grow.refl s2)
end
end L2
namespace L2
open PySem PySem.Spec PyProof.Rows
section
variable {K : PySem.W.Frag} {σ : St} {G H : Hp} {te : TE} {d : PyData} {D : Ends}
theorem ret_ev (h : Ev K te σ G d) (s : Same G H) (k : ∀ v G' H', Grow G H G' H' → Dat K G' v d → D.rt v H') : tRet te D σ H := h.use s k
theorem asg_ev {i : Nat} (h : Ev K te σ G d) (s : Same G H) (k : ∀ v G' H', Grow G H G' H' → Dat K G' v d → D.nx (σ.set i (some v)) H') : tAsg te (gName i) D σ H := h.use s k
theorem if_ev {tc : TT} {t u : TS} {c : Bool} (h : EvT tc σ G c) (s : Same G H) (k1 : c = true → ∀ G' H', Grow G H G' H' → t D σ H') (k2 : c = false → ∀ G' H', Grow G H G' H' → u D σ H') : tIfS tc t u D σ H :=
  h.use s fun G' H' g => by
    cases c with
    | true => rw [if_pos rfl]; exact k1 rfl G' H' g
    | false => rw [if_neg Bool.false_ne_true]; exact k2 rfl G' H' g
theorem if_no {tc : TT} {t u : TS} (h : EvT tc σ G false) (s : Same G H) (k : ∀ G' H', Grow G H G' H' → u D σ H') : tIfS tc t u D σ H := if_ev h s (fun z => nomatch z) fun _ => k
theorem fm_some {α β : Type} (f : α → β) : ∀ l : List α, l.filterMap (fun x => some (f x)) = l.map f
  | [] => rfl
  | x :: l => by rw [List.filterMap_cons, List.map_cons, fm_some f l]
theorem SqL.kept {H' : Hp} {a : Addr} {xs : List V} (h : SqL K H a xs) (k : ∀ o, H a = some o → H' a = some o) : SqL K H' a xs := by
  rcases h with (h | ⟨u, h⟩) | h
  · exact .inl (.inl (k _ h))
  · exact .inl (.inr ⟨u, k _ h⟩)
  · exact .inr h
theorem ixN_nat {n i : Nat} (h : i < n) : ixN n (i : Int) = some i := by unfold ixN; rw [if_pos (by omega), if_pos (by omega)]; simp
end
end L2
namespace L2
open PySem PySem.Spec PyProof.Rows
section
variable {K : PySem.W.Frag} {σ : St} {G H : Hp} {ta tb : TE}
theorem ev_eqI {i j : Int} (ha : Ev K ta σ G (.int i)) (hb : Ev K tb σ G (.int j)) : Ev K (tOp rEq ta tb) σ G (.bool (decide (i = j))) :=
  ev_op ha hb fun G1 H x y Q s1 s2 hx hy k => by
    rw [hx.int, hy.int]
    refine ⟨rfl, ?_⟩
    have e : decide (V.int i = V.int j) = decide (i = j) := by
      by_cases h : i = j
      · rw [decide_eq_true h, decide_eq_true (by rw [h])]
      · rw [decide_eq_false h, decide_eq_false fun z => h (by injection z)]
    rw [e]
    exact k _ G1 H (Grow.refl s2) (dat_bl _)
theorem same_upd {d : Addr} {o : HO} (s : Same G H) (n : G d = none) : Same G (upd H d o) := fun b u e => by
  rw [upd_ne (ne_of_none e n)]; exact s b u e
theorem upd_none {p d : Addr} {o : HO} (h : G d = none) (n : d ≠ p) : upd G p o d = none := by rw [upd_ne n]; exact h
end
end L2
set_option maxHeartbeats 4000000
namespace L2
open PySem PySem.Spec PyProof.Rows
section
variable {X : Cx} {pins : List (Addr × Obj)} {σ : St} {H : Hp} {s : Shared} {h' : Heap}
theorem Inv.turnsNew {t' : Nat} {fp : List Addr} {T : Addr} {o : HO} (I : Inv X pins σ H s) (k : ∀ b u, b ∉ fp → s.heap.get? b = some u → h'.get? b = some u) (hf : ∀ b ∈ fp, FpOk X pins H b)
    (hT : s.heap.objs.size ≤ T) (new : ObjOk X.prog X.w (upd H T o) h' T o) : Inv X pins σ (upd H T o) { s with heap := h', toks := t' } := by
  have nfp : ∀ b u, H b = some u → b ∉ fp := fun b u e z => by rw [(hf b z).1] at e; cases e
  have nT : ∀ b u, H b = some u → b ≠ T := fun b u e => Nat.ne_of_lt (Nat.lt_of_lt_of_le (I.hok.lt e) hT)
  have nT' : ∀ b u, s.heap.get? b = some u → b ≠ T := fun b u e => Nat.ne_of_lt (Nat.lt_of_lt_of_le (Heap.lt_size e) hT)
  refine I.step (g' := s.gens) (d' := s.drawn) (ch := fp) (fun b hb => ?_) (fun b u _ _ hc e _ => k b u hc e) (fun b u _ _ hc e _ => ⟨u.slots, k b u hc e⟩) (fun b u _ e n => by rw [upd_ne (nT' b u e)]; exact n)
    (fun b u hc e => ⟨u, k b u hc e⟩) (fun b xs e => by rw [upd_ne (nT b _ e)]; exact e) (fun b u v e => by rw [upd_ne (nT b _ e)]; exact e) (fun b cr e => by rw [upd_ne (nT b _ e)]; exact e) (fun m hm => ?_) (fun b u e => ?_) I.bare
  · obtain ⟨f0, f1, f2, f3, f4, f5⟩ := hf b hb
    exact ⟨f3, f1, f4, f5⟩
  · obtain ⟨ob, es, ep, ho, r⟩ := hm
    exact ⟨ob, es, ep, k _ ob (fun z => (hf _ z).2.1 rfl) ho, r⟩
  · by_cases hb : b = T
    · subst hb; rw [upd_same] at e; cases e; exact new
    · rw [upd_ne hb] at e
      refine (I.hok b u e).stay (fun c v hc q => k c v ?_ q) (fun c q => by rw [upd_ne (nT c _ q)]; exact q) (fun c xs q => by rw [upd_ne (nT c _ q)]; exact q) fun c o u q => by rw [upd_ne (nT c _ q)]; exact q
      rcases hc with z | z
      · rw [z]; exact nfp b u e
      · exact nfp c _ z
theorem Inv.turns {t' : Nat} {fp : List Addr} (I : Inv X pins σ H s) (k : ∀ b u, b ∉ fp → s.heap.get? b = some u → h'.get? b = some u) (hf : ∀ b ∈ fp, FpOk X pins H b) : Inv X pins σ H { s with heap := h', toks := t' } := by
  have nfp : ∀ b u, H b = some u → b ∉ fp := fun b u e z => by rw [(hf b z).1] at e; cases e
  refine I.step (g' := s.gens) (d' := s.drawn) (ch := fp) (fun b hb => ?_) (fun b u _ _ hc e _ => k b u hc e) (fun b u _ _ hc e _ => ⟨u.slots, k b u hc e⟩) (fun b u _ e n => n)
    (fun b u hc e => ⟨u, k b u hc e⟩) (fun b xs e => e) (fun b u v e => e) (fun _ _ e => e) (fun m hm => ?_) (fun b u e => ?_) I.bare
  · obtain ⟨f0, f1, f2, f3, f4, f5⟩ := hf b hb
    exact ⟨f3, f1, f4, f5⟩
  · obtain ⟨ob, es, ep, ho, r⟩ := hm
    exact ⟨ob, es, ep, k _ ob (fun z => (hf _ z).2.1 rfl) ho, r⟩
  · refine (I.hok b u e).stay (fun c v hc q => k c v ?_ q) (fun c q => q) (fun c xs q => q) fun c o u q => q
    rcases hc with z | z
    · rw [z]; exact nfp b u e
    · exact nfp c _ z
end
section
variable {prog : Program} {w : World} {A : Around} {E : Value → Shared → Prop} {s : Shared}
end
def IteL (K : PySem.W.Frag) (a : Addr) : It :=
  ⟨fun i H => ∃ xs x, SqL K H a xs ∧ xs[i]? = some x, fun i H v H' => ∃ p x, H p = none ∧ v = .ref p ∧ H' = upd H p (.tup [.int i, x]) ∧ ∀ xs, SqL K H a xs → xs[i]? = some x, fun i H => ∃ xs, SqL K H a xs ∧ xs.length ≤ i⟩
theorem cls_ne {h : Heap} {a b : Addr} {o u : Obj} (e : h.get? a = some o) (e' : h.get? b = some u) (n : o.cls ≠ u.cls) : a ≠ b := by
  rintro rfl; rw [e] at e'; cases e'; exact n rfl
theorem turn_enumL {P : Program} {w : World} {K : PySem.W.Frag} {elts : List Expr} {tk : Nat} {tpos : Pos} (a e it : Addr) : Turn P w K (.Tuple elts tk tpos) (IteL K a) [e, it] e (fun i h => (∃ old, IsEnum h e it i old) ∧ h.IsListIter it a i) where
  mem := by simp
  obj := fun i h st b hb => by
    obtain ⟨⟨old, he⟩, o, ho, hc, hd⟩ := st
    rcases List.mem_cons.mp hb with rfl | hb
    · exact ⟨_, he, fun v z => by cases z⟩
    · have eb : b = it := by simpa using hb
      subst eb
      exact ⟨o, ho, fun v z => by rw [hd] at z; cases z⟩
  keep := fun i h h' st k => by
    obtain ⟨⟨old, he⟩, o, ho, r⟩ := st
    exact ⟨⟨old, k e (by simp) _ he⟩, o, k it (by simp) o ho, r⟩
  item := by
    intro X hP hw hK hc i pins s σ H E I hf st hg
    subst hP hw hK
    obtain ⟨xs, x, hq, hx⟩ := hg
    obtain ⟨its, rv, pl, hz⟩ := I.list hq
    obtain ⟨u, hu, ru⟩ := rv.get hx
    obtain ⟨⟨old, he⟩, hit⟩ := st
    obtain ⟨oi, hoi, hci, hdi⟩ := id hit
    have p : s.heap.IsList a its.toArray := pl.isList
    obtain ⟨ot, hot, hct, nt, hdt⟩ := id p
    have hei : e ≠ it := cls_ne he hoi (by rw [hci]; show Value.type "enumerate" ≠ Value.type "list_iterator"; decide)
    have hea : e ≠ a := cls_ne he hot (by rw [hct]; show Value.type "enumerate" ≠ Value.type "list"; decide)
    have hai : a ≠ it := cls_ne hot hoi (by rw [hci, hct]; decide)
    have hlt : i < its.toArray.size := by
      have := (List.getElem?_eq_some_iff.mp hu).1
      simpa using this
    refine wpAny_pyNext_enum_itemD (Draws.list (show X.A.in1.handled = none from I.ok.hd hc) it a hai its.toArray) he ⟨hit, p⟩ hlt hei (by simp [hei, hea]) fun x' h' tk' hP ho hs' hT hsz hk => ?_
    have ex : x' = u := by
      have hP' : its.toArray[i]? = some x' := hP
      have : its[i]? = some x' := by simpa using hP'
      rw [hu] at this; exact (Option.some.inj this).symm
    subst ex
    refine ⟨_, rfl, wpAny_letOwnedTupleGo_enum ho fun h2 he2 hs2 => ?_⟩
    have het : e ≠ s.heap.objs.size := Nat.ne_of_lt (Heap.lt_size he)
    have new : ObjOk X.prog X.w (upd H s.heap.objs.size (.tup [.int i, x])) h2 s.heap.objs.size (.tup [.int i, x]) :=
      ⟨by show 2 ≤ sizeLine; decide, [.int i tk', x'], .cons ⟨tk', rfl⟩ (.cons ru .nil), ⟨_, (hs2.2 _ (Ne.symm het)).trans hT, rfl, _, rfl⟩, _, (hs2.2 _ (Ne.symm het)).trans hT, rfl⟩
    have kk : ∀ b o, b ∉ [e, it] → s.heap.get? b = some o → h2.get? b = some o := fun b o hb q => by
      have h1 : b ≠ e := fun z => hb (by simp [z])
      have h2' : b ≠ it := fun z => hb (by simp [z])
      exact (hs2.2 b h1).trans (hk b o h1 h2' q)
    have fresh := I.hok.fresh (Nat.le_refl s.heap.objs.size)
    refine ⟨.ref s.heap.objs.size, _, I.turnsNew (t' := tk' + 1) kk hf (Nat.le_refl _) new, rfl, ⟨_, x, fresh, rfl, rfl, fun ys hy => by rw [I.list_inj hy hq]; exact hx⟩, ⟨⟨_, he2⟩, ?_⟩, fun b hb => ?_⟩
    · obtain ⟨o3, g1, g2, g3⟩ := hs'.1
      exact ⟨o3, (hs2.2 it (Ne.symm hei)).trans g1, g2, g3⟩
    · have hb' : b ≠ s.heap.objs.size := by
        rcases List.mem_cons.mp hb with rfl | hb
        · exact het
        · rw [List.mem_singleton.mp hb]; exact Nat.ne_of_lt (Heap.lt_size hoi)
      rw [upd_ne hb']; exact (hf b hb).1
  done := by
    intro X hP hw hK hc i pins s σ H E I hf st hg
    subst hP hw hK
    obtain ⟨xs, hq, hx⟩ := hg
    obtain ⟨its, rv, pl, hz⟩ := I.list hq
    obtain ⟨⟨old, he⟩, hit⟩ := st
    have p : s.heap.IsList a its.toArray := pl.isList
    have hl := rv.length
    unfold pyNext
    have hTy : s.TypeIs (.ref e) "enumerate" := ⟨_, he, rfl⟩
    refine wpAny_bind (wpAny_attempt (wpAny_callSpecial?_slot (name := Str.ofString "__next__") hTy F.slot_enumerate_next (wpAny_call_entry F.slot_enumerate_next hTy F.entry_enumerate_next ?_ (F.args_enumerate_next_1 _))))
    show wpAny (model X.prog X.w) X.A.in1 (field (.ref e) 2 >>= _) _ _ s
    refine wpAny_bind (wpAny_field he rfl (x := .ref it) rfl (wpAny_bind (wpAny_nextOf_list_end (I.ok.hd hc) hit p (by simp; omega) fun h' y g1 g2 => ?_)))
    obtain ⟨o, ho, hcl⟩ := g2
    refine wpAny_bind (wpAny_isInstance (T := "StopIteration") (b := true) ⟨o, ho, hcl⟩ isSubtype_stop (wpAny_pure ?_))
    exact ⟨rfl, I.turns (t' := s.toks) (fun b u hb q => g1 b u (fun z => hb (by simp [z])) q) hf⟩
  self := fun _ _ _ _ _ st h => by
    obtain ⟨⟨old, he⟩, _⟩ := st
    exact wpAny_pyIter_enum he h
section
variable {prog : Program} {w : World} {A : Around} {E : Value → Shared → Prop} {s : Shared}
end
section
variable {X : Cx}
def iEnL (K : PySem.W.Frag) (ta : TA) : TI := fun σ H R => ta σ H fun vs H1 => ∃ a, vs = [.ref a] ∧ (∃ xs, SqL K H1 a xs) ∧ R (IteL K a) H1
theorem boot_enum : bootBuiltins "enumerate" = some (.type "enumerate") := by decide +kernel
theorem pi_enumL {a : Expr} {ta : TA} {p pos : Pos} {elts : List Expr} {tk : Nat} {tpos : Pos} (hg : Gl X "enumerate") (hm : X.mg "enumerate" = none) (ha : PA X [a] ta) (hs : starEach [a] X.env = [(false, eval a X.env)] := by rfl) : PI X (.Tuple elts tk tpos) (.Call (.Name "enumerate" p) [a] [] pos) (iEnL X.K ta) := by
  intro pins s σ H R I h
  refine Call_ (ld_blt I hg hm boot_enum (PyProof.Rows.callWith_type1 (thn (ha pos pins s σ H _ I h) fun us s1 ⟨vs, H1, I1, r1, q1⟩ => ?_) hs rfl))
  obtain ⟨l, e, ⟨xs, hq⟩, q⟩ := q1
  subst e
  obtain ⟨u, rfl, r⟩ := Vals.one r1
  cases (show u = Value.ref l from r)
  obtain ⟨its, rv, pt, hz⟩ := I1.list hq
  refine call_enumerate_list pt.isList fun h' he hi _ hk => ?_
  refine wpAny_pyIter_enum he ⟨s1.heap.objs.size + 1, [s1.heap.objs.size + 1, s1.heap.objs.size], _, _, H1, rfl, I1.kept (t' := s1.toks) hk, turn_enumL l _ _, ⟨⟨_, he⟩, hi⟩, fun b hb => ?_, q⟩
  have hb' : s1.heap.objs.size ≤ b := by
    rcases List.mem_cons.mp hb with rfl | hb
    · exact Nat.le_succ _
    · rw [List.mem_singleton.mp hb]; exact Nat.le_refl _
  exact I1.fpOk hb' (I1.hok.fresh hb')
end
end L2
set_option maxHeartbeats 4000000
namespace L2
open PySem PySem.Spec PyProof.Rows
section
variable {X : Cx}
def rSlS : V → Option Int → Option Int → Hp → VK → Prop := fun x lo hi H Q => ∃ a, x = .str a ∧ a.length ≤ sizeLine ∧ Q (.str (Txt.slice a lo hi)) H
theorem part_of {v : Value} {o : Option Int} (p : IsPart v o) : ∃ q : Option (Int × Tok), v = partValue q ∧ q.map (·.1) = o := by
  cases p with
  | none => exact ⟨none, rfl, rfl⟩
  | int i t => exact ⟨some (i, t), rfl, rfl⟩
theorem sl_str : SlR X rSlS := by
  intro pins s σ H x v vl vu lo hi sl Q I rx hs pl pu h
  obtain ⟨a, rfl, hz, q⟩ := h
  obtain ⟨t, rfl⟩ := rx
  obtain ⟨l, rfl, rfl⟩ := part_of pl
  obtain ⟨u, rfl, rfl⟩ := part_of pu
  obtain ⟨ob, ho, hc, hd⟩ := hs
  exact ⟨"str", _, F.slot_str_getitem.lookup, typeIs_str _ _ _, wpAny_getItem_str_slice (l := l) (u := u) (st := none) ⟨ob, ho, hc, hd⟩ rfl
    (post_val_or_str ⟨Nat.le_trans (Txt.slice_le a _ _) hz, fun t' k => ⟨.str (Txt.slice a (l.map (·.1)) (u.map (·.1))), H, I.tok _, ⟨_, rfl⟩, q⟩⟩)⟩
theorem vals_strs : ∀ (l : List (Str × Tok)), Vals (l.map fun p => V.str p.1) (strValues l)
  | [] => .nil
  | _ :: r => .cons ⟨_, rfl⟩ (vals_strs r)
def rSplit : V → List V → Hp → VK → Prop := fun x vs H Q => ∃ a c, x = .str a ∧ vs = [.str ⟨#[c]⟩] ∧ a.length + 2 ≤ sizeLine ∧ ∀ l, H l = none → Q (.ref l) (upd H l (.lst ((Txt.split a ⟨#[c]⟩).map V.str)))
theorem parts_few (a y : Str) : (Builtin.Str.partsBetween a (Builtin.Str.occurrences a y 0 a.length (a.length + 1)) y.length).length ≤ a.length + 2 := by
  have h := PySem.StrLaws.occ_length_le a y 0 a.length (a.length + 1)
  unfold Builtin.Str.partsBetween
  simp only [List.length_map, List.length_zip, List.length_cons, List.length_append, List.length_nil]
  omega
theorem mt_split : MtR X "str.split" rSplit := by
  intro pins s σ H x vs v us Q I rx rv h
  obtain ⟨a, c, rfl, rfl, hz, q⟩ := h
  obtain ⟨t, rfl⟩ := rx
  obtain ⟨w1, rfl, u, rfl⟩ := rv.one
  have hx : a.length ≤ sizeLine := by omega
  have hn : (Builtin.Str.partsBetween a (Builtin.Str.occurrences a ⟨#[c]⟩ 0 a.length (a.length + 1)) (⟨#[c]⟩ : Str).length).length ≤ sizeLine := Nat.le_trans (parts_few a _) hz
  have fin : ∀ (l : List (Str × Tok)) (k : Nat), l.map (·.1) = Txt.split a ⟨#[c]⟩ → l.length ≤ sizeLine → EP X pins σ Q (.ref s.heap.objs.size) { s with toks := k, heap := s.heap.push { cls := .type "list", data := .seq (strValues l).toArray } } := fun l k e hl => by
    have ev : (Txt.split a ⟨#[c]⟩).map V.str = l.map fun p => V.str p.1 := by rw [← e, List.map_map]; rfl
    refine ⟨.ref s.heap.objs.size, _, I.laid (t' := k) (o := .lst ((Txt.split a ⟨#[c]⟩).map V.str)) (fun b ob z => Heap.get?_push_of_some _ z) (Nat.le_refl _) ?_, rfl, q _ (I.hok.fresh (Nat.le_refl _))⟩
    refine ⟨by rw [ev, List.length_map]; exact hl, strValues l, 0, by rw [ev]; exact vals_strs l, Heap.get?_push_size _ rfl⟩
  have hy : ((⟨#[c]⟩ : Str).length == 0) = false := rfl
  cases hk : (decide (a.length < (⟨#[c]⟩ : Str).length) || decide (Builtin.Str.strKind a < Builtin.Str.strKind ⟨#[c]⟩))
  · cases hf : (Builtin.Str.occurrences a ⟨#[c]⟩ 0 a.length (a.length + 1)).isEmpty
    · refine call_meets F.slot_str_split (typeIs_str _ _ _) F.entry_str_split (F.args_str_split_2 _ _) (meets_str_split_sep a ⟨#[c]⟩ t u hk hy hf hx hn) ?_
      show wants (EP X pins σ Q) X.xe _ { s with toks := _, heap := s.heap.push { cls := .type "list", data := .seq (strsFrom s.toks _).toArray } }
      rw [strsFrom_eq]
      refine fin (numbered s.toks _) _ ((numbered_texts _ _).trans ((if_neg (ne_true_of_eq_false hk)).trans (if_neg (ne_true_of_eq_false hf))).symm) ?_
      have := congrArg List.length (numbered_texts s.toks (Builtin.Str.partsBetween a (Builtin.Str.occurrences a ⟨#[c]⟩ 0 a.length (a.length + 1)) (⟨#[c]⟩ : Str).length))
      rw [List.length_map] at this
      rw [this]
      exact hn
    · exact call_meets F.slot_str_split (typeIs_str _ _ _) F.entry_str_split (F.args_str_split_2 _ _) (meets_str_split_not_found a ⟨#[c]⟩ t u hk hy hf)
        (fin [(a, t)] s.toks ((if_neg (ne_true_of_eq_false hk)).trans (if_pos hf)).symm (by show 1 ≤ sizeLine; decide))
  · exact call_meets F.slot_str_split (typeIs_str _ _ _) F.entry_str_split (F.args_str_split_2 _ _) (meets_str_split_cannot_occur a ⟨#[c]⟩ t u hk)
      (fin [(a, t)] s.toks (if_pos hk).symm (by show 1 ≤ sizeLine; decide))
theorem strsAre_of {ys : List Str} : ∀ {us : List Value}, Vals (ys.map V.str) us → StrsAre us ys := by
  induction ys with
  | nil => intro us r; rw [List.map_nil] at r; cases r; exact .nil
  | cons n ns ih =>
    intro us r
    rw [List.map_cons] at r
    cases r with
    | cons r1 r2 =>
      obtain ⟨t, e⟩ := r1
      subst e
      exact .cons n t (ih r2)
theorem mt_join {K : PySem.W.Frag} (hK : X.K = K) : MtR X "str.join" (fun x vs H Q => ∃ (a : Str) (p : Addr) (ys : List Str), x = .str a ∧ vs = [.ref p] ∧ SqL K H p (ys.map V.str) ∧ (ys.map (·.length)).sum + ys.length * a.length ≤ 16777216 ∧ Q (.str (Txt.join a ys)) H) := by
  subst hK
  intro pins s σ H x vs v us Q I rx rv h
  obtain ⟨a, p, ys, rfl, rfl, hq, hz, q⟩ := h
  obtain ⟨t, rfl⟩ := rx
  obtain ⟨w1, rfl, r1⟩ := rv.one
  cases r1
  obtain ⟨its, r2, pl, _⟩ := I.list hq
  exact join_list (plainIs pl) (strsAre_of r2) hz fun t' k => ⟨.str (Txt.join a ys), H, I.tok _, ⟨_, rfl⟩, q⟩
end
end L2
set_option maxHeartbeats 4000000
namespace L2
open PySem PySem.Spec PyProof.Rows
section
variable {X : Cx} {tg : Expr}
end
section
variable {X : Cx} {tg : Expr}
end
section
variable {prog : Program} {w : World} {A : Around} {E : Value → Shared → Prop} {s : Shared}
variable {I : Addr} {fp wr : List Addr} {G : Array GenState → Array GenState → Prop} {n : Nat} {P : Nat → Value → Prop} {St : Nat → Shared → Prop}
end
section
variable {X : Cx}
theorem boot_rev : bootBuiltins "reversed" = some (.type "reversed") := by decide +kernel
theorem boot_lst : bootBuiltins "list" = some (.type "list") := by decide +kernel
end
end L2
set_option maxHeartbeats 4000000
namespace L2
open PySem PySem.Spec PyProof.Rows
theorem SqL.upd {K : PySem.W.Frag} {H : Hp} {a b : Addr} {xs : List V} {o : HO} (h : SqL K H a xs) (n : a ≠ b) : SqL K (upd H b o) a xs := by
  rcases h with (h | ⟨u, h⟩) | h
  · exact .inl (.inl (by rw [upd_ne n]; exact h))
  · exact .inl (.inr ⟨u, by rw [upd_ne n]; exact h⟩)
  · exact .inr h
theorem SqT.upd {K : PySem.W.Frag} {H : Hp} {a b : Addr} {xs : List V} {o : HO} (h : SqT K H a xs) (n : a ≠ b) : SqT K (upd H b o) a xs := by
  rcases h with (h | ⟨u, h⟩) | h
  · exact .inl (.inl (by rw [upd_ne n]; exact h))
  · exact .inl (.inr ⟨u, by rw [upd_ne n]; exact h⟩)
  · exact .inr h
section
variable {X : Cx} {K : PySem.W.Frag}
theorem ix_tupK (e : X.K = K) : IxR X (rIxT K) := by subst e; exact ix_tup
theorem ix_listK (e : X.K = K) : IxR X (rIxL K) := by subst e; exact ix_list
theorem sl_listK (e : X.K = K) : SlR X (rSlL K) := by subst e; exact sl_list
theorem op_eqDK (e : X.K = K) (hu : X.A.units + 64 < cLine) : OpR X (compareOp .Eq) (rEqD K fun b => b) := by subst e; exact op_eqD hu
theorem op_neDK (e : X.K = K) (hu : X.A.units + 64 < cLine) : OpR X (compareOp .NotEq) (rEqD K fun b => !b) := by subst e; exact op_neD hu
theorem call_lenK (e : X.K = K) : CallR X (.builtin "len") (fun xs H Q => ∃ p ys, xs = [.ref p] ∧ (SqL K H p ys ∨ SqT K H p ys) ∧ Q (.int ys.length) H) := by subst e; exact call_len_seq
theorem op_catTK (e : X.K = K) : OpR X (binaryOp .Add) (rCatT K) := by subst e; exact op_catT
theorem call_tupleK (e : X.K = K) : CallR X (.type "tuple") (fun xs H Q => ∃ p ys, xs = [.ref p] ∧ ((SqL K H p ys ∧ ∀ l, H l = none → Q (.ref l) (upd H l (.tup ys))) ∨ (SqT K H p ys ∧ Q (.ref p) H))) := by subst e; exact call_tuple_of
end
theorem st_BinOp {a : Expr} {op : Operator} {b : Expr} {p : Pos} {es : List Expr} {env : Env} : starEach (.BinOp a op b p :: es) env = (false, eval (.BinOp a op b p) env) :: starEach es env := rfl
theorem st_UnaryOp {op : UnaryOp} {a : Expr} {p : Pos} {es : List Expr} {env : Env} : starEach (.UnaryOp op a p :: es) env = (false, eval (.UnaryOp op a p) env) :: starEach es env := rfl
theorem st_Compare {a : Expr} {ops : List CmpOp} {cs : List Expr} {p : Pos} {es : List Expr} {env : Env} : starEach (.Compare a ops cs p :: es) env = (false, eval (.Compare a ops cs p) env) :: starEach es env := rfl
theorem st_Call {f : Expr} {as : List Expr} {kw : List Keyword} {p : Pos} {es : List Expr} {env : Env} : starEach (.Call f as kw p :: es) env = (false, eval (.Call f as kw p) env) :: starEach es env := rfl
theorem st_Constant {c : Const} {k : Nat} {p : Pos} {es : List Expr} {env : Env} : starEach (.Constant c k p :: es) env = (false, eval (.Constant c k p) env) :: starEach es env := rfl
theorem st_Subscript {a b : Expr} {p : Pos} {es : List Expr} {env : Env} : starEach (.Subscript a b p :: es) env = (false, eval (.Subscript a b p) env) :: starEach es env := rfl
theorem st_Name {n : Str} {p : Pos} {es : List Expr} {env : Env} : starEach (.Name n p :: es) env = (false, eval (.Name n p) env) :: starEach es env := rfl
theorem st_List {as : List Expr} {p : Pos} {es : List Expr} {env : Env} : starEach (.List as p :: es) env = (false, eval (.List as p) env) :: starEach es env := rfl
theorem st_Tuple {as : List Expr} {k : Nat} {p : Pos} {es : List Expr} {env : Env} : starEach (.Tuple as k p :: es) env = (false, eval (.Tuple as k p) env) :: starEach es env := rfl
section
variable {X : Cx}
end
def tyN : PyData → String
  | .none => "NoneType"
  | .bool _ => "bool"
  | .int _ => "int"
  | .str _ => "str"
  | .list _ => "list"
  | .tuple _ => "tuple"
  | .dict _ => "dict"
def rIsD (K : PySem.W.Frag) : List V → Hp → VK → Prop := fun xs H Q => ∃ G x d n b, xs = [x, .ty n] ∧ Same G H ∧ Dat K G x d ∧ PySem.W.kitOne K (.type (tyN d)) (.type n) = some b ∧ Q (.bl b) H
theorem call_isD {X : Cx} {K : PySem.W.Frag} (eK : X.K = K) : CallR X (.builtin "isinstance") (rIsD K) := by
  subst eK
  intro pins s σ H xs us Q I r h
  obtain ⟨G, x, d, n, b, rfl, sg, hd, e, q⟩ := h
  obtain ⟨u, w', rfl, rx, ry⟩ := vals2 r
  cases (show w' = Value.type n from ry)
  have fin : ∀ tk, EP X pins σ Q (.bool b) { s with toks := tk } := fun tk => ⟨.bl b, H, I.tok _, rfl, q⟩
  cases d with
  | none => rw [hd.non] at rx; exact isinst_ok I rx .non e fin
  | bool y => rw [hd.bl] at rx; exact isinst_ok I rx (.bl y) e fin
  | int i => rw [hd.int] at rx; exact isinst_ok I rx (.int i) e fin
  | str y => rw [hd.str] at rx; exact isinst_ok I rx (.str y) e fin
  | list ds =>
    obtain ⟨p, ys, rfl, hp, _⟩ := hd.lst
    cases (show u = Value.ref p from rx)
    obtain ⟨its, _, ⟨o, n', e1, c, _⟩, _⟩ := I.list (SqL.of (sg _ _ hp))
    exact PySem.W.kia_one PySem.W.kitx_list I.kIn ⟨o, e1, c⟩ e (fun z => nomatch z) fin
  | tuple ds =>
    obtain ⟨p, ys, rfl, hp, _⟩ := hd.tup
    cases (show u = Value.ref p from rx)
    obtain ⟨its, _, ⟨o, e1, c, _⟩, _⟩ := I.tuple (sg.tup hp)
    exact PySem.W.kia_one PySem.W.kitx_tuple I.kIn ⟨o, e1, c⟩ e (fun z => nomatch z) fin
  | dict _ => unfold Dat at hd; exact hd.elim
theorem ev_isD {K : PySem.W.Frag} {σ : St} {G : Hp} {ta : TE} {d : PyData} {n : String} {b : Bool} (ha : Ev K ta σ G d) (e : PySem.W.kitOne K (.type (tyN d)) (.type n) = some b) : Ev K (tCB (rIsD K) (tCons ta (tCons (tC (.ty n)) tNil))) σ G (.bool b) :=
  fun G1 H s1 s2 Q k => ha G1 H s1 s2 _ fun x G2 H2 g2 hx => ⟨G2, x, d, n, b, rfl, g2.gh, hx, e, k _ G2 H2 g2 (dat_bl b)⟩
section
variable {X : Cx}
end
end L2
set_option maxHeartbeats 4000000
namespace L2
open PySem PySem.Spec PyProof.Rows
def litC : Const → Option PyData
  | .int i => some (.int i)
  | .str x => some (.str x)
  | .bool b => some (.bool b)
  | .none => some .none
  | _ => none
def lits (f : Expr → Option PyData) : Nat → List Expr → Option (List PyData)
  | _, [] => some []
  | 0, _ :: _ => none
  | k + 1, e :: es => match f e with
    | some d => match lits f k es with
      | some ds => some (d :: ds)
      | none => none
    | none => none
def litD : Nat → Expr → Option PyData
  | 0, _ => none
  | n + 1, e => match e with
    | .Constant c _ _ => litC c
    | .List es _ => match lits (litD n) 60 es with
      | some ds => some (.list ds)
      | none => none
    | .Tuple es _ _ => match lits (litD n) 60 es with
      | some ds => some (.tuple ds)
      | none => none
    | _ => none
theorem lits_len {f : Expr → Option PyData} : ∀ {k : Nat} {es : List Expr} {ds : List PyData}, lits f k es = some ds → ds.length ≤ k
  | _, [], _, h => by unfold lits at h; cases h; exact Nat.zero_le _
  | 0, _ :: _, _, h => by unfold lits at h; cases h
  | k + 1, e :: es, ds, h => by
    unfold lits at h
    cases h1 : f e with
    | none => rw [h1] at h; cases h
    | some d =>
      rw [h1] at h
      cases h2 : lits f k es with
      | none => rw [h2] at h; cases h
      | some ds' =>
        rw [h2] at h; cases h
        have := lits_len h2
        show ds'.length + 1 ≤ k + 1
        omega
def tLit (K : PySem.W.Frag) (d : PyData) : TE := fun _ H Q => ∃ G, Same G H ∧ ∀ v G' H', Grow G H G' H' → Dat K G' v d → Q v H'
def tLits (K : PySem.W.Frag) (ds : List PyData) : TA := fun _ H Q => ∃ G, Same G H ∧ ∀ vs G' H', Grow G H G' H' → Dats K G' vs ds → Q vs H'
section
variable {X : Cx}
theorem PE.imp {e : Expr} {t t' : TE} (h : PE X e t) (i : ∀ σ H Q, t' σ H Q → t σ H Q) : PE X e t' := fun pins s σ H Q I q => h pins s σ H Q I (i σ H Q q)
theorem PA.imp {es : List Expr} {t t' : TA} (h : PA X es t) (i : ∀ σ H Q, t' σ H Q → t σ H Q) : PA X es t' := fun pos pins s σ H Q I q => h pos pins s σ H Q I (i σ H Q q)
theorem litD_star {n : Nat} {e : Expr} {d : PyData} (h : litD n e = some d) (es : List Expr) (env : Env) : starEach (e :: es) env = (false, eval e env) :: starEach es env := by
  cases n with
  | zero => cases h
  | succ n =>
    cases e with
    | Constant c k p => exact st_Constant
    | List as p => exact st_List
    | Tuple as k p => exact st_Tuple
    | _ => cases h
theorem litD_swaps {n : Nat} {e : Expr} {d : PyData} (h : litD n e = some d) {t : Option Expr} {l : Nat} {env : Env} : swapsWith e t l env = pure false := by
  cases n with
  | zero => cases h
  | succ n =>
    cases e with
    | Constant c k p => rfl
    | List as p => rfl
    | Tuple as k p => rfl
    | _ => cases h
theorem pa_lits {n : Nat} (ih : ∀ e d, litD n e = some d → PE X e (tLit X.K d)) : ∀ (k : Nat) (es : List Expr) (ds : List PyData), lits (litD n) k es = some ds → PA X es (tLits X.K ds)
  | _, [], ds, h => by
    unfold lits at h; cases h
    exact PA.imp pa_nil fun σ H Q ⟨G, s, k⟩ => k [] G H (Grow.refl s) dats_nil
  | 0, _ :: _, _, h => by unfold lits at h; cases h
  | k + 1, e :: es, ds, h => by
    unfold lits at h
    cases h1 : litD n e with
    | none => rw [h1] at h; cases h
    | some d =>
      rw [h1] at h
      cases h2 : lits (litD n) k es with
      | none => rw [h2] at h; cases h
      | some ds' =>
        rw [h2] at h
        cases h
        refine PA.imp (pa_cons (ih e d h1) (pa_lits ih k es ds' h2) (litD_star h1 es X.env)) fun σ H Q ⟨G, s, k⟩ => ?_
        exact ⟨G, s, fun v G1 H1 g1 hv => ⟨G1, g1.gh, fun vs G2 H2 g2 hvs => k (v :: vs) G2 H2 (g1.trans g2) (dats_cons (hv.same g2.gg) hvs)⟩⟩
theorem pe_litn : ∀ (n : Nat) (e : Expr) (d : PyData), litD n e = some d → PE X e (tLit X.K d)
  | 0, _, _, h => by cases h
  | n + 1, e, d, h => by
    have z : (60 : Nat) ≤ sizeLine := by decide
    cases e with
    | Constant c k p =>
      have h' : litC c = some d := h
      cases c with
      | int i => cases h'; exact PE.imp pe_int fun σ H Q ⟨G, s, k⟩ => k _ G H (Grow.refl s) (dat_int i)
      | str x => cases h'; exact PE.imp pe_str fun σ H Q ⟨G, s, k⟩ => k _ G H (Grow.refl s) (dat_str x)
      | bool b => cases h'; exact PE.imp pe_bl fun σ H Q ⟨G, s, k⟩ => k _ G H (Grow.refl s) (dat_bl b)
      | none => cases h'; exact PE.imp pe_non fun σ H Q ⟨G, s, k⟩ => k _ G H (Grow.refl s) dat_non
      | _ => cases h'
    | List as p =>
      have h' : (match lits (litD n) 60 as with | some ds => some (PyData.list ds) | none => none) = some d := h
      cases h1 : lits (litD n) 60 as with
      | none => rw [h1] at h'; cases h'
      | some ds =>
        rw [h1] at h'
        cases h'
        have hl := lits_len h1
        refine PE.imp (pe_lst (pa_lits (pe_litn n) 60 as ds h1)) fun σ H Q ⟨G, s, k⟩ => ⟨G, s, fun vs G1 H1 g1 hv => ⟨by rw [hv.length]; omega, fun p hp => ?_⟩⟩
        have g := grow_new (o := .lst vs) g1.gh hp
        exact k _ _ _ (g1.trans g) (dat_lst upd_same (hv.same g.gg))
    | Tuple as kk p =>
      have h' : (match lits (litD n) 60 as with | some ds => some (PyData.tuple ds) | none => none) = some d := h
      cases h1 : lits (litD n) 60 as with
      | none => rw [h1] at h'; cases h'
      | some ds =>
        rw [h1] at h'
        cases h'
        have hl := lits_len h1
        refine PE.imp (pe_tup (pa_lits (pe_litn n) 60 as ds h1)) fun σ H Q ⟨G, s, k⟩ => ⟨G, s, fun vs G1 H1 g1 hv => ⟨by rw [hv.length]; omega, fun p hp => ?_⟩⟩
        have g := grow_new (o := .tup vs) g1.gh hp
        exact k _ _ _ (g1.trans g) (dat_tup (SqT.of upd_same) (hv.same g.gg))
    | _ => cases h
theorem pe_lit {e : Expr} {d : PyData} (h : litD 6 e = some d) : PE X e (tLit X.K d) := pe_litn 6 e d h
theorem ev_lit {K : PySem.W.Frag} {σ : St} {G : Hp} {d : PyData} : Ev K (tLit K d) σ G d := fun G1 H s1 s2 Q k => ⟨G1, s2, k⟩
end
end L2
set_option maxHeartbeats 4000000
namespace L2
open PySem PySem.Spec PyProof.Rows
def pickV {α : Type} (xs : List α) (lo hi st : Option Int) : List α :=
  (sliceRange (sliceBounds lo hi st xs.length).1 (sliceBounds lo hi st xs.length).2.1 (sliceBounds lo hi st xs.length).2.2).filterMap (xs[·]?)
theorem vals_pick {xs : List V} {us : List Value} (r : Vals xs us) : ∀ is : List Nat, Vals (is.filterMap (xs[·]?)) (is.filterMap (us[·]?))
  | [] => .nil
  | i :: is => by
    rw [List.filterMap_cons, List.filterMap_cons]
    cases h : xs[i]? with
    | none => rw [r.none_of h]; exact vals_pick r is
    | some x =>
      obtain ⟨u, hu, ru⟩ := r.get h
      rw [hu]; exact .cons ru (vals_pick r is)
section
variable {X : Cx} {e st : Expr} {lo hi : Option Expr} {te : TE} {tl th ts : TO} {p2 pos : Pos}
def tSl3 (K : PySem.W.Frag) (te : TE) (tl th ts : TO) : TE := fun σ H Q => te σ H fun x H1 => tl σ H1 fun l H2 => th σ H2 fun u H3 => ts σ H3 fun c H4 => ∃ a xs, x = .ref a ∧ SqL K H4 a xs ∧ c ≠ some 0 ∧ (pickV xs l u c).length ≤ sizeLine ∧ ∀ p, H4 p = none → Q (.ref p) (upd H4 p (.lst (pickV xs l u c)))
theorem pe_slice3 (he : PE X e te) (hl : PO X lo tl) (hu : PO X hi th) (hst : PO X (some st) ts) : PE X (.Subscript e (.Slice lo hi (some st) p2) pos) (tSl3 X.K te tl th ts) := by
  intro pins s σ H Q I h
  refine Subscript_ (thn (he pins s σ H _ I h) fun v s1 ⟨x, H1, I1, r1, q1⟩ => ?_)
  refine wpAny_Slice (thn (hl pins s1 σ H1 _ I1 q1) fun vl s2 ⟨l, H2, I2, pl, q2⟩ => thn (hu pins s2 σ H2 _ I2 q2) fun vu s3 ⟨u, H3, I3, pu, q3⟩ => thn (hst pins s3 σ H3 _ I3 q3) fun vs s4 ⟨c, H4, I4, ps, q4⟩ => ?_)
  obtain ⟨a, xs, rfl, hx, hc, hz', q⟩ := q4
  cases r1
  have I5 : Inv X pins σ H4 { s4 with heap := s4.heap.push { cls := .type "slice", data := .fields #[vl, vu, vs] } } := I4.kept (t' := s4.toks) fun b ob q => Heap.get?_push_of_some _ q
  obtain ⟨its, r, ht, hz⟩ := I5.list hx
  have hlen := r.length
  refine tail_any (ops := [.ref a, .ref s4.heap.objs.size]) (T := "list") ht.isList.typeIs slot_list_getitem.lookup ?_ (by with_unfolding_all rfl)
  refine wpAny_getItem_list_slice ht.isList (Heap.IsSliceOf.new ..) pl pu ps hc ?_ (by rw [List.size_toArray] <;> omega)
  have e1 : slicePick its.toArray l u c = (pickV its l u c).toArray := by
    unfold slicePick pickV
    simp only [List.size_toArray, List.getElem?_toArray]
  rw [e1]
  have rv : Vals (pickV xs l u c) (pickV its l u c) := by
    unfold pickV; rw [hlen]; exact vals_pick r _
  refine ⟨.ref _, _, I5.laid (t' := s4.toks) (o := .lst (pickV xs l u c)) (fun b ob q => Heap.get?_push_of_some _ q) (Nat.le_refl _) ⟨hz', _, 0, rv, Heap.get?_push_size _ rfl⟩, rfl, q _ ?_⟩
  exact I5.hok.fresh (Nat.le_refl _)
end
end L2
namespace Frac
theorem gcd_step (a b : Int) (hb : 0 < b) : Int.gcd b (a % b) = Int.gcd a b := by
  rw [Int.gcd_comm a b]
  have h : a % b = a - b * (a / b) := by
    have := Int.emod_add_mul_ediv a b
    omega
  rw [h, show a - b * (a / b) = a + b * (-(a / b)) by rw [Int.mul_neg]; omega]
  exact Int.gcd_add_mul_left_right b a (-(a / b))
theorem gcd_zero (a : Int) (ha : 0 ≤ a) : (Int.gcd a 0 : Int) = a := by
  rw [Int.gcd_zero_right]; omega
def norm (a b : Int) : Int × Int := if b < 0 then ((-a) / (Int.gcd a b : Int), (-b) / (Int.gcd a b : Int)) else (a / (Int.gcd a b : Int), b / (Int.gcd a b : Int))
theorem gpos {a b : Int} (hb : b ≠ 0) : (0 : Int) < (Int.gcd a b : Int) := by
  have := Int.gcd_pos_of_ne_zero_right a hb
  omega
theorem dvd_l (a b : Int) : (Int.gcd a b : Int) ∣ a := Int.gcd_dvd_left a b
theorem dvd_r (a b : Int) : (Int.gcd a b : Int) ∣ b := Int.gcd_dvd_right a b
theorem norm_flip (a b : Int) (hb : b < 0) : norm a b = norm (-a) (-b) := by
  unfold norm
  rw [if_pos hb, if_neg (by omega), Int.gcd_neg, Int.neg_gcd]
theorem norm_pos (a b : Int) (hb : 0 < b) : norm a b = (a / (Int.gcd a b : Int), b / (Int.gcd a b : Int)) := by
  unfold norm; rw [if_neg (by omega)]
theorem norm_ok (a b : Int) (hb : b ≠ 0) : 1 ≤ (norm a b).2 ∧ (norm a b).1 * b = a * (norm a b).2 ∧ Int.gcd (norm a b).1 (norm a b).2 = 1 := by
  have main : ∀ a b : Int, 0 < b → 1 ≤ (norm a b).2 ∧ (norm a b).1 * b = a * (norm a b).2 ∧ Int.gcd (norm a b).1 (norm a b).2 = 1 := fun a b hb => by
    have hg := gpos (a := a) (show b ≠ 0 by omega)
    rw [norm_pos a b hb]
    obtain ⟨x, hx⟩ := dvd_l a b
    obtain ⟨y, hy⟩ := dvd_r a b
    have e1 : a / (Int.gcd a b : Int) = x := by
      conv => lhs; lhs; rw [hx]
      exact Int.mul_ediv_cancel_left _ (by omega)
    have e2 : b / (Int.gcd a b : Int) = y := by
      conv => lhs; lhs; rw [hy]
      exact Int.mul_ediv_cancel_left _ (by omega)
    have hy0 : 0 < y := by
      rw [hy] at hb
      exact Int.pos_of_mul_pos_right hb (by omega) |> fun h => h
    refine ⟨?_, ?_, ?_⟩
    · show 1 ≤ b / _
      rw [e2]; omega
    · show a / _ * b = a * (b / _)
      rw [e1, e2]
      conv => lhs; rw [hy]
      conv => rhs; rw [hx]
      rw [← Int.mul_assoc, Int.mul_comm x, Int.mul_assoc]
    · show Int.gcd (a / _) (b / _) = 1
      exact Int.gcd_ediv_gcd_ediv_gcd (by omega)
  by_cases h : 0 < b
  · exact main a b h
  · have h' : b < 0 := by omega
    obtain ⟨h1, h2, h3⟩ := main (-a) (-b) (by omega)
    rw [norm_flip a b h']
    refine ⟨h1, ?_, h3⟩
    rw [Int.mul_neg, Int.neg_mul] at h2
    omega
theorem norm_size (a b : Int) (hb : b ≠ 0) : (norm a b).1.natAbs ≤ a.natAbs ∧ (norm a b).2.natAbs ≤ b.natAbs := by
  have hg := gpos (a := a) hb
  have key : ∀ x : Int, (x / (Int.gcd a b : Int)).natAbs ≤ x.natAbs := fun x => by
    have h := Int.natAbs_ediv_le_natAbs x (Int.gcd a b : Int)
    exact h
  unfold norm
  split
  · exact ⟨by have := key (-a); rw [Int.natAbs_neg] at this; exact this, by have := key (-b); rw [Int.natAbs_neg] at this; exact this⟩
  · exact ⟨key a, key b⟩
end Frac
namespace Frac
def cmp (a b : Int × Int) : Int := if a.1 * b.2 < b.1 * a.2 then -1 else if a.1 * b.2 > b.1 * a.2 then 1 else 0
structure Lst (a : Int × Int) : Prop where
  pos : 1 ≤ a.2
  one : Int.gcd a.1 a.2 = 1
theorem norm_lst (a b : Int) (hb : b ≠ 0) : Lst (norm a b) := ⟨(norm_ok a b hb).1, (norm_ok a b hb).2.2⟩
end Frac
set_option maxHeartbeats 4000000
namespace Dig
open PySem PySem.NumText
def dig (m : Nat) : List Nat := (Nat.toDigits 10 m).map Char.toNat
def pk : Nat → Nat → List Nat
  | 0, _ => []
  | k + 1, r => pk k (r / 10) ++ [48 + r % 10]
structure Fig (cs : List Nat) : Prop where
  dg : AllDigits cs
  ne : cs ≠ []
  hd : ∀ r, cs = 48 :: r → r = []
end Dig
set_option maxHeartbeats 4000000
namespace Dig
open PySem PySem.NumText PySem.Builtin.Str
theorem len_codes (x : Str) : x.length = x.cps.toList.length := by simp [Str.length]
theorem slice_codes (x : Str) {a b : Nat} (hab : a ≤ b) (hb : b ≤ x.length) : (Txt.slice x (some (a : Int)) (some (b : Int))).cps.toList = (x.cps.toList.drop a).take (b - a) := by
  unfold Txt.slice
  split
  · rename_i h
    rw [PySem.StrLaws.strSliceIndices_plain hab hb] at h
    have h' : b - a = x.length := by simpa using h
    have ha : a = 0 := by omega
    subst ha
    rw [len_codes] at h'
    rw [List.drop_zero, List.take_of_length_le (by omega)]
  · show (List.toArray _).toList = _
    rw [PySem.StrLaws.sliced_plain x hab hb]
theorem slice_lo (x : Str) (b : Int) : Txt.slice x none (some b) = Txt.slice x (some ((0 : Nat) : Int)) (some b) := by
  have e : strSliceIndices none (some b) 1 x.length = strSliceIndices (some ((0 : Nat) : Int)) (some b) 1 x.length := by
    unfold strSliceIndices
    have h1 : max (0 : Int) (min ((0 : Nat) : Int) (x.length : Int)) = 0 := by omega
    have h2 : ¬ (((0 : Nat) : Int) < 0) := by omega
    simp only [h1, h2, show ((1 : Int) > 0) = True from by simp, if_true, if_false]
  unfold Txt.slice
  rw [e]
theorem slice_hi (x : Str) (a : Int) : Txt.slice x (some a) none = Txt.slice x (some a) (some ((x.length : Nat) : Int)) := by
  have e : strSliceIndices (some a) none 1 x.length = strSliceIndices (some a) (some ((x.length : Nat) : Int)) 1 x.length := by
    unfold strSliceIndices
    have h1 : ¬ ((x.length : Nat) : Int) < 0 := by omega
    have h2 : max (0 : Int) (min ((x.length : Nat) : Int) ((x.length : Nat) : Int)) = ((x.length : Nat) : Int) := by omega
    simp only [h1, h2, show ((1 : Int) > 0) = True from by simp, if_true, if_false]
  unfold Txt.slice
  rw [e]
theorem join_codes : ∀ ys : List Str, (Txt.join ⟨#[]⟩ ys).cps.toList = (ys.map fun y => y.cps.toList).flatten := by
  intro ys
  unfold Txt.join
  rw [PySem.StrLaws.glued_eq_join]
  induction ys with
  | nil => rfl
  | cons y r ih =>
    cases r with
    | nil => simp [Str.join]
    | cons z q =>
      have e : Str.join ⟨#[]⟩ (y :: z :: q) = y ++ ⟨#[]⟩ ++ Str.join ⟨#[]⟩ (z :: q) := rfl
      rw [e, PySem.Str.cps_append, PySem.Str.cps_append]
      simp only [Array.toList_append, ih, List.map_cons, List.flatten_cons]
      simp
end Dig
set_option maxHeartbeats 4000000
namespace Dig
open PySem PySem.NumText PySem.Builtin.Str
def J : List (List Nat) → List Nat
  | [] => []
  | [a] => a
  | a :: b :: r => a ++ 47 :: J (b :: r)
def tp (x : Int) : List Nat := if x < 0 then 45 :: dig x.natAbs else dig x.natAbs
def nt (a : Int × Int) : List Nat := tp a.1 ++ (if a.2 = 1 then [] else 47 :: dig a.2.natAbs)
end Dig
namespace Frac
theorem cmp_tri (a b : Int × Int) : (cmp a b = -1 ∧ a.1 * b.2 < b.1 * a.2) ∨ (cmp a b = 0 ∧ a.1 * b.2 = b.1 * a.2) ∨ (cmp a b = 1 ∧ a.1 * b.2 > b.1 * a.2) := by
  unfold cmp
  split
  · exact .inl ⟨rfl, by assumption⟩
  · split
    · exact .inr (.inr ⟨rfl, by assumption⟩)
    · exact .inr (.inl ⟨rfl, by omega⟩)
theorem cmp_lead {a b c : Int × Int} (ha : 1 ≤ a.2) (hb : 1 ≤ b.2) (hc : 1 ≤ c.2) (h1 : cmp a b < 1) (h2 : cmp b c < 1) : cmp a c = if cmp b c < cmp a b then cmp b c else cmp a b := by
  have l1 : a.1 * b.2 ≤ b.1 * a.2 := by rcases cmp_tri a b with ⟨e, h⟩ | ⟨e, h⟩ | ⟨e, h⟩ <;> omega
  have l2 : b.1 * c.2 ≤ c.1 * b.2 := by rcases cmp_tri b c with ⟨e, h⟩ | ⟨e, h⟩ | ⟨e, h⟩ <;> omega
  have m1 := Int.mul_le_mul_of_nonneg_right l1 (show 0 ≤ c.2 by omega)
  have m2 := Int.mul_le_mul_of_nonneg_right l2 (show 0 ≤ a.2 by omega)
  have e1 : a.1 * b.2 * c.2 = b.2 * (a.1 * c.2) := by ac_rfl
  have e2 : b.1 * a.2 * c.2 = b.1 * c.2 * a.2 := by ac_rfl
  have e3 : c.1 * b.2 * a.2 = b.2 * (c.1 * a.2) := by ac_rfl
  rw [e1, e2] at m1
  rw [e3] at m2
  have hbp : 0 < b.2 := by omega
  have lt1 : a.1 * b.2 < b.1 * a.2 → b.2 * (a.1 * c.2) < b.1 * c.2 * a.2 := fun h => by
    have := Int.mul_lt_mul_of_pos_right h (show 0 < c.2 by omega)
    rw [e1, e2] at this; exact this
  have lt2 : b.1 * c.2 < c.1 * b.2 → b.1 * c.2 * a.2 < b.2 * (c.1 * a.2) := fun h => by
    have := Int.mul_lt_mul_of_pos_right h (show 0 < a.2 by omega)
    rw [e3] at this; exact this
  have back : b.2 * (a.1 * c.2) < b.2 * (c.1 * a.2) → a.1 * c.2 < c.1 * a.2 := fun h => Int.lt_of_mul_lt_mul_left h (by omega)
  have backE : b.2 * (a.1 * c.2) = b.2 * (c.1 * a.2) → a.1 * c.2 = c.1 * a.2 := fun h => Int.eq_of_mul_eq_mul_left (by omega) h
  rcases cmp_tri a b with ⟨x1, y1⟩ | ⟨x1, y1⟩ | ⟨x1, y1⟩
  · have := lt1 y1
    have l := back (by omega)
    rcases cmp_tri a c with ⟨x3, y3⟩ | ⟨x3, y3⟩ | ⟨x3, y3⟩
    · rw [x3, x1]; rcases cmp_tri b c with ⟨x2, _⟩ | ⟨x2, _⟩ | ⟨x2, _⟩ <;> rw [x2] <;> first | decide | omega
    · omega
    · omega
  · rcases cmp_tri b c with ⟨x2, y2⟩ | ⟨x2, y2⟩ | ⟨x2, y2⟩
    · have := lt2 y2
      have l := back (by omega)
      rcases cmp_tri a c with ⟨x3, y3⟩ | ⟨x3, y3⟩ | ⟨x3, y3⟩
      · rw [x3, x1, x2]; decide
      · omega
      · omega
    · have q1 : a.1 * b.2 * c.2 = b.1 * a.2 * c.2 := by rw [y1]
      have q2 : b.1 * c.2 * a.2 = c.1 * b.2 * a.2 := by rw [y2]
      rw [e1, e2] at q1
      rw [e3] at q2
      have l := backE (by omega)
      rcases cmp_tri a c with ⟨x3, y3⟩ | ⟨x3, y3⟩ | ⟨x3, y3⟩
      · omega
      · rw [x3, x1, x2]; decide
      · omega
    · omega
  · omega
end Frac
set_option maxHeartbeats 4000000
namespace Lw
open PySem L2 Frac
theorem bIsi : bootBuiltins "isinstance" = some (.builtin "isinstance") := by decide +kernel
theorem bTup : bootBuiltins "tuple" = some (.type "tuple") := by decide +kernel
theorem bMax : bootBuiltins "max" = some (.builtin "max") := by decide +kernel
theorem bSum : bootBuiltins "sum" = some (.builtin "sum") := by decide +kernel
theorem w0 {i : Int} (h : i.natAbs < 10 ^ 100) : i.natAbs < 2 ^ 4000 := Nat.lt_of_lt_of_le h (by decide +kernel)
theorem mw {i j : Int} (h : i.natAbs < 10 ^ 100) (h' : j.natAbs < 10 ^ 100) : CMulW i j := ⟨w0 h, w0 h'⟩
theorem mulb {i j : Int} {a b : Nat} (h : i.natAbs ≤ a) (h' : j.natAbs ≤ b) : (i * j).natAbs ≤ a * b := by
  rw [Int.natAbs_mul]; exact Nat.mul_le_mul h h'
structure DeckAt (H : Hp) (d c : Addr) : Prop where
  ex : ∃ (k : Int) (ns : List Int), H d = some (.lst [.ref c, .int k]) ∧ H c = some (.lst (ns.map V.int)) ∧ 1 ≤ ns.length ∧ ns.length ≤ 64 ∧ 0 ≤ k
def KeptBut (d c : Addr) (H H' : Hp) : Prop := ∀ b o, H b = some o → b ≠ d → b ≠ c → H' b = some o
theorem KeptBut.refl (d c : Addr) (H : Hp) : KeptBut d c H H := fun _ _ e _ _ => e
theorem KeptBut.trans {d c : Addr} {H H1 H2 : Hp} (a : KeptBut d c H H1) (b : KeptBut d c H1 H2) : KeptBut d c H H2 := fun x o e h1 h2 => b x o (a x o e h1 h2) h1 h2
theorem Same.but {d c : Addr} {H H' : Hp} (h : Same H H') : KeptBut d c H H' := fun b o e _ _ => h b o e
theorem DeckAt.same {H H' : Hp} {d c : Addr} (D : DeckAt H d c) (h : Same H H') : DeckAt H' d c := by
  obtain ⟨k, ns, h1, h2, r⟩ := D.ex
  exact ⟨k, ns, h _ _ h1, h _ _ h2, r⟩
theorem DeckAt.new {H : Hp} {d c p : Addr} {o : HO} (D : DeckAt H d c) (hp : H p = none) : DeckAt (upd H p o) d c := by
  refine D.same fun b u e => ?_
  rw [upd_ne (ne_of_none e hp)]; exact e
theorem same_new {H : Hp} {p : Addr} {o : HO} (hp : H p = none) : Same H (upd H p o) := fun b u e => by
  rw [upd_ne (ne_of_none e hp)]; exact e
theorem DeckAt.ne {H : Hp} {d c : Addr} (D : DeckAt H d c) : d ≠ c := by
  obtain ⟨k, ns, h1, h2, r⟩ := D.ex
  refine ne_of h1 h2 fun z => ?_
  have z' : [V.ref c, V.int k] = ns.map V.int := by injection z
  cases ns with
  | nil => cases z'
  | cons n r => injection z' with z1 _; cases z1
theorem DeckAt.free {H : Hp} {d c p : Addr} (D : DeckAt H d c) (hp : H p = none) : p ≠ d ∧ p ≠ c := by
  obtain ⟨k, ns, h1, h2, r⟩ := D.ex
  exact ⟨Ne.symm (ne_of_none h1 hp), Ne.symm (ne_of_none h2 hp)⟩
theorem atI_ints {ns : List Int} {i : Int} (h0 : 0 ≤ i) (h1 : i < ns.length) : ∃ z j, atI (ns.map V.int) i = some (V.int z) ∧ ixN (ns.map V.int).length i = some j ∧ j < ns.length := by
  have hj : i.toNat < ns.length := by omega
  have e : i = (i.toNat : Int) := by omega
  refine ⟨ns[i.toNat], i.toNat, ?_, ?_, hj⟩
  · have q := atI_nat (xs := ns.map V.int) (j := i.toNat) (v := V.int ns[i.toNat]) (by rw [List.getElem?_map, List.getElem?_eq_getElem hj]; rfl)
    rw [← e] at q
    exact q
  · unfold ixN
    rw [if_pos h0, if_pos (by rw [List.length_map]; exact h1)]
theorem at0 {x : V} {xs : List V} : atI (x :: xs) 0 = some x := atI_nat (xs := x :: xs) (j := 0) rfl
theorem set_ints (ns : List Int) (j : Nat) (z : Int) : (ns.map V.int).set j (V.int z) = (ns.set j z).map V.int := by rw [List.map_set]
theorem cut63 {ns : List Int} (h : ns.length ≤ 63) : cutV (ns.map V.int) none (some 63) = ns.map V.int := by
  unfold cutV
  have e1 : HT.sIx (ns.map V.int).length 0 none = 0 := rfl
  have e2 : HT.sIx (ns.map V.int).length (ns.map V.int).length (some (63 : Int)) = ns.length := by
    have := HT.sIx_nat (ns.map V.int).length (ns.map V.int).length 63
    rw [List.length_map] at this ⊢
    rw [show ((63 : Nat) : Int) = 63 from rfl] at this
    rw [this]; omega
  rw [e1, e2, List.drop_zero, Nat.sub_zero]
  exact List.take_of_length_le (by rw [List.length_map]; exact Nat.le_refl _)
def spTake : Sp := fun vs H Q _ => ∃ (d c : Addr) (many : Int), vs = [.ref d, .int many] ∧ DeckAt H d c ∧ (1 ≤ many ∧ many.natAbs < 10 ^ 100) ∧
  ∀ (r : Int) (H' : Hp), 0 ≤ r → r < many → DeckAt H' d c → KeptBut d c H H' → Q (.int r) H'
def spDeck (K : PySem.W.Frag) : Sp := fun vs H Q _ => ∃ (a : Addr) (ns : List Int), vs = [.ref a] ∧ SqL K H a (ns.map V.int) ∧ ns.length ≤ 63 ∧
  ∀ (d c : Addr) (H' : Hp), DeckAt H' d c → H d = none → H c = none → Same H H' → Q (.ref d) H'
def spCommon : Sp := fun vs H Q _ => ∃ a b : Int, vs = [.int a, .int b] ∧ 0 ≤ a ∧ 0 ≤ b ∧ Q (.int (Int.gcd a b)) H
def spLeast : Sp := fun vs H Q _ => ∃ a b : Int, vs = [.int a, .int b] ∧ b ≠ 0 ∧ (a.natAbs < 10 ^ 100 ∧ b.natAbs < 10 ^ 100) ∧
  ∀ p, H p = none → Q (.ref p) (upd H p (.tup [.int (norm a b).1, .int (norm a b).2]))
def spWhole : Sp := fun vs H Q _ => ∃ (d c : Addr), vs = [.ref d] ∧ DeckAt H d c ∧
  ∀ (r : Int) (H' : Hp), 0 ≤ r → r < 10 ^ 20 → DeckAt H' d c → KeptBut d c H H' → Q (.int r) H'
def spNumber : Sp := fun vs H Q _ => ∃ (d c : Addr), vs = [.ref d] ∧ DeckAt H d c ∧
  ∀ (x y : Int) (p : Addr) (H' : Hp), 1 ≤ y → Int.gcd x y = 1 → x.natAbs < 10 ^ 20 → y.natAbs ≤ 10 ^ 20 → H p = none → H' p = some (.tup [.int x, .int y]) → DeckAt H' d c → KeptBut d c H H' → Q (.ref p) H'
end Lw
set_option maxHeartbeats 4000000
namespace L2
open PySem PySem.Spec PyProof.Rows
section
variable {X : Cx}
theorem mt_index : MtR X "str.index" (fun x vs H Q => ∃ a b, x = .str a ∧ vs = [.str b] ∧ Txt.contains a b = true ∧ Q (.int (Txt.find a b)) H) := by
  intro pins s σ H x vs v us Q I rx rv h
  obtain ⟨a, b, rfl, rfl, hc, q⟩ := h
  obtain ⟨t, rfl⟩ := rx
  obtain ⟨w1, rfl, u, rfl⟩ := rv.one
  cases ho : Builtin.Str.occurrences a b 0 a.length 1 with
  | nil => simp [Txt.contains, ho] at hc
  | cons i rest =>
    have e : Txt.find a b = (i : Int) := by simp [Txt.find, ho]
    rw [e] at q
    exact SC.index ho ⟨.int i, H, I.tok _, ⟨_, rfl⟩, q⟩
end
end L2
set_option maxHeartbeats 4000000
namespace Nm
open PySem L2 Lw Dig
abbrev letters : Str := Str.ofString "abcdefghijklmnopqrstuvwxyz"
abbrev wordsS : Str := Str.ofString "like up down then turn pick same both either not and or under is"
def wordsL : List Str := Txt.split wordsS ⟨#[32]⟩
theorem wordsL_eq : wordsL = ["like", "up", "down", "then", "turn", "pick", "same", "both", "either", "not", "and", "or", "under", "is"].map Str.ofString := by decide +kernel
theorem sp32 : (Str.ofString " " : Str) = ⟨#[32]⟩ := by decide +kernel
theorem em' : (Str.ofString "" : Str) = ⟨#[]⟩ := by decide +kernel
def Low (cs : List Nat) : Prop := ∀ c ∈ cs, 97 ≤ c ∧ c ≤ 122
theorem Low.app {a b : List Nat} (h : Low a) (h' : Low b) : Low (a ++ b) := fun c m => (List.mem_append.mp m).elim (h c) (h' c)
theorem Low.take {a : List Nat} (h : Low a) (n : Nat) : Low (a.take n) := fun c m => h c (List.mem_of_mem_take m)
theorem Low.drop {a : List Nat} (h : Low a) (n : Nat) : Low (a.drop n) := fun c m => h c (List.mem_of_mem_drop m)
theorem Low.one {c : Nat} (h : 97 ≤ c ∧ c ≤ 122) : Low [c] := fun d m => by
  have : d = c := by simpa using m
  subst this; exact h
structure IsName (x : Str) : Prop where
  ne : 1 ≤ x.cps.toList.length
  le : x.cps.toList.length ≤ 8
  low : Low x.cps.toList
  now : x ∉ wordsL
theorem let_codes : letters.cps.toList = (List.range 26).map (97 + ·) := by decide +kernel
theorem let_len : letters.length = 26 := by decide +kernel
theorem let_at {i : Int} (h0 : 0 ≤ i) (h1 : i < 26) : atI letters.cps.toList i = some (97 + i.toNat) := by
  have e : i = (i.toNat : Int) := by omega
  have q := atI_nat (xs := letters.cps.toList) (j := i.toNat) (v := 97 + i.toNat) (by
    rw [let_codes, List.getElem?_map, List.getElem?_range (by omega)]; rfl)
  rw [← e] at q
  exact q
theorem let_in26 : ∀ k : Fin 26, Txt.contains letters ⟨#[97 + k.val]⟩ = true := by decide +kernel
theorem let_in {c : Nat} (h : 97 ≤ c ∧ c ≤ 122) : Txt.contains letters ⟨#[c]⟩ = true := by
  have := let_in26 ⟨c - 97, by omega⟩
  rw [show 97 + (c - 97) = c by omega] at this
  exact this
theorem join_ones (cs : List Nat) : (Txt.join ⟨#[]⟩ (cs.map fun c => (⟨#[c]⟩ : Str))).cps.toList = cs := by
  rw [join_codes, List.map_map]
  induction cs with
  | nil => rfl
  | cons c r ih => rw [List.map_cons, List.flatten_cons, ih]; rfl
theorem sum_ones (cs : List Nat) : ((cs.map fun c => (⟨#[c]⟩ : Str)).map (·.length)).sum = cs.length := by
  induction cs with
  | nil => rfl
  | cons c r ih => rw [List.map_cons, List.map_cons, List.sum_cons, ih, List.length_cons]; show 1 + _ = _; omega
theorem inV_strs (x : Str) (xs : List Str) : inV (.str x) (xs.map V.str) = decide (x ∈ xs) := by
  unfold inV
  induction xs with
  | nil => simp
  | cons y r ih =>
    rw [List.map_cons, List.any_cons, ih]
    by_cases h : y = x
    · subst h
      simp [eqV]
    · have h2 : ¬ x = y := fun e => h e.symm
      simp [eqV, h, h2]
theorem flat_strs (xs : List Str) : (xs.map V.str).all flatV = true := by
  rw [List.all_eq_true]
  intro v m
  obtain ⟨s, _, rfl⟩ := List.mem_map.mp m
  rfl
theorem zz_codes : (Str.ofString "zz" : Str).cps.toList = [122, 122] := by decide +kernel
theorem zz_no : ∀ x ∈ wordsL, x.cps.toList.take 2 ≠ [122, 122] := by decide +kernel
theorem zz_name {x y : Str} (h : y.cps.toList = 122 :: 122 :: x.cps.toList.take 6) (l : Low x.cps.toList) : IsName y := by
  refine ⟨by rw [h]; simp, by rw [h]; simp only [List.length_cons, List.length_take]; omega, ?_, fun m => zz_no y m (by rw [h]; rfl)⟩
  rw [h]
  exact Low.app (a := [122, 122]) (fun c m => by simp at m; omega) (l.take 6)
theorem slice_over (x : Str) {b : Nat} (h : x.length ≤ b) : Txt.slice x none (some (b : Int)) = Txt.slice x none (some ((x.length : Nat) : Int)) := by
  have e : Builtin.Str.strSliceIndices none (some (b : Int)) 1 x.length = Builtin.Str.strSliceIndices none (some ((x.length : Nat) : Int)) 1 x.length := by
    unfold Builtin.Str.strSliceIndices
    have h1 : ¬ ((x.length : Nat) : Int) < 0 := by omega
    have h2 : ¬ (b : Int) < 0 := by omega
    have h3 : max (0 : Int) (min ((x.length : Nat) : Int) ((x.length : Nat) : Int)) = ((x.length : Nat) : Int) := by omega
    have h4 : max (0 : Int) (min (b : Int) ((x.length : Nat) : Int)) = ((x.length : Nat) : Int) := by omega
    simp only [h1, h2, h3, h4, show ((1 : Int) > 0) = True from by simp, if_true, if_false]
  unfold Txt.slice
  rw [e]
theorem slice_to (x : Str) (b : Nat) : (Txt.slice x none (some (b : Int))).cps.toList = x.cps.toList.take b := by
  rcases Nat.le_total b x.length with h | h
  · rw [slice_lo, slice_codes x (a := 0) (b := b) (by omega) h]; simp
  · rw [slice_over x h, slice_lo, slice_codes x (a := 0) (b := x.length) (by omega) (Nat.le_refl _), len_codes] 
    rw [len_codes] at h
    rw [List.drop_zero, Nat.sub_zero, List.take_of_length_le (Nat.le_refl _), List.take_of_length_le h]
theorem KeptBut.free {d c p : Addr} {H H' : Hp} (k : KeptBut d c H H') (D : DeckAt H' d c) (h : H' p = none) : H p = none := by
  cases e : H p with
  | none => rfl
  | some o =>
    have f := D.free h
    have := k p o e f.1 f.2
    rw [h] at this
    cases this
theorem DeckAt.upd {d c p : Addr} {H : Hp} {o : HO} (D : DeckAt H d c) (h1 : p ≠ d) (h2 : p ≠ c) : DeckAt (L2.upd H p o) d c := by
  obtain ⟨k, ns, a1, a2, r⟩ := D.ex
  exact ⟨k, ns, by rw [upd_ne (Ne.symm h1)]; exact a1, by rw [upd_ne (Ne.symm h2)]; exact a2, r⟩
def spBook : Sp := fun vs H Q _ => ∃ (d c : Addr), vs = [.ref d] ∧ DeckAt H d c ∧
  ∀ (xs : List Str) (p : Addr) (H' : Hp), 1 ≤ xs.length → xs.length ≤ 4 → (∀ x ∈ xs, IsName x) → H p = none → H' p = some (.tup (xs.map V.str)) → DeckAt H' d c → KeptBut d c H H' → Q (.ref p) H'
end Nm
namespace Ord
open PySem
abbrev S (x : String) : Str := Str.ofString x
def optsOf (want : Str) : List (List Str) :=
  if want = S "order" then [[S "like"], [S "up", S "field"], [S "down", S "field"], [S "then", S "order", S "order"], [S "turn", S "order"], [S "pick", S "case", S "order", S "order"]]
  else if want = S "case" then [[S "same", S "field"], [S "both", S "mark"], [S "either", S "mark"], [S "not", S "case"], [S "and", S "case", S "case"], [S "or", S "case", S "case"]]
  else [[S "under", S "field", S "number"], [S "is", S "field", S "number"]]
def roomOf (w : Str) : Int := if w = S "case" then 2 else if w = S "mark" then 3 else 1
def rooms (ws : List Str) : Int := (ws.map roomOf).sum
theorem roomOf_ge (w : Str) : 1 ≤ roomOf w ∧ roomOf w ≤ 3 := by unfold roomOf; split <;> (try split) <;> omega
theorem rooms_cons (w : Str) (ws : List Str) : rooms (w :: ws) = roomOf w + rooms ws := rfl
theorem rooms_app (a b : List Str) : rooms (a ++ b) = rooms a + rooms b := by unfold rooms; rw [List.map_append, List.sum_append]
theorem rooms_rev (a : List Str) : rooms a.reverse = rooms a := by
  induction a with
  | nil => rfl
  | cons x r ih => rw [List.reverse_cons, rooms_app, ih, rooms_cons x r]; show rooms r + (roomOf x + 0) = _; omega
theorem rooms_ge (ws : List Str) : (ws.length : Int) ≤ rooms ws := by
  induction ws with
  | nil => simp [rooms]
  | cons w r ih => rw [rooms_cons, List.length_cons]; have := roomOf_ge w; omega
inductive Wd where
  | t (x : Str)
  | n (a b : Int)
def Wd.d : Wd → PyData
  | .t x => .str x
  | .n a b => .tuple [.int a, .int b]
inductive Step (fld : Str → Prop) (num : Int → Int → Prop) : List Str → Wd → List Str → Prop
  | field {x : Str} {st : List Str} : fld x → Step fld num (S "field" :: st) (.t x) st
  | number {a b : Int} {st : List Str} : num a b → Step fld num (S "number" :: st) (.n a b) st
  | word {want x : Str} {ps st : List Str} : want ≠ S "field" → want ≠ S "number" → (x :: ps) ∈ optsOf want → Step fld num (want :: st) (.t x) (ps ++ st)
inductive Run (fld : Str → Prop) (num : Int → Int → Prop) : List Str → List Wd → List Str → Prop
  | nil {st : List Str} : Run fld num st [] st
  | cons {st st1 st2 : List Str} {w : Wd} {ws : List Wd} : Step fld num st w st1 → Run fld num st1 ws st2 → Run fld num st (w :: ws) st2
theorem Run.snoc {fld : Str → Prop} {num : Int → Int → Prop} {st st1 st2 : List Str} {ws : List Wd} {w : Wd} (h : Run fld num st ws st1) (s : Step fld num st1 w st2) : Run fld num st (ws ++ [w]) st2 := by
  induction h with
  | nil => exact .cons s .nil
  | cons a _ ih => exact .cons a (ih s)
def IsOrd (fld : Str → Prop) (num : Int → Int → Prop) (ws : List Wd) : Prop := Run fld num [S "order"] ws []
theorem opts_small (want : Str) (h : want = S "order" ∨ want = S "case" ∨ want = S "mark") : ∃ o ∈ optsOf want, 1 + rooms (o.drop 1) ≤ roomOf want := by
  rcases h with rfl | rfl | rfl
  · exact ⟨[S "like"], by decide +kernel, by decide +kernel⟩
  · exact ⟨[S "same", S "field"], by decide +kernel, by decide +kernel⟩
  · exact ⟨[S "under", S "field", S "number"], by decide +kernel, by decide +kernel⟩
theorem opts_form (want : Str) : ∀ o ∈ optsOf want, ∃ x ps, o = x :: ps ∧ ps.length ≤ 3 ∧ ∀ p ∈ ps, p = S "order" ∨ p = S "case" ∨ p = S "mark" ∨ p = S "field" ∨ p = S "number" := by
  unfold optsOf
  intro o ho
  have : o.length ≤ 4 ∧ o ≠ [] ∧ ∀ p ∈ o.drop 1, p = S "order" ∨ p = S "case" ∨ p = S "mark" ∨ p = S "field" ∨ p = S "number" := by
    split at ho
    · revert o; decide +kernel
    · split at ho
      · revert o; decide +kernel
      · revert o; decide +kernel
  cases o with
  | nil => exact absurd rfl this.2.1
  | cons x ps => exact ⟨x, ps, rfl, by have := this.1; simp at this; omega, this.2.2⟩
end Ord
set_option maxHeartbeats 4000000
namespace L2
open PySem PySem.Spec PyProof.Rows
section
variable {X : Cx} {pins : List (Addr × Obj)} {σ : St} {H G : Hp} {s : Shared}
open Classical in
end
section
variable {prog : Program} {w : World} {A : Around} {E : Value → Shared → Prop} {s : Shared}
end
end L2
set_option maxHeartbeats 4000000
namespace L2
open PySem PySem.Spec PyProof.Rows
structure DictK (K : PySem.W.Frag) (P : Params) (a : Addr) (g : Str → Option (V × Value)) : Prop where
  ex : ∃ (es : Array DictEntry) (n : Nat), K.lookup a = some ⟨.type "dict", none, .dict es n, #[]⟩ ∧ PySem.W.KeysLit P es.toList
  lo : (a == sysModules) = false
  at_ : ∀ x, PySem.W.nsIn K a x = some ((g x).map (·.2))
  rel : ∀ x v u, g x = some (v, u) → RelV v u
section
variable {X : Cx}
theorem op_inK : OpR X (compareOp .In) (fun x y H Q => ∃ z a g, x = .str z ∧ y = .ref a ∧ DictK X.K X.w.params a g ∧ Q (.bl (g z).isSome) H) := by
  intro pins s σ H x y v u Q I rx ry h
  obtain ⟨z, a, g, rfl, rfl, D, q⟩ := h
  obtain ⟨t, rfl⟩ := rx
  cases ry
  obtain ⟨es, n, hl, hk⟩ := D.ex
  obtain ⟨m, F⟩ := I.fr
  refine PySem.W.topIn_K F I.mod.kin hl hk (D.at_ z) D.lo ⟨.bl _, H, I.tok _, rfl, ?_⟩
  rw [Option.isSome_map]; exact q
theorem ix_dictK : IxR X (fun x y H Q => ∃ z a g v u, x = .ref a ∧ y = .str z ∧ DictK X.K X.w.params a g ∧ g z = some (v, u) ∧ Q v H) := by
  intro value slice pins s σ H x y v u Q I rx ry h hs
  obtain ⟨z, a, g, v', u', rfl, rfl, D, e, q⟩ := h
  cases rx
  obtain ⟨t, rfl⟩ := ry
  obtain ⟨es, n, hl, hk⟩ := D.ex
  obtain ⟨m, F⟩ := I.fr
  exact PySem.W.topItem_K F I.mod.kin hl hk (by rw [D.at_ z, e]; rfl) ⟨v', H, I.tok _, D.rel z v' u' e, q⟩ hs
end
end L2
set_option maxHeartbeats 4000000
namespace L2
open PySem PySem.Spec PyProof.Rows
theorem norev_tup : typeLookup (.type "tuple") "__reversed__" = pure none := by rw [typeLookup_type, builtinLookup_eq_fast]; kernel_rfl
theorem get_tup : typeLookup (.type "tuple") "__getitem__" = pure (some (.builtin "tuple.__getitem__")) := by rw [typeLookup_type, builtinLookup_eq_fast]; kernel_rfl
theorem nodict_tup : isSubtype (.type "tuple") (.type "dict") = pure false := by rw [isSubtype_type]; kernel_rfl
theorem rev_new_meets (t : Addr) (items : Array Value) (n : Nat) (dct : Option Addr) (sl : Array (Option Value)) (hsz : items.size ≤ sizeLine) :
    Meets (Builtin.«reversed.__new__» ⟨[.type "reversed", .ref t], []⟩) (fun _ R s => s.heap.get? t = some { cls := .type "tuple", dict := dct, data := .seq items n, slots := sl } ∧
      R (.ok (.ret (Value.ref s.heap.objs.size))) { s with heap := s.heap.push { cls := .type "reversed", data := .fields #[.ref t, rawInt ((items.size : Int) - 1)] }, toks := s.toks + 1 + 1 }) :=
  .of_wp fun prog w A R s h => by
    obtain ⟨hp, g, d, tk, os⟩ := s; obtain ⟨q1, h⟩ := h
    have hT : Shared.TypeIs ⟨hp, g, d, tk, os⟩ (.ref t) "tuple" := ⟨_, q1, rfl⟩
    unfold Builtin.«reversed.__new__»
    refine wpAny_bind (wpAny_of_eq (newClass_reversed _) ?_)
    try dsimp only
    refine wpAny_bind (wpAny_of_eq (a := ()) (by first | rfl | kernel_rfl) ?_)
    refine wpAny_bind (wpAny_of_eq (a := ()) (by first | rfl | kernel_rfl) ?_)
    try dsimp only
    refine wpAny_bind (wpAny_specialOf hT norev_tup ?_)
    try dsimp only
    have hz : IsTup hp t items := ⟨_, q1, rfl, n, rfl⟩
    have z62 : sizeLine < 2 ^ 62 := by decide
    have hf : (items.size : Int) < 2 ^ 63 := by omega
    wp_walk using wpAny_isInstance (b := false) hT nodict_tup, wpAny_specialOf hT get_tup, len_tuple (s := ⟨hp, g, d, tk, os⟩) hz hf
    exact ⟨_, rfl, h⟩
theorem rev_init : Slot "reversed" "__init__" "object.__init__" :=
  .of (owner := "object") (n := "__init__") (by rw [typeLookup_type, builtinLookup_eq_fast]; kernel_rfl) (by decide +kernel) (by decide +kernel) (by decide +kernel)
    (by first | exact .inl (by decide +kernel) | exact .inr (by decide +kernel)) (by rw [isSubtype_type]; kernel_rfl)
theorem rev_called : TypeCalled "reversed" "reversed.__new__" "object.__init__" :=
  ⟨by decide +kernel, by decide +kernel, ⟨_, _, F.mro_reversed⟩, F.made_reversed, by decide +kernel, by rw [isSubtype_type]; kernel_rfl, rev_init⟩
def rvObj (t : Addr) (i : Int) : Obj := { cls := .type "reversed", data := .fields #[.ref t, rawInt i] }
section
variable {prog : Program} {w : World} {A : Around} {E : Value → Shared → Prop} {s : Shared}
theorem call_rev_tup {t : Addr} {items : Array Value} {Q : Value → Shared → Prop} (ht : IsTup s.heap t items) (hsz : items.size ≤ sizeLine)
    (h : Q (.ref s.heap.objs.size) { s with heap := s.heap.push (rvObj t ((items.size : Int) - 1)), toks := s.toks + 1 + 1 }) : wpAny (model prog w) A (call (.type "reversed") [.ref t]) Q E s := by
  obtain ⟨⟨c, dct, dt, sl⟩, e1, e2, n, e3⟩ := ht
  replace e2 : c = .type "tuple" := e2
  replace e3 : dt = .seq items n := e3
  subst e2 e3
  exact callType_new rev_called (by decide) (F.typeCall_reversed_1 _) (F.newCall_reversed_1 _) (fun obj => F.args_object_init_2 obj _) F.entry_reversed_new (rev_new_meets t items n dct sl hsz) ⟨e1, ⟨_, Heap.get?_push_size _ rfl, rfl⟩, h⟩
end
end L2
set_option maxHeartbeats 4000000
namespace L2
open PySem PySem.Spec PyProof.Rows
theorem rv_owner : Manifest.owners.lookup (String.ofList ['d', 'e', 's', 'r', 'e', 'v', 'e', 'r'].reverse) = some Manifest.sig_reversed := by kernel_rfl
theorem rv_slot : Slot "reversed" "__next__" "reversed.__next__" :=
  .of (owner := "reversed") (n := "__next__") (by rw [typeLookup_type, builtinLookup_eq_fast]; kernel_rfl) (by decide +kernel) (by decide +kernel) (by decide +kernel)
    (by first | exact .inl (by decide +kernel) | exact .inr (by decide +kernel)) (by rw [isSubtype_type]; kernel_rfl)
theorem rv_entry : entryFor table "reversed.__next__" = some Builtin.«reversed.__next__» := entryFor_of_tree (by kernel_rfl)
theorem rv_args (a : Value) : argsOk "reversed.__next__" ⟨[a], []⟩ := by
  unfold argsOk
  rw [signature?_of (id := "reversed.__next__") (n := ['_', '_', 't', 'x', 'e', 'n', '_', '_']) (o := ['d', 'e', 's', 'r', 'e', 'v', 'e', 'r']) (by kernel_rfl) rv_owner]; kernel_rfl
theorem rv_slotI : Slot "reversed" "__iter__" "reversed.__iter__" :=
  .of (owner := "reversed") (n := "__iter__") (by rw [typeLookup_type, builtinLookup_eq_fast]; kernel_rfl) (by decide +kernel) (by decide +kernel) (by decide +kernel)
    (by first | exact .inl (by decide +kernel) | exact .inr (by decide +kernel)) (by rw [isSubtype_type]; kernel_rfl)
theorem rv_argsI (a : Value) : argsOk "reversed.__iter__" ⟨[a], []⟩ := by
  unfold argsOk
  rw [signature?_of (id := "reversed.__iter__") (n := ['_', '_', 'r', 'e', 't', 'i', '_', '_']) (o := ['d', 'e', 's', 'r', 'e', 'v', 'e', 'r']) (by kernel_rfl) rv_owner]; kernel_rfl
theorem rv_entryI : entryFor table "reversed.__iter__" = some Builtin.«dict_keyiterator.__iter__» :=
  entryFor_alias (id' := "dict_keyiterator.__iter__") (by kernel_rfl) (by first | rfl | decide +kernel | (unfold String.splitOn; simp +decide [String.splitOnAux])) (by decide +kernel) (by kernel_rfl)
def IsRv (h : Heap) (a t : Addr) (i : Int) : Prop := ∃ o, h.get? a = some o ∧ o.cls = .type "reversed" ∧ o.data = .fields #[.ref t, rawInt i]
theorem IsRv.ty {s : Shared} {a t : Addr} {i : Int} (x : IsRv s.heap a t i) : s.TypeIs (.ref a) "reversed" := let ⟨o, ho, hc, _⟩ := x; ⟨o, ho, hc⟩
section
variable {prog : Program} {w : World} {A : Around} {E : Value → Shared → Prop} {s : Shared}
theorem rv_next {it t : Addr} {i : Nat} {items : Array Value} {x : Value} {Q : Option Value → Shared → Prop} (hit : IsRv s.heap it t (i : Int)) (ht : IsTup s.heap t items) (hx : items[i]? = some x) (hi : (i : Int) < 2 ^ 62)
    (hQ : ∀ h' tk, IsRv h' it t ((i : Int) - 1) → Heap.SameBut it s.heap h' → Q (some x) { s with heap := h', toks := tk }) : wpAny (model prog w) A (pyNext (.ref it)) Q E s := by
  obtain ⟨o, ho, hc, hd⟩ := id hit
  have hlt : i < items.size := by
    rcases Nat.lt_or_ge i items.size with z | z
    · exact z
    · rw [Array.getElem?_eq_none z] at hx; cases hx
  unfold pyNext
  refine wpAny_bind (wpAny_attempt (wpAny_callSpecial?_slot (name := Str.ofString "__next__") hit.ty rv_slot (wpAny_call_entry rv_slot hit.ty rv_entry ?_ (rv_args _))))
  unfold Builtin.«reversed.__next__»
  refine wpAny_bind (wpAny_of_eq (a := (Value.ref it, [])) rfl ?_)
  try dsimp only
  refine wpAny_bind (wpAny_field ho hd (x := .ref t) rfl ?_)
  refine wpAny_bind (wpAny_field ho hd (x := rawInt (i : Int)) rfl ?_)
  show wpAny _ _ (if (i : Int) < 0 then _ else _) _ _ s
  rw [if_neg (by omega)]
  refine wpAny_bind (wpAny_specialOf ht.typeIs get_tup ?_)
  show wpAny _ _ (if (some (Value.builtin "tuple.__getitem__")).isNone = true then _ else _) _ _ _
  rw [if_neg (by decide)]
  refine wpAny_bind (wpAny_mkInt ?_)
  refine wpAny_bind (wpAny_attempt (getItem_tuple (s := { s with toks := s.toks + 1 }) ht (by omega) (by omega) (j := i) (by unfold seqIndex?; simp; omega) hx ?_))
  refine wpAny_bind (wpAny_field (s := { s with toks := s.toks + 1 }) ho hd (x := rawInt (i : Int)) rfl ?_)
  try dsimp only
  refine wpAny_bind (wpAny_setField (s := { s with toks := s.toks + 1 }) ho hd (by simp) ?_)
  refine wpAny_pure ⟨x, rfl, wpAny_pure (hQ _ _ ?_ (Heap.SameBut.update ..))⟩
  exact ⟨_, Heap.get?_update_self _ ho (Obj.isFreed_of_fields (Obj.data_mapFields hd _)), (Obj.cls_mapFields ..).trans hc, by
    rw [Obj.data_mapFields hd]; simp⟩
theorem rv_end {it t : Addr} {Q : Option Value → Shared → Prop} (hh : A.handled = none) (hit : IsRv s.heap it t (-1))
    (hQ : ∀ h', Heap.ExtBut it s.heap h' → Q none { s with heap := h' }) : wpAny (model prog w) A (pyNext (.ref it)) Q E s := by
  obtain ⟨o, ho, hc, hd⟩ := id hit
  unfold pyNext
  refine wpAny_bind (wpAny_attempt (wpAny_callSpecial?_slot (name := Str.ofString "__next__") hit.ty rv_slot (wpAny_call_entry rv_slot hit.ty rv_entry ?_ (rv_args _))))
  unfold Builtin.«reversed.__next__»
  refine wpAny_bind (wpAny_of_eq (a := (Value.ref it, [])) rfl ?_)
  try dsimp only
  refine wpAny_bind (wpAny_field ho hd (x := .ref t) rfl ?_)
  refine wpAny_bind (wpAny_field ho hd (x := rawInt (-1)) rfl ?_)
  show wpAny _ _ (if (-1 : Int) < 0 then _ else _) _ _ s
  rw [if_pos (by decide)]
  refine wpAny_bind (wpAny_rule ?_)
  refine wpAny_bind ?_
  show wpAny _ _ (setField (.ref it) 1 (rawInt (-1)) >>= fun _ => setField (.ref it) 0 .none) _ _ s
  refine wpAny_bind (wpAny_setField ho hd (by simp) ?_)
  have ho2 := Heap.get?_update_self (Obj.mapFields fun f => f.setIfInBounds 1 (rawInt (-1))) ho (Obj.isFreed_of_fields (Obj.data_mapFields hd _))
  refine wpAny_setField ho2 (Obj.data_mapFields hd _) (by simp) ?_
  refine wpAny_bind ?_
  show wpAny _ _ (newExc (.type "StopIteration") [] >>= _) _ _ _
  refine wpAny_bind ?_
  simp only [newExc, newTuple]
  refine wpAny_bind (wpAny_newObj_type ?_ (by size_fits))
  refine wpAny_bind (m := firstArgMember _ _) (wpAny_of_eq (a := Value.none) (by first | rfl | (simp only [firstArgMember]; rfl)) ?_)
  refine wpAny_newObj_type ?_ (by size_fits)
  simp only [raiseNew]
  refine wpAny_bind (wpAny_handled ?_)
  rw [show A.in1.handled = none from hh]
  refine wpAny_bind (wpAny_pure (wpAny_throw ?_))
  refine wpAny_bind (wpAny_isInstance (T := "StopIteration") (b := true) ⟨_, Heap.get?_push_size _ rfl, rfl⟩ isSubtype_stop ?_)
  refine wpAny_pure (hQ _ ((Heap.ExtBut.push (Heap.ExtBut.push (fun b o hb e => ?_) _) _)))
  exact (Heap.get?_update_other _ _ (Ne.symm hb)).trans ((Heap.get?_update_other _ _ (Ne.symm hb)).trans e)
theorem rv_iter {it t : Addr} {i : Int} {Q : Value → Shared → Prop} (hit : IsRv s.heap it t i) (h : Q (.ref it) s) : wpAny (model prog w) A (pyIter (.ref it)) Q E s := by
  refine wpAny_pyIter_slot hit.ty rv_slotI (wpAny_call_entry rv_slotI hit.ty rv_entryI ?_ (rv_argsI _))
  show wpAny _ _ (ret (.ref it)) _ _ s
  exact wpAny_pure ⟨_, rfl, "reversed", _, hit.ty, rv_slot.lookup, h⟩
end
theorem IsRv.at {h h' : Heap} {a l : Addr} {i : Int} (x : IsRv h a l i) (e : ∀ o, h.get? a = some o → h'.get? a = some o) : IsRv h' a l i := let ⟨o, ho, r⟩ := x; ⟨o, e _ ho, r⟩
section
variable {prog : Program} {w : World} {A : Around} {E : Value → Shared → Prop} {s : Shared}
variable {I : Addr} {fp wr : List Addr} {G : Array GenState → Array GenState → Prop} {n : Nat} {P : Nat → Value → Prop} {St : Nat → Shared → Prop}
end
section
variable {X : Cx}
def Itv (K : PySem.W.Frag) (a : Addr) (n : Nat) : It :=
  ⟨fun i H => i < n ∧ ∃ xs, SqT K H a xs ∧ xs.length = n, fun i H x H' => H' = H ∧ ∀ xs, SqT K H a xs → xs.reverse[i]? = some x, fun i H => i = n ∧ ∃ xs, SqT K H a xs⟩
theorem turn_rev {P : Program} {w : World} {K : PySem.W.Frag} {tg : Expr} (a it : Addr) (n : Nat) : Turn P w K tg (Itv K a n) [it] it (fun i h => IsRv h it a ((n : Int) - 1 - (i : Int))) where
  mem := by simp
  obj := fun i h st b hb => by
    have e : b = it := by simpa using hb
    subst e
    obtain ⟨o, e, c, d⟩ := st
    exact ⟨o, e, fun v z => by rw [d] at z; cases z⟩
  keep := fun i h h' st k => st.at fun o e => k it (by simp) o e
  item := by
    intro X hP hw hK hc i pins s σ H E I hf st hg
    subst hP hw hK
    obtain ⟨hi, xs, hq, hl⟩ := hg
    obtain ⟨its, rv, p, hz⟩ := I.tuple hq
    have z62 : sizeLine < 2 ^ 62 := by decide
    have hx : xs.reverse[i]? = some (xs.reverse[i]'(by rw [List.length_reverse]; omega)) := List.getElem?_eq_getElem _
    obtain ⟨u, hu, ru⟩ := rv.reverse.get hx
    obtain ⟨f0, f1, f2, f3, f4, f5⟩ := hf it (by simp)
    have e1 : (n : Int) - 1 - (i : Int) = ((n - 1 - i : Nat) : Int) := by omega
    have st1 := st
    rw [e1] at st1
    have hl' : its.length = n := by rw [← rv.length]; exact hl
    have hu' : its.toArray[n - 1 - i]? = some u := by
      rw [List.getElem?_reverse (by omega)] at hu
      simpa [hl'] using hu
    refine rv_next st1 p hu' (by omega) fun h' tk st' sb => ?_
    have I1 : Inv X pins σ H { s with heap := h', toks := tk } := I.turned (fun b o hb e => (sb.2 b hb).trans e) f0 f1 f3 f4 f5
    have e2 : ((n - 1 - i : Nat) : Int) - 1 = (n : Int) - 1 - ((i + 1 : Nat) : Int) := by omega
    rw [e2] at st'
    obtain ⟨o, e, c, d⟩ := id st'
    exact ⟨u, rfl, go_of (s := { s with heap := h', toks := tk }) e c d (by decide) ⟨_, H, I1, ru, ⟨rfl, fun ys hy => by rw [I.tuple_inj hy hq]; exact hx⟩, st', fun b hb => (hf b hb).1⟩⟩
  done := by
    intro X hP hw hK hc i pins s σ H E I hf st hg
    subst hP hw hK
    obtain ⟨rfl, xs, hq⟩ := hg
    obtain ⟨f0, f1, f2, f3, f4, f5⟩ := hf it (by simp)
    have e1 : (i : Int) - 1 - (i : Int) = -1 := by omega
    rw [e1] at st
    exact rv_end (I.ok.hd hc) st fun h' eb => ⟨rfl, I.turned (t' := s.toks) (fun b o hb e => eb b o hb e) f0 f1 f3 f4 f5⟩
  self := fun _ _ _ _ _ st h => rv_iter st h
def iRev (K : PySem.W.Frag) (tl : TE) : TI := fun σ H R => tl σ H fun x H1 => ∃ a xs, x = .ref a ∧ SqT K H1 a xs ∧ R (Itv K a xs.length) H1
theorem pi_rev {tg l : Expr} {tl : TE} {p2 q2 : Pos} (hg2 : Gl X "reversed") (hm2 : X.mg "reversed" = none) (hl : PE X l tl) (hs2 : starEach [l] X.env = [(false, eval l X.env)] := by rfl) : PI X tg (.Call (.Name "reversed" p2) [l] [] q2) (iRev X.K tl) := by
  intro pins s σ H R I h
  refine wpAny_Call_Name_kw (ld_blt I hg2 hm2 boot_rev (PyProof.Rows.callWith_type1 ?_ hs2 rfl))
  rw [hs2]
  show wpAny _ _ (spliced [(false, eval l X.env)]) _ _ s
  refine Calls.spliced_cons (thn (hl pins s σ H _ I h) fun v s1 ⟨x, H1, I1, r1, q1⟩ => Calls.spliced_nil ?_)
  obtain ⟨a, xs, e, hq, q⟩ := q1
  subst e
  cases r1
  obtain ⟨its, rv, p, hz⟩ := I1.tuple hq
  have hsz : its.toArray.size ≤ sizeLine := by rw [List.size_toArray, ← rv.length]; exact hz
  refine call_rev_tup p hsz ?_
  have it1 : IsRv (s1.heap.push (rvObj a ((its.toArray.size : Int) - 1))) s1.heap.objs.size a ((xs.length : Int) - 1 - ((0 : Nat) : Int)) := by
    refine ⟨_, Heap.get?_push_size _ rfl, rfl, ?_⟩
    show Data.fields #[.ref a, rawInt ((its.toArray.size : Int) - 1)] = _
    rw [List.size_toArray, ← rv.length]; simp
  refine rv_iter (s := { s1 with heap := s1.heap.push (rvObj a ((its.toArray.size : Int) - 1)), toks := s1.toks + 1 + 1 }) it1 ?_
  refine ⟨s1.heap.objs.size, [s1.heap.objs.size], _, _, H1, rfl, I1.kept (t' := s1.toks + 1 + 1) fun b o e => Heap.get?_push_of_some _ e, turn_rev a _ xs.length, it1, fun b hb => ?_, q⟩
  have e : b = s1.heap.objs.size := by simpa using hb
  subst e
  exact I1.fpOk (Nat.le_refl _) (I1.hok.fresh (Nat.le_refl _))
end
end L2
set_option maxHeartbeats 4000000
namespace L2
open PySem PySem.Spec PyProof.Rows
def tupIn (K : PySem.W.Frag) : Value → Option (List Value)
  | .ref a => (match K.lookup a with
    | some o => (match o.cls, o.data with
      | .type n, .seq its _ => if n == "tuple" && its.size ≤ 8 then some its.toList else none
      | _, _ => none)
    | none => none)
  | _ => none
def strsIn : List Value → Option (List Str)
  | [] => some []
  | .str x _ :: r => (strsIn r).map (x :: ·)
  | _ => none
def wdOk (K : PySem.W.Frag) (e : DictEntry) (r : Str × Str × List Str) : Bool :=
  match e.key with
  | .str x _ => x == r.1 && (match tupIn K e.val with
    | some [.str k _, v2] => k == r.2.1 && (match tupIn K v2 with
      | some its => strsIn its == some r.2.2
      | none => false)
    | _ => false)
  | _ => false
def wdsOk (K : PySem.W.Frag) : List DictEntry → List (Str × Str × List Str) → Bool
  | [], [] => true
  | e :: es, r :: rs => wdOk K e r && wdsOk K es rs
  | _, _ => false
def gOf (es : List DictEntry) (z : Str) : Option (V × Value) := (es.find? (·.key.isStr z)).map fun e => ((absV e.val).getD .non, e.val)
theorem tupIn_sqT {K : PySem.W.Frag} {v : Value} {its : List Value} (h : tupIn K v = some its) : ∃ a, v = .ref a ∧ ∀ (H : Hp) (xs : List V), Vals xs its → SqT K H a xs := by
  unfold tupIn at h
  cases v with
  | ref a =>
    dsimp only at h
    refine ⟨a, rfl, fun H xs hv => ?_⟩
    cases hk : K.lookup a with
    | none => rw [hk] at h; cases h
    | some o =>
      rw [hk] at h
      dsimp only at h
      split at h
      · rename_i n its' m hc hd
        split at h
        · rename_i hz
          injection h with h
          subst h
          simp only [Bool.and_eq_true, beq_iff_eq, decide_eq_true_eq] at hz
          exact .inr ⟨o, its', m, hk, by rw [hc, hz.1], hd, Nat.le_trans hz.2 (by decide), hv⟩
        · cases h
      · cases h
  | _ => cases h
theorem strsIn_vals : ∀ {l : List Value} {xs : List Str}, strsIn l = some xs → Vals (xs.map V.str) l
  | [], xs, h => by
    unfold strsIn at h
    injection h with h; subst h; exact .nil
  | v :: r, xs, h => by
    unfold strsIn at h
    split at h
    · rename_i e; cases e
    · rename_i x t r' e
      injection e with e1 e2
      subst e1 e2
      cases hr : strsIn r with
      | none => rw [hr] at h; cases h
      | some ys =>
        rw [hr] at h
        injection h with h
        subst h
        exact .cons ⟨_, rfl⟩ (strsIn_vals hr)
    · cases h
theorem wdOk_val {K : PySem.W.Frag} {e : DictEntry} {r : Str × Str × List Str} (h : wdOk K e r = true) : (∃ t, e.key = .str r.1 t) ∧ ∃ a, e.val = .ref a ∧ ∀ G : Hp, Dat K G (.ref a) (.tuple [.str r.2.1, .tuple (r.2.2.map PyData.str)]) := by
  unfold wdOk at h
  split at h
  · rename_i x t hk
    rw [Bool.and_eq_true, beq_iff_eq] at h
    obtain ⟨rfl, h⟩ := h
    refine ⟨⟨t, hk⟩, ?_⟩
    split at h
    · rename_i k t2 v2 ht
      rw [Bool.and_eq_true, beq_iff_eq] at h
      obtain ⟨rfl, h⟩ := h
      split at h
      · rename_i its hi
        rw [beq_iff_eq] at h
        obtain ⟨a, ha, sa⟩ := tupIn_sqT ht
        obtain ⟨b, hb, sb⟩ := tupIn_sqT hi
        refine ⟨a, ha, fun G => dat_tup (sa G [.str r.2.1, .ref b] (.cons ⟨_, rfl⟩ (.cons (by rw [hb]; rfl) .nil))) (dats_cons (dat_str _) (dats_cons (dat_tup (sb G _ (strsIn_vals h)) ?_) dats_nil))⟩
        exact dats_strs' _
      · cases h
    · cases h
  · cases h
where
  dats_strs' {K : PySem.W.Frag} {G : Hp} : ∀ ws : List Str, Dats K G (ws.map V.str) (ws.map PyData.str)
    | [] => dats_nil
    | w :: ws => dats_cons (dat_str w) (dats_strs' ws)
theorem isStr_iff {x z : Str} {t : Tok} : (Value.str x t).isStr z = decide (x = z) := by
  unfold Value.isStr
  by_cases h : x = z
  · subst h; simp
  · simp [h]
theorem wds_find {K : PySem.W.Frag} (z : Str) : ∀ {es : List DictEntry} {rs : List (Str × Str × List Str)}, wdsOk K es rs = true →
    (es.find? (·.key.isStr z) = none ∧ rs.find? (fun r => decide (r.1 = z)) = none) ∨ ∃ e r, es.find? (·.key.isStr z) = some e ∧ rs.find? (fun r => decide (r.1 = z)) = some r ∧ wdOk K e r = true
  | [], [], _ => .inl ⟨rfl, rfl⟩
  | [], _ :: _, h => by cases h
  | _ :: _, [], h => by cases h
  | e :: es, r :: rs, h => by
    unfold wdsOk at h
    rw [Bool.and_eq_true] at h
    obtain ⟨⟨t, hk⟩, _⟩ := wdOk_val h.1
    have q : e.key.isStr z = decide (r.1 = z) := by rw [hk]; exact isStr_iff
    rw [List.find?_cons, List.find?_cons, q]
    by_cases hz : r.1 = z
    · rw [decide_eq_true hz]
      exact .inr ⟨e, r, rfl, rfl, h.1⟩
    · rw [decide_eq_false hz]
      exact wds_find z h.2
theorem wds_nokey {K : PySem.W.Frag} : ∀ {es : List DictEntry} {rs : List (Str × Str × List Str)}, wdsOk K es rs = true → es.any (·.refKey) = false
  | [], [], _ => rfl
  | [], _ :: _, h => by cases h
  | _ :: _, [], h => by cases h
  | e :: es, r :: rs, h => by
    unfold wdsOk at h
    rw [Bool.and_eq_true] at h
    obtain ⟨⟨t, hk⟩, _⟩ := wdOk_val h.1
    rw [List.any_cons, wds_nokey h.2, Bool.or_false]
    unfold DictEntry.refKey
    rw [hk]
theorem dictK_of {K : PySem.W.Frag} {P : Params} {a : Addr} {es : Array DictEntry} {n : Nat} {rs : List (Str × Str × List Str)} (hl : K.lookup a = some ⟨.type "dict", none, .dict es n, #[]⟩) (hk : PySem.W.KeysLit P es.toList) (lo : (a == sysModules) = false)
    (h : wdsOk K es.toList rs = true) : DictK K P a (gOf es.toList) ∧ ∀ z, (rs.find? (fun r => decide (r.1 = z)) = none ∧ gOf es.toList z = none) ∨ ∃ r v u, rs.find? (fun r => decide (r.1 = z)) = some r ∧ gOf es.toList z = some (v, u) ∧ ∀ G : Hp, Dat K G v (.tuple [.str r.2.1, .tuple (r.2.2.map PyData.str)]) := by
  refine ⟨⟨⟨es, n, hl, hk⟩, lo, fun x => ?_, fun x v u e => ?_⟩, fun z => ?_⟩
  · unfold PySem.W.nsIn
    rw [hl]
    dsimp only
    unfold gOf
    rcases wds_find x h with ⟨e1, _⟩ | ⟨e, r, e1, _, _⟩
    · rw [e1, wds_nokey h]; rfl
    · rw [e1]; rfl
  · unfold gOf at e
    rcases wds_find x h with ⟨e1, _⟩ | ⟨e', r, e1, _, ok⟩
    · rw [e1] at e; cases e
    · rw [e1] at e
      obtain ⟨_, a', ha, _⟩ := wdOk_val ok
      rw [Option.map_some] at e
      injection e with e
      injection e with e1 e2
      subst e1 e2
      rw [ha]; rfl
  · rcases wds_find z h with ⟨e1, e2⟩ | ⟨e, r, e1, e2, ok⟩
    · exact .inl ⟨e2, by unfold gOf; rw [e1]; rfl⟩
    · obtain ⟨_, a', ha, hd⟩ := wdOk_val ok
      refine .inr ⟨r, .ref a', e.val, e2, ?_, hd⟩
      unfold gOf
      rw [e1, Option.map_some, ha]; rfl
end L2
namespace Ord
open PySem L2
def wordsT : List (Str × Str × List Str) :=
  [(S "like", S "order", []), (S "up", S "order", [S "field"]), (S "down", S "order", [S "field"]), (S "then", S "order", [S "order", S "order"]), (S "turn", S "order", [S "order"]), (S "pick", S "order", [S "case", S "order", S "order"]),
   (S "same", S "case", [S "field"]), (S "both", S "case", [S "mark"]), (S "either", S "case", [S "mark"]), (S "not", S "case", [S "case"]), (S "and", S "case", [S "case", S "case"]), (S "or", S "case", [S "case", S "case"]),
   (S "under", S "mark", [S "field", S "number"]), (S "is", S "mark", [S "field", S "number"])]
def wordT (z : Str) : Option (Str × Str × List Str) := wordsT.find? (fun r => decide (r.1 = z))
structure Wds (K : PySem.W.Frag) (P : Params) (mg : Str → Option Value) where
  a : Addr
  g : Str → Option (V × Value)
  m : mg "WORDS" = some (.ref a)
  D : DictK K P a g
  no : ∀ z, wordT z = none → g z = none
  yes : ∀ z r, wordT z = some r → ∃ v u, g z = some (v, u) ∧ ∀ G : Hp, Dat K G v (.tuple [.str r.2.1, .tuple (r.2.2.map PyData.str)])
theorem wds_of {K : PySem.W.Frag} {P : Params} {mg : Str → Option Value} {a : Addr} {es : Array DictEntry} {n : Nat} (hm : mg "WORDS" = some (.ref a)) (hl : K.lookup a = some ⟨.type "dict", none, .dict es n, #[]⟩) (hk : PySem.W.KeysLit P es.toList) (lo : (a == sysModules) = false)
    (h : wdsOk K es.toList wordsT = true) : Nonempty (Wds K P mg) := by
  obtain ⟨D, q⟩ := dictK_of hl hk lo h
  refine ⟨⟨a, _, hm, D, fun z e => ?_, fun z r e => ?_⟩⟩
  · rcases q z with ⟨_, e1⟩ | ⟨r, v, u, e1, _⟩
    · exact e1
    · rw [show wordT z = _ from e1] at e; cases e
  · rcases q z with ⟨e1, _⟩ | ⟨r', v, u, e1, e2, hd⟩
    · rw [show wordT z = _ from e1] at e; cases e
    · rw [show wordT z = _ from e1] at e
      injection e with e; subst e
      exact ⟨v, u, e2, hd⟩
theorem wordT_opts : ∀ want ∈ [S "order", S "case", S "mark"], ∀ o ∈ optsOf want, ∃ x ps, o = x :: ps ∧ wordT x = some (x, want, ps) := by
  intro want hw
  simp only [List.mem_cons, List.not_mem_nil, or_false] at hw
  have key : ∀ want ∈ [S "order", S "case", S "mark"], ∀ o ∈ optsOf want, o ≠ [] ∧ wordT (o.headD (S "")) = some (o.headD (S ""), want, o.tail) := by decide +kernel
  intro o ho
  have q := key want (by simpa using hw) o ho
  cases o with
  | nil => exact absurd rfl q.1
  | cons x ps => exact ⟨x, ps, rfl, q.2⟩
theorem wordT_none {z : Str} (h : z ∉ ["like", "up", "down", "then", "turn", "pick", "same", "both", "either", "not", "and", "or", "under", "is"].map Str.ofString) : wordT z = none := by
  unfold wordT
  rw [List.find?_eq_none]
  intro r hr
  simp only [decide_eq_true_eq]
  intro e
  subst e
  apply h
  revert r
  decide +kernel
end Ord
set_option maxHeartbeats 4000000
namespace Rdo
open PySem Dig Ord Nm L2 Frac
theorem wordT_mem {z : Str} {r : Str × Str × List Str} (h : wordT z = some r) : r ∈ wordsT ∧ r.1 = z := by
  unfold wordT at h
  exact ⟨List.mem_of_find?_eq_some h, by have := List.find?_some h; simpa using this⟩
theorem run_ne {fld : Str → Prop} {num : Int → Int → Prop} {ws : List Wd} (h : IsOrd fld num ws) : ws ≠ [] := by
  intro e
  subst e
  cases h
theorem step_word {fld : Str → Prop} {num : Int → Int → Prop} {st st1 : List Str} {w : Wd} (h : Step fld num st w st1) (hs : ∀ x ∈ st, x ∈ [S "order", S "case", S "mark", S "field", S "number"]) :
    (∃ x st0, st = S "field" :: st0 ∧ w = .t x ∧ fld x ∧ st1 = st0) ∨ (∃ a b st0, st = S "number" :: st0 ∧ w = .n a b ∧ num a b ∧ st1 = st0) ∨
    ∃ want x ps st0, st = want :: st0 ∧ w = .t x ∧ want ≠ S "field" ∧ want ≠ S "number" ∧ wordT x = some (x, want, ps) ∧ ps.length ≤ 3 ∧ st1 = ps ++ st0 := by
  cases h with
  | field hx => exact .inl ⟨_, _, rfl, rfl, hx, rfl⟩
  | number hx => exact .inr (.inl ⟨_, _, _, rfl, rfl, hx, rfl⟩)
  | @word want x ps st0 n1 n2 ho =>
    have hw := hs want List.mem_cons_self
    have hw3 : want ∈ [S "order", S "case", S "mark"] := by
      simp only [List.mem_cons, List.not_mem_nil, or_false] at hw ⊢
      rcases hw with z | z | z | z | z
      · exact .inl z
      · exact .inr (.inl z)
      · exact .inr (.inr z)
      · exact absurd z n1
      · exact absurd z n2
    obtain ⟨y, qs, e, hy⟩ := wordT_opts want hw3 _ ho
    injection e with e1 e2
    subst e1 e2
    obtain ⟨x', ps', e, hl, _⟩ := opts_form want _ ho
    injection e with e1 e2
    subst e1 e2
    exact .inr (.inr ⟨want, x, ps, st0, rfl, rfl, n1, n2, hy, hl, rfl⟩)
end Rdo
set_option maxHeartbeats 4000000
namespace L2
open PySem PySem.Spec PyProof.Rows
section
variable {κ : Type} [DecidableEq κ]
def valV (kvs : List (κ × V)) (k : κ) : Option V := (kvs.find? fun kv => decide (kv.1 = k)).map (·.2)
def putK (kvs : List (κ × V)) (k : κ) (v : V) : List (κ × V) :=
  if (kvs.any fun kv => decide (kv.1 = k)) = true then kvs.map (fun kv => if kv.1 = k then (kv.1, v) else kv) else kvs ++ [(k, v)]
def dropK (kvs : List (κ × V)) (k : κ) : List (κ × V) := kvs.filter fun kv => decide (kv.1 ≠ k)
theorem valV_pos {p : κ × V} {r : List (κ × V)} {k : κ} (e : p.1 = k) : valV (p :: r) k = some p.2 := by simp [valV, List.find?_cons, e]
theorem valV_neg {p : κ × V} {r : List (κ × V)} {k : κ} (e : ¬ p.1 = k) : valV (p :: r) k = valV r k := by simp [valV, List.find?_cons, e]
theorem valV_any (k : κ) : ∀ kvs : List (κ × V), (kvs.any fun kv => decide (kv.1 = k)) = (valV kvs k).isSome
  | [] => rfl
  | p :: r => by
    rw [List.any_cons]
    by_cases e : p.1 = k
    · simp only [valV_pos e, decide_eq_true e, Bool.true_or, Option.isSome_some]
    · rw [valV_neg e, decide_eq_false e, Bool.false_or]; exact valV_any k r
theorem length_putK (kvs : List (κ × V)) (k : κ) (v : V) : (putK kvs k v).length ≤ kvs.length + 1 := by
  unfold putK
  split
  · rw [List.length_map]; omega
  · rw [List.length_append, List.length_cons, List.length_nil]; omega
theorem RelO.isSome_eq {o : Option V} {u : Option Value} (r : RelO o u) : o.isSome = u.isSome := by
  cases o with
  | none => cases u with
    | none => rfl
    | some _ => exact (show False from r).elim
  | some _ => cases u with
    | none => exact (show False from r).elim
    | some _ => rfl
theorem RelO.getD {o : Option V} {u : Option Value} {d : V} {d' : Value} (r : RelO o u) (rd : RelV d d') : RelV (o.getD d) (u.getD d') := by
  cases o with
  | none => cases u with
    | none => exact rd
    | some _ => exact (show False from r).elim
  | some _ => cases u with
    | none => exact (show False from r).elim
    | some _ => exact r
theorem KV.val {kvs : List (κ × V)} {vs : List (κ × Value)} (r : KV kvs vs) (k : κ) : RelO (valV kvs k) (valueAt vs k) := by
  unfold KV at r
  induction r with
  | nil => exact True.intro
  | @cons p q ps qs h t ih =>
    obtain ⟨h1, h2⟩ := h
    by_cases e : p.1 = k
    · have e' : q.1 = k := h1.symm.trans e
      have b : valueAt (q :: qs) k = some q.2 := by simp [valueAt, List.find?_cons, e']
      rw [valV_pos e, b]; exact h2
    · have e' : ¬ q.1 = k := fun z => e (h1.trans z)
      have b : valueAt (q :: qs) k = valueAt qs k := by simp [valueAt, List.find?_cons, e']
      rw [valV_neg e, b]; exact ih
theorem KV.any {kvs : List (κ × V)} {vs : List (κ × Value)} (r : KV kvs vs) (k : κ) : (kvs.any fun kv => decide (kv.1 = k)) = vs.any fun kv => decide (kv.1 = k) := by
  unfold KV at r
  induction r with
  | nil => rfl
  | cons h t ih => rw [List.any_cons, List.any_cons, ih, h.1]
theorem KV.repl {kvs : List (κ × V)} {vs : List (κ × Value)} (r : KV kvs vs) (k : κ) {y : V} {u : Value} (ry : RelV y u) :
    KV (kvs.map fun kv => if kv.1 = k then (kv.1, y) else kv) (vs.map fun kv => if kv.1 = k then (kv.1, u) else kv) := by
  unfold KV at r ⊢
  induction r with
  | nil => exact .nil
  | @cons p q ps qs h t ih =>
    rw [List.map_cons, List.map_cons]
    refine .cons ?_ ih
    obtain ⟨h1, h2⟩ := h
    by_cases e : p.1 = k
    · rw [if_pos e, if_pos (h1.symm.trans e)]; exact ⟨h1, ry⟩
    · rw [if_neg e, if_neg (fun z => e (h1.trans z))]; exact ⟨h1, h2⟩
theorem KV.put {kvs : List (κ × V)} {vs : List (κ × Value)} (r : KV kvs vs) (k : κ) {y : V} {u : Value} (ry : RelV y u) : KV (putK kvs k y) (stored vs k u) := by
  unfold putK stored
  rw [r.any k]
  by_cases e : (vs.any fun kv => decide (kv.1 = k)) = true
  · rw [if_pos e, if_pos e]; exact r.repl k ry
  · rw [if_neg e, if_neg e]; exact Paired.snoc r ⟨rfl, ry⟩
theorem KV.drop {kvs : List (κ × V)} {vs : List (κ × Value)} (r : KV kvs vs) (k : κ) : KV (dropK kvs k) (without vs k) := by
  unfold KV at r ⊢
  unfold dropK without
  induction r with
  | nil => exact .nil
  | @cons p q ps qs h t ih =>
    obtain ⟨h1, h2⟩ := h
    rw [List.filter_cons, List.filter_cons]
    by_cases e : p.1 = k
    · have a : ¬ decide (p.1 ≠ k) = true := by simp [e]
      have b : ¬ decide (q.1 ≠ k) = true := by simp [h1.symm.trans e]
      rw [if_neg a, if_neg b]; exact ih
    · have e' : ¬ q.1 = k := fun z => e (h1.trans z)
      have a : decide (p.1 ≠ k) = true := by simp [e]
      have b : decide (q.1 ≠ k) = true := by simp [e']
      rw [if_pos a, if_pos b]; exact .cons ⟨h1, h2⟩ ih
theorem KV.keys {kvs : List (κ × V)} {vs : List (κ × Value)} (r : KV kvs vs) : kvs.map (·.1) = vs.map (·.1) := by
  unfold KV at r
  induction r with
  | nil => rfl
  | cons h t ih => rw [List.map_cons, List.map_cons, ih, h.1]
theorem KV.length {kvs : List (κ × V)} {vs : List (κ × Value)} (r : KV kvs vs) : kvs.length = vs.length := Paired.length r
end
theorem kV_is {P : Program} {w : World} {k : Key} {u : Value} (r : RelV (kV k) u) : (mixKind P w).is k u = true := by
  cases k with
  | inl i => obtain ⟨t, e⟩ := (show ∃ t, u = Value.int i t from r); subst e; exact mixKind_int P w i t
  | inr x => obtain ⟨t, e⟩ := (show ∃ t, u = Value.str x t from r); subst e; exact mixKind_str P w x t
theorem items_are {P : Program} {w : World} : ∀ {ks : List Key} {us : List Value}, Vals (ks.map kV) us → ItemsAre (mixKind P w) ks us
  | [], _, r => by rw [List.map_nil] at r; cases r; exact .nil
  | k :: ks, _, r => by
    rw [List.map_cons] at r
    cases r with
    | cons h t => exact .cons (kV_is h) (items_are t)
abbrev KT (H : Hp) : List (List Key × V) → List (List Key × Addr × Value) → Prop := Paired fun p q => p.1 = q.1 ∧ H q.2.1 = some (.tup (p.1.map kV)) ∧ RelV p.2 q.2.2
theorem KT.val {H : Hp} {kvs : List (List Key × V)} {xs : List (List Key × Addr × Value)} (r : KT H kvs xs) (k : List Key) : RelO (valV kvs k) ((atKey xs k).map (·.2)) := by
  induction r with
  | nil => exact True.intro
  | @cons p q ps qs h t ih =>
    obtain ⟨h1, _, h2⟩ := h
    by_cases e : p.1 = k
    · have e' : q.1 = k := h1.symm.trans e
      have b : atKey (q :: qs) k = some q.2 := by simp [atKey, List.find?_cons, e']
      rw [valV_pos e, b]; exact h2
    · have e' : ¬ q.1 = k := fun z => e (h1.trans z)
      have b : atKey (q :: qs) k = atKey qs k := by simp [atKey, List.find?_cons, e']
      rw [valV_neg e, b]; exact ih
theorem KT.repl {H : Hp} {kvs : List (List Key × V)} {xs : List (List Key × Addr × Value)} (r : KT H kvs xs) (k : List Key) {y : V} {u : Value} (ry : RelV y u) :
    KT H (kvs.map fun kv => if kv.1 = k then (kv.1, y) else kv) (xs.map (putAt k u)) := by
  induction r with
  | nil => exact .nil
  | @cons p q ps qs h t ih =>
    rw [List.map_cons, List.map_cons]
    refine .cons ?_ ih
    obtain ⟨h1, h2, h3⟩ := h
    unfold putAt
    by_cases e : p.1 = k
    · rw [if_pos e, if_pos (h1.symm.trans e)]; exact ⟨h1, h2, ry⟩
    · rw [if_neg e, if_neg (fun z => e (h1.trans z))]; exact ⟨h1, h2, h3⟩
theorem KT.put {H : Hp} {kvs : List (List Key × V)} {xs : List (List Key × Addr × Value)} (r : KT H kvs xs) (k : List Key) {b : Addr} {y : V} {u : Value} (hb : H b = some (.tup (k.map kV))) (ry : RelV y u) :
    KT H (putK kvs k y) (storedH xs k b u) := by
  have e : (kvs.any fun kv => decide (kv.1 = k)) = (atKey xs k).isSome := by
    rw [valV_any, (r.val k).isSome_eq, Option.isSome_map]
  unfold putK storedH
  rw [e]
  by_cases q : (atKey xs k).isSome = true
  · rw [if_pos q, if_pos q]; exact r.repl k ry
  · rw [if_neg q, if_neg q]; exact Paired.snoc r ⟨rfl, hb, ry⟩
theorem KT.keeps {H H' : Hp} {kvs : List (List Key × V)} {xs : List (List Key × Addr × Value)} (r : KT H kvs xs) (ht : ∀ b ys, H b = some (.tup ys) → H' b = some (.tup ys)) : KT H' kvs xs :=
  Paired.mapP r fun _ _ z => ⟨z.1, ht _ _ z.2.1, z.2.2⟩
section
variable {P : Program} {w : World} {H : Hp} {h : Heap} {a : Addr}
theorem rd_of {u : HO} (ok : HOk P w H h) (e : Rd H a u) : ObjOk P w H h a u := e.ok ok
theorem dk_rd {kvs : List (Key × V)} (ok : HOk P w H h) (e : Rd H a (.dK kvs)) : kvs.length ≤ sizeLine ∧ (a == sysModules) = false ∧ ∃ vs, KV kvs vs ∧ h.DictOf (mixKind P w) a vs :=
  show ObjOk P w H h a (.dK kvs) from rd_of ok e
theorem dk_of {kvs : List (Key × V)} (ok : HOk P w H h) (e : H a = some (.dK kvs)) : kvs.length ≤ sizeLine ∧ (a == sysModules) = false ∧ ∃ vs, KV kvs vs ∧ h.DictOf (mixKind P w) a vs := dk_rd ok (.inl e)
theorem key_of {ks : List Key} (ok : HOk P w H h) (e : H a = some (.tup (ks.map kV))) : (tupleKind (mixKind P w)).is h ks a := by
  obtain ⟨_, its, r, ⟨o, h1, h2, n, h3⟩, _⟩ := (show ObjOk P w H h a (.tup (ks.map kV)) from ok a _ e)
  exact ⟨o, its.toArray, n, h1, h2, h3, by simpa using items_are r⟩
theorem dt_rd {kvs : List (List Key × V)} (ok : HOk P w H h) (e : Rd H a (.dT kvs)) : kvs.length ≤ sizeLine ∧ (a == sysModules) = false ∧
    ∃ xs, KT H kvs xs ∧ h.DictOfH (tupleKind (mixKind P w)) a xs := by
  obtain ⟨z, y, xs, r, o, es, ep, h1, h2, h3, h4, h5⟩ := (show ObjOk P w H h a (.dT kvs) from rd_of ok e)
  refine ⟨z, y, xs, r, o, es, ep, h1, h2, h3, h4, fun x hx => ?_, h5⟩
  have all : ∀ {l : List (List Key × V)} {m : List (List Key × Addr × Value)}, KT H l m → ∀ x ∈ m, (tupleKind (mixKind P w)).is h x.1 x.2.1 := by
    intro l m q
    induction q with
    | nil => intro x hx; exact nomatch hx
    | @cons p q ps qs hq t ih =>
      intro x hx
      rcases List.mem_cons.mp hx with e | hx
      · subst e
        exact key_of ok (by rw [← hq.1]; exact hq.2.1)
      · exact ih x hx
  exact all r x hx
end
def DGet (H : Hp) (a : Addr) (y : V) (r : Option V) : Prop :=
  (∃ kvs k, Rd H a (.dK kvs) ∧ y = kV k ∧ r = valV kvs k) ∨ ∃ kvs k b, Rd H a (.dT kvs) ∧ y = .ref b ∧ H b = some (.tup (k.map kV)) ∧ r = valV kvs k
def DPut (H : Hp) (a : Addr) (y v : V) (H' : Hp) : Prop :=
  (∃ kvs k, H a = some (.dK kvs) ∧ y = kV k ∧ kvs.length < sizeLine ∧ H' = upd H a (.dK (putK kvs k v))) ∨
  ∃ kvs k b, H a = some (.dT kvs) ∧ y = .ref b ∧ H b = some (.tup (k.map kV)) ∧ kvs.length < sizeLine ∧ H' = upd H a (.dT (putK kvs k v))
theorem DGet.k {H : Hp} {a : Addr} {kvs : List (Key × V)} {k : Key} (e : H a = some (.dK kvs)) : DGet H a (kV k) (valV kvs k) := .inl ⟨kvs, k, .inl e, rfl, rfl⟩
theorem DGet.t {H : Hp} {a b : Addr} {kvs : List (List Key × V)} {k : List Key} (e : H a = some (.dT kvs)) (eb : H b = some (.tup (k.map kV))) : DGet H a (.ref b) (valV kvs k) := .inr ⟨kvs, k, b, .inl e, rfl, eb, rfl⟩
theorem DPut.k {H : Hp} {a : Addr} {kvs : List (Key × V)} {k : Key} {v : V} (e : H a = some (.dK kvs)) (hl : kvs.length < sizeLine) : DPut H a (kV k) v (upd H a (.dK (putK kvs k v))) := .inl ⟨kvs, k, e, rfl, hl, rfl⟩
theorem DPut.t {H : Hp} {a b : Addr} {kvs : List (List Key × V)} {k : List Key} {v : V} (e : H a = some (.dT kvs)) (eb : H b = some (.tup (k.map kV))) (hl : kvs.length < sizeLine) :
    DPut H a (.ref b) v (upd H a (.dT (putK kvs k v))) := .inr ⟨kvs, k, b, e, rfl, eb, hl, rfl⟩
section
variable {X : Cx} {pins : List (Addr × Obj)} {σ : St} {H : Hp} {s : Shared} {a : Addr} {y v : V} {u r : Value} {o : Option V} {A : Around} {E : Value → Shared → Prop}
theorem Inv.big (I : Inv X pins σ H s) : sysModules < s.heap.objs.size := by
  have h : mainGlobals < s.heap.objs.size := (I.mod.glob.keeps I.bk).lt
  exact Nat.lt_trans (by decide) h
theorem d_getItem {Q : Value → Shared → Prop} (hu : A.units + 1 < cLine) (I : Inv X pins σ H s) (g : DGet H a y (some v)) (ry : RelV y u) (h : ∀ w' s', Inv X pins σ H s' → RelV v w' → Q w' s') :
    wpAny (model X.prog X.w) A (getItem (.ref a) u) Q E s := by
  rcases g with ⟨kvs, k, e, ey, l⟩ | ⟨kvs, k, b, e, ey, eb, l⟩
  · subst ey
    obtain ⟨z, hd, vs, rel, dd⟩ := dk_rd I.hok e
    obtain ⟨w', hw, rw'⟩ := RelO.some_of (v := v) (o := valueAt vs k) (by rw [l]; exact rel.val k)
    exact wpAny_getItem_of (kV_is ry) dd.mapOf hw (h w' _ (I.tok _) rw')
  · subst ey
    cases (show u = Value.ref b from ry)
    obtain ⟨z, hd, xs, rel, dd⟩ := dt_rd I.hok e
    obtain ⟨w', hw, rw'⟩ := RelO.some_of (v := v) (o := (atKey xs k).map (·.2)) (by rw [l]; exact rel.val k)
    obtain ⟨p, hp, hp2⟩ := Option.map_eq_some_iff.mp hw
    refine wpAny_getItem_heap (tupleKind_room_in1 hu) (key_of I.hok eb) dd hp ?_
    rw [hp2]
    exact h w' _ (I.tok _) rw'
theorem d_write {h' : Heap} {t' : Nat} {ob : HO} (I : Inv X pins σ H s) (mu : Mut (H a)) (hs : Heap.SameBut a s.heap h') (he : ∃ q, h'.get? a = some q) (new : ObjOk X.prog X.w (upd H a ob) h' a ob) :
    Inv X pins σ (upd H a ob) { s with heap := h', toks := t' } :=
  I.write (x := a) (e := a) mu (.inl rfl) (fun b q hb z => (hs.2 b hb).trans z) he new
theorem dk_new {P : Program} {w : World} {H' : Hp} {h' : Heap} {kvs : List (Key × V)} {vs : List (Key × Value)} (z : kvs.length ≤ sizeLine) (hd : (a == sysModules) = false) (rel : KV kvs vs) (dd : h'.DictOf (mixKind P w) a vs) :
    ObjOk P w H' h' a (.dK kvs) := ⟨z, hd, vs, rel, dd⟩
end
section
variable {X : Cx} {pins : List (Addr × Obj)} {σ : St} {H : Hp} {s : Shared} {a : Addr} {kvs : List (Key × V)} {k : Key} {u : Value} {A : Around} {E : Value → Shared → Prop}
end
def NoSl (i : Expr) : Prop := ∀ ov iv, subscripted i false ov iv = operate [ov, iv] (getItem ov iv)
theorem subD_of {prog : Program} {w : World} {A : Around} {E : Value → Shared → Prop} {s : Shared} {env : Env} {value slice : Expr} {pos : Pos} {T id : String} {Q : Value → Shared → Prop}
    (hl : typeLookup (.type T) "__getitem__" = pure (some (.builtin id))) (hs : NoSl slice)
    (h : wpAny (model prog w) A (eval value env) (fun o s₁ => wpAny (model prog w) A (eval slice env) (fun i s₂ => s₂.TypeIs o T ∧ wpAny (model prog w) A (getItem o i) Q E s₂) E s₁) E s) :
    wpAny (model prog w) A (eval (.Subscript value slice pos) env) Q E s := by
  refine Subscript_ (wpAny_mono h (fun o s₁ h₁ => wpAny_mono h₁ (fun i s₂ h₂ => ?_) fun _ _ x => x) fun _ _ x => x)
  obtain ⟨hT, h₂⟩ := h₂
  unfold subscriptTail
  refine wpAny_bind ?_
  rw [getitemInPython_of_ne hT.not_modules]
  refine wpAny_bind (wpAny_specialOf hT hl ?_)
  have fin : wpAny (model prog w) A (subscripted slice false o i) (fun r s₃ => wpAny (model prog w) A (letTemporaryGo value o r >>= fun _ => pure r) Q E s₃) E s₂ := by
    rw [hs o i]
    exact wpAny_operating (wpAny_mono h₂ (fun r s₃ h₃ => wpAny_bind (wpAny_letTemporaryGo (wpAny_pure h₃))) fun _ _ x => x)
  first
    | exact wpAny_pure (wpAny_bind fin)
    | exact wpAny_bind (wpAny_pure (wpAny_bind fin))
    | exact wpAny_bind fin
theorem dict_typeIs {X : Cx} {pins : List (Addr × Obj)} {σ : St} {H : Hp} {s : Shared} {a : Addr} {y : V} {o : Option V} (I : Inv X pins σ H s) (g : DGet H a y o) : s.TypeIs (.ref a) "dict" := by
  rcases g with ⟨kvs, k, e, _, _⟩ | ⟨kvs, k, b, e, _, _, _⟩
  · obtain ⟨_, _, vs, _, dd⟩ := dk_rd I.hok e
    exact dd.typeIs
  · obtain ⟨_, _, xs, _, dd⟩ := dt_rd I.hok e
    exact dd.typeIs
def tDGet (td ty : TE) : TE := fun σ H Q => td σ H fun x H1 => ty σ H1 fun y H2 => ∃ a v, x = .ref a ∧ DGet H2 a y (some v) ∧ Q v H2
section
variable {X : Cx} {o i e value : Expr} {pos pos' tpos : Pos} {td ty tv : TE}
theorem pe_dget (hu : X.A.units + 1 < cLine) (ho : PE X o td) (hi : PE X i ty) (hs : NoSl i) : PE X (.Subscript o i pos) (tDGet td ty) := by
  intro pins s σ H Q I h
  refine subD_of PySem.F.slot_dict_getitem.lookup hs (thn (ho pins s σ H _ I h) fun u s1 ⟨x, H1, I1, rx, q1⟩ => thn (hi pins s1 σ H1 _ I1 q1) fun iv s2 ⟨y, H2, I2, ry, a, v, ex, g, q2⟩ => ?_)
  subst ex
  obtain rfl : u = Value.ref a := rx
  exact ⟨dict_typeIs I2 g, d_getItem hu I2 g ry fun w' s3 I3 rw' => ⟨v, H2, I3, rw', q2⟩⟩
end
theorem dk_empty {P : Program} {w : World} {H : Hp} (h : Heap) (hb : sysModules < h.objs.size) : ObjOk P w H (h.push { cls := .type "dict", data := .dict #[] }) h.objs.size (.dK []) :=
  ⟨Nat.zero_le _, beq_eq_false_iff_ne.mpr (Ne.symm (Nat.ne_of_lt hb)), [], .nil, Heap.DictOf.new h⟩
section
variable {X : Cx} {pos : Pos}
end
def tPairs : List (TE × TE) → St → Hp → (List (V × V) → Hp → Prop) → Prop
  | [], _, H, Q => Q [] H
  | (tk, tv) :: r, σ, H, Q => tk σ H fun x H1 => tv σ H1 fun y H2 => tPairs r σ H2 fun ps H3 => Q ((x, y) :: ps) H3
abbrev VV : List (V × V) → List (Value × Value) → Prop := Paired fun p q => RelV p.1 q.1 ∧ RelV p.2 q.2
def PPs (X : Cx) (pos : Pos) (keys : List (Option Expr)) (values : List Expr) (trs : List (TE × TE)) : Prop :=
  ∀ (pins : List (Addr × Obj)) (s : Shared) (σ : St) (H : Hp) (Q : List (V × V) → Hp → Prop), Inv X pins σ H s → tPairs trs σ H Q →
    wpAny (model X.prog X.w) X.A (evalPairs (pairTrees keys values X.env pos)) (fun vs s' => ∃ ps H', Inv X pins σ H' s' ∧ VV ps vs ∧ Q ps H') X.xe s
theorem pps_nil {X : Cx} {pos : Pos} : PPs X pos [] [] [] := fun pins s σ H Q I h => pairTrees_nil_walk ⟨[], H, I, .nil, h⟩
theorem pps_cons {X : Cx} {pos : Pos} {k v : Expr} {ks : List (Option Expr)} {vs : List Expr} {tk tv : TE} {trs : List (TE × TE)} (hk : PE X k tk) (hv : PE X v tv) (hr : PPs X pos ks vs trs) :
    PPs X pos (some k :: ks) (v :: vs) ((tk, tv) :: trs) := fun pins s σ H Q I h =>
  pairTrees_cons_walk (thn (hk pins s σ H _ I h) fun u s1 ⟨x, H1, I1, rx, q1⟩ => thn (hv pins s1 σ H1 _ I1 q1) fun w2 s2 ⟨y, H2, I2, ry, q2⟩ =>
    thn (hr pins s2 σ H2 _ I2 q2) fun ws s3 ⟨ps, H3, I3, rel, q3⟩ => ⟨(x, y) :: ps, H3, I3, .cons ⟨rx, ry⟩ rel, q3⟩)
def mergeK (kvs more : List (Key × V)) : List (Key × V) := more.foldl (fun acc kv => putK acc kv.1 kv.2) kvs
theorem KV.merge : ∀ {more : List (Key × V)} {rs : List (Key × Value)} {kvs : List (Key × V)} {vs : List (Key × Value)}, KV more rs → KV kvs vs → KV (mergeK kvs more) (merged vs rs) := by
  intro more rs kvs vs r
  unfold KV at r
  induction r generalizing kvs vs with
  | nil => intro q; exact q
  | @cons p q ps qs h t ih =>
    intro r0
    have e : KV (putK kvs p.1 p.2) (stored vs q.1 q.2) := by
      have := r0.put p.1 h.2
      rw [← h.1]; exact this
    exact ih e
theorem length_mergeK : ∀ (more kvs : List (Key × V)), (mergeK kvs more).length ≤ kvs.length + more.length
  | [], kvs => by show kvs.length ≤ kvs.length + 0; omega
  | p :: r, kvs => by
    have h1 := length_mergeK r (putK kvs p.1 p.2)
    have h2 := length_putK kvs p.1 p.2
    show (mergeK (putK kvs p.1 p.2) r).length ≤ _
    rw [List.length_cons]; omega
theorem carries_of {P : Program} {w : World} : ∀ {kvs : List (Key × V)} {ws : List (Value × Value)}, VV (kvs.map fun kv => (kV kv.1, kv.2)) ws → ∃ rs, Carries (mixKind P w) ws rs ∧ KV kvs rs
  | [], _, r => by rw [List.map_nil] at r; cases r; exact ⟨[], True.intro, .nil⟩
  | p :: kvs, _, r => by
    rw [List.map_cons] at r
    cases r with
    | @cons a b as bs h t =>
      obtain ⟨rs, c, q⟩ := carries_of (P := P) (w := w) t
      obtain ⟨b1, b2⟩ := b
      exact ⟨(p.1, b2) :: rs, ⟨kV_is h.1, rfl, c⟩, .cons ⟨rfl, h.2⟩ q⟩
def tDisp (trs : List (TE × TE)) : TE := fun σ H Q => ∀ p, H p = none → tPairs trs σ (upd H p (.dK [])) fun ps H2 => H2 p = some (.dK []) ∧ ∃ kvs : List (Key × V), ps = kvs.map (fun kv => (kV kv.1, kv.2)) ∧ kvs.length ≤ 15 ∧ Q (.ref p) (upd H2 p (.dK (mergeK [] kvs)))
theorem pe_disp {X : Cx} {pos : Pos} {keys : List (Option Expr)} {values : List Expr} {trs : List (TE × TE)} (h : PPs X pos keys values trs) (hall : keys.all (·.isSome) = true) (hl : keys.length = values.length) (h0 : keys ≠ [])
    (h15 : keys.length ≤ 15) : PE X (.Dict keys values pos) (tDisp trs) := by
  intro pins s σ H Q I q
  have hn := I.hok.fresh (Nat.le_refl s.heap.objs.size)
  have I1 := I.laid (a := s.heap.objs.size) (o := .dK []) (h' := s.heap.push { cls := .type "dict", data := .dict #[] }) (t' := s.toks) (fun _ _ q => Heap.get?_push_of_some _ q) (Nat.le_refl _) (dk_empty s.heap I.big)
  refine wpAny_Dict_walk (knd := mixKind X.prog X.w) hall hl h0 h15 (thn (h pins _ σ _ _ I1 (q _ hn)) fun ws s2 ⟨ps, H2, I2, rel, e, kvs, ep, lk, q2⟩ => ?_)
  subst ep
  obtain ⟨rs, c, rk⟩ := carries_of (P := X.prog) (w := X.w) rel
  obtain ⟨z, hd, vs0, r0, dd⟩ := dk_of I2.hok e
  cases r0
  refine ⟨rs, c, dd, fun h' dd' hs => ⟨.ref s.heap.objs.size, _, ?_, rfl, q2⟩⟩
  have hz : (mergeK [] kvs).length ≤ sizeLine := by
    have h1 := length_mergeK kvs []
    rw [List.length_nil] at h1
    rw [sizeLine_eq]; omega
  have he : ∃ q, h'.get? s.heap.objs.size = some q := let ⟨q, _, _, hq, _⟩ := dd'; ⟨q, hq⟩
  exact d_write I2 (by rw [e]; exact True.intro) hs he (dk_new hz hd (rk.merge .nil) dd')
structure M1 (X : Cx) (o : Expr) (m : Str) (apos : Pos) (e : Expr) (cpos : Pos) : Prop where
  base : attributeBase o m X.env (eval o X.env) = eval o X.env
  few : ((backTo cpos (starEach [e] X.env)).all (fun x => !x.1) && (backToKw cpos (keywordEach [] X.env)).all (fun x => x.1.isSome)
    && decide (([e] : List Expr).length + ([] : List Keyword).length + (if ([] : List Keyword).isEmpty then 0 else 1) < 30)) = true
  line : (apos.endLine == cpos.line) = true
  trees : backTo cpos (starEach [e] X.env) = [(false, eval e X.env)]
structure M2 (X : Cx) (o : Expr) (m : Str) (apos : Pos) (e f : Expr) (cpos : Pos) : Prop where
  base : attributeBase o m X.env (eval o X.env) = eval o X.env
  few : ((backTo cpos (starEach [e, f] X.env)).all (fun x => !x.1) && (backToKw cpos (keywordEach [] X.env)).all (fun x => x.1.isSome)
    && decide (([e, f] : List Expr).length + ([] : List Keyword).length + (if ([] : List Keyword).isEmpty then 0 else 1) < 30)) = true
  line : (apos.endLine == cpos.line) = true
  trees : backTo cpos (starEach [e, f] X.env) = [(false, eval e X.env), (false, eval f X.env)]
def IsD (H : Hp) (a : Addr) : Prop := (∃ kvs, Rd H a (.dK kvs)) ∨ ∃ kvs, Rd H a (.dT kvs)
theorem isD_at {X : Cx} {pins : List (Addr × Obj)} {σ : St} {H : Hp} {s : Shared} {a : Addr} (I : Inv X pins σ H s) (d : IsD H a) :
    s.TypeIs (.ref a) "dict" ∧ (∀ b, Value.ref a = .ref b → ∃ ob, s.heap.get? b = some ob ∧ ob.dict = none) ∧ (a == sysModules) = false := by
  rcases d with ⟨kvs, e⟩ | ⟨kvs, e⟩
  · obtain ⟨_, hd, vs, _, dd⟩ := dk_rd I.hok e
    refine ⟨dd.typeIs, fun b q => ?_, hd⟩
    cases q
    obtain ⟨ob, _, _, h1, h2, _⟩ := dd
    exact ⟨ob, h1, h2.2.1⟩
  · obtain ⟨_, hd, xs, _, dd⟩ := dt_rd I.hok e
    refine ⟨dd.typeIs, fun b q => ?_, hd⟩
    cases q
    obtain ⟨ob, _, _, h1, h2, _⟩ := dd
    exact ⟨ob, h1, h2.2.1⟩
section
variable {X : Cx} {pins : List (Addr × Obj)} {σ : St} {H : Hp} {s : Shared} {a : Addr} {y d : V} {u r : Value} {o : Option V} {A : Around} {E : Value → Shared → Prop}
theorem d_get2 {Q : Value → Shared → Prop} (hu : A.units + 1 < cLine) (I : Inv X pins σ H s) (g : DGet H a y o) (ry : RelV y u) (rd : RelV d r) (h : ∀ w' s', Inv X pins σ H s' → RelV (o.getD d) w' → Q w' s') :
    wpAny (model X.prog X.w) A (call (.builtin "dict.get") [.ref a, u, r]) Q E s := by
  rcases g with ⟨kvs, k, e, ey, l⟩ | ⟨kvs, k, b, e, ey, eb, l⟩
  · subst ey
    obtain ⟨z, hd, vs, rel, dd⟩ := dk_rd I.hok e
    refine call_meetsIn PySem.F.slot_dict_get dd.typeIs PySem.F.entry_dict_get (PySem.F.args_dict_get_3 _ _ _) (meets_dict_get_default (mixKind X.prog X.w) a (kV_is ry) hd r) ⟨_, dd.mapOf, h _ _ (I.tok _) ?_⟩
    rw [l]
    exact (rel.val k).getD rd
  · subst ey
    cases (show u = Value.ref b from ry)
    obtain ⟨z, hd, xs, rel, dd⟩ := dt_rd I.hok e
    refine call_meetsIn PySem.F.slot_dict_get dd.typeIs PySem.F.entry_dict_get (PySem.F.args_dict_get_3 _ _ _) (meetsH_dict_get_default (tupleKind (mixKind X.prog X.w)) a b hd r) ⟨tupleKind_room_in1 hu, k, xs, key_of I.hok eb, dd, h _ _ (I.tok _) ?_⟩
    rw [l]
    exact (rel.val k).getD rd
end
def tDGet2 (td ty tx : TE) : TE := fun σ H Q => td σ H fun x H1 => ∃ a, x = .ref a ∧ IsD H1 a ∧ ty σ H1 fun y H2 => tx σ H2 fun z H3 => ∃ o, DGet H3 a y o ∧ Q (o.getD z) H3
section
variable {X : Cx} {o e f : Expr} {apos cpos : Pos} {td ty tx : TE}
theorem pe_dget2 (hu : X.A.units + 1 < cLine) (ho : PE X o td) (he : PE X e ty) (hf : PE X f tx) (m : M2 X o "get" apos e f cpos) : PE X (.Call (.Attribute o "get" apos) [e, f] [] cpos) (tDGet2 td ty tx) := by
  intro pins s σ H Q I h
  refine wpAny_Call_method m.base m.few m.line PySem.F.plainAttrs_dict PySem.F.slot_dict_get PySem.F.type_dict_get (thn (ho pins s σ H _ I h) fun u s1 ⟨x, H1, I1, rx, a, ex, d, q1⟩ => ?_)
  subst ex
  obtain rfl : u = Value.ref a := rx
  obtain ⟨t1, t2, _⟩ := isD_at I1 d
  refine ⟨t1, t2, ?_⟩
  rw [m.trees]
  refine Calls.callWith_builtin rfl (Calls.evalArgs_plain (Calls.spliced_cons (thn (he pins s1 σ H1 _ I1 q1) fun iv s2 ⟨y, H2, I2, ry, q2⟩ =>
    Calls.spliced_cons (thn (hf pins s2 σ H2 _ I2 q2) fun fv s3 ⟨z, H3, I3, rz, ov, g, q3⟩ => Calls.spliced_nil ?_))))
  exact d_get2 hu I3 g ry rz fun w' s4 I4 rw' => ⟨_, H3, I4, rw', q3⟩
end
section
variable {X : Cx} {pins : List (Addr × Obj)} {σ : St} {H : Hp} {s : Shared} {a : Addr} {kvs : List (Key × V)} {A : Around} {E : Value → Shared → Prop}
end
section
variable {X : Cx} {pins : List (Addr × Obj)} {σ : St} {H : Hp} {s : Shared} {a : Addr} {y : V} {u : Value} {A : Around} {E : Value → Shared → Prop}
end
end L2
set_option maxHeartbeats 4000000
namespace Nm
open PySem L2 Lw Dig
def roomW (w : Str) : Int := ((valV (mergeK [] [(Sum.inr (Str.ofString "order"), V.int 1), (Sum.inr (Str.ofString "case"), V.int 2), (Sum.inr (Str.ofString "mark"), V.int 3)]) (Sum.inr w)).getD (V.int 1)) |> fun v => match v with | .int i => i | _ => 1
def room (ws : List Str) : Int := (ws.map roomW).sum
theorem room_is (w : Str) : (valV (mergeK [] [(Sum.inr (Str.ofString "order"), V.int 1), (Sum.inr (Str.ofString "case"), V.int 2), (Sum.inr (Str.ofString "mark"), V.int 3)]) (Sum.inr w)).getD (V.int 1) = V.int (roomW w) := by
  have e : mergeK [] [((Sum.inr (Str.ofString "order") : Key), V.int 1), (Sum.inr (Str.ofString "case"), V.int 2), (Sum.inr (Str.ofString "mark"), V.int 3)] = [(Sum.inr (Str.ofString "order"), V.int 1), (Sum.inr (Str.ofString "case"), V.int 2), (Sum.inr (Str.ofString "mark"), V.int 3)] := by rfl
  unfold roomW
  rw [e]
  unfold valV
  by_cases h1 : Str.ofString "order" = w
  · subst h1; simp
  · by_cases h2 : Str.ofString "case" = w
    · subst h2; simp [h1]
    · by_cases h3 : Str.ofString "mark" = w
      · subst h3; simp [h1, h2]
      · simp [h1, h2, h3]
def spRoom (K : PySem.W.Frag) : Sp := fun vs H Q _ => ∃ (p : Addr) (ws : List Str), vs = [.ref p] ∧ H p = some (.lst (ws.map V.str)) ∧ ws.length ≤ 1000 ∧ ∀ H', Same H H' → Q (.int (room ws)) H'
structure NumAt (H : Hp) (p : Addr) (b : Int × Int) : Prop where
  tup : H p = some (.tup [.int b.1, .int b.2])
  pos : 1 ≤ b.2
  gcd : Int.gcd b.1 b.2 = 1
  s1 : b.1.natAbs < 10 ^ 20
  s2 : b.2.natAbs ≤ 10 ^ 20
theorem NumAt.kept {d c p : Addr} {b : Int × Int} {H H' : Hp} (n : NumAt H p b) (D : DeckAt H d c) (k : KeptBut d c H H') : NumAt H' p b := by
  obtain ⟨i, ns, h1, h2, _⟩ := D.ex
  exact ⟨k _ _ n.tup (ne_of n.tup h1 (by intro z; cases z)) (ne_of n.tup h2 (by intro z; cases z)), n.pos, n.gcd, n.s1, n.s2⟩
theorem NumAt.same {p : Addr} {b : Int × Int} {H H' : Hp} (n : NumAt H p b) (k : Same H H') : NumAt H' p b := ⟨k _ _ n.tup, n.pos, n.gcd, n.s1, n.s2⟩
def spNumbers : Sp := fun vs H Q _ => ∃ (d c : Addr), vs = [.ref d] ∧ DeckAt H d c ∧
  ∀ (ps : List Addr) (l : Addr) (H' : Hp), 1 ≤ ps.length → ps.length ≤ 4 → (∀ p ∈ ps, ∃ b, NumAt H' p b) → H l = none → H' l = some (.lst (ps.map V.ref)) → DeckAt H' d c → KeptBut d c H H' → Q (.ref l) H'
def OptsAt (H : Hp) : List Addr → List (List Str) → Prop
  | [], [] => True
  | a :: as, o :: os => H a = some (.lst (o.map V.str)) ∧ OptsAt H as os
  | _, _ => False
theorem OptsAt.same {H H' : Hp} (s : Same H H') : ∀ {as : List Addr} {os : List (List Str)}, OptsAt H as os → OptsAt H' as os
  | [], [], _ => True.intro
  | _ :: _, _ :: _, h => ⟨s _ _ h.1, h.2.same s⟩
end Nm
set_option maxHeartbeats 4000000
namespace L2
open PySem PySem.Spec PyProof.Rows
section
variable {prog : Program} {w : World} {A : Around} {E : Value → Shared → Prop} {s : Shared}
theorem tell_no {a : Addr} {stored : List Value} {Q : Bool → Shared → Prop} (hq : ∀ Q : Bool → Shared → Prop, Q true s → wpAny (model prog w) A (eqIsQuiet 8 (.ref a)) Q E s) (hst : ∀ v ∈ stored, ∃ x t, v = .str x t) (h : Q false s) : wpAny (model prog w) A (tableMayTell (.ref a) stored) Q E s := by
  unfold tableMayTell
  split
  · exact wpAny_pure h
  · refine wpAny_bind (hq _ ?_)
    simp only [Bool.not_true, Bool.false_eq_true, if_false]
    refine wpAny_bind ?_
    refine wpAny_forIn_list _ (fun rest r s' => s' = s ∧ r = (none, ()) ∧ ∀ v ∈ rest, ∃ x t, v = .str x t) _ ?_ ?_ _ _ ⟨rfl, rfl, hst⟩
    · rintro x rest r s' ⟨rfl, rfl, hr⟩
      obtain ⟨z, t, rfl⟩ := hr x List.mem_cons_self
      refine wpAny_bind ?_
      unfold eqIsQuiet
      refine wpAny_pure ?_
      simp only [Bool.not_true, Bool.false_eq_true, if_false]
      exact wpAny_pure ⟨rfl, rfl, fun v hv => hr v (List.mem_cons_of_mem _ hv)⟩
    · rintro r s' ⟨rfl, rfl, _⟩
      exact wpAny_pure h
theorem find_no {d a : Addr} {o : Obj} {es : Array DictEntry} {ep : Nat} {hh : Int} {Q : Option Nat → Shared → Prop} (ho : s.heap.get? d = some o) (hd : o.data = .dict es ep) (hk : ∀ e ∈ es, ∃ x t, e.key = .str x t)
    (hq : ∀ Q : Bool → Shared → Prop, Q true s → wpAny (model prog w) A (eqIsQuiet 8 (.ref a)) Q E s) (heq : ∀ (x : Str) (t : Tok) (Q : Bool → Shared → Prop), Q false s → wpAny (model prog w) A (eqBool (.str x t) (.ref a)) Q E s) (h : Q none s) :
    wpAny (model prog w) A (dictFind d (.ref a) hh) Q E s := by
  have hany : ¬ (es.any fun e => e.key == Value.ref a && e.hash != hh) = true := by
    rw [← Array.any_toList, List.any_eq_true]
    rintro ⟨e, hin, hc⟩
    obtain ⟨x, t, ek⟩ := hk e (Array.mem_toList_iff.mp hin)
    rw [ek] at hc
    simp at hc
  have hst : ∀ v ∈ (placesWithHash es.size (fun i => es[i]?.map (·.hash)) hh).filterMap (fun i => es[i]?.map (·.key)), ∃ x t, v = .str x t := by
    intro v hv
    obtain ⟨i, _, hi⟩ := List.mem_filterMap.mp hv
    cases hei : es[i]? with
    | none => rw [hei] at hi; cases hi
    | some e =>
      rw [hei] at hi
      obtain rfl : e.key = v := by simpa using hi
      exact hk e (Array.mem_of_getElem? hei)
  unfold dictFind
  try with_reducible refine wpAny_holding ?_
  refine wpAny_bind (wpAny_dictEntries ho hd ?_)
  dsimp only
  rw [if_neg (show ¬ ((Value.ref a :: (placesWithHash es.size (fun i => es[i]?.map (·.hash)) hh).filterMap (fun i => es[i]?.map (·.key))).all carriedByValue) = true by simp [carriedByValue])]
  rw [if_neg hany]
  by_cases hone : (((placesWithHash es.size (fun i => es[i]?.map (·.hash)) hh).filterMap (fun i => es[i]?.map (·.key))) == [Value.ref a]) = true <;>
  (first | rw [if_pos hone] | rw [if_neg hone]) <;> (first | refine wpAny_bind (wpAny_pure ?_) | refine wpAny_bind (tell_no hq hst ?_)) <;> (
    rw [if_neg (by simp)]
    refine wpAny_bind ?_
    refine wpAny_forIn_list _ (fun rest b s' => s' = s ∧ b = (none, none)) _ ?_ ?_ _ _ ⟨rfl, rfl⟩
    · rintro x rest b s' ⟨rfl, rfl⟩
      cases hex : es[x]? with
      | none => exact wpAny_pure ⟨rfl, rfl⟩
      | some e =>
        obtain ⟨z, t, ek⟩ := hk e (Array.mem_of_getElem? hex)
        dsimp only
        by_cases hh' : (e.hash == hh) = true
        · rw [if_pos hh']
          rw [ek]
          refine wpAny_bind (wpAny_dictEpoch ho hd (wpAny_bind (heq z t _ (wpAny_bind (wpAny_dictEpoch ho hd ?_)))))
          show wpAny _ _ (if (ep != ep) = true then _ else _) _ E _
          rw [if_neg (by simp)]
          simp only [Bool.false_eq_true, if_false]
          refine wpAny_bind (wpAny_rule ?_)
          first | rw [if_neg (by simp)] | skip
          first
            | exact wpAny_pure ⟨rfl, rfl⟩
            | exact wpAny_bind (wpAny_pure (wpAny_pure ⟨rfl, rfl⟩))
        · rw [if_neg hh']
          exact wpAny_pure ⟨rfl, rfl⟩
    · rintro b s' ⟨rfl, rfl⟩
      exact wpAny_pure h)
theorem in_no {d a : Addr} {o : Obj} {es : Array DictEntry} {ep : Nat} {ks : List Key} {Q : Value → Shared → Prop} (hu : A.units + 1 < cLine) (hkey : IsTupleKey (mixKind prog w) s.heap ks a) (ho : s.heap.get? d = some o) (hc : o.cls = .type "dict") (hd : o.data = .dict es ep) (hs : (d == sysModules) = false)
    (hk : ∀ e ∈ es, ∃ x t, e.key = .str x t) (heq : ∀ (x : Str) (t : Tok) (s' : Shared), s'.heap = s.heap → SeqAt.EqAt A.in1 s' (.str x t) (.ref a) false) (h : Q (.bool false) { s with toks := s.toks + (ks.length + 1) }) : wpAny (model prog w) A (compareOp .In (.ref a) (.ref d)) Q E s := by
  have hty : s.TypeIs (.ref d) "dict" := ⟨o, ho, hc⟩
  show wpAny _ _ (do return .bool (← contains (.ref d) (.ref a))) Q E s
  refine wpAny_bind ?_
  unfold contains
  try with_reducible refine wpAny_holding ?_
  refine wpAny_bind (wpAny_specialOf hty slot_dict_contains.lookup ?_)
  show wpAny _ _ (if (some (Value.builtin "dict.__contains__") == some Value.none) = true then _ else _) _ E s
  rw [if_neg (by rw [beq_builtin_none]; exact Bool.false_ne_true)]
  refine wpAny_bind (wpAny_callSpecialUnlessNone?_slot (name := Str.ofString "__contains__") hty slot_dict_contains
    (wpAny_call_entry slot_dict_contains hty entry_dict_contains ?_ (args_dict_contains _ _)))
  show wpAny _ _ (dictGet d (.ref a) >>= _) _ _ s
  refine wpAny_bind ?_
  unfold dictGet
  try with_reducible refine wpAny_holding ?_
  refine wpAny_bind (wpAny_pyHash_tuple (knd := mixKind prog w) (A := A.in1) (show A.units + 1 < cLine from hu) hkey (wpAny_bind (find_no (s := { s with toks := s.toks + (ks.length + 1) }) ho hd hk (fun Q h => wpAny_eqIsQuiet_tuple (knd := mixKind prog w) hkey h) (fun x t Q h => heq x t { s with toks := s.toks + (ks.length + 1) } rfl prog w _ Q h) ?_)))
  refine wpAny_pure ?_
  show wpAny _ _ (Builtin.Dict.pendingKey? d (.ref a) >>= _) _ _ _
  exact wpAny_bind (wpAny_pendingKey_other hs (wpAny_pure ⟨_, rfl, wpAny_truthy_bool (wpAny_pure h)⟩))
end
section
variable {X : Cx}
def rInKW (K : PySem.W.Frag) (P : Params) : R2 := fun x y H Q => ∃ a g, y = .ref a ∧ DictK K P a g ∧ ((∃ z, x = .str z ∧ Q (.bl (g z).isSome) H) ∨ ∃ (p : Addr) (b c : Int), x = .ref p ∧ SqT K H p [.int b, .int c] ∧ Q (.bl false) H)
theorem op_inKW (hu : X.A.units + 64 < cLine) : OpR X (compareOp .In) (rInKW X.K X.w.params) := by
  intro pins s σ H x y v u Q I rx ry h
  obtain ⟨a, g, rfl, D, h⟩ := h
  rcases h with ⟨z, rfl, q⟩ | ⟨p, b, c, rfl, hp, q⟩
  · exact op_inK pins s σ H _ _ v u Q I rx ry ⟨z, a, g, rfl, rfl, D, q⟩
  · cases rx
    cases ry
    obtain ⟨es, n, hl, hk⟩ := D.ex
    obtain ⟨its, rv, pt, hz⟩ := I.tuple hp
    obtain ⟨o, ho, hc, nn, hdt⟩ := id pt
    have hia : ItemsAre (mixKind X.prog X.w) [.inl b, .inl c] its := by
      cases rv with
      | cons r1 r2 => cases r2 with
        | cons r2 r3 => cases r3; exact .cons (kV_is (k := .inl b) r1) (.cons (kV_is (k := .inl c) r2) .nil)
    refine in_no (by omega) (ks := [.inl b, .inl c]) ⟨o, its.toArray, nn, ho, hc, hdt, by simpa using hia⟩ (I.mod.kin.keeps I.bk _ _ hl) rfl rfl D.lo (fun e he => ?_) (fun x t s' hs' => ?_) ⟨.bl false, H, I.tok _, rfl, q⟩
    · obtain ⟨x, t, e1, _⟩ := hk.all e (Array.mem_toList_iff.mpr he)
      exact ⟨x, t, e1⟩
    · refine SeqAt.EqAt.str_tuple (items := its.toArray) x t (hs'.symm ▸ pt) ?_
      show X.A.units + 1 < cLine
      omega
end
end L2
set_option maxHeartbeats 4000000
namespace L2
open PySem PySem.Spec PyProof.Rows
section
variable {prog : Program} {w : World} {A : Around} {E : Value → Shared → Prop} {s : Shared}
end
section
variable {X : Cx}
end
end L2
set_option maxHeartbeats 4000000
namespace L2
open PySem PySem.Spec PyProof.Rows
section
variable {prog : Program} {w : World} {A : Around} {E : Value → Shared → Prop} {s : Shared}
end
section
variable {X : Cx} {K : PySem.W.Frag} {e st : Expr} {te : TE} {ts : TO} {p2 pos : Pos}
end
end L2
namespace HT
open PySem PySem.Spec PyProof.Rows
section
variable {prog : Program} {w : World} {A : Around} {E : Value → Shared → Prop} {s : Shared}
end
end HT
namespace L2
open PySem PySem.Spec PyProof.Rows
section
variable {X : Cx} {K : PySem.W.Frag}
theorem ev_catT {σ : St} {G : Hp} {ta tb : TE} {ds es : List PyData} (ha : Ev K ta σ G (.tuple ds)) (hb : Ev K tb σ G (.tuple es)) (hne : ds ≠ []) (hz : ds.length + es.length ≤ sizeLine) : Ev K (tOp (rCatT K) ta tb) σ G (.tuple (ds ++ es)) :=
  ev_op ha hb fun G1 H u v Q s1 s2 hu hv k => by
    obtain ⟨p, xs, rfl, hp, hxs⟩ := hu.tup
    obtain ⟨q, ys, rfl, hq, hys⟩ := hv.tup
    have l1 := hxs.length
    have l2 := hys.length
    refine ⟨p, q, xs, ys, rfl, rfl, s2.tup hp, s2.tup hq, fun e => hne (by subst e; exact List.length_eq_zero_iff.mp l1.symm), by omega, fun e => ?_, fun e r hr => ?_⟩
    · refine k _ G1 H (Grow.refl s2) ?_
      subst e
      have : es = [] := List.length_eq_zero_iff.mp l2.symm
      subst this
      rw [List.append_nil]
      exact dat_tup hp hxs
    · have g := grow_new (o := .tup (xs ++ ys)) s2 hr
      exact k _ _ _ g (dat_tup (SqT.of upd_same) (dats_append (hxs.same g.gg) (hys.same g.gg)))
theorem ev_slL {σ : St} {G : Hp} {te : TE} {tl th : TO} {ds : List PyData} {lo hi : Option Int} (h : Ev K te σ G (.list ds)) (hl : ∀ H (Q : Option Int → Hp → Prop), Q lo H → tl σ H Q) (hh : ∀ H (Q : Option Int → Hp → Prop), Q hi H → th σ H Q) :
    Ev K (tSl (rSlL K) te tl th) σ G (.list ((ds.drop (HT.sIx ds.length 0 lo)).take (HT.sIx ds.length ds.length hi - HT.sIx ds.length 0 lo))) :=
  fun G1 H s1 s2 Q k => h G1 H s1 s2 _ fun v G2 H2 g2 hv => by
    obtain ⟨p, xs, rfl, hp, hxs⟩ := hv.lst
    have hlen := hxs.length
    refine hl _ _ (hh _ _ ⟨p, xs, rfl, SqL.of (g2.gh _ _ hp), fun q hq => ?_⟩)
    have g := grow_new (o := .lst (cutV xs lo hi)) g2.gh hq
    refine k _ _ _ (g2.trans g) (dat_lst upd_same ?_)
    have q := dats_take (HT.sIx ds.length ds.length hi - HT.sIx ds.length 0 lo) (dats_drop (HT.sIx ds.length 0 lo) (hxs.same g.gg))
    rw [← hlen] at q ⊢
    exact q
end
end L2
set_option maxHeartbeats 4000000
namespace L2
open PySem PySem.Spec PyProof.Rows
section
variable {K : PySem.W.Frag} {σ : St} {G : Hp} {ta tb : TE}
end
end L2
namespace Rdo
open PySem L2 Ord Nm
end Rdo
set_option maxHeartbeats 4000000
namespace L2
open PySem PySem.Spec PyProof.Rows
structure LamScope (fr sc : Scope) (ps cap : List Str) : Prop where
  kind : sc.kind = .function
  co : sc.isCoroutine = false
  gen : sc.isGenerator = false
  cell : ∀ p ∈ sc.names, p.2 ≠ .cell
  par : ∀ y ∈ ps, sc.names.lookup y = some .local
  free : ∀ p ∈ sc.names, p.2 = .free → fr.names.lookup p.1 = some .cell
  caps : ∀ y ∈ cap, (y, NameKind.free) ∈ sc.names
  capl : ∀ y ∈ cap, sc.names.lookup y = some .free
  nd : (ps ++ cap).Nodup
def IsLam (H : Hp) (f : Addr) (q : Str) (params : Arguments) (body : Expr) (sc : Scope) (cl : List (Str × Addr)) : Prop :=
  ∃ (pm ctv : Value) (c' : Addr) (oc : Obj), H f = some (.frz (PySem.W.kla_obj "<lambda>" q params body sc cl pm c' ctv) (.own f)) ∧ H c' = some (.frz oc (.own c')) ∧ CodeOf oc q
structure CellsAre (s : Shared) (H : Hp) (cl : List (Str × Addr)) (cap : List Str) (vals : St) : Prop where
  inj : ∀ x y c, cl.lookup x = some c → cl.lookup y = some c → x = y
  isc : ∀ x c, cl.lookup x = some c → (∃ v, s.heap.IsCell c v) ∧ H c = none
  val : ∀ (i : Nat) (y : Str) (v : V), cap[i]? = some y → vals[i]? = some (some v) → ∃ c u, cl.lookup y = some c ∧ s.heap.IsCell c (some u) ∧ RelV v u
theorem codeRec_frz {P : Program} {w : World} {H : Hp} {h : Heap} {c : Addr} {oc : Obj} {q : Str} (ok : HOk P w H h) (e : H c = some (.frz oc (.own c))) (hc : CodeOf oc q) : h.CodeRec (.ref c) q := by
  obtain ⟨e1, _⟩ := ok c _ e
  obtain ⟨vs, t, d1, d2⟩ := hc
  exact ⟨c, oc, vs, t, rfl, e1, d1, d2⟩
theorem CellsAre.un {s s' : Shared} {H H' : Hp} {cl : List (Str × Addr)} {cap : List Str} {vals : St} {fs : List Addr} (C : CellsAre s H cl cap vals) (u : Un fs [] H H' s.heap s'.heap) : CellsAre s' H' cl cap vals := by
  have kc : ∀ c v, H c = none → s.heap.IsCell c v → s'.heap.IsCell c v := fun c v n ⟨o, ho, hd⟩ => by
    obtain ⟨sl, e⟩ := u.any ho n (by simp)
    exact ⟨_, e, hd⟩
  refine ⟨C.inj, fun x c h => ?_, fun i y v h1 h2 => ?_⟩
  · obtain ⟨⟨v, hv⟩, n⟩ := C.isc x c h
    obtain ⟨o, ho, hd⟩ := id hv
    exact ⟨⟨v, kc c v n hv⟩, u.free c o ho n (by simp)⟩
  · obtain ⟨c, w, e1, e2, r⟩ := C.val i y v h1 h2
    exact ⟨c, w, e1, kc c _ (C.isc y c e1).2 e2, r⟩
theorem IsLam.same {H H' : Hp} {f : Addr} {q : Str} {params : Arguments} {body : Expr} {sc : Scope} {cl : List (Str × Addr)} (L : IsLam H f q params body sc cl) (k : ∀ b o u, H b = some (.frz o u) → H' b = some (.frz o u)) : IsLam H' f q params body sc cl :=
  let ⟨pm, ctv, c', oc, h1, h2, h3⟩ := L; ⟨pm, ctv, c', oc, k _ _ _ h1, k _ _ _ h2, h3⟩
theorem lookup_mem {α : Type} {y : Str} {u : α} : ∀ {l : List (Str × α)}, (l.map (·.1)).Nodup → (y, u) ∈ l → l.lookup y = some u
  | [], _, h => by simp at h
  | (z, v) :: l, nd, h => by
    rw [List.lookup_cons]
    rw [List.map_cons, List.nodup_cons] at nd
    rcases List.mem_cons.mp h with e | h
    · cases e; simp
    · have : y ≠ z := fun e => nd.1 (e ▸ List.mem_map_of_mem (f := (·.1)) h)
      have hb : (y == z) = false := by simpa using this
      rw [hb]
      exact lookup_mem nd.2 h
section
variable {P : Program} {w : World} {K : PySem.W.Frag} {mg : Str → Option Value} {base : Heap} {A : Around} {outer : List Env} {s : Shared} {H : Hp} {f : Addr} {q : Str} {params : Arguments} {body : Expr} {fr sc : Scope} {cl : List (Str × Addr)} {ps cap : List Str}
end
end L2
set_option maxHeartbeats 4000000
namespace L2
open PySem PySem.Spec PyProof.Rows
def BM (mg : Str → Option Value) (h : Heap) : Prop := ∃ bm ob, mg "__builtins__" = some (.ref bm) ∧ bm ≠ builtinsNs ∧ h.get? bm = some ob ∧ ob.cls = .type "module" ∧ ob.dict = some builtinsNs ∧ ob.data = .plain
theorem among_snoc {pos pos' : Pos} {c v : Value} : ∀ (l : List Value), TriplesOk l → codeAmong pos' (l ++ [rawInt pos.line, rawInt pos.col, c]) = some v → codeAmong pos' l = some v ∨ (pos'.line = pos.line ∧ pos'.col = pos.col ∧ v = c) := by
  intro l h
  fun_induction TriplesOk l
    with
  | case1 =>
    intro e
    simp only [List.nil_append, rawInt, codeAmong] at e
    split at e
    · rename_i hc
      simp at hc
      cases e
      exact .inr ⟨by omega, by omega, rfl⟩
    · cases e
  | case2 a t b u x rest ih =>
    intro e
    simp only [List.cons_append, codeAmong] at e ⊢
    split at e
    · rename_i hc; rw [if_pos hc]; exact .inl e
    · rename_i hc; rw [if_neg hc]; exact ih h e
  | case3 l z1 z2 => exact False.elim h
section
variable {X : Cx} {pins : List (Addr × Obj)} {σ : St} {H : Hp} {s : Shared} {sc : Scope} {ps cap : List Str} {P c : Addr} {cr : Nat → Nat → Option Str} {q : Str} {params : Arguments} {body : Expr} {pos : Pos}
theorem LamScope.cells (S : LamScope X.env.scope sc ps cap) (ok : X.Ok) : ∀ p ∈ sc.names, p.2 = .free → ∃ c, X.env.cells.lookup p.1 = some c :=
  fun p hp e => ok.has p.1 (.inl (S.free p hp e))
theorem LamScope.sub (S : LamScope X.env.scope sc ps cap) (ok : X.Ok) {y : Str} {c : Addr} (h : (clOf X.env sc.names []).lookup y = some c) : X.env.cells.lookup y = some c :=
  clOf_mem (S.cells ok) (fun _ _ z => by simp at z) h
end
end L2
set_option maxHeartbeats 4000000
namespace L2
open PySem PySem.Spec PyProof.Rows
abbrev SpS := Shared → List V → Hp → VK → Prop
structure FnOkS (P : Program) (w : World) (K : PySem.W.Frag) (mg : Str → Option Value) (base : Heap) (k : Nat) (f : Addr) (fd : FuncData) (ps : List Str) (sp : SpS) : Prop where
  len : ∀ s vs H Q, sp s vs H Q → vs.length = ps.length
  run : ∀ (A : Around) (outer : List Env) (s : Shared) (H : Hp) (args : Args) (us : List Value) (vs : List V) (Q : VK), Room k A → Env0 P w K mg base A outer s H → BindsTo s fd args (ps.zip us) → Vals vs us → sp s vs H Q →
    codeAny (model P w) A (.call (.ref f) args) (CR CX0 outer P w H s Q E0) s
theorem FnOkS.mono {P : Program} {w : World} {K : PySem.W.Frag} {mg : Str → Option Value} {base : Heap} {j k : Nat} {f : Addr} {fd : FuncData} {ps : List Str} {sp : SpS} (F : FnOkS P w K mg base j f fd ps sp) (h : j ≤ k) :
    FnOkS P w K mg base k f fd ps sp := ⟨F.len, fun A outer s H args us vs Q hr => F.run A outer s H args us vs Q (hr.mono h)⟩
theorem fn_ofS {P : Program} {w : World} {K : PySem.W.Frag} {mg : Str → Option Value} {base : Heap} {k : Nat} {f : Addr} {name qual : Str} {params : Arguments} {body : List Stmt} {scope : Scope} {dV kV doc pm cdv ct oc : Value} {an od : Option Addr}
    {osl : Array (Option Value)} {N ps : List Str} {sp : SpS} (lk : K.lookup f = some ⟨oc, od, .func (PySem.W.fnOf name qual params body scope dV kV doc pm an cdv ct), osl⟩) (hcd : PySem.W.codeIn K cdv qual = true) (S : FnScope N ps scope)
    (len : ∀ s vs H Q, sp s vs H Q → vs.length = ps.length)
    (hbody : ∀ (A : Around) (outer : List Env) (s : Shared) (H : Hp) (vs : List V) (Q : VK), Room k (A.deeper (envOfC qual scope s.heap.objs.size f cdv)) → sp s vs H Q →
      ∃ t, PSs (cxOf CX0 P w K mg base N qual scope f cdv A outer s H E0) body t ∧ t { nx := fun _ H' => Q .non H', rt := Q } (start N vs) H) :
    FnOkS P w K mg base (k + 1) f (PySem.W.fnOf name qual params body scope dV kV doc pm an cdv ct) ps sp := by
  refine ⟨len, fun A outer s H args us vs Q hr e0 hb r hsp => ?_⟩
  have hl := len _ _ _ _ hsp
  have KX : K.In s.heap := e0.mod.kin.keeps fun b o e => (e0.bs b o e).1
  have lim : s.heap.NoLimit := e0.mod.nolimit.keeps fun b o e => (e0.bs b o e).1
  have hkind : ∀ y ∈ ps.zip us, scope.names.lookup y.1 = some .local ∨ (scope.names.lookup y.1 = some .cell ∧ ((cellsFrom (s.heap.objs.size + 1) scope.names []).lookup y.1).isSome = true) := fun ⟨n, v⟩ hy => by
    rcases S.par n (List.of_mem_zip hy).1 with q | q
    · exact .inl q
    · exact .inr ⟨q, PySem.W.cellsFrom_some _ _ _ (.inl q)⟩
  refine codeAny_call_function hr.depth (KX _ _ lk) rfl S.co S.gen rfl (PySem.W.codeRec_of KX hcd) (hb _ _ _ _ ?_)
  refine wpAny_newFunctionEnv_cells S.kind hkind fun env he s1 x => ?_
  subst he
  refine ⟨lim.keeps x.toInCall.keep, codeAny_func ?_⟩
  obtain ⟨t, ht, hq⟩ := hbody A outer s H vs Q (hr.deeper _) hsp
  have I : Inv (cxOf CX0 P w K mg base N qual scope f cdv A outer s H E0) [] (start N vs) H s1 := inv_start S hr.hd e0 hl r x
  refine wpAny_mono (ht [] s1 (start N vs) H _ I hq) (fun fl s' hs => ?_) fun e s' hs => hs
  have fin : ∀ {σ' : St} {H' : Hp} {v : V} {u : Value}, Inv (cxOf CX0 P w K mg base N qual scope f cdv A outer s H E0) [] σ' H' s' → RelV v u → Q v H' → CE outer P w H s Q u s' :=
    fun {σ' H' v u} J rv q => ⟨v, H', J.os, J.bare, J.base, J.hok, rv, q⟩
  cases fl with
  | ret u =>
    obtain ⟨v, σ', H', J, rv, q⟩ := hs
    exact fin J rv q
  | next =>
    obtain ⟨σ', H', J, q⟩ := hs
    exact fin (v := V.non) (u := Value.none) J rfl q
  | brk =>
    obtain ⟨_, _, _, q⟩ := hs
    exact False.elim q
  | cont =>
    obtain ⟨_, _, _, q⟩ := hs
    exact False.elim q
section
variable {P : Program} {w : World} {K : PySem.W.Frag} {mg : Str → Option Value} {base : Heap}
theorem Fun.okS {x qual : Str} {st : Stmt} {f : Addr} {fd : FuncData} {N ps : List Str} {k : Nat} {sp : SpS} (F : Fun K x qual st f fd) (S : FnScope N ps (defScope st)) (len : ∀ s vs H Q, sp s vs H Q → vs.length = ps.length)
    (hbody : ∀ (cdv : Value) (A : Around) (outer : List Env) (s : Shared) (H : Hp) (vs : List V) (Q : VK), Room k (A.deeper (envOfC qual (defScope st) s.heap.objs.size f cdv)) → sp s vs H Q →
      ∃ t, PSs (cxOf CX0 P w K mg base N qual (defScope st) f cdv A outer s H E0).nox (defBody st) t ∧ t { nx := fun _ H' => Q .non H', rt := Q } (start N vs) H) : FnOkS P w K mg base (k + 1) f fd ps sp := by
  obtain ⟨oc, od, kV, doc, pm, an, cdv, ct, osl, rfl, lk, hcd⟩ := F.ex
  refine fn_ofS lk hcd S len fun A outer s H vs Q hr hsp => ?_
  obtain ⟨t, h, q⟩ := hbody cdv A outer s H vs Q hr hsp
  exact ⟨t, h.nox, q⟩
theorem Fun.okC {x qual : Str} {st : Stmt} {f : Addr} {fd : FuncData} {N ps : List Str} {k : Nat} {sp : Sp} (F : Fun K x qual st f fd) (S : FnScope N ps (defScope st)) (len : ∀ vs H Q E, sp vs H Q E → vs.length = ps.length)
    (hbody : ∀ (cdv : Value) (A : Around) (outer : List Env) (s : Shared) (H : Hp) (vs : List V) (Q : VK) (E : XK), cdv = fd.code → Room k (A.deeper (envOfC qual (defScope st) s.heap.objs.size f cdv)) → sp vs H Q E →
      ∃ t, PSs (cxOf CX0 P w K mg base N qual (defScope st) f cdv A outer s H E).nox (defBody st) t ∧ t { nx := fun _ H' => Q .non H', rt := Q } (start N vs) H) : FnOk P w K mg base CX0 (k + 1) f fd ps sp := by
  obtain ⟨oc, od, kV, doc, pm, an, cdv, ct, osl, rfl, lk, hcd⟩ := F.ex
  refine fn_of lk hcd S len fun A outer s H vs Q E hr hsp => ?_
  obtain ⟨t, h, q⟩ := hbody cdv A outer s H vs Q E rfl hr hsp
  exact ⟨t, h.nox, q⟩
end
section
variable {X : Cx} {k i : Nat} {x : Str} {f : Addr} {q : Str} {params : Arguments} {body : Expr} {fr sc : Scope} {cl : List (Str × Addr)} {ps cap : List Str} {vals : St} {te : TE} {e : Expr} {es : List Expr} {t : TA} {p pos : Pos}
end
def hv (g : Nat → Bool) (lo hi : Nat) : Nat := if h : lo < hi then (if g ((lo + hi) / 2) then hv g ((lo + hi) / 2 + 1) hi else hv g lo ((lo + hi) / 2)) else lo
termination_by hi - lo
decreasing_by all_goals omega
section
variable {X : Cx} {kk : Nat} {x y : Str} {f c P : Addr} {fd : FuncData} {cr : Nat → Nat → Option Str} {q : Str} {params : Arguments} {body e0 : Expr} {sc : Scope} {cap : List Str} {t0 te : TE} {p pos lpos : Pos}
end
end L2
set_option maxHeartbeats 4000000
namespace L2
open PySem PySem.Spec PyProof.Rows
theorem mem_look {β : Type} {a : Addr} {b : β} : ∀ {l : List (Addr × β)}, l.lookup a = some b → (a, b) ∈ l
  | [], h => by simp at h
  | (z, v) :: l, h => by
    rw [List.lookup_cons] at h
    cases hb : a == z with
    | true =>
      rw [hb] at h
      have : a = z := by simpa using hb
      cases h; subst this; exact List.mem_cons_self
    | false => rw [hb] at h; exact List.mem_cons_of_mem _ (mem_look h)
theorem look_mem {β : Type} {a : Addr} {b : β} : ∀ {l : List (Addr × β)}, (l.map (·.1)).Nodup → (a, b) ∈ l → l.lookup a = some b
  | [], _, h => by simp at h
  | (z, v) :: l, nd, h => by
    rw [List.lookup_cons]
    rw [List.map_cons, List.nodup_cons] at nd
    rcases List.mem_cons.mp h with e | h
    · cases e; simp
    · have : a ≠ z := fun e => nd.1 (e ▸ List.mem_map_of_mem (f := (·.1)) h)
      have hb : (a == z) = false := by simpa using this
      rw [hb]
      exact look_mem nd.2 h
structure Bs (K : PySem.W.Frag) (mg : Str → Option Value) (base : Heap) : Prop where
  kin : K.In base
  bm : BM mg base
abbrev Tabs := List (Addr × (Nat → Nat → Option Str))
def TabsIn (H : Hp) (tabs : Tabs) : Prop := ∀ p ∈ tabs, H p.1 = some (.tbl p.2)
theorem law_callT {P : Program} {w : World} {K : PySem.W.Frag} {mg mb : Str → Option Value} {k : Nat} {fa a : Addr} {fd : FuncData} {x : Str} {sp : Sp} {s₁ : Shared} {vs : List Value} {ns : List Int} (tabs : Tabs)
    (KX : K.In s₁.heap) (hns : s₁.heap.Ns mainGlobals mg) (hb : s₁.heap.Ns builtinsNs mb) (hbb : ∀ x : Str, x ≠ "__name__" → mb x = bootBuiltins x) (hlim : s₁.heap.NoLimit) (hg : s₁.gens = #[])
    (ha : s₁.heap.get? a = some { cls := .type "list", data := .seq vs.toArray }) (hi : IntsAre vs ns) (hl : ns.length ≤ sizeLine) (hr : Room k callerA)
    (hbm : BM mg s₁.heap) (hT : ∀ p ∈ tabs, s₁.heap.get? p.1 = some { cls := .none, data := .fields #[] }) (hIs : ∀ p ∈ tabs, isCodeTable s₁.heap p.1) (hKt : ∀ p ∈ tabs, K.lookup p.1 = none) (hnd : (tabs.map (·.1)).Nodup)
    (F : ∀ base : Heap, K.In base → base.Ns mainGlobals mg → Bs K mg base → FnOk P w K mg base CX0 k fa fd [x] sp) (hbind : ∀ (s : Shared) (u : Value), BindsTo s fd ⟨[u], []⟩ [(x, u)])
    (hsp : ∀ H : Hp, TabsIn H tabs → SqL K H a (ns.map V.int) → sp [.ref a] H (fun v _ => v = .bl true) fun _ _ _ => False) :
    codeAny (model P w) callerA (.call (.ref fa) ⟨[.ref a], []⟩) (fun r s' => r = .ok (.ret (.bool true)) ∧ OldK s₁.heap s'.heap ∧ s'.os = s₁.os ∧ AllBare s'.gens) s₁ := by
  have rv := vals_ints hi
  have lenV := hi.length
  have core : ∀ H : Hp, TabsIn H tabs → SqL K H a (ns.map V.int) → HOk P w H s₁.heap → (∀ b, H b ≠ none → (b = a ∧ ∃ o xs, H b = some (.frz o (.lst xs))) ∨ ∃ p ∈ tabs, p.1 = b) → (H a ≠ none → K.lookup a = none) →
      codeAny (model P w) callerA (.call (.ref fa) ⟨[.ref a], []⟩) (fun r s' => r = .ok (.ret (.bool true)) ∧ OldK s₁.heap s'.heap ∧ s'.os = s₁.os ∧ AllBare s'.gens) s₁ := by
    intro H hTb hS hok hA hK
    have base_of : ∀ {b : Addr} {o : Obj}, s₁.heap.get? b = some o → H b = none → (hidT s₁.heap H).get? b = some o := fun e n => hidT_get e n
    have noT : ∀ {b : Addr} {o : Obj}, s₁.heap.get? b = some o → (∀ vs n, o.data ≠ .seq vs n) → (∀ vs, o.data ≠ .fields vs) → H b = none := fun {b o} e d1 d2 => by
      cases q : H b with
      | none => rfl
      | some u =>
        rcases hA b (by rw [q]; simp) with ⟨e', _⟩ | ⟨p, hp, e'⟩
        · subst e'
          rw [ha] at e; cases e
          exact absurd rfl (d1 _ _)
        · subst e'
          rw [hT p hp] at e; cases e
          exact absurd rfl (d2 _)
    have noA : ∀ {b : Addr} {o : Obj} {es : Array DictEntry} {ep : Nat}, s₁.heap.get? b = some o → o.data = .dict es ep → H b = none := fun {b o es ep} e d => noT e (fun vs n z => by rw [d] at z; cases z) fun vs z => by rw [d] at z; cases z
    have nsK : ∀ {b : Addr} {m : Str → Option Value}, s₁.heap.Ns b m → (hidT s₁.heap H).Ns b m := fun {b m} ⟨o, es, ep, e, d, r⟩ => ⟨o, es, ep, base_of e (noA e d), d, r⟩
    have hKb : K.In (hidT s₁.heap H) := fun b o e => base_of (KX b o e) (by
      cases q : H b with
      | none => rfl
      | some u =>
        rcases hA b (by rw [q]; simp) with ⟨e', _⟩ | ⟨p, hp, e'⟩
        · subst e'
          rw [hK (by rw [q]; simp)] at e; cases e
        · subst e'
          rw [hKt p hp] at e; cases e)
    have hBs : Bs K mg (hidT s₁.heap H) := ⟨hKb, by
      obtain ⟨bm, ob, b1, b2, b3, b4, b5, b6⟩ := hbm
      exact ⟨bm, ob, b1, b2, base_of b3 (noT b3 (fun vs n z => by rw [b6] at z; cases z) fun vs z => by rw [b6] at z; cases z), b4, b5, b6⟩⟩
    have hM : Mod K mg (hidT s₁.heap H) := ⟨hKb, nsK hns, ⟨mb, nsK hb, hbb⟩, let ⟨mc, h1, h2⟩ := hlim; ⟨mc, nsK h1, h2⟩⟩
    have e0 : Env0 P w K mg (hidT s₁.heap H) callerA [] s₁ H := ⟨rfl, hM, fun b o e => of_hidT e, Nat.le_of_eq (hidT_size _ _), trivial, fun b hb => absurd (show b ∈ ([] : List Addr) from hb) (by simp), hok, .of_eq hg⟩
    refine codeAny_mono ((F _ hKb (nsK hns) hBs).run callerA [] s₁ H ⟨[.ref a], []⟩ [.ref a] [.ref a] _ _ hr e0 (hbind s₁ (.ref a)) (.cons rfl .nil) (hsp H hTb hS)) fun r s' h => ?_
    cases r with
    | error e => exact False.elim h
    | ok fl =>
      cases fl with
      | next => exact False.elim h
      | brk => exact False.elim h
      | cont => exact False.elim h
      | ret u =>
        obtain ⟨v, H', os, bare, un, hok', r', q⟩ := h
        have q' : v = .bl true := q
        subst q'
        obtain rfl : u = Value.bool true := r'
        refine ⟨rfl, ⟨fun b o e => ?_, fun b o e => un.there b o e (by simp)⟩, os, bare⟩
        cases q : H b with
        | none => exact .inl (un.keep b o e q (by intro z; exact absurd (show b ∈ ([] : List Addr) from z) (by simp)) (by simp))
        | some u =>
          rcases hA b (by rw [q]; simp) with ⟨e', ob, xs, z⟩ | ⟨p, hp, e'⟩
          · have z2 := un.frzs b ob _ z
            obtain ⟨e1, _⟩ := hok b _ z
            obtain ⟨e2, _⟩ := hok' b _ z2
            rw [e] at e1; cases e1
            exact .inl e2
          · subst e'
            have z := un.tbls _ _ (hTb p hp)
            obtain ⟨ps, e1, _⟩ := hok' _ _ z
            rw [hT p hp] at e; cases e
            exact .inr (.inl ⟨hIs p hp, rfl, #[], ps, rfl, by rw [Array.empty_append]; exact e1⟩)
  have hpa : ∀ p ∈ tabs, p.1 ≠ a := fun p hp z => by
    have := hT p hp
    rw [z, ha] at this; cases this
  have tl : ∀ p ∈ tabs, tabs.lookup p.1 = some p.2 := fun p hp => look_mem hnd hp
  have okT : ∀ (H : Hp) (b : Addr) (cr : Nat → Nat → Option Str), tabs.lookup b = some cr → ObjOk P w H s₁.heap b (.tbl cr) := fun H b cr e =>
    ⟨#[], hT (b, cr) (mem_look e), trivial, fun pos v z => by cases z⟩
  cases hk : K.lookup a with
  | some o =>
    have e := KX a o hk
    rw [ha] at e
    cases e
    refine core (fun b => (tabs.lookup b).map HO.tbl) (fun p hp => by show (tabs.lookup p.1).map HO.tbl = _; rw [tl p hp]; rfl) (.inr ⟨_, vs.toArray, _, hk, rfl, rfl, rfl, by rw [List.size_toArray, lenV]; exact hl, by simpa using rv⟩) (fun b u z => ?_) (fun b z => ?_) fun z => ?_
    · obtain ⟨cr, e1, e2⟩ := Option.map_eq_some_iff.mp z
      subst e2
      exact okT _ b cr e1
    · replace z : (tabs.lookup b).map HO.tbl ≠ none := z
      cases e : tabs.lookup b with
      | none => rw [e] at z; exact absurd rfl z
      | some cr => exact .inr ⟨_, mem_look e, rfl⟩
    · replace z : (tabs.lookup a).map HO.tbl ≠ none := z
      cases e : tabs.lookup a with
      | none => rw [e] at z; exact absurd rfl z
      | some cr => exact absurd rfl (hpa _ (mem_look e))
  | none =>
    refine core (fun b => if b = a then some (.frz { cls := .type "list", data := .seq vs.toArray } (.lst (ns.map V.int))) else (tabs.lookup b).map HO.tbl) (fun p hp => ?_) (.inl (.inr ⟨{ cls := .type "list", data := .seq vs.toArray }, if_pos rfl⟩)) (fun b u z => ?_) (fun b z => ?_) fun _ => hk
    · show (if p.1 = a then _ else (tabs.lookup p.1).map HO.tbl) = _
      rw [if_neg (hpa p hp), tl p hp]; rfl
    · by_cases hb : b = a
      · have z' := (if_pos hb).symm.trans z
        cases z'
        subst hb
        exact ⟨ha, by rw [List.length_map]; exact hl, vs, _, rv, ha⟩
      · have z' := (if_neg hb).symm.trans z
        obtain ⟨cr, e1, e2⟩ := Option.map_eq_some_iff.mp z'
        subst e2
        exact okT _ b cr e1
    · by_cases hb : b = a
      · exact .inl ⟨hb, _, _, if_pos hb⟩
      · replace z : (if b = a then _ else (tabs.lookup b).map HO.tbl) ≠ none := z
        rw [if_neg hb] at z
        cases e : tabs.lookup b with
        | none => rw [e] at z; exact absurd rfl z
        | some cr => exact .inr ⟨_, mem_look e, rfl⟩
theorem walk_ofT {l : PySem.W.OpenLaw} {n k : Nat} {q : Program} {loose : List Str} {XP : (Str → Option Value) → Heap → Prop} {YP : World → Heap → Prop} {d : DefRec} {K : Params → PySem.W.Frag} {sp : World → Sp} {x : Str} (tabs : World → Tabs)
    (hn : l.most = some n) (hn2 : n ≤ sizeLine) (hdf : d.params.defaults = []) (hr : Room k callerA)
    (hY : ∀ (w : World) (h : Heap), YP w h → (K w.params).In h ∧ ∀ p ∈ tabs w, h.get? p.1 = some { cls := .none, data := .fields #[] })
    (F : ∀ (w : World) (mg : Str → Option Value) (fa : Addr) (h : Heap), (K w.params).In h → h.Ns mainGlobals mg → mg d.name = some (.ref fa) →
      ∃ fd : FuncData, (∀ (s : Shared) (u : Value), BindsTo s fd ⟨[u], []⟩ [(x, u)]) ∧ ((∀ p ∈ tabs w, (K w.params).lookup p.1 = none) ∧ (∀ p ∈ tabs w, isCodeTable h p.1) ∧ ((tabs w).map (·.1)).Nodup) ∧
        ∀ base : Heap, (K w.params).In base → base.Ns mainGlobals mg → Bs (K w.params) mg base → FnOk l.prog w (K w.params) mg base CX0 k fa fd [x] (sp w))
    (hsp : ∀ (w : World) (H : Hp) (a : Addr) (ns : List Int), ns.length ≤ n → TabsIn H (tabs w) → SqL (K w.params) H a (ns.map V.int) → sp w [.ref a] H (fun v _ => v = .bl true) fun _ _ _ => False) :
    PySem.W.WalkO q loose XP YP l.row.toRowW d [] (fun f vs => PySem.call f vs) := by
  refine Att.attach_call hn hdf fun w s₀ s₁ mg mb fa o pm cd doc a vs ns G Y ho hd hcd hmg hobj hints hlen hg => ?_
  obtain ⟨KX, hT⟩ := hY w _ Y
  obtain ⟨fd, hb, ⟨h1, h2, h3⟩, hF⟩ := F w mg fa _ KX G.T.g hmg
  exact law_callT (tabs w) KX G.T.g G.T.b G.T.builtins G.T.nolimit hg hobj hints (Nat.le_trans hlen hn2) hr G.T.bmain hT h2 h1 h3 hF hb (fun H hO hS => hsp w H a ns hlen hO hS)
def spLawT (K : PySem.W.Frag) (tabs : Tabs) : Sp := fun vs H Q _ => ∃ (a : Addr) (ns : List Int), vs = [.ref a] ∧ SqL K H a (ns.map V.int) ∧ ns.length ≤ 63 ∧ TabsIn H tabs ∧ ∀ H', Q (.bl true) H'
theorem isTab_of {K : PySem.W.Frag} {h : Heap} {c P : Addr} (X : K.In h) (e : PySem.W.codeHdIn K c P = true) : isCodeTable h P := by
  obtain ⟨o, vs, file, tf, flags, tg, inF, text, tt, e1, e2, e3, e4, _⟩ := PySem.W.codeHd_of_K X e
  exact ⟨c, o, vs, e1, e2, e3, e4⟩
end L2
set_option maxHeartbeats 4000000
namespace L2
open PySem PySem.Spec PyProof.Rows
theorem cellsFrom_app : ∀ (names : List (Str × NameKind)) (n : Nat) (a b : List (Str × Addr)), cellsFrom n names (a ++ b) = cellsFrom n names a ++ b
  | [], _, _, _ => rfl
  | (x, k) :: r, n, a, b => by
    unfold cellsFrom
    split
    · rw [← List.cons_append]; exact cellsFrom_app r (n + 1) _ b
    · exact cellsFrom_app r n a b
theorem lookup_app {α : Type} {y : Str} {l m : List (Str × α)} : (l ++ m).lookup y = (l.lookup y).or (m.lookup y) := by
  induction l with
  | nil => simp
  | cons p r ih =>
    obtain ⟨z, v⟩ := p
    rw [List.cons_append, List.lookup_cons, List.lookup_cons]
    split
    · simp
    · exact ih
theorem forIn_same {α : Type} {f g : α → PUnit → Sem (ForInStep PUnit)} : ∀ (l : List α), (∀ x ∈ l, f x ⟨⟩ = g x ⟨⟩) → forIn l PUnit.unit f = forIn l PUnit.unit g
  | [], _ => rfl
  | x :: l, h => by
    rw [List.forIn_cons, List.forIn_cons, h x List.mem_cons_self]
    congr 1
    funext r
    cases r with
    | done b => rfl
    | yield b => exact forIn_same l fun y hy => h y (List.mem_cons_of_mem _ hy)
theorem store_same {e e' : Env} {n : Str} {v : Value} (h1 : e.scope = e'.scope) (h2 : e.locals = e'.locals) (h3 : e.globals = e'.globals) (h4 : e.cells.lookup n = e'.cells.lookup n) : storeName e n v = storeName e' n v := by
  unfold storeName
  have k1 : e.kindOf n = e'.kindOf n := by unfold Env.kindOf; rw [h1]
  have k2 : e.blockKind = e'.blockKind := by unfold Env.blockKind; rw [h1]
  have k3 : cellOf e n = cellOf e' n := by unfold cellOf; rw [h4]
  have k4 : localSet e n v = localSet e' n v := by unfold localSet; rw [h2]
  rw [k1, k2, k3, k4, h1, h2, h3]
section
variable {M : Model} {A : Around} {E : Value → Shared → Prop} {s : Shared}
theorem newEnv_both {scope : Scope} {globals : Addr} {cl : List (Str × Addr)} {binds : List (Str × Value)} {qual : Str} {func : Option Addr} {code : Value} {builtins : Addr} {Q : Env → Shared → Prop} (hk : scope.kind = .function)
    (hkind : ∀ x ∈ binds, scope.names.lookup x.1 = some .local ∨ (scope.names.lookup x.1 = some .cell ∧ ((cellsFrom (s.heap.objs.size + 1) scope.names []).lookup x.1).isSome = true))
    (hcl : ∀ x ∈ binds, scope.names.lookup x.1 = some .local → cl.lookup x.1 = none)
    (hQ : ∀ env', env' = newEnv scope s.heap.objs.size globals (cellsFrom (s.heap.objs.size + 1) scope.names []) qual func code none builtins → ∀ s', InCallC s env'.locals (bindL env'.kindOf binds fun _ => none) env'.cells (bindC env'.kindOf binds fun _ => none) s' →
      Q (newEnv scope s.heap.objs.size globals (cellsFrom (s.heap.objs.size + 1) scope.names [] ++ cl) qual func code none builtins) s') :
    wpAny M A (newFunctionEnv scope globals cl binds qual func code none builtins) Q E s := by
  simp only [newFunctionEnv, Option.isSome_none, Bool.false_eq_true, if_false]
  refine wpAny_bind (wpAny_alloc ?_)
  refine wpAny_bind (wpAny_layCells _ (fun name kind cells => by cases hkc : kind == NameKind.cell <;> simp [hkc]) _ _ _ _ ?_)
  have ok := cellsFrom_ok scope.names (s.heap.push { cls := .type "frame", data := .dict #[] }) (s.heap.objs.size + 1) [] ⟨fun _ _ hm => (nomatch hm), List.Pairwise.nil⟩ (by rw [Heap.size_push]; exact Nat.le_refl _)
  rw [Heap.size_push] at ok
  rw [show ({ s with heap := s.heap.push { cls := .type "frame", data := .dict #[] } } : Shared).heap.objs.size = s.heap.objs.size + 1 from Heap.size_push ..]
  rw [show cellsFrom (s.heap.objs.size + 1) scope.names cl = cellsFrom (s.heap.objs.size + 1) scope.names [] ++ cl from cellsFrom_app _ _ [] cl]
  refine wpAny_bind ?_
  rw [forIn_same (g := fun (x : Str × Value) _ => do storeName (newEnv scope s.heap.objs.size globals (cellsFrom (s.heap.objs.size + 1) scope.names []) qual func code none builtins) x.1 x.2; pure (.yield ⟨⟩)) binds fun x hx => ?_]
  · refine wpAny_bindParams (s₀ := s) (env := newEnv scope s.heap.objs.size globals (cellsFrom (s.heap.objs.size + 1) scope.names []) qual func code none builtins)
      _ (fun _ _ _ => rfl) hk binds (fun _ => none) (fun _ => none) _ _
      ⟨⟨⟨_, _, rfl⟩, (Heap.Ns.new s.heap (.type "frame")).keeps (pushCells_keeps _ _), fun b o e => pushCells_keeps _ _ b o (Heap.get?_push_of_some _ e), Nat.le_refl _⟩,
        fun n c hc => (ok.empty n c (mem_of_lookup hc)).1, ok.apart, fun n c hm => (ok.empty n c hm).2⟩
      hkind fun s' x => wpAny_pure (hQ _ rfl s' x)
  · have e : storeName (newEnv scope s.heap.objs.size globals (cellsFrom (s.heap.objs.size + 1) scope.names [] ++ cl) qual func code none builtins) x.1 x.2 = storeName (newEnv scope s.heap.objs.size globals (cellsFrom (s.heap.objs.size + 1) scope.names []) qual func code none builtins) x.1 x.2 := by
      refine store_same rfl rfl rfl ?_
      show (cellsFrom (s.heap.objs.size + 1) scope.names [] ++ cl).lookup x.1 = (cellsFrom (s.heap.objs.size + 1) scope.names []).lookup x.1
      rw [lookup_app]
      rcases hkind x hx with h | ⟨_, h⟩
      · rw [hcl x hx h]; simp
      · obtain ⟨c, hc⟩ := Option.isSome_iff_exists.mp h
        rw [hc]; rfl
    exact congrArg (fun m : Sem Unit => m >>= fun _ => (pure (ForInStep.yield PUnit.unit) : Sem (ForInStep PUnit))) e
end
theorem cells_kind {y : Str} {c : Addr} : ∀ {names : List (Str × NameKind)} {n : Nat} {acc : List (Str × Addr)}, (y, c) ∈ cellsFrom n names acc → (y, NameKind.cell) ∈ names ∨ (y, c) ∈ acc
  | [], _, _, h => .inr h
  | (x, k) :: r, n, acc, h => by
    unfold cellsFrom at h
    split at h
    · rename_i hk
      have hk' : k = .cell := by simpa using hk
      rcases cells_kind h with a | a
      · exact .inl (List.mem_cons_of_mem _ a)
      · rcases List.mem_cons.mp a with e | a
        · cases e; rw [hk']; exact .inl List.mem_cons_self
        · exact .inr a
    · rcases cells_kind h with a | a
      · exact .inl (List.mem_cons_of_mem _ a)
      · exact .inr a
structure CloScope (fr sc : Scope) (ps loc cap : List Str) : Prop where
  kind : sc.kind = .function
  co : sc.isCoroutine = false
  gen : sc.isGenerator = false
  par : ∀ y ∈ ps, sc.names.lookup y = some .local ∨ sc.names.lookup y = some .cell
  free : ∀ p ∈ sc.names, p.2 = .free → fr.names.lookup p.1 = some .cell
  caps : ∀ y ∈ cap, (y, NameKind.free) ∈ sc.names
  capl : ∀ y ∈ cap, sc.names.lookup y = some .free
  nd : (ps ++ loc ++ cap).Nodup
  ndn : (sc.names.map (·.1)).Nodup
def IsDef (H : Hp) (f : Addr) (name q : Str) (params : Arguments) (body : List Stmt) (sc : Scope) (cl : List (Str × Addr)) : Prop :=
  ∃ (doc pm ctv : Value) (c' : Addr) (oc : Obj), H f = some (.frz (PySem.W.fnMade name q params body sc cl doc pm c' ctv) (.own f)) ∧ H c' = some (.frz oc (.own c')) ∧ CodeOf oc q
theorem IsDef.same {H H' : Hp} {f : Addr} {name q : Str} {params : Arguments} {body : List Stmt} {sc : Scope} {cl : List (Str × Addr)} (L : IsDef H f name q params body sc cl) (k : ∀ b o u, H b = some (.frz o u) → H' b = some (.frz o u)) : IsDef H' f name q params body sc cl :=
  let ⟨doc, pm, ctv, c', oc, h1, h2, h3⟩ := L; ⟨doc, pm, ctv, c', oc, k _ _ _ h1, k _ _ _ h2, h3⟩
theorem IsDef.fnAt {P : Program} {w : World} {H : Hp} {h : Heap} {f : Addr} {name q : Str} {params : Arguments} {body : List Stmt} {sc : Scope} {cl : List (Str × Addr)} (ok : HOk P w H h) (L : IsDef H f name q params body sc cl) : PySem.W.FnAt f h := by
  obtain ⟨doc, pm, ctv, c', oc, h1, _⟩ := L
  obtain ⟨ho, _⟩ := ok f _ h1
  exact ⟨_, _, _, _, ho⟩
def envB (q : Str) (sc : Scope) (L f : Addr) (cd : Value) (cl : List (Str × Addr)) : Env := PySem.W.envX q sc L f cd (cellsFrom (L + 1) sc.names [] ++ cl)
def cloCx (P : Program) (w : World) (K : PySem.W.Frag) (mg : Str → Option Value) (base : Heap) (N : List Str) (q : Str) (sc : Scope) (f c' : Addr) (cl : List (Str × Addr)) (A : Around) (outer : List Env) (s : Shared) (H : Hp) : Cx where
  prog := P
  w := w
  K := K
  mg := mg
  base := base
  A := A.deeper (envB q sc s.heap.objs.size f (.ref c') cl)
  N := N
  s₀ := s
  H₀ := H
  env := envB q sc s.heap.objs.size f (.ref c') cl
  outer := outer
  stack := envB q sc s.heap.objs.size f (.ref c') cl :: outer
  ex := []
  calm := true
  fn := fun y => match sc.names.lookup y with | some .free => false | _ => true
  pn := []
  xe := fun _ _ => False
section
variable {P : Program} {w : World} {K : PySem.W.Frag} {mg : Str → Option Value} {base : Heap} {A : Around} {outer : List Env} {s : Shared} {H : Hp} {f : Addr} {name q : Str} {params : Arguments} {body : List Stmt} {fr sc : Scope} {cl : List (Str × Addr)} {ps loc cap : List Str}
theorem clo_inv {c' : Addr} {us : List Value} {vs : List V} {vals : St} {s1 : Shared} (S : CloScope fr sc ps loc cap) (hcap : ∀ y, sc.names.lookup y = some .free → ∃ c, cl.lookup y = some c) (hclp : ∀ y c, cl.lookup y = some c → sc.names.lookup y = some .free) (hd : A.handled = none) (e0 : Env0 P w K mg base A outer s H) (hl : vs.length = ps.length) (hv : vals.length = cap.length) (r : Vals vs us) (C : CellsAre s H cl cap vals)
    (x : InCallC s s.heap.objs.size (bindL (envOfC q sc s.heap.objs.size f (.ref c')).kindOf (ps.zip us) fun _ => none) (cellsFrom (s.heap.objs.size + 1) sc.names []) (bindC (envOfC q sc s.heap.objs.size f (.ref c')).kindOf (ps.zip us) fun _ => none) s1) :
    Inv (cloCx P w K mg base (ps ++ loc ++ cap) q sc f c' cl A outer s H) [] (vs.map some ++ List.replicate loc.length none ++ vals) H s1 := by
  obtain ⟨h1, tk, rfl, hk⟩ := x.done
  have noA : ∀ b : Addr, b ∉ (cloCx P w K mg base (ps ++ loc ++ cap) q sc f c' cl A outer s H).ex := fun b z => absurd (show b ∈ ([] : List Addr) from z) (by simp)
  have ndp : ps.Nodup := (List.nodup_append.mp (List.nodup_append.mp S.nd).1).1
  have clt : ∀ y c, cl.lookup y = some c → c < s.heap.objs.size := fun y c h => by
    obtain ⟨⟨v, o, ho, _⟩, _⟩ := C.isc y c h
    exact Heap.lt_size ho
  have cgt : ∀ y c, (cellsFrom (s.heap.objs.size + 1) sc.names []).lookup y = some c → s.heap.objs.size < c := fun y c h => x.above y c (PySem.mem_of_lookup h)
  have two : ∀ y c, (cloCx P w K mg base (ps ++ loc ++ cap) q sc f c' cl A outer s H).env.cells.lookup y = some c → (cellsFrom (s.heap.objs.size + 1) sc.names []).lookup y = some c ∨ ((cellsFrom (s.heap.objs.size + 1) sc.names []).lookup y = none ∧ cl.lookup y = some c) := fun y c h => by
    have h : (cellsFrom (s.heap.objs.size + 1) sc.names [] ++ cl).lookup y = some c := h
    rw [lookup_app] at h
    cases e : (cellsFrom (s.heap.objs.size + 1) sc.names []).lookup y with
    | some c2 => rw [e] at h; exact .inl h
    | none => rw [e] at h; exact .inr ⟨rfl, by simpa using h⟩
  refine ⟨⟨e0.mod, S.kind, rfl, rfl, Nat.le_refl _, fun y z c h1 h2 => ?_, fun y hy => ?_, fun y c hf h => ?_, fun _ => hd, Around.frames_deeper e0.frames, .inr ⟨rfl, rfl⟩, fun b z => absurd z (noA b), e0.bs, e0.bsz, fun b _ _ => noA b, fun b z => absurd z (noA b), e0.funs, e0.frf⟩,
    rfl, e0.bare, Un.kept hk, ⟨_, x.toInCall.ns, fun i y v h1 h2 h3 => ?_⟩, fun y c h => ?_, e0.hok.fresh (Nat.le_refl _), fun y c h => ?_, fun p hp => absurd (show p ∈ ([] : List (Addr × Obj)) from hp) (by simp), e0.hok.kept hk, ?_⟩
  · rcases two y c h1 with a | ⟨_, a⟩ <;> rcases two z c h2 with b | ⟨_, b⟩
    · exact name_of_addr x.apart (PySem.mem_of_lookup a) (PySem.mem_of_lookup b)
    · exact absurd (Nat.lt_trans (cgt y c a) (clt z c b)) (Nat.lt_irrefl _)
    · exact absurd (Nat.lt_trans (cgt z c b) (clt y c a)) (Nat.lt_irrefl _)
    · exact C.inj y z c a b
  · have hy : sc.names.lookup y = some .cell ∨ sc.names.lookup y = some .free := hy
    show ∃ c, (cellsFrom (s.heap.objs.size + 1) sc.names [] ++ cl).lookup y = some c
    rw [lookup_app]
    rcases hy with hy | hy
    · obtain ⟨c, e⟩ := cell_has (n := s.heap.objs.size + 1) hy
      exact ⟨c, by rw [e]; rfl⟩
    · obtain ⟨c, e⟩ := hcap y hy
      cases e2 : (cellsFrom (s.heap.objs.size + 1) sc.names []).lookup y with
      | some c2 => exact ⟨c2, rfl⟩
      | none => exact ⟨c, by rw [e]; rfl⟩
  · have hf : (match sc.names.lookup y with | some .free => false | _ => true) = true := hf
    rcases two y c h with a | ⟨_, a⟩
    · exact Nat.le_of_lt (cgt y c a)
    · rw [hclp y c a] at hf; cases hf
  · have h1 : (ps ++ loc ++ cap)[i]? = some y := h1
    have lr : (List.replicate loc.length (none : Option V)).length = loc.length := List.length_replicate
    by_cases hi : i < ps.length
    · have hp : ps[i]? = some y := by
        rw [List.append_assoc, List.getElem?_append_left hi] at h1; exact h1
      have ha : vs[i]? = some v := by
        rw [List.append_assoc, List.getElem?_append_left (by rw [List.length_map]; omega), List.getElem?_map] at h2
        cases e : vs[i]? with
        | none => rw [e] at h2; cases h2
        | some a => rw [e] at h2; cases h2; rfl
      obtain ⟨u, hu, rv⟩ := r.get ha
      refine ⟨u, rv, ?_⟩
      rcases S.par y (List.mem_of_getElem? hp) with k | k
      · exact .inl ⟨k, bindL_get ndp hp hu k⟩
      · obtain ⟨c, e⟩ := cell_has (n := s.heap.objs.size + 1) k
        refine .inr ⟨.inl k, c, ?_, ?_⟩
        · show (cellsFrom (s.heap.objs.size + 1) sc.names [] ++ cl).lookup y = some c
          rw [lookup_app, e]; rfl
        · have q' := x.cell y c e
          rw [bindC_get ndp hp hu (by show sc.names.lookup y ≠ _; rw [k]; decide)] at q'
          exact q'
    · by_cases hi2 : i < ps.length + loc.length
      · rw [List.getElem?_append_left (by rw [List.length_append, List.length_map, lr]; omega), List.getElem?_append_right (by rw [List.length_map]; omega), List.getElem?_replicate] at h2
        split at h2 <;> cases h2
      · have hc : cap[i - (ps ++ loc).length]? = some y := by
          rw [List.getElem?_append_right (by rw [List.length_append]; omega)] at h1; exact h1
        have ha : vals[i - (ps ++ loc).length]? = some (some v) := by
          rw [List.getElem?_append_right (by rw [List.length_append, List.length_map, lr]; omega)] at h2
          rw [List.length_append, List.length_map, lr, hl] at h2
          rw [List.length_append]; exact h2
        obtain ⟨c, u, e1, e2, rv⟩ := C.val _ y v hc ha
        obtain ⟨o, ho, hd'⟩ := e2
        refine ⟨u, rv, .inr ⟨.inr (S.capl y (List.mem_of_getElem? hc)), c, ?_, o, hk _ _ ho, hd'⟩⟩
        show (cellsFrom (s.heap.objs.size + 1) sc.names [] ++ cl).lookup y = some c
        have hn : (cellsFrom (s.heap.objs.size + 1) sc.names []).lookup y = none := by
          cases e3 : (cellsFrom (s.heap.objs.size + 1) sc.names []).lookup y with
          | none => rfl
          | some c3 =>
            have := (cells_kind (PySem.mem_of_lookup e3)).resolve_right (by simp)
            have k := S.capl y (List.mem_of_getElem? hc)
            have k2 := lookup_mem S.ndn this
            rw [k] at k2; cases k2
        rw [lookup_app, hn, e1]; rfl
  · rcases two y c h with a | ⟨_, a⟩
    · exact ⟨_, x.cell y c a⟩
    · obtain ⟨⟨v, o, ho, hd'⟩, _⟩ := C.isc y c a
      exact ⟨v, o, hk _ _ ho, hd'⟩
  · rcases two y c h with a | ⟨_, a⟩
    · exact e0.hok.fresh (Nat.le_of_lt (cgt y c a))
    · exact (C.isc y c a).2
  · show (vs.map some ++ List.replicate loc.length none ++ vals).length = (ps ++ loc ++ cap).length
    rw [List.length_append, List.length_append, List.length_append, List.length_append, List.length_map, List.length_replicate, hl, hv]
end
end L2
set_option maxHeartbeats 4000000
namespace L2
open PySem PySem.Spec PyProof.Rows
section
variable {P : Program} {w : World} {K : PySem.W.Frag} {mg : Str → Option Value} {base : Heap} {A : Around} {outer : List Env} {s : Shared} {H : Hp} {f : Addr} {name q : Str} {params : Arguments} {body : List Stmt} {fr sc : Scope} {cl : List (Str × Addr)} {ps loc cap : List Str}
theorem clo_run {k : Nat} {us : List Value} {vs : List V} {vals : St} {Q : VK} (S : CloScope fr sc ps loc cap) (hcap : ∀ y, sc.names.lookup y = some .free → ∃ c, cl.lookup y = some c) (hclp : ∀ y c, cl.lookup y = some c → sc.names.lookup y = some .free) (hr : Room (k + 1) A) (e0 : Env0 P w K mg base A outer s H) (L : IsDef H f name q params body sc cl) (C : CellsAre s H cl cap vals)
    (hbind : ∀ (doc pm ctv : Value) (c' : Addr), bindArgs (PySem.W.fnX name q params body sc cl .none .none doc pm none (.ref c') ctv) ⟨us, []⟩ = pure (ps.zip us)) (hl : vs.length = ps.length) (hv : vals.length = cap.length) (r : Vals vs us)
    (hbody : ∀ c', Room k (A.deeper (envB q sc s.heap.objs.size f (.ref c') cl)) → ∃ t, PSs (cloCx P w K mg base (ps ++ loc ++ cap) q sc f c' cl A outer s H) body t ∧ t { nx := fun _ H' => Q .non H', rt := Q } (vs.map some ++ List.replicate loc.length none ++ vals) H) :
    codeAny (model P w) A (.call (.ref f) ⟨us, []⟩) (CR CX0 outer P w H s Q E0) s := by
  obtain ⟨doc, pm, ctv, c', oc, h1, h2, h3⟩ := L
  obtain ⟨ho, _⟩ := e0.hok f _ h1
  have lim : s.heap.NoLimit := e0.mod.nolimit.keeps fun b o e => (e0.bs b o e).1
  refine codeAny_call_function hr.depth ho rfl S.co S.gen rfl (codeRec_frz e0.hok h2 h3) ?_
  rw [hbind doc pm ctv c']
  have hkind : ∀ y ∈ ps.zip us, sc.names.lookup y.1 = some .local ∨ (sc.names.lookup y.1 = some .cell ∧ ((cellsFrom (s.heap.objs.size + 1) sc.names []).lookup y.1).isSome = true) := fun ⟨n, v⟩ hy => by
    rcases S.par n (List.of_mem_zip hy).1 with q | q
    · exact .inl q
    · exact .inr ⟨q, PySem.W.cellsFrom_some _ _ _ (.inl q)⟩
  refine wpAny_pure (newEnv_both S.kind hkind (fun y hy hloc => ?_) fun env he s1 x => ?_)
  · cases e : cl.lookup y.1 with
    | none => rfl
    | some c => rw [hclp _ _ e] at hloc; cases hloc
  subst he
  refine ⟨lim.keeps x.toInCall.keep, codeAny_func ?_⟩
  obtain ⟨t, ht, hq⟩ := hbody c' (hr.deeper _)
  have I := clo_inv (f := f) (q := q) (c' := c') S hcap hclp hr.hd e0 hl hv r C x
  refine wpAny_mono (ht [] s1 _ H _ I hq) (fun fl s' hs => ?_) fun e s' z => z.elim
  have fin : ∀ {σ' : St} {H' : Hp} {v : V} {u : Value}, Inv (cloCx P w K mg base (ps ++ loc ++ cap) q sc f c' cl A outer s H) [] σ' H' s' → RelV v u → Q v H' → CE outer P w H s Q u s' :=
    fun {σ' H' v u} J rv q => ⟨v, H', J.os, J.bare, J.base, J.hok, rv, q⟩
  cases fl with
  | ret u =>
    obtain ⟨v, σ', H', J, rv, q⟩ := hs
    exact fin J rv q
  | next =>
    obtain ⟨σ', H', J, q⟩ := hs
    exact fin (v := V.non) (u := Value.none) J rfl q
  | brk =>
    obtain ⟨_, _, _, q⟩ := hs
    exact False.elim q
  | cont =>
    obtain ⟨_, _, _, q⟩ := hs
    exact False.elim q
end
section
variable {X : Cx} {pins : List (Addr × Obj)} {σ : St} {H : Hp} {s : Shared} {sc : Scope} {ps loc cap : List Str} {P c : Addr} {cr : Nat → Nat → Option Str} {name q : Str} {params : Arguments} {body : List Stmt} {pos : Pos}
theorem CloScope.cells {fr : Scope} (S : CloScope X.env.scope sc ps loc cap) (ok : X.Ok) : ∀ p ∈ sc.names, p.2 = .free → ∃ c, X.env.cells.lookup p.1 = some c :=
  fun p hp e => ok.has p.1 (.inl (S.free p hp e))
theorem CloScope.sub (S : CloScope X.env.scope sc ps loc cap) (ok : X.Ok) {y : Str} {c : Addr} (h : (clOf X.env sc.names []).lookup y = some c) : X.env.cells.lookup y = some c :=
  clOf_mem (S.cells (fr := sc) ok) (fun _ _ z => by simp at z) h
theorem clOf_free {env : Env} {y : Str} {c : Addr} : ∀ {names : List (Str × NameKind)} {acc : List (Str × Addr)}, (clOf env names acc).lookup y = some c → (y, NameKind.free) ∈ names ∨ acc.lookup y = some c
  | [], _, h => .inr h
  | (x, k) :: r, acc, h => by
    unfold clOf at h
    rcases clOf_free h with a | a
    · exact .inl (List.mem_cons_of_mem _ a)
    · by_cases hk : (k == NameKind.free) = true
      · rw [if_pos hk, List.lookup_cons] at a
        by_cases e : (y == x) = true
        · have e' : y = x := by simpa using e
          have k' : k = .free := by simpa using hk
          subst e' k'
          exact .inl List.mem_cons_self
        · have e' : (y == x) = false := by simpa using e
          rw [e'] at a; exact .inr a
      · rw [if_neg hk] at a; exact .inr a
theorem Inv.cellsOf (I : Inv X pins σ H s) (S : CloScope X.env.scope sc ps loc cap) {js : List Nat} (hjs : js.map (fun j => X.N[j]?) = cap.map some) : CellsAre s H (clOf X.env sc.names []) cap (capV σ js) := by
  have ok := I.ok
  refine ⟨fun x y c h1 h2 => ok.inj x y c (S.sub ok h1) (S.sub ok h2), fun x c h => ⟨I.cell x c (S.sub ok h), I.freeC x c (S.sub ok h)⟩, fun i y v e1 e2 => ?_⟩
  have hy : y ∈ cap := List.mem_of_getElem? e1
  unfold capV at e2
  rw [List.getElem?_map] at e2
  cases ej : js[i]? with
  | none => rw [ej] at e2; cases e2
  | some j =>
    rw [ej] at e2
    have e2'' : (σ[j]?).join = some v := Option.some.inj e2
    have eN : X.N[j]? = some y := by
      have := congrArg (fun l => l[i]?) hjs
      simp only [List.getElem?_map, ej, e1, Option.map_some] at this
      exact Option.some.inj this
    have eσ : σ[j]? = some (some v) := by
      cases z : σ[j]? with
      | none => rw [z] at e2''; cases e2''
      | some w' =>
        rw [z] at e2''
        have : w' = some v := by simpa using e2''
        rw [this]
    have kc : X.env.scope.names.lookup y = some .cell := S.free (y, .free) (S.caps y hy) rfl
    obtain ⟨m0, hn0, hl0⟩ := I.loc
    obtain ⟨u, ru, lk⟩ := hl0 j y v eN eσ (.inr (.inl kc))
    rcases lk with ⟨k, _⟩ | ⟨_, c, ec, hc⟩
    · have k' : X.env.scope.names.lookup y = some .local := k
      rw [kc] at k'; cases k'
    · obtain ⟨c', hc'⟩ := Option.isSome_iff_exists.mp (clOf_has (env := X.env) (acc := []) (S.caps y hy))
      have hcc : c' = c := Option.some.inj ((S.sub ok hc').symm.trans ec)
      subst hcc
      exact ⟨c', u, hc', hc, ru⟩
theorem mk_def (S : CloScope X.env.scope sc ps loc cap) (hcode : X.env.code = .ref c) (C : PySem.W.CodeHd X.base c P) (hbm : BM X.mg X.base) (hcr : cr pos.line pos.col = some q) (I : Inv X pins σ H s) (hP : H P = some (.tbl cr)) {E : Value → Shared → Prop} :
    wpAny (model X.prog X.w) X.A (makeFunction name q params (.stmts body) sc X.env [] [] [] pos pos.line) (fun v s' => ∃ f H', Inv X pins σ H' s' ∧ v = Value.ref f ∧ H f = none ∧ Same H H' ∧ IsDef H' f name q params body sc (clOf X.env sc.names [])) E s := by
  obtain ⟨tb, hget, ht3, hcodes⟩ := I.hok P _ hP
  have hg : s.heap.Ns mainGlobals X.mg := I.mod.glob.keeps I.bk
  have hgP : mainGlobals ≠ P := fun z => by
    obtain ⟨o, es, ep, e, hd, _⟩ := hg
    rw [z, hget] at e; cases e; cases hd
  have hb : s.heap.BuiltinsAt X.mg P := by
    obtain ⟨bm, ob, b1, b2, b3, b4, b5, b6⟩ := hbm
    have e := I.bk _ _ b3
    refine ⟨bm, ob, b1, b2, fun z => ?_, fun z => ?_, e, b4, b5, b6⟩
    · obtain ⟨o, es, ep, e', hd, _⟩ := hg
      rw [← z, e] at e'; cases e'; rw [b6] at hd; cases hd
    · rw [z, hget] at e; cases e; cases b4
  have hcl : closureFor sc X.env = pure (clOf X.env sc.names []) := closureFor_eq (S.cells (fr := sc) I.ok)
  cases hf : codeAmong pos tb.toList with
  | some cv =>
    obtain ⟨c', oc, q', rfl, e2, e3, e4⟩ := hcodes pos cv hf
    rw [hcr] at e2; cases e2
    refine PySem.W.makeFunction_hit hcl I.ok.glob hg hcode (C.keeps I.bk) hget ht3 hf hb fun ctv doc h' tk hk hsz => ?_
    have hfr : H h'.objs.size = none := I.hok.fresh hsz
    refine ⟨h'.objs.size, upd H h'.objs.size (.frz (PySem.W.fnMade name q params body sc (clOf X.env sc.names []) doc ((X.mg "__name__").getD .none) c' ctv) (.own h'.objs.size)), I.laid (t' := tk) (fun b u e => Heap.get?_push_of_some _ (hk b u e)) hsz ⟨Heap.get?_push_size _ rfl, _, Heap.get?_push_size _ rfl⟩, rfl, hfr, (fun b u e => by rw [upd_ne (ne_of_none e hfr)]; exact e), ⟨_, _, _, c', oc, upd_same, ?_, e4⟩⟩
    rw [upd_ne (ne_of_none e3 hfr)]; exact e3
  | none =>
    refine PySem.W.makeFunction_K hcl I.ok.glob hg hcode (C.keeps I.bk) hget ht3 hf hgP hb fun c' ctv doc h' tk hx hge hlt hrec htb => ?_
    obtain ⟨c2, oc, vs, tt, e2, hoc, hd, hv⟩ := hrec
    cases e2
    have hcn : H c' = none := I.hok.fresh hge
    have hsz : s.heap.objs.size ≤ h'.objs.size := Nat.le_of_lt (Nat.lt_of_le_of_lt hge hlt)
    have hfr : H h'.objs.size = none := I.hok.fresh hsz
    have hcf : c' ≠ h'.objs.size := Nat.ne_of_lt hlt
    have hPc : P ≠ c' := ne_of_none hP hcn
    have hPf : P ≠ h'.objs.size := ne_of_none hP hfr
    have sm : ∀ b u, H b = some u → upd (upd H c' (.frz oc (.own c'))) h'.objs.size (.frz (PySem.W.fnMade name q params body sc (clOf X.env sc.names []) doc ((X.mg "__name__").getD .none) c' ctv) (.own h'.objs.size)) b = some u := fun b u e => by
      rw [upd_ne (ne_of_none e hfr), upd_ne (ne_of_none e hcn)]; exact e
    have cc : upd (upd H c' (.frz oc (.own c'))) h'.objs.size (.frz (PySem.W.fnMade name q params body sc (clOf X.env sc.names []) doc ((X.mg "__name__").getD .none) c' ctv) (.own h'.objs.size)) c' = some (.frz oc (.own c')) := by
      rw [upd_ne hcf, upd_same]
    have hk : ∀ b o, b ≠ P → s.heap.get? b = some o → (h'.push (PySem.W.fnMade name q params body sc (clOf X.env sc.names []) doc ((X.mg "__name__").getD .none) c' ctv)).get? b = some o := fun b o hb e => Heap.get?_push_of_some _ (hx b o hb e)
    refine ⟨h'.objs.size, _, I.un (t' := tk) ⟨fun b o e n _ _ => hk b o (fun z => by rw [z, hP] at n; cases n) e, fun b o e n _ _ => ⟨o.slots, hk b o (fun z => by rw [z, hP] at n; cases n) e⟩, fun b o e n _ => ?_, fun b o e _ => ?_, fun b xs e => sm b _ e, fun b o u e => sm b _ e, fun b r e => sm b _ e⟩ ?_, rfl, hfr, sm, ⟨_, _, _, c', oc, upd_same, cc, vs, tt, hd, hv⟩⟩
    · have h1 : b ≠ c' := Nat.ne_of_lt (Nat.lt_of_lt_of_le (Heap.lt_size e) hge)
      have h2 : b ≠ h'.objs.size := Nat.ne_of_lt (Nat.lt_of_lt_of_le (Heap.lt_size e) hsz)
      rw [upd_ne h2, upd_ne h1]; exact n
    · by_cases hb : b = P
      · subst hb; exact ⟨_, Heap.get?_push_of_some _ htb⟩
      · exact ⟨o, hk b o hb e⟩
    · intro b u e
      by_cases h1 : b = h'.objs.size
      · subst h1
        rw [upd_same] at e; cases e
        exact ⟨Heap.get?_push_size _ rfl, _, Heap.get?_push_size _ rfl⟩
      · by_cases h2 : b = c'
        · subst h2
          rw [cc] at e; cases e
          exact ⟨Heap.get?_push_of_some _ hoc, _, Heap.get?_push_of_some _ hoc⟩
        · rw [upd_ne h1, upd_ne h2] at e
          by_cases h3 : b = P
          · subst h3
            rw [hP] at e; cases e
            refine ⟨_, Heap.get?_push_of_some _ htb, ?_, fun pos' v e => ?_⟩
            · rw [Array.toList_append]; exact TriplesOk_snoc _ _ _ _ ht3
            · rw [Array.toList_append] at e
              rcases among_snoc (pos := pos) tb.toList ht3 e with e | ⟨e1, e2, rfl⟩
              · obtain ⟨d, od, q', z1, z2, z3, z4⟩ := hcodes pos' v e
                exact ⟨d, od, q', z1, z2, sm _ _ z3, z4⟩
              · exact ⟨c', oc, q, rfl, by rw [e1, e2]; exact hcr, cc, vs, tt, hd, hv⟩
          · refine (I.hok b u e).stay (fun d v hd' e' => hk d v ?_ e') (fun d e' => sm d _ e') (fun d xs e' => sm d _ e') fun d o' u' e' => sm d _ e'
            rintro rfl
            rcases hd' with z | z
            · exact h3 z.symm
            · rw [hP] at z; cases z
def tDef (i : Nat) (P : Addr) (cr : Nat → Nat → Option Str) (name q : Str) (params : Arguments) (body : List Stmt) (sc : Scope) (cl : List (Str × Addr)) : TS := fun D σ H => H P = some (.tbl cr) ∧ ∀ f H', H f = none → Same H H' → IsDef H' f name q params body sc cl → D.nx (σ.set i (some (.ref f))) H'
theorem ps_def {i : Nat} (S : CloScope X.env.scope sc ps loc cap) (hcode : X.env.code = .ref c) (C : PySem.W.CodeHd X.base c P) (hbm : BM X.mg X.base) (hq : q = qualnameIn X.env name name) (hcr : cr pos.line pos.col = some q) (hN : X.N.Nodup) (hi : X.N[i]? = some name) (hx : X.env.scope.names.lookup name = some .local)
    (hd0 : params.defaults = [] := by rfl) (hk0 : params.kw_defaults = [] := by rfl) (ha : annTrees params none X.env = [] := by rfl) :
    PS X (.FunctionDef name params body [] none [] sc none name pos) (tDef i P cr name q params body sc (clOf X.env sc.names [])) := by
  intro pins s σ H D I h
  obtain ⟨hP, h⟩ := h
  refine PySem.W.nestDef_K hd0 hk0 ha ?_
  rw [← hq]
  refine thn (mk_def S hcode C hbm hcr I hP) fun v s' ⟨f, H', I', ev, hf, sm, L⟩ => ?_
  subst ev
  exact store_ok I' hN hi (.inl hx) (show RelV (.ref f) (.ref f) from rfl) (fun s2 I2 => ⟨_, H', I2, h f H' hf sm L⟩) (.inr hx)
end
end L2
set_option maxHeartbeats 4000000
namespace L2
open PySem PySem.Spec PyProof.Rows
def Kp (H H' : Hp) : Prop := (∀ b xs, H b = some (.tup xs) → H' b = some (.tup xs)) ∧ ∀ b o u, H b = some (.frz o u) → H' b = some (.frz o u)
theorem Kp.refl (H : Hp) : Kp H H := ⟨fun _ _ h => h, fun _ _ _ h => h⟩
theorem Kp.trans {H H1 H2 : Hp} (a : Kp H H1) (b : Kp H1 H2) : Kp H H2 := ⟨fun c xs h => b.1 c xs (a.1 c xs h), fun c o u h => b.2 c o u (a.2 c o u h)⟩
theorem Kp.of {fs : List Addr} {H H' : Hp} {h h' : Heap} (u : Un fs [] H H' h h') : Kp H H' := ⟨u.tups, u.frzs⟩
theorem Kp.same {H H' : Hp} (s : Same H H') : Kp H H' := ⟨fun _ _ h => s _ _ h, fun _ _ _ h => s _ _ h⟩
mutual
def noL : PyData → Bool
  | .list _ => false
  | .tuple ds => noLs ds
  | .dict _ => false
  | _ => true
def noLs : List PyData → Bool
  | [] => true
  | d :: r => noL d && noLs r
end
theorem Kp.sqT {K : PySem.W.Frag} {H H' : Hp} {q : Addr} {xs : List V} (k : Kp H H') (h : SqT K H q xs) : SqT K H' q xs := by
  rcases h with h | h
  · refine .inl ?_
    rcases h with h | ⟨o, h⟩
    · exact .inl (k.1 _ _ h)
    · exact .inr ⟨o, k.2 _ _ _ h⟩
  · exact .inr h
mutual
theorem Kp.dat {K : PySem.W.Frag} {H H' : Hp} (k : Kp H H') : ∀ (d : PyData) (v : V), noL d = true → Dat K H v d → Dat K H' v d
  | .none, v, _, h => by rw [h.non]; exact dat_non
  | .bool b, v, _, h => by rw [h.bl]; exact dat_bl b
  | .int i, v, _, h => by rw [h.int]; exact dat_int i
  | .str x, v, _, h => by rw [h.str]; exact dat_str x
  | .tuple ds, v, n, h => by
    obtain ⟨q, xs, rfl, hq, hx⟩ := h.tup
    exact dat_tup (k.sqT hq) (Kp.dats k ds xs (by unfold noL at n; exact n) hx)
  | .list _, v, n, _ => by unfold noL at n; cases n
  | .dict _, v, n, _ => by unfold noL at n; cases n
theorem Kp.dats {K : PySem.W.Frag} {H H' : Hp} (k : Kp H H') : ∀ (ds : List PyData) (xs : List V), noLs ds = true → Dats K H xs ds → Dats K H' xs ds
  | [], xs, _, h => by rw [h.nil]; exact dats_nil
  | d :: r, xs, n, h => by
    obtain ⟨y, ys, rfl, hy, hr⟩ := h.cons
    unfold noLs at n
    rw [Bool.and_eq_true] at n
    exact dats_cons (Kp.dat k d y n.1 hy) (Kp.dats k r ys n.2 hr)
end
def ClOk (P : Program) (w : World) (K : PySem.W.Frag) (mg : Str → Option Value) (base : Heap) (k : Nat) (f : Addr) (n : Nat) (sp : Sp) (s : Shared) (H : Hp) : Prop :=
  ∃ (name q : Str) (params : Arguments) (body : List Stmt) (sc : Scope) (cl : List (Str × Addr)) (cap : List Str) (vals : St) (H1 : Hp), Kp H1 H ∧ IsDef H f name q params body sc cl ∧ CellsAre s H cl cap vals ∧
    ∀ (A : Around) (outer : List Env) (s' : Shared) (H' : Hp) (us : List Value) (vs : List V) (Q : VK), Room k A → Env0 P w K mg base A outer s' H' → Kp H1 H' → IsDef H' f name q params body sc cl → CellsAre s' H' cl cap vals → Vals vs us → vs.length = n → sp vs H' Q E0 →
      codeAny (model P w) A (.call (.ref f) ⟨us, []⟩) (CR CX0 outer P w H' s' Q E0) s'
section
variable {P : Program} {w : World} {K : PySem.W.Frag} {mg : Str → Option Value} {base : Heap} {k n : Nat} {f : Addr} {sp : Sp} {s s' : Shared} {H H' : Hp}
theorem ClOk.un {fs : List Addr} (C : ClOk P w K mg base k f n sp s H) (u : Un fs [] H H' s.heap s'.heap) : ClOk P w K mg base k f n sp s' H' :=
  let ⟨name, q, params, body, sc, cl, cap, vals, H1, h1, h2, h3, h4⟩ := C
  ⟨name, q, params, body, sc, cl, cap, vals, H1, h1.trans (Kp.of u), h2.same u.frzs, h3.un u, h4⟩
theorem ClOk.fnAt (C : ClOk P w K mg base k f n sp s H) (ok : HOk P w H s.heap) : PySem.W.FnAt f s.heap :=
  let ⟨_, _, _, _, _, _, _, _, _, _, h2, _, _⟩ := C
  h2.fnAt ok
theorem ClOk.mono {j : Nat} (C : ClOk P w K mg base j f n sp s H) (h : j ≤ k) : ClOk P w K mg base k f n sp s H :=
  let ⟨name, q, params, body, sc, cl, cap, vals, H1, h1, h2, h3, h4⟩ := C
  ⟨name, q, params, body, sc, cl, cap, vals, H1, h1, h2, h3, fun A outer s' H' us vs Q hr => h4 A outer s' H' us vs Q (hr.mono h)⟩
theorem ClOk.run {A : Around} {outer : List Env} {us : List Value} {vs : List V} {Q : VK} (C : ClOk P w K mg base k f n sp s H) (hr : Room k A) (e0 : Env0 P w K mg base A outer s H) (r : Vals vs us) (hl : vs.length = n) (hs : sp vs H Q E0) :
    codeAny (model P w) A (.call (.ref f) ⟨us, []⟩) (CR CX0 outer P w H s Q E0) s :=
  let ⟨name, q, params, body, sc, cl, cap, vals, H1, h1, h2, h3, h4⟩ := C
  h4 A outer s H us vs Q hr e0 h1 h2 h3 r hl hs
end
section
variable {X : Cx} {k i n : Nat} {x : Str} {f : Addr} {sp : Sp} {e : Expr} {es : List Expr} {t : TA} {p pos : Pos}
theorem Inv.un0 {pins : List (Addr × Obj)} {σ : St} {H : Hp} {s : Shared} (J : Inv X pins σ H s) (hex : X.ex = []) : Un X.fs [] X.H₀ H X.s₀.heap s.heap := by
  have := J.base
  rw [hex] at this; exact this
def tCallF (i : Nat) (f : Addr) (n : Nat) (sp : Sp) (t : TA) : TE := fun σ H Q => σ[i]? = some (some (.ref f)) ∧ t σ H fun vs H1 => vs.length = n ∧ sp vs H1 Q E0
theorem pe_callF (hN : X.N[i]? = some x) (hv : Vis X.env.scope x) (hr : Room k X.A) (hex : X.ex = []) (C : ClOk X.prog X.w X.K X.mg X.base k f n sp X.s₀ X.H₀) (ha : PA X (e :: es) t)
    (hd : (x == ("__debug__" : Str)) = false := by decide) (hcd : (x == ("__classdict__" : Str)) = false := by decide) (he : starEach (e :: es) X.env = (false, eval e X.env) :: starEach es X.env := by rfl) (hpl : (backTo pos (starEach es X.env)).any (·.1) = false := by rfl) :
    PE X (.Call (.Name x p) (e :: es) [] pos) (tCallF i f n sp t) := by
  intro pins s σ H Q I h
  obtain ⟨eσ, h⟩ := h
  refine wpAny_Call_Name_kw (thn (pe_var hN hv hd hcd pins s σ H (fun v H' => v = .ref f ∧ H' = H) I ⟨_, eσ, rfl, rfl⟩) fun u s1 ⟨v, H1, I1, r, ev, eH⟩ => ?_)
  subst ev eH
  obtain rfl : u = Value.ref f := r
  refine PySem.W.callWith_F ((C.un (I1.un0 hex)).fnAt I1.hok) (thn (ha pos pins s1 σ H1 _ I1 h) fun us s2 ⟨vs, H2, I2, rv, hl, hq⟩ => ⟨(C.un (I2.un0 hex)).fnAt I2.hok, ?_⟩) he hpl
  refine wpAny_call (codeAny_mono ((C.un (I2.un0 hex)).run hr I2.env0 rv hl hq) fun r s' hq' => ?_)
  cases r with
  | error e => exact False.elim hq'
  | ok fl =>
    cases fl with
    | ret u => exact I2.after hq'
    | next => exact False.elim hq'
    | brk => exact False.elim hq'
    | cont => exact False.elim hq'
theorem pe_callH {fd : FuncData} {ps : List Str} {C : Shared → Hp → Prop} (F : FnOkS X.prog X.w X.K X.mg X.base k f fd ps (fun s vs H Q => C s H ∧ sp vs H Q E0)) (hC : C X.s₀ X.H₀) (hst : ∀ fs s H s' H', Un fs [] H H' s.heap s'.heap → C s H → C s' H') (hex : X.ex = [])
    (hr : Room k X.A) (hg : Gl X x) (hm : X.mg x = some (.ref f)) (hk : PySem.W.keepIn X.K (.ref f) = true) (hb : Binds X.K fd ps [])
    (ha : PA X (e :: es) t) (hdb : (x == ("__debug__" : Str)) = false := by decide) (he : starEach (e :: es) X.env = (false, eval e X.env) :: starEach es X.env := by rfl) (hpl : (backTo pos (starEach es X.env)).any (·.1) = false := by rfl) :
    PE X (.Call (.Name x p) (e :: es) [] pos) (tCall sp [] E0 t) := by
  intro pins s σ H Q I h
  refine wpAny_Call_Name_kw (ld_glob I hg hm ?_ hdb)
  refine PySem.W.callWith_K (h₀ := X.base) I.ok.mod.kin hk (thn (ha pos pins s σ H _ I h) fun us s2 ⟨vs, H2, I2, rr, q⟩ => ⟨I2.kIn, ?_⟩) he hpl
  have q : sp (vs ++ []) H2 Q E0 := q
  rw [List.append_nil] at q
  have hC2 := hst _ _ _ _ _ (I2.un0 hex) hC
  have hl : us.length = ps.length := by rw [← rr.length]; exact F.len _ _ _ _ ⟨hC2, q⟩
  have hb' := hb s2 us I2.kIn (by rw [List.append_nil]; exact hl)
  rw [List.append_nil] at hb'
  refine wpAny_call (codeAny_mono (F.run X.A X.stack s2 H2 ⟨us, []⟩ us _ Q hr I2.env0 hb' rr ⟨hC2, q⟩) fun r s' hq' => ?_)
  cases r with
  | error e => exact False.elim hq'
  | ok fl =>
    cases fl with
    | ret u => exact I2.after hq'
    | next => exact False.elim hq'
    | brk => exact False.elim hq'
    | cont => exact False.elim hq'
end
end L2
set_option maxHeartbeats 4000000
namespace L2
open PySem PySem.Spec PyProof.Rows
section
variable {K : PySem.W.Frag} {σ : St} {G : Hp} {d : PyData} {i j n : Nat} {f f1 f2 : Addr} {t : TA} {ta tb : TE} {ds : List PyData} {R : List PyData → PyData → Prop}
theorem ev_callF (hi : σ[i]? = some (some (.ref f))) (h : EvA K t σ G ds) (hn : ds.length = n) (hR : R ds d) : Ev K (tCallF i f n (spP K R) t) σ G d :=
  fun G1 H s1 s2 Q k => ⟨hi, h G1 H s1 s2 _ fun vs G2 H2 g2 hv => ⟨by rw [hv.length]; exact hn, G2, ds, d, g2.gh, hv, hR, fun v G' H' g hd => k v G' H' (g2.trans g) hd⟩⟩
def spC (K : PySem.W.Frag) (f1 f2 : Addr) (R : List PyData → PyData → Prop) : Sp := fun vs H Q _ => ∃ (G : Hp) (ds : List PyData) (d : PyData) (xs : List V), vs = xs ++ [.ref f1, .ref f2] ∧ Same G H ∧ Dats K G xs ds ∧ R ds d ∧ ∀ v G' H', Grow G H G' H' → Dat K G' v d → Q v H'
end
section
variable {X : Cx} {pins : List (Addr × Obj)} {σ : St} {H : Hp} {s : Shared} {sc : Scope} {ps loc cap : List Str} {name q : Str} {params : Arguments} {body : List Stmt} {f : Addr} {k : Nat} {sp : Sp}
theorem cl_of {js : List Nat} (I : Inv X pins σ H s) (S : CloScope X.env.scope sc ps loc cap) (hjs : js.map (fun j => X.N[j]?) = cap.map some) (L : IsDef H f name q params body sc (clOf X.env sc.names []))
    (hbind : ∀ (cl : List (Str × Addr)) (us : List Value), us.length = ps.length → ∀ (doc pm ctv : Value) (c' : Addr), bindArgs (PySem.W.fnX name q params body sc cl .none .none doc pm none (.ref c') ctv) ⟨us, []⟩ = pure (ps.zip us))
    (hbody : ∀ (A : Around) (outer : List Env) (s' : Shared) (H' : Hp) (vs : List V) (Q : VK) (f c' : Addr) (cl : List (Str × Addr)), Room k (A.deeper (envB q sc s'.heap.objs.size f (.ref c') cl)) → Kp H H' → vs.length = ps.length → sp vs H' Q E0 →
      ∃ t, PSs (cloCx X.prog X.w X.K X.mg X.base (ps ++ loc ++ cap) q sc f c' cl A outer s' H') body t ∧ t { nx := fun _ H' => Q .non H', rt := Q } (vs.map some ++ List.replicate loc.length none ++ capV σ js) H') :
    ClOk X.prog X.w X.K X.mg X.base (k + 1) f ps.length sp s H := by
  have lenJ : js.length = cap.length := by have := congrArg List.length hjs; simpa using this
  refine ⟨name, q, params, body, sc, clOf X.env sc.names [], cap, capV σ js, H, Kp.refl H, L, I.cellsOf S hjs, fun A outer s' H' us vs Q hr e0 kp L' C' r hl hs => ?_⟩
  refine clo_run S (fun y hy => ?_) (fun y c hc => ?_) hr e0 L' C' (hbind _ us (by rw [← r.length]; exact hl)) hl (by unfold capV; rw [List.length_map, lenJ]) r fun c' hr' => hbody A outer s' H' vs Q f c' _ hr' kp hl hs
  · exact Option.isSome_iff_exists.mp (clOf_has (env := X.env) (acc := []) (PySem.mem_of_lookup hy))
  · rcases clOf_free hc with m | m
    · exact lookup_mem S.ndn m
    · cases m
theorem pe_hand {e : Expr} {es : List Expr} {t : TA} {p pos : Pos} {x : Str} {g : Addr} {fd : FuncData} {C : Addr → Addr → Shared → Hp → Prop} {sp2 : Addr → Addr → St → Sp} {RH : Addr → Addr → St → Hp → Prop}
    (F : ∀ f1 f2 σ, FnOkS X.prog X.w X.K X.mg X.base k g fd ps (fun s vs H Q => C f1 f2 s H ∧ sp2 f1 f2 σ vs H Q E0))
    (hC : ∀ pins σ H s f1 f2, Inv X pins σ H s → RH f1 f2 σ H → C f1 f2 s H)
    (hr : Room k X.A) (hg : Gl X x) (hm : X.mg x = some (.ref g)) (hk : PySem.W.keepIn X.K (.ref g) = true) (hb : Binds X.K fd ps [])
    (ha : PA X (e :: es) t) (hdb : (x == ("__debug__" : Str)) = false := by decide) (he : starEach (e :: es) X.env = (false, eval e X.env) :: starEach es X.env := by rfl) (hpl : (backTo pos (starEach es X.env)).any (·.1) = false := by rfl) :
    PE X (.Call (.Name x p) (e :: es) [] pos) (fun σ H Q => t σ H fun vs H1 => ∃ f1 f2, RH f1 f2 σ H1 ∧ sp2 f1 f2 σ vs H1 Q E0) := by
  intro pins s σ H Q I h
  refine wpAny_Call_Name_kw (ld_glob I hg hm ?_ hdb)
  refine PySem.W.callWith_K (h₀ := X.base) I.ok.mod.kin hk (thn (ha pos pins s σ H _ I h) fun us s2 ⟨vs, H2, I2, rr, f1, f2, q1, q⟩ => ⟨I2.kIn, ?_⟩) he hpl
  have hC2 := hC _ _ _ _ f1 f2 I2 q1
  have hl : us.length = ps.length := by rw [← rr.length]; exact (F f1 f2 σ).len _ _ _ _ ⟨hC2, q⟩
  have hb' := hb s2 us I2.kIn (by rw [List.append_nil]; exact hl)
  rw [List.append_nil] at hb'
  refine wpAny_call (codeAny_mono ((F f1 f2 σ).run X.A X.stack s2 H2 ⟨us, []⟩ us _ Q hr I2.env0 hb' rr ⟨hC2, q⟩) fun r s' hq' => ?_)
  cases r with
  | error e => exact False.elim hq'
  | ok fl =>
    cases fl with
    | ret u => exact I2.after hq'
    | next => exact False.elim hq'
    | brk => exact False.elim hq'
    | cont => exact False.elim hq'
end
end L2
namespace Num
open Frac Dig
def cnt (row : List (Int × Int)) (n : Int × Int) : Nat := (row.filter fun r => decide (cmp r n < 0)).length
def ins (row : List (Int × Int)) (n : Int × Int) : List (Int × Int) := if n ∈ row then row else row.take (cnt row n) ++ n :: row.drop (cnt row n)
theorem lt_trans {a b c : Int × Int} (ha : Lst a) (hb : Lst b) (hc : Lst c) (h1 : cmp a b < 0) (h2 : cmp b c < 0) : cmp a c < 0 := by
  rw [cmp_lead ha.pos hb.pos hc.pos (by omega) (by omega)]
  split <;> assumption
end Num
set_option maxHeartbeats 4000000
namespace Rdo
open PySem Dig Ord Nm L2 Frac
theorem Run.app {fld : Str → Prop} {num : Int → Int → Prop} {st st1 st2 : List Str} {a b : List Wd} (h : Run fld num st a st1) (k : Run fld num st1 b st2) : Run fld num st (a ++ b) st2 := by
  induction h with
  | nil => exact k
  | cons s _ ih => exact .cons s (ih k)
theorem Step.frame {fld : Str → Prop} {num : Int → Int → Prop} {st st1 : List Str} {w : Wd} (r : List Str) (h : Ord.Step fld num st w st1) : Ord.Step fld num (st ++ r) w (st1 ++ r) := by
  cases h with
  | field hx => exact .field hx
  | number hx => exact .number hx
  | word n1 n2 ho =>
    rw [List.append_assoc]
    exact .word n1 n2 ho
theorem Run.frame {fld : Str → Prop} {num : Int → Int → Prop} {st st1 : List Str} {a : List Wd} (r : List Str) (h : Run fld num st a st1) : Run fld num (st ++ r) a (st1 ++ r) := by
  induction h with
  | nil => exact .nil
  | cons s _ ih => exact .cons (Step.frame r s) ih
section
variable {fld : Str → Prop} {num : Int → Int → Prop} {a b : List Wd}
theorem o_then (ha : IsOrd fld num a) (hb : IsOrd fld num b) : IsOrd fld num (.t (S "then") :: (a ++ b)) :=
  .cons (st1 := [S "order", S "order"]) (Ord.Step.word (ps := [S "order", S "order"]) (st := []) (by decide +kernel) (by decide +kernel) (by decide +kernel)) (Run.app (Run.frame [S "order"] ha) hb)
theorem o_turn (hb : IsOrd fld num b) : IsOrd fld num (.t (S "turn") :: b) :=
  .cons (st1 := [S "order"]) (Ord.Step.word (ps := [S "order"]) (st := []) (by decide +kernel) (by decide +kernel) (by decide +kernel)) hb
end
end Rdo
set_option maxHeartbeats 4000000
namespace Look
open PySem Ord Rdo
inductive An where
  | ahead
  | like
  | behind
  deriving DecidableEq
def An.turn : An → An
  | .ahead => .behind
  | .like => .like
  | .behind => .ahead
def An.t : An → Str
  | .ahead => S "ahead"
  | .like => S "like"
  | .behind => S "behind"
def An.how : An → Str
  | .ahead => S "less"
  | .like => S "same"
  | .behind => S "more"
theorem An.turn_turn (a : An) : a.turn.turn = a := by cases a <;> rfl
inductive Tv where
  | an (a : An)
  | tr (b : Bool)
  | mk (b c : Bool)
  | wd (w : Wd)
def Tv.d : Tv → PyData
  | .an a => .str a.t
  | .tr b => .bool b
  | .mk b c => .list [.bool b, .bool c]
  | .wd w => w.d
structure En where
  look : Str → An
  one : Str → Int → Int → An
  two : Str → Int → Int → An
def isA (a b : An) : Bool := decide (a = b)
def appN (E : En) : Nat → List Tv → Tv
  | 0, _ => .an .like
  | 1, [.wd (.t z)] => .an (E.look z)
  | 2, [.wd (.t z)] => .an (E.look z).turn
  | 3, [.an a, .an b] => .an (if a = .like then b else a)
  | 4, [.an a] => .an a.turn
  | 5, [.tr c, .an a, .an b] => .an (if c = true then a else b)
  | 6, [.wd (.t z)] => .tr (isA (E.look z) .like)
  | 7, [.mk b c] => .tr (b && c)
  | 8, [.mk b c] => .tr (b || c)
  | 9, [.tr b] => .tr (!b)
  | 10, [.tr b, .tr c] => .tr (b && c)
  | 11, [.tr b, .tr c] => .tr (b || c)
  | 12, [.wd (.t z), .wd (.n a b)] => .mk (isA (E.one z a b) .ahead) (isA (E.two z a b) .ahead)
  | 13, [.wd (.t z), .wd (.n a b)] => .mk (isA (E.one z a b) .like) (isA (E.two z a b) .like)
  | _, _ => .an .like
def wix (x : Str) : Nat := wordsT.findIdx fun r => decide (r.1 = x)
def push (E : En) (w : Wd) (st : List Tv) : List Tv := match w with
  | .n a b => .wd (.n a b) :: st
  | .t x => match wordT x with
    | some r => appN E (wix x) (st.take r.2.2.length) :: st.drop r.2.2.length
    | none => .wd (.t x) :: st
def ev (E : En) : List Wd → List Tv → List Tv
  | [], st => st
  | w :: ws, st => push E w (ev E ws st)
theorem ev_app (E : En) (a b : List Wd) (st : List Tv) : ev E (a ++ b) st = ev E a (ev E b st) := by
  induction a with
  | nil => rfl
  | cons w a ih => show push E w (ev E (a ++ b) st) = _; rw [ih]; rfl
def Ty (fld : Str → Prop) (num : Int → Int → Prop) (p : Str) (v : Tv) : Prop :=
  (p = S "order" ∧ ∃ a, v = .an a) ∨ (p = S "case" ∧ ∃ b, v = .tr b) ∨ (p = S "mark" ∧ ∃ b c, v = .mk b c) ∨ (p = S "field" ∧ ∃ z, fld z ∧ v = .wd (.t z)) ∨ (p = S "number" ∧ ∃ a b, num a b ∧ v = .wd (.n a b))
theorem kinds_ne : (S "order" ≠ S "case" ∧ S "order" ≠ S "mark" ∧ S "order" ≠ S "field" ∧ S "order" ≠ S "number") ∧ (S "case" ≠ S "mark" ∧ S "case" ≠ S "field" ∧ S "case" ≠ S "number") ∧ (S "mark" ≠ S "field" ∧ S "mark" ≠ S "number") ∧ S "field" ≠ S "number" := by decide +kernel
theorem Ty.order {fld : Str → Prop} {num : Int → Int → Prop} {v : Tv} (h : Ty fld num (S "order") v) : ∃ a, v = .an a := by
  obtain ⟨⟨n1, n2, n3, n4⟩, _⟩ := kinds_ne
  rcases h with ⟨_, h⟩ | ⟨e, _⟩ | ⟨e, _⟩ | ⟨e, _⟩ | ⟨e, _⟩
  · exact h
  · exact absurd e n1
  · exact absurd e n2
  · exact absurd e n3
  · exact absurd e n4
theorem Ty.case {fld : Str → Prop} {num : Int → Int → Prop} {v : Tv} (h : Ty fld num (S "case") v) : ∃ b, v = .tr b := by
  obtain ⟨⟨n1, n2, n3, n4⟩, ⟨m1, m2, m3⟩, _⟩ := kinds_ne
  rcases h with ⟨e, _⟩ | ⟨_, h⟩ | ⟨e, _⟩ | ⟨e, _⟩ | ⟨e, _⟩
  · exact absurd e.symm n1
  · exact h
  · exact absurd e m1
  · exact absurd e m2
  · exact absurd e m3
theorem Ty.mark {fld : Str → Prop} {num : Int → Int → Prop} {v : Tv} (h : Ty fld num (S "mark") v) : ∃ b c, v = .mk b c := by
  obtain ⟨⟨n1, n2, n3, n4⟩, ⟨m1, m2, m3⟩, ⟨k1, k2⟩, _⟩ := kinds_ne
  rcases h with ⟨e, _⟩ | ⟨e, _⟩ | ⟨_, h⟩ | ⟨e, _⟩ | ⟨e, _⟩
  · exact absurd e.symm n2
  · exact absurd e.symm m1
  · exact h
  · exact absurd e k1
  · exact absurd e k2
theorem Ty.field {fld : Str → Prop} {num : Int → Int → Prop} {v : Tv} (h : Ty fld num (S "field") v) : ∃ z, fld z ∧ v = .wd (.t z) := by
  obtain ⟨⟨n1, n2, n3, n4⟩, ⟨m1, m2, m3⟩, ⟨k1, k2⟩, l1⟩ := kinds_ne
  rcases h with ⟨e, _⟩ | ⟨e, _⟩ | ⟨e, _⟩ | ⟨_, h⟩ | ⟨e, _⟩
  · exact absurd e.symm n3
  · exact absurd e.symm m2
  · exact absurd e.symm k1
  · exact h
  · exact absurd e l1
theorem Ty.number {fld : Str → Prop} {num : Int → Int → Prop} {v : Tv} (h : Ty fld num (S "number") v) : ∃ a b, num a b ∧ v = .wd (.n a b) := by
  obtain ⟨⟨n1, n2, n3, n4⟩, ⟨m1, m2, m3⟩, ⟨k1, k2⟩, l1⟩ := kinds_ne
  rcases h with ⟨e, _⟩ | ⟨e, _⟩ | ⟨e, _⟩ | ⟨e, _⟩ | ⟨_, h⟩
  · exact absurd e.symm n4
  · exact absurd e.symm m3
  · exact absurd e.symm k2
  · exact absurd e.symm l1
  · exact h
inductive Tys (fld : Str → Prop) (num : Int → Int → Prop) : List Str → List Tv → Prop
  | nil : Tys fld num [] []
  | cons {p : Str} {v : Tv} {ps : List Str} {vs : List Tv} : Ty fld num p v → Tys fld num ps vs → Tys fld num (p :: ps) (v :: vs)
theorem word14 {x : Str} {want : Str} {ps : List Str} (h : wordT x = some (x, want, ps)) :
    (x = S "like" ∧ want = S "order" ∧ ps = []) ∨ (x = S "up" ∧ want = S "order" ∧ ps = [S "field"]) ∨ (x = S "down" ∧ want = S "order" ∧ ps = [S "field"]) ∨ (x = S "then" ∧ want = S "order" ∧ ps = [S "order", S "order"]) ∨
    (x = S "turn" ∧ want = S "order" ∧ ps = [S "order"]) ∨ (x = S "pick" ∧ want = S "order" ∧ ps = [S "case", S "order", S "order"]) ∨ (x = S "same" ∧ want = S "case" ∧ ps = [S "field"]) ∨ (x = S "both" ∧ want = S "case" ∧ ps = [S "mark"]) ∨
    (x = S "either" ∧ want = S "case" ∧ ps = [S "mark"]) ∨ (x = S "not" ∧ want = S "case" ∧ ps = [S "case"]) ∨ (x = S "and" ∧ want = S "case" ∧ ps = [S "case", S "case"]) ∨ (x = S "or" ∧ want = S "case" ∧ ps = [S "case", S "case"]) ∨
    (x = S "under" ∧ want = S "mark" ∧ ps = [S "field", S "number"]) ∨ (x = S "is" ∧ want = S "mark" ∧ ps = [S "field", S "number"]) := by
  have m := (wordT_mem h).1
  unfold wordsT at m
  simp only [List.mem_cons, List.not_mem_nil, or_false, Prod.mk.injEq] at m
  exact m
theorem wix14 : wix (S "like") = 0 ∧ wix (S "up") = 1 ∧ wix (S "down") = 2 ∧ wix (S "then") = 3 ∧ wix (S "turn") = 4 ∧ wix (S "pick") = 5 ∧ wix (S "same") = 6 ∧ wix (S "both") = 7 ∧ wix (S "either") = 8 ∧ wix (S "not") = 9 ∧ wix (S "and") = 10 ∧ wix (S "or") = 11 ∧ wix (S "under") = 12 ∧ wix (S "is") = 13 := by decide +kernel
theorem app_ty {fld : Str → Prop} {num : Int → Int → Prop} {E : En} {x want : Str} {ps : List Str} {vs : List Tv} (h : wordT x = some (x, want, ps)) (hv : Tys fld num ps vs) : Ty fld num want (appN E (wix x) vs) := by
  obtain ⟨w0, w1, w2, w3, w4, w5, w6, w7, w8, w9, w10, w11, w12, w13⟩ := wix14
  have go1 : ∀ {p : Str}, Tys fld num [p] vs → ∃ v, vs = [v] ∧ Ty fld num p v := fun h => by cases h with | cons a b => cases b; exact ⟨_, rfl, a⟩
  have go2 : ∀ {p q : Str}, Tys fld num [p, q] vs → ∃ v u, vs = [v, u] ∧ Ty fld num p v ∧ Ty fld num q u := fun h => by cases h with | cons a b => cases b with | cons b c => cases c; exact ⟨_, _, rfl, a, b⟩
  have go3 : ∀ {p q r : Str}, Tys fld num [p, q, r] vs → ∃ v u t, vs = [v, u, t] ∧ Ty fld num p v ∧ Ty fld num q u ∧ Ty fld num r t := fun h => by cases h with | cons a b => cases b with | cons b c => cases c with | cons c d => cases d; exact ⟨_, _, _, rfl, a, b, c⟩
  rcases word14 h with ⟨rfl, rfl, rfl⟩ | ⟨rfl, rfl, rfl⟩ | ⟨rfl, rfl, rfl⟩ | ⟨rfl, rfl, rfl⟩ | ⟨rfl, rfl, rfl⟩ | ⟨rfl, rfl, rfl⟩ | ⟨rfl, rfl, rfl⟩ | ⟨rfl, rfl, rfl⟩ | ⟨rfl, rfl, rfl⟩ | ⟨rfl, rfl, rfl⟩ | ⟨rfl, rfl, rfl⟩ | ⟨rfl, rfl, rfl⟩ | ⟨rfl, rfl, rfl⟩ | ⟨rfl, rfl, rfl⟩
  · rw [w0]; exact .inl ⟨rfl, _, rfl⟩
  · obtain ⟨v, rfl, h1⟩ := go1 hv; obtain ⟨z, _, rfl⟩ := h1.field; rw [w1]; exact .inl ⟨rfl, _, rfl⟩
  · obtain ⟨v, rfl, h1⟩ := go1 hv; obtain ⟨z, _, rfl⟩ := h1.field; rw [w2]; exact .inl ⟨rfl, _, rfl⟩
  · obtain ⟨v, u, rfl, h1, h2⟩ := go2 hv; obtain ⟨a, rfl⟩ := h1.order; obtain ⟨b, rfl⟩ := h2.order; rw [w3]; exact .inl ⟨rfl, _, rfl⟩
  · obtain ⟨v, rfl, h1⟩ := go1 hv; obtain ⟨a, rfl⟩ := h1.order; rw [w4]; exact .inl ⟨rfl, _, rfl⟩
  · obtain ⟨v, u, t, rfl, h1, h2, h3⟩ := go3 hv; obtain ⟨a, rfl⟩ := h1.case; obtain ⟨b, rfl⟩ := h2.order; obtain ⟨c, rfl⟩ := h3.order; rw [w5]; exact .inl ⟨rfl, _, rfl⟩
  · obtain ⟨v, rfl, h1⟩ := go1 hv; obtain ⟨z, _, rfl⟩ := h1.field; rw [w6]; exact .inr (.inl ⟨rfl, _, rfl⟩)
  · obtain ⟨v, rfl, h1⟩ := go1 hv; obtain ⟨a, b, rfl⟩ := h1.mark; rw [w7]; exact .inr (.inl ⟨rfl, _, rfl⟩)
  · obtain ⟨v, rfl, h1⟩ := go1 hv; obtain ⟨a, b, rfl⟩ := h1.mark; rw [w8]; exact .inr (.inl ⟨rfl, _, rfl⟩)
  · obtain ⟨v, rfl, h1⟩ := go1 hv; obtain ⟨a, rfl⟩ := h1.case; rw [w9]; exact .inr (.inl ⟨rfl, _, rfl⟩)
  · obtain ⟨v, u, rfl, h1, h2⟩ := go2 hv; obtain ⟨a, rfl⟩ := h1.case; obtain ⟨b, rfl⟩ := h2.case; rw [w10]; exact .inr (.inl ⟨rfl, _, rfl⟩)
  · obtain ⟨v, u, rfl, h1, h2⟩ := go2 hv; obtain ⟨a, rfl⟩ := h1.case; obtain ⟨b, rfl⟩ := h2.case; rw [w11]; exact .inr (.inl ⟨rfl, _, rfl⟩)
  · obtain ⟨v, u, rfl, h1, h2⟩ := go2 hv; obtain ⟨z, _, rfl⟩ := h1.field; obtain ⟨a, b, _, rfl⟩ := h2.number; rw [w12]; exact .inr (.inr (.inl ⟨rfl, _, _, rfl⟩))
  · obtain ⟨v, u, rfl, h1, h2⟩ := go2 hv; obtain ⟨z, _, rfl⟩ := h1.field; obtain ⟨a, b, _, rfl⟩ := h2.number; rw [w13]; exact .inr (.inr (.inl ⟨rfl, _, _, rfl⟩))
theorem tys_split {fld : Str → Prop} {num : Int → Int → Prop} {st : List Str} : ∀ {ps : List Str} {vs : List Tv}, Tys fld num (ps ++ st) vs → Tys fld num ps (vs.take ps.length) ∧ Tys fld num st (vs.drop ps.length)
  | [], vs, h => ⟨.nil, h⟩
  | p :: ps, vs, h => by
    cases h with
    | cons a b =>
      obtain ⟨h1, h2⟩ := tys_split b
      exact ⟨.cons a h1, h2⟩
theorem Tys.length {fld : Str → Prop} {num : Int → Int → Prop} : ∀ {ps : List Str} {vs : List Tv}, Tys fld num ps vs → ps.length = vs.length
  | _, _, .nil => rfl
  | _, _, .cons _ b => congrArg (· + 1) (Tys.length b)
abbrev Kinds (st : List Str) : Prop := ∀ x ∈ st, x ∈ [S "order", S "case", S "mark", S "field", S "number"]
theorem push_ty {fld : Str → Prop} {num : Int → Int → Prop} {E : En} (hf : ∀ z, fld z → wordT z = none) {st st1 : List Str} {w : Wd} {vs : List Tv} (h : Ord.Step fld num st w st1) (hs : Kinds st) (hv : Tys fld num st1 vs) :
    Tys fld num st (push E w vs) ∧ ∀ R, push E w (vs ++ R) = push E w vs ++ R := by
  rcases step_word h hs with ⟨x, st0, rfl, rfl, hx, rfl⟩ | ⟨a, b, st0, rfl, rfl, hx, rfl⟩ | ⟨want, x, ps, st0, rfl, rfl, n1, n2, hw, hl, rfl⟩
  · have e : ∀ us, push E (.t x) us = .wd (.t x) :: us := fun us => by unfold push; dsimp only; rw [hf x hx]
    rw [e]
    exact ⟨.cons (.inr (.inr (.inr (.inl ⟨rfl, x, hx, rfl⟩)))) hv, fun R => by rw [e]; rfl⟩
  · exact ⟨.cons (.inr (.inr (.inr (.inr ⟨rfl, a, b, hx, rfl⟩)))) hv, fun R => rfl⟩
  · have e : ∀ us, push E (.t x) us = appN E (wix x) (us.take ps.length) :: us.drop ps.length := fun us => by unfold push; dsimp only; rw [hw]
    rw [e]
    obtain ⟨h1, h2⟩ := tys_split hv
    have hlen := hv.length
    rw [List.length_append] at hlen
    refine ⟨.cons (app_ty hw h1) h2, fun R => ?_⟩
    rw [e, List.take_append_of_le_length (by omega), List.drop_append_of_le_length (by omega)]
    rfl
theorem step_kinds {fld : Str → Prop} {num : Int → Int → Prop} {st st1 : List Str} {w : Wd} (h : Ord.Step fld num st w st1) (hs : Kinds st) : Kinds st1 := by
  rcases step_word h hs with ⟨x, st0, rfl, rfl, hx, rfl⟩ | ⟨a, b, st0, rfl, rfl, hx, rfl⟩ | ⟨want, x, ps, st0, rfl, rfl, n1, n2, hw, hl, rfl⟩
  · exact fun p hp => hs p (List.mem_cons_of_mem _ hp)
  · exact fun p hp => hs p (List.mem_cons_of_mem _ hp)
  · intro p hp
    rcases List.mem_append.mp hp with hp | hp
    · have key : ∀ r ∈ wordsT, ∀ p ∈ r.2.2, p ∈ [S "order", S "case", S "mark", S "field", S "number"] := by decide +kernel
      exact key _ (wordT_mem hw).1 p hp
    · exact hs p (List.mem_cons_of_mem _ hp)
theorem ev_ty {fld : Str → Prop} {num : Int → Int → Prop} {E : En} (hf : ∀ z, fld z → wordT z = none) {st st1 : List Str} {ws : List Wd} (h : Run fld num st ws st1) : Kinds st → ∀ {vs : List Tv}, Tys fld num st1 vs →
    Tys fld num st (ev E ws vs) ∧ ∀ R, ev E ws (vs ++ R) = ev E ws vs ++ R := by
  induction h with
  | nil => intro _ vs hv; exact ⟨hv, fun R => rfl⟩
  | cons a b ih =>
    intro hs vs hv
    obtain ⟨h1, h2⟩ := ih (step_kinds a hs) hv
    obtain ⟨h3, h4⟩ := push_ty (E := E) hf a hs h1
    exact ⟨h3, fun R => by show push E _ (ev E _ (vs ++ R)) = _; rw [h2, h4]; rfl⟩
theorem kinds_o : Kinds [S "order"] := fun x hx => by rw [List.mem_singleton.mp hx]; exact List.mem_cons_self
theorem ev_order {fld : Str → Prop} {num : Int → Int → Prop} (E : En) (hf : ∀ z, fld z → wordT z = none) {ws : List Wd} (h : IsOrd fld num ws) : ∃ a, ∀ R, ev E ws R = .an a :: R := by
  obtain ⟨h1, h2⟩ := ev_ty (E := E) hf h kinds_o (vs := []) .nil
  cases hc : ev E ws [] with
  | nil => rw [hc] at h1; cases h1
  | cons v r =>
    rw [hc] at h1
    cases h1 with
    | cons x y =>
      cases y
      obtain ⟨a, rfl⟩ := x.order
      refine ⟨a, fun R => ?_⟩
      have := h2 R
      rw [List.nil_append] at this
      rw [this, hc]; rfl
def En.swap (E : En) : En := ⟨fun z => (E.look z).turn, E.two, E.one⟩
def Tv.swap : Tv → Tv
  | .an a => .an a.turn
  | .mk b c => .mk c b
  | v => v
theorem isA_turn (a : An) : isA a.turn .like = isA a .like := by cases a <;> rfl
theorem app_swap {fld : Str → Prop} {num : Int → Int → Prop} {E : En} {x want : Str} {ps : List Str} {vs : List Tv} (h : wordT x = some (x, want, ps)) (hv : Tys fld num ps vs) : appN E.swap (wix x) (vs.map Tv.swap) = (appN E (wix x) vs).swap := by
  obtain ⟨w0, w1, w2, w3, w4, w5, w6, w7, w8, w9, w10, w11, w12, w13⟩ := wix14
  have go1 : ∀ {p : Str}, Tys fld num [p] vs → ∃ v, vs = [v] ∧ Ty fld num p v := fun h => by cases h with | cons a b => cases b; exact ⟨_, rfl, a⟩
  have go2 : ∀ {p q : Str}, Tys fld num [p, q] vs → ∃ v u, vs = [v, u] ∧ Ty fld num p v ∧ Ty fld num q u := fun h => by cases h with | cons a b => cases b with | cons b c => cases c; exact ⟨_, _, rfl, a, b⟩
  have go3 : ∀ {p q r : Str}, Tys fld num [p, q, r] vs → ∃ v u t, vs = [v, u, t] ∧ Ty fld num p v ∧ Ty fld num q u ∧ Ty fld num r t := fun h => by cases h with | cons a b => cases b with | cons b c => cases c with | cons c d => cases d; exact ⟨_, _, _, rfl, a, b, c⟩
  rcases word14 h with ⟨rfl, rfl, rfl⟩ | ⟨rfl, rfl, rfl⟩ | ⟨rfl, rfl, rfl⟩ | ⟨rfl, rfl, rfl⟩ | ⟨rfl, rfl, rfl⟩ | ⟨rfl, rfl, rfl⟩ | ⟨rfl, rfl, rfl⟩ | ⟨rfl, rfl, rfl⟩ | ⟨rfl, rfl, rfl⟩ | ⟨rfl, rfl, rfl⟩ | ⟨rfl, rfl, rfl⟩ | ⟨rfl, rfl, rfl⟩ | ⟨rfl, rfl, rfl⟩ | ⟨rfl, rfl, rfl⟩
  · rw [w0]; rfl
  · obtain ⟨v, rfl, h1⟩ := go1 hv; obtain ⟨z, _, rfl⟩ := h1.field; rw [w1]; rfl
  · obtain ⟨v, rfl, h1⟩ := go1 hv; obtain ⟨z, _, rfl⟩ := h1.field; rw [w2]; rfl
  · obtain ⟨v, u, rfl, h1, h2⟩ := go2 hv; obtain ⟨a, rfl⟩ := h1.order; obtain ⟨b, rfl⟩ := h2.order; rw [w3]; cases a <;> cases b <;> rfl
  · obtain ⟨v, rfl, h1⟩ := go1 hv; obtain ⟨a, rfl⟩ := h1.order; rw [w4]; rfl
  · obtain ⟨v, u, t, rfl, h1, h2, h3⟩ := go3 hv; obtain ⟨a, rfl⟩ := h1.case; obtain ⟨b, rfl⟩ := h2.order; obtain ⟨c, rfl⟩ := h3.order; rw [w5]; cases a <;> rfl
  · obtain ⟨v, rfl, h1⟩ := go1 hv; obtain ⟨z, _, rfl⟩ := h1.field; rw [w6]; show Tv.tr (isA (E.look z).turn .like) = _; rw [isA_turn]; rfl
  · obtain ⟨v, rfl, h1⟩ := go1 hv; obtain ⟨a, b, rfl⟩ := h1.mark; rw [w7]; show Tv.tr (b && a) = Tv.tr (a && b); rw [Bool.and_comm]
  · obtain ⟨v, rfl, h1⟩ := go1 hv; obtain ⟨a, b, rfl⟩ := h1.mark; rw [w8]; show Tv.tr (b || a) = Tv.tr (a || b); rw [Bool.or_comm]
  · obtain ⟨v, rfl, h1⟩ := go1 hv; obtain ⟨a, rfl⟩ := h1.case; rw [w9]; rfl
  · obtain ⟨v, u, rfl, h1, h2⟩ := go2 hv; obtain ⟨a, rfl⟩ := h1.case; obtain ⟨b, rfl⟩ := h2.case; rw [w10]; rfl
  · obtain ⟨v, u, rfl, h1, h2⟩ := go2 hv; obtain ⟨a, rfl⟩ := h1.case; obtain ⟨b, rfl⟩ := h2.case; rw [w11]; rfl
  · obtain ⟨v, u, rfl, h1, h2⟩ := go2 hv; obtain ⟨z, _, rfl⟩ := h1.field; obtain ⟨a, b, _, rfl⟩ := h2.number; rw [w12]; rfl
  · obtain ⟨v, u, rfl, h1, h2⟩ := go2 hv; obtain ⟨z, _, rfl⟩ := h1.field; obtain ⟨a, b, _, rfl⟩ := h2.number; rw [w13]; rfl
theorem ev_swap {fld : Str → Prop} {num : Int → Int → Prop} {E : En} (hf : ∀ z, fld z → wordT z = none) {st st1 : List Str} {ws : List Wd} (h : Run fld num st ws st1) : Kinds st → ∀ {vs : List Tv}, Tys fld num st1 vs → ev E.swap ws (vs.map Tv.swap) = (ev E ws vs).map Tv.swap := by
  induction h with
  | nil => intro _ vs hv; rfl
  | @cons st st1 st2 w ws a b ih =>
    intro hs vs hv
    have e := ih (step_kinds a hs) hv
    have ty := (ev_ty (E := E) hf b (step_kinds a hs) hv).1
    show push E.swap w (ev E.swap ws (vs.map Tv.swap)) = (push E w (ev E ws vs)).map Tv.swap
    rw [e]
    generalize ev E ws vs = us at ty
    rcases step_word a hs with ⟨x, st0, rfl, rfl, hx, rfl⟩ | ⟨a', b', st0, rfl, rfl, hx, rfl⟩ | ⟨want, x, ps, st0, rfl, rfl, n1, n2, hw, hl, rfl⟩
    · have e : ∀ (E : En) us, push E (.t x) us = .wd (.t x) :: us := fun E us => by unfold push; dsimp only; rw [hf x hx]
      rw [e, e]; rfl
    · rfl
    · have e : ∀ (E : En) us, push E (.t x) us = appN E (wix x) (us.take ps.length) :: us.drop ps.length := fun E us => by unfold push; dsimp only; rw [hw]
      rw [e, e, List.map_cons, List.map_drop, ← List.map_take, app_swap hw (tys_split ty).1]
theorem order_swap {fld : Str → Prop} {num : Int → Int → Prop} {E : En} (hf : ∀ z, fld z → wordT z = none) {ws : List Wd} (h : IsOrd fld num ws) {a b : An} (h1 : ∀ R, ev E ws R = .an a :: R) (h2 : ∀ R, ev E.swap ws R = .an b :: R) : b = a.turn := by
  have := ev_swap (E := E) hf h kinds_o (vs := []) .nil
  rw [List.map_nil, h1, h2] at this
  simp only [List.map_cons, List.map_nil, Tv.swap] at this
  injection this with e
  injection e
def hsA (a b : Int × Int) : An := if a.1 * b.2 < b.1 * a.2 then .ahead else if a.1 * b.2 > b.1 * a.2 then .behind else .like
theorem hsA_turn (a b : Int × Int) : hsA b a = (hsA a b).turn := by
  unfold hsA
  generalize a.1 * b.2 = x
  generalize b.1 * a.2 = y
  by_cases h1 : x < y
  · have n1 : ¬ y < x := by omega
    simp only [h1, n1, gt_iff_lt, if_true, if_false]; rfl
  · by_cases h2 : y < x
    · simp only [h1, h2, gt_iff_lt, if_true, if_false]; rfl
    · simp only [h1, h2, gt_iff_lt, if_false]; rfl
def enOf (book : List Str) (f g : List (Int × Int)) : En where
  look z := hsA (f.getD (book.idxOf z) (0, 1)) (g.getD (book.idxOf z) (0, 1))
  one z a b := hsA (f.getD (book.idxOf z) (0, 1)) (a, b)
  two z a b := hsA (g.getD (book.idxOf z) (0, 1)) (a, b)
theorem enOf_swap (book : List Str) (f g : List (Int × Int)) : (enOf book f g).swap = enOf book g f := by
  unfold En.swap enOf
  congr 1
  funext z
  exact (hsA_turn _ _).symm
end Look
set_option maxHeartbeats 4000000
namespace L2
open PySem PySem.Spec PyProof.Rows MeetsSeq
theorem tuple_index_meets (t : Addr) (items : Array Value) (n : Nat) (dct : Option Addr) (sl : Array (Option Value)) (x : Value) (e : Value → Bool) (he : ∀ y, y ∈ items → EqGives y x (e y)) (j : Nat) (hj : j < items.size)
    (hit : e items[j] = true) (hno : ∀ m (hm : m < items.size), m < j → e items[m] = false) :
    Meets (Builtin.«tuple.index» ⟨[.ref t, x], []⟩) (fun _ R s => s.heap.get? t = some { cls := .type "tuple", dict := dct, data := .seq items n, slots := sl } ∧ R (.ok (.ret (.int j s.toks))) { s with toks := s.toks + 1 }) :=
  .of_wp fun prog w A R s h => by
    obtain ⟨hp, g, d, tk, os⟩ := s; obtain ⟨q1, h⟩ := h
    wp_walk using wpAny_loadPart' q1
    show wpAny (model prog w) A.in1 (forIn ([:min items.size items.size] : Std.Legacy.Range) ((none : Option Fin), ()) _) _ _ _
    rw [Std.Legacy.Range.forIn_eq_forIn_range']
    have hz : [:min items.size items.size].size = items.size := by simp [Std.Legacy.Range.size]
    rw [hz]
    refine wpAny_forIn_list _ (fun rest b s' => s' = ⟨hp, g, d, tk, os⟩ ∧ b = (none, ()) ∧ ∃ i, i ≤ j ∧ rest = List.range' i (items.size - i)) _ ?_ ?_ _ _ ⟨rfl, rfl, 0, Nat.zero_le _, rfl⟩
    · rintro i rest b s' ⟨rfl, rfl, k, hk, hr⟩
      have hlt : k < items.size := by omega
      have hr' : i = k ∧ rest = List.range' (k + 1) (items.size - (k + 1)) := by
        rw [show items.size - k = (items.size - (k + 1)) + 1 by omega, List.range'_succ] at hr
        injection hr with e1 e2
        exact ⟨e1, e2⟩
      obtain ⟨rfl, rfl⟩ := hr'
      have hi : items[i]? = some items[i] := by simp [hlt]
      rw [hi]
      dsimp only
      refine wpAny_bind (he _ (Array.getElem_mem hlt) prog w _ _ _ _ ?_)
      by_cases hij : i = j
      · subst hij
        rw [hit, if_pos rfl]
        wp_walk
        exact ⟨_, rfl, h⟩
      · rw [hno i hlt (by omega)]
        exact wpAny_pure ⟨rfl, rfl, i + 1, by omega, rfl⟩
    · rintro b s' ⟨rfl, rfl, k, hk, hr⟩
      have : items.size - k = 0 := by
        have := congrArg List.length hr
        simpa using this.symm
      omega
def strE (z : Str) : Value → Bool
  | .str a _ => a == z
  | _ => false
section
variable {X : Cx}
def rTIndex (K : PySem.W.Frag) : V → List V → Hp → VK → Prop := fun x vs H Q => ∃ (p : Addr) (ws : List Str) (z : Str), x = .ref p ∧ vs = [.str z] ∧ SqT K H p (ws.map V.str) ∧ z ∈ ws ∧ Q (.int (ws.idxOf z : Nat)) H
theorem mt_tindex {K : PySem.W.Frag} (eK : X.K = K) : MtM X "tuple.index" (rTIndex K) := by
  subst eK
  intro pins s σ H x vs v us Q I rx rv h
  obtain ⟨p, ws, z, rfl, rfl, hp, hz, q⟩ := h
  cases rx
  obtain ⟨u, rfl, ru⟩ := vals1 rv
  obtain ⟨t, rfl⟩ := ru
  obtain ⟨its, r, pt, hl⟩ := I.tuple hp
  obtain ⟨⟨c, dct, dt, sl⟩, e1, e2, n, e3⟩ := pt
  replace e2 : c = .type "tuple" := e2
  replace e3 : dt = .seq its.toArray n := e3
  subst e2 e3
  have hlen : its.length = ws.length := by rw [← r.length, List.length_map]
  have el : ∀ (i : Nat) (hi : i < its.toArray.size), ∃ t', its.toArray[i] = Value.str (ws.getD i z) t' := fun i hi => by
    have hi' : i < its.length := by simpa using hi
    obtain ⟨u, hu, ru⟩ := r.get (i := i) (x := V.str (ws.getD i z)) (by rw [List.getElem?_map, List.getD_eq_getElem?_getD, List.getElem?_eq_getElem (by omega)]; rfl)
    obtain ⟨t', rfl⟩ := ru
    refine ⟨t', ?_⟩
    have : its[i] = Value.str (ws.getD i z) t' := by
      rw [List.getElem?_eq_getElem hi'] at hu; exact Option.some.inj hu
    simpa using this
  have hjl : ws.idxOf z < its.length := by rw [hlen]; exact List.idxOf_lt_length_of_mem hz
  refine call_meets F.slot_tuple_index ⟨_, e1, rfl⟩ F.entry_tuple_index (F.args_tuple_index_2 _ _)
    (tuple_index_meets p its.toArray n dct sl (.str z t) (strE z) (fun y hy => ?_) (ws.idxOf z) (by simpa using hjl) ?_ fun m hm hlt => ?_) ⟨e1, ?_⟩
  · obtain ⟨i, hi, rfl⟩ := Array.mem_iff_getElem.mp hy
    obtain ⟨t', e⟩ := el i hi
    rw [e]
    exact eqGives_str _ _ _ _
  · obtain ⟨t', e⟩ := el _ (by simpa using hjl)
    rw [e]
    have : ws.getD (ws.idxOf z) z = z := by
      rw [List.getD_eq_getElem?_getD, List.getElem?_eq_getElem (by omega)]
      exact List.getElem_idxOf (by omega)
    rw [this]
    show (z == z) = true
    exact beq_self_eq_true z
  · obtain ⟨t', e⟩ := el m hm
    rw [e]
    show (ws.getD m z == z) = false
    have hm' : m < ws.length := by have : m < its.length := by simpa using hm
                                   omega
    have hne : (ws[m] == z) = false := List.not_of_lt_findIdx (p := (· == z)) (xs := ws) hlt
    rw [List.getD_eq_getElem?_getD, List.getElem?_eq_getElem hm']
    exact hne
  · exact ⟨.int _, H, I.tok _, ⟨_, rfl⟩, q⟩
end
end L2
set_option maxHeartbeats 4000000
namespace L2
open PySem PySem.Spec PyProof.Rows
def tdsOk : List DictEntry → List (Str × Str) → Bool
  | [], [] => true
  | e :: es, r :: rs => (match e.key, e.val with
    | .str x _, .str v _ => x == r.1 && v == r.2
    | _, _ => false) && tdsOk es rs
  | _, _ => false
theorem td_val {e : DictEntry} {r : Str × Str} (h : (match e.key, e.val with
    | .str x _, .str v _ => x == r.1 && v == r.2
    | _, _ => false) = true) : (∃ t, e.key = .str r.1 t) ∧ ∃ t, e.val = .str r.2 t := by
  split at h
  · rename_i x t v u h1 h2
    rw [Bool.and_eq_true, beq_iff_eq, beq_iff_eq] at h
    obtain ⟨rfl, rfl⟩ := h
    exact ⟨⟨t, h1⟩, u, h2⟩
  · cases h
theorem td_find (z : Str) : ∀ {es : List DictEntry} {rs : List (Str × Str)}, tdsOk es rs = true →
    (es.find? (·.key.isStr z) = none ∧ rs.find? (fun r => decide (r.1 = z)) = none) ∨ ∃ e r, es.find? (·.key.isStr z) = some e ∧ rs.find? (fun r => decide (r.1 = z)) = some r ∧ ∃ t, e.val = .str r.2 t
  | [], [], _ => .inl ⟨rfl, rfl⟩
  | [], _ :: _, h => by cases h
  | _ :: _, [], h => by cases h
  | e :: es, r :: rs, h => by
    unfold tdsOk at h
    rw [Bool.and_eq_true] at h
    obtain ⟨⟨t, hk⟩, hv⟩ := td_val h.1
    have q : e.key.isStr z = decide (r.1 = z) := by rw [hk]; exact isStr_iff
    rw [List.find?_cons, List.find?_cons, q]
    by_cases hz : r.1 = z
    · rw [decide_eq_true hz]
      exact .inr ⟨e, r, rfl, rfl, hv⟩
    · rw [decide_eq_false hz]
      exact td_find z h.2
theorem td_nokey : ∀ {es : List DictEntry} {rs : List (Str × Str)}, tdsOk es rs = true → es.any (·.refKey) = false
  | [], [], _ => rfl
  | [], _ :: _, h => by cases h
  | _ :: _, [], h => by cases h
  | e :: es, r :: rs, h => by
    unfold tdsOk at h
    rw [Bool.and_eq_true] at h
    obtain ⟨⟨t, hk⟩, _⟩ := td_val h.1
    rw [List.any_cons, td_nokey h.2, Bool.or_false]
    unfold DictEntry.refKey
    rw [hk]
structure Txs (K : PySem.W.Frag) (P : Params) (mg : Str → Option Value) (x : Str) (rs : List (Str × Str)) where
  a : Addr
  g : Str → Option (V × Value)
  m : mg x = some (.ref a)
  D : DictK K P a g
  yes : ∀ z v, rs.find? (fun r => decide (r.1 = z)) = some (z, v) → ∃ u, g z = some (.str v, u)
theorem txs_of {K : PySem.W.Frag} {P : Params} {mg : Str → Option Value} {x : Str} {a : Addr} {es : Array DictEntry} {n : Nat} {rs : List (Str × Str)} (hm : mg x = some (.ref a)) (hl : K.lookup a = some ⟨.type "dict", none, .dict es n, #[]⟩) (hk : PySem.W.KeysLit P es.toList) (lo : (a == sysModules) = false)
    (h : tdsOk es.toList rs = true) : Nonempty (Txs K P mg x rs) := by
  refine ⟨⟨a, gOf es.toList, hm, ⟨⟨es, n, hl, hk⟩, lo, fun x => ?_, fun x v u e => ?_⟩, fun z v e => ?_⟩⟩
  · unfold PySem.W.nsIn
    rw [hl]
    dsimp only
    unfold gOf
    rcases td_find x h with ⟨e1, _⟩ | ⟨e, r, e1, _, _⟩
    · rw [e1, td_nokey h]; rfl
    · rw [e1]; rfl
  · unfold gOf at e
    rcases td_find x h with ⟨e1, _⟩ | ⟨e', r, e1, _, t, ht⟩
    · rw [e1] at e; cases e
    · rw [e1] at e
      rw [Option.map_some] at e
      injection e with e
      injection e with e1 e2
      subst e1 e2
      rw [ht]; exact ⟨t, rfl⟩
  · rcases td_find z h with ⟨_, e2⟩ | ⟨e', r, e1, e2, t, ht⟩
    · rw [e2] at e; cases e
    · rw [e2] at e
      injection e with e; subst e
      refine ⟨e'.val, ?_⟩
      unfold gOf
      rw [e1, Option.map_some, ht]; rfl
end L2
set_option maxHeartbeats 4000000
namespace K12
open PySem L2 Frac Lw Dig PySem.NumText Nm
def top (i : Nat) : Stmt := PySem.Challenge.pw_ordertext_k12_whole_orders_of_things.main.body.getD i (.Pass ⟨0, 0, 0, 0⟩)
abbrev s_telling : Stmt := top 4
abbrev s_taken : Stmt := top 5
abbrev s_word_told : Stmt := top 6
abbrev s_put_together : Stmt := top 7
abbrev s_is_open : Stmt := top 8
abbrev s_answer : Stmt := top 9
abbrev s_one_then_other : Stmt := top 10
abbrev s_turned_about : Stmt := top 11
abbrev s_picked : Stmt := top 12
abbrev s_settled_by : Stmt := top 13
abbrev s_compared : Stmt := top 15
abbrev s_how_stands : Stmt := top 16
abbrev s_looked : Stmt := top 18
abbrev s_is_order : Stmt := top 19
abbrev s_each_once : Stmt := top 20
abbrev s_table_of : Stmt := top 21
abbrev s_looks_of : Stmt := top 22
abbrev s_looks_agree : Stmt := top 23
abbrev s_against_ranks : Stmt := top 24
abbrev s_ranks_in : Stmt := top 25
abbrev s_by_size : Stmt := top 26
abbrev s__law_deck : Stmt := top 28
abbrev s__law_take : Stmt := top 29
abbrev s__law_common : Stmt := top 30
abbrev s__law_least : Stmt := top 31
abbrev s__law_whole_number : Stmt := top 32
abbrev s__law_number : Stmt := top 33
abbrev s__law_book : Stmt := top 34
abbrev s__law_options : Stmt := top 35
abbrev s__law_room : Stmt := top 36
abbrev s__law_order : Stmt := top 37
abbrev s__law_numbers : Stmt := top 39
abbrev s__law_thing : Stmt := top 43
abbrev s__law_good_order : Stmt := top 44
abbrev s__law_about : Stmt := top 45
abbrev s__law_turn_about : Stmt := top 46
abbrev s__law_tame : Stmt := top 47
abbrev s_law : Stmt := top 48
theorem sc_telling : FnScope ["order", "by_field", "by_mark", "told", "word"] ["order", "by_field", "by_mark"] (defScope s_telling) := ⟨rfl, rfl, rfl, by decide +kernel, rfl, by decide +kernel, by decide +kernel⟩
theorem sc_taken : FnScope ["told", "many", "parts"] ["told", "many"] (defScope s_taken) := ⟨rfl, rfl, rfl, by decide +kernel, rfl, by decide +kernel, by decide +kernel⟩
theorem sc_word_told : FnScope ["word", "parts", "by_field", "by_mark"] ["word", "parts", "by_field", "by_mark"] (defScope s_word_told) := ⟨rfl, rfl, rfl, by decide +kernel, rfl, by decide +kernel, by decide +kernel⟩
theorem sc_put_together : FnScope ["word", "parts"] ["word", "parts"] (defScope s_put_together) := ⟨rfl, rfl, rfl, by decide +kernel, rfl, by decide +kernel, by decide +kernel⟩
theorem sc_is_open : FnScope ["part"] ["part"] (defScope s_is_open) := ⟨rfl, rfl, rfl, by decide +kernel, rfl, by decide +kernel, by decide +kernel⟩
theorem sc_answer : FnScope ["word", "how"] ["word", "how"] (defScope s_answer) := ⟨rfl, rfl, rfl, by decide +kernel, rfl, by decide +kernel, by decide +kernel⟩
theorem sc_one_then_other : FnScope ["one", "other"] ["one", "other"] (defScope s_one_then_other) := ⟨rfl, rfl, rfl, by decide +kernel, rfl, by decide +kernel, by decide +kernel⟩
theorem sc_turned_about : FnScope ["part"] ["part"] (defScope s_turned_about) := ⟨rfl, rfl, rfl, by decide +kernel, rfl, by decide +kernel, by decide +kernel⟩
theorem sc_picked : FnScope ["case", "one", "other"] ["case", "one", "other"] (defScope s_picked) := ⟨rfl, rfl, rfl, by decide +kernel, rfl, by decide +kernel, by decide +kernel⟩
theorem sc_settled_by : FnScope ["truth", "word", "parts", "rest"] ["truth", "word", "parts"] (defScope s_settled_by) := ⟨rfl, rfl, rfl, by decide +kernel, rfl, by decide +kernel, by decide +kernel⟩
theorem sc_compared : FnScope ["one", "other", "left", "right"] ["one", "other"] (defScope s_compared) := ⟨rfl, rfl, rfl, by decide +kernel, rfl, by decide +kernel, by decide +kernel⟩
theorem sc_how_stands : FnScope ["one", "other", "size"] ["one", "other"] (defScope s_how_stands) := ⟨rfl, rfl, rfl, by decide +kernel, rfl, by decide +kernel, by decide +kernel⟩
theorem sc_looked : FnScope ["order", "book", "first", "second", "by_field", "by_mark"] ["order", "book", "first", "second"] (defScope s_looked) := ⟨rfl, rfl, rfl, by decide +kernel, rfl, by decide +kernel, by decide +kernel⟩
theorem sc_is_order : FnScope ["order", "book", "things"] ["order", "book", "things"] (defScope s_is_order) := ⟨rfl, rfl, rfl, by decide +kernel, rfl, by decide +kernel, by decide +kernel⟩
theorem sc_each_once : FnScope ["things", "kept", "thing"] ["things"] (defScope s_each_once) := ⟨rfl, rfl, rfl, by decide +kernel, rfl, by decide +kernel, by decide +kernel⟩
theorem sc_table_of : FnScope ["order", "book", "things"] ["order", "book", "things"] (defScope s_table_of) := ⟨rfl, rfl, rfl, by decide +kernel, rfl, by decide +kernel, by decide +kernel⟩
theorem sc_looks_of : FnScope ["order", "book", "one", "things"] ["order", "book", "one", "things"] (defScope s_looks_of) := ⟨rfl, rfl, rfl, by decide +kernel, rfl, by decide +kernel, by decide +kernel⟩
theorem sc_looks_agree : FnScope ["table"] ["table"] (defScope s_looks_agree) := ⟨rfl, rfl, rfl, by decide +kernel, rfl, by decide +kernel, by decide +kernel⟩
theorem sc_against_ranks : FnScope ["table", "ranks", "one", "row", "other", "look"] ["table"] (defScope s_against_ranks) := ⟨rfl, rfl, rfl, by decide +kernel, rfl, by decide +kernel, by decide +kernel⟩
theorem sc_ranks_in : FnScope ["table"] ["table"] (defScope s_ranks_in) := ⟨rfl, rfl, rfl, by decide +kernel, rfl, by decide +kernel, by decide +kernel⟩
theorem sc_by_size : FnScope ["one", "other"] ["one", "other"] (defScope s_by_size) := ⟨rfl, rfl, rfl, by decide +kernel, rfl, by decide +kernel, by decide +kernel⟩
theorem sc__law_options : FnScope ["want", "some"] ["want"] (defScope s__law_options) := ⟨rfl, rfl, rfl, by decide +kernel, rfl, by decide +kernel, by decide +kernel⟩
theorem sc__law_order : FnScope ["deck", "book", "numbers", "most", "words", "due", "want", "room", "some", "option"] ["deck", "book", "numbers", "most"] (defScope s__law_order) := ⟨rfl, rfl, rfl, by decide +kernel, rfl, by decide +kernel, by decide +kernel⟩
theorem sc__law_thing : FnScope ["deck", "book", "numbers", "some", "parts", "field", "number", "way"] ["deck", "book", "numbers"] (defScope s__law_thing) := ⟨rfl, rfl, rfl, by decide +kernel, rfl, by decide +kernel, by decide +kernel⟩
theorem sc__law_good_order : FnScope ["deck", "book", "numbers", "order", "k", "step", "field", "by"] ["deck", "book", "numbers"] (defScope s__law_good_order) := ⟨rfl, rfl, rfl, by decide +kernel, rfl, by decide +kernel, by decide +kernel⟩
theorem sc__law_about : FnScope ["side"] ["side"] (defScope s__law_about) := ⟨rfl, rfl, rfl, by decide +kernel, rfl, by decide +kernel, by decide +kernel⟩
theorem sc__law_turn_about : FnScope ["order", "book", "things", "one", "other", "about"] ["order", "book", "things"] (defScope s__law_turn_about) := ⟨rfl, rfl, rfl, by decide +kernel, rfl, by decide +kernel, by decide +kernel⟩
theorem sc__law_tame : FnScope ["number"] ["number"] (defScope s__law_tame) := ⟨rfl, rfl, rfl, by decide +kernel, rfl, by decide +kernel, by decide +kernel⟩
theorem sc_law : FnScope ["script", "deck", "book", "numbers", "things", "good", "k", "order", "whole", "parts", "told"] ["script"] (defScope s_law) := ⟨rfl, rfl, rfl, by decide +kernel, rfl, by decide +kernel, by decide +kernel⟩
abbrev sTake : Stmt := s__law_take
abbrev sDeck : Stmt := s__law_deck
abbrev sCommon : Stmt := s__law_common
abbrev sLeast : Stmt := s__law_least
abbrev sWhole : Stmt := s__law_whole_number
abbrev sNumber : Stmt := s__law_number
abbrev sBook : Stmt := s__law_book
abbrev sRoom : Stmt := s__law_room
abbrev sNumbers : Stmt := s__law_numbers
def stLine : Stmt → Nat
  | .FunctionDef _ _ _ _ _ _ _ _ _ pos => pos.line
  | _ => 0
abbrev s_by_field : Stmt := (defBody s_looked).getD 0 (.Pass ⟨0, 0, 0, 0⟩)
abbrev lq_by_field : Str := (Str.ofString "looked" ++ ".<locals>.") ++ "by_field"
theorem sc_by_field : CloScope (defScope s_looked) (defScope s_by_field) ["word", "field"] ["place"] ["book", "first", "second"] := ⟨rfl, rfl, rfl, by decide +kernel, (by show ∀ p ∈ (_ : List (Str × NameKind)), p.2 = NameKind.free → List.lookup p.1 (defScope s_looked).names = some NameKind.cell; decide +kernel), by decide +kernel, by decide +kernel, by decide +kernel, by decide +kernel⟩
abbrev s_by_mark : Stmt := (defBody s_looked).getD 1 (.Pass ⟨0, 0, 0, 0⟩)
abbrev lq_by_mark : Str := (Str.ofString "looked" ++ ".<locals>.") ++ "by_mark"
theorem sc_by_mark : CloScope (defScope s_looked) (defScope s_by_mark) ["word", "field", "number"] ["place"] ["book", "first", "second"] := ⟨rfl, rfl, rfl, by decide +kernel, (by show ∀ p ∈ (_ : List (Str × NameKind)), p.2 = NameKind.free → List.lookup p.1 (defScope s_looked).names = some NameKind.cell; decide +kernel), by decide +kernel, by decide +kernel, by decide +kernel, by decide +kernel⟩
abbrev cr_looked : Nat → Nat → Option Str := fun l _ => if l = stLine s_by_field then some lq_by_field else some lq_by_mark
set_option genInjectivity false in
structure Top (K : PySem.W.Frag) (mg : Str → Option Value) where
  f_telling : Addr
  fd_telling : FuncData
  F_telling : Fun K "telling" "telling" s_telling f_telling fd_telling
  b_telling : Binds K fd_telling ["order", "by_field", "by_mark"] []
  m_telling : mg "telling" = some (.ref f_telling)
  f_taken : Addr
  fd_taken : FuncData
  F_taken : Fun K "taken" "taken" s_taken f_taken fd_taken
  b_taken : Binds K fd_taken ["told", "many"] []
  m_taken : mg "taken" = some (.ref f_taken)
  f_word_told : Addr
  fd_word_told : FuncData
  F_word_told : Fun K "word_told" "word_told" s_word_told f_word_told fd_word_told
  b_word_told : Binds K fd_word_told ["word", "parts", "by_field", "by_mark"] []
  m_word_told : mg "word_told" = some (.ref f_word_told)
  f_put_together : Addr
  fd_put_together : FuncData
  F_put_together : Fun K "put_together" "put_together" s_put_together f_put_together fd_put_together
  b_put_together : Binds K fd_put_together ["word", "parts"] []
  m_put_together : mg "put_together" = some (.ref f_put_together)
  f_is_open : Addr
  fd_is_open : FuncData
  F_is_open : Fun K "is_open" "is_open" s_is_open f_is_open fd_is_open
  b_is_open : Binds K fd_is_open ["part"] []
  m_is_open : mg "is_open" = some (.ref f_is_open)
  f_answer : Addr
  fd_answer : FuncData
  F_answer : Fun K "answer" "answer" s_answer f_answer fd_answer
  b_answer : Binds K fd_answer ["word", "how"] []
  m_answer : mg "answer" = some (.ref f_answer)
  f_one_then_other : Addr
  fd_one_then_other : FuncData
  F_one_then_other : Fun K "one_then_other" "one_then_other" s_one_then_other f_one_then_other fd_one_then_other
  b_one_then_other : Binds K fd_one_then_other ["one", "other"] []
  m_one_then_other : mg "one_then_other" = some (.ref f_one_then_other)
  f_turned_about : Addr
  fd_turned_about : FuncData
  F_turned_about : Fun K "turned_about" "turned_about" s_turned_about f_turned_about fd_turned_about
  b_turned_about : Binds K fd_turned_about ["part"] []
  m_turned_about : mg "turned_about" = some (.ref f_turned_about)
  f_picked : Addr
  fd_picked : FuncData
  F_picked : Fun K "picked" "picked" s_picked f_picked fd_picked
  b_picked : Binds K fd_picked ["case", "one", "other"] []
  m_picked : mg "picked" = some (.ref f_picked)
  f_settled_by : Addr
  fd_settled_by : FuncData
  F_settled_by : Fun K "settled_by" "settled_by" s_settled_by f_settled_by fd_settled_by
  b_settled_by : Binds K fd_settled_by ["truth", "word", "parts"] []
  m_settled_by : mg "settled_by" = some (.ref f_settled_by)
  f_compared : Addr
  fd_compared : FuncData
  F_compared : Fun K "compared" "compared" s_compared f_compared fd_compared
  b_compared : Binds K fd_compared ["one", "other"] []
  m_compared : mg "compared" = some (.ref f_compared)
  f_how_stands : Addr
  fd_how_stands : FuncData
  F_how_stands : Fun K "how_stands" "how_stands" s_how_stands f_how_stands fd_how_stands
  b_how_stands : Binds K fd_how_stands ["one", "other"] []
  m_how_stands : mg "how_stands" = some (.ref f_how_stands)
  f_looked : Addr
  fd_looked : FuncData
  F_looked : Fun K "looked" "looked" s_looked f_looked fd_looked
  b_looked : Binds K fd_looked ["order", "book", "first", "second"] []
  m_looked : mg "looked" = some (.ref f_looked)
  f_is_order : Addr
  fd_is_order : FuncData
  F_is_order : Fun K "is_order" "is_order" s_is_order f_is_order fd_is_order
  b_is_order : Binds K fd_is_order ["order", "book", "things"] []
  m_is_order : mg "is_order" = some (.ref f_is_order)
  f_each_once : Addr
  fd_each_once : FuncData
  F_each_once : Fun K "each_once" "each_once" s_each_once f_each_once fd_each_once
  b_each_once : Binds K fd_each_once ["things"] []
  m_each_once : mg "each_once" = some (.ref f_each_once)
  f_table_of : Addr
  fd_table_of : FuncData
  F_table_of : Fun K "table_of" "table_of" s_table_of f_table_of fd_table_of
  b_table_of : Binds K fd_table_of ["order", "book", "things"] []
  m_table_of : mg "table_of" = some (.ref f_table_of)
  f_looks_of : Addr
  fd_looks_of : FuncData
  F_looks_of : Fun K "looks_of" "looks_of" s_looks_of f_looks_of fd_looks_of
  b_looks_of : Binds K fd_looks_of ["order", "book", "one", "things"] []
  m_looks_of : mg "looks_of" = some (.ref f_looks_of)
  f_looks_agree : Addr
  fd_looks_agree : FuncData
  F_looks_agree : Fun K "looks_agree" "looks_agree" s_looks_agree f_looks_agree fd_looks_agree
  b_looks_agree : Binds K fd_looks_agree ["table"] []
  m_looks_agree : mg "looks_agree" = some (.ref f_looks_agree)
  f_against_ranks : Addr
  fd_against_ranks : FuncData
  F_against_ranks : Fun K "against_ranks" "against_ranks" s_against_ranks f_against_ranks fd_against_ranks
  b_against_ranks : Binds K fd_against_ranks ["table"] []
  m_against_ranks : mg "against_ranks" = some (.ref f_against_ranks)
  f_ranks_in : Addr
  fd_ranks_in : FuncData
  F_ranks_in : Fun K "ranks_in" "ranks_in" s_ranks_in f_ranks_in fd_ranks_in
  b_ranks_in : Binds K fd_ranks_in ["table"] []
  m_ranks_in : mg "ranks_in" = some (.ref f_ranks_in)
  f_by_size : Addr
  fd_by_size : FuncData
  F_by_size : Fun K "by_size" "by_size" s_by_size f_by_size fd_by_size
  b_by_size : Binds K fd_by_size ["one", "other"] []
  m_by_size : mg "by_size" = some (.ref f_by_size)
  f__law_deck : Addr
  fd__law_deck : FuncData
  F__law_deck : Fun K "_law_deck" "_law_deck" s__law_deck f__law_deck fd__law_deck
  b__law_deck : Binds K fd__law_deck ["script"] []
  m__law_deck : mg "_law_deck" = some (.ref f__law_deck)
  f__law_take : Addr
  fd__law_take : FuncData
  F__law_take : Fun K "_law_take" "_law_take" s__law_take f__law_take fd__law_take
  b__law_take : Binds K fd__law_take ["deck", "many"] []
  m__law_take : mg "_law_take" = some (.ref f__law_take)
  f__law_common : Addr
  fd__law_common : FuncData
  F__law_common : Fun K "_law_common" "_law_common" s__law_common f__law_common fd__law_common
  b__law_common : Binds K fd__law_common ["one", "other"] []
  m__law_common : mg "_law_common" = some (.ref f__law_common)
  f__law_least : Addr
  fd__law_least : FuncData
  F__law_least : Fun K "_law_least" "_law_least" s__law_least f__law_least fd__law_least
  b__law_least : Binds K fd__law_least ["top", "below"] []
  m__law_least : mg "_law_least" = some (.ref f__law_least)
  f__law_whole_number : Addr
  fd__law_whole_number : FuncData
  F__law_whole_number : Fun K "_law_whole_number" "_law_whole_number" s__law_whole_number f__law_whole_number fd__law_whole_number
  b__law_whole_number : Binds K fd__law_whole_number ["deck"] []
  m__law_whole_number : mg "_law_whole_number" = some (.ref f__law_whole_number)
  f__law_number : Addr
  fd__law_number : FuncData
  F__law_number : Fun K "_law_number" "_law_number" s__law_number f__law_number fd__law_number
  b__law_number : Binds K fd__law_number ["deck"] []
  m__law_number : mg "_law_number" = some (.ref f__law_number)
  f__law_book : Addr
  fd__law_book : FuncData
  F__law_book : Fun K "_law_book" "_law_book" s__law_book f__law_book fd__law_book
  b__law_book : Binds K fd__law_book ["deck"] []
  m__law_book : mg "_law_book" = some (.ref f__law_book)
  f__law_options : Addr
  fd__law_options : FuncData
  F__law_options : Fun K "_law_options" "_law_options" s__law_options f__law_options fd__law_options
  b__law_options : Binds K fd__law_options ["want"] []
  m__law_options : mg "_law_options" = some (.ref f__law_options)
  f__law_room : Addr
  fd__law_room : FuncData
  F__law_room : Fun K "_law_room" "_law_room" s__law_room f__law_room fd__law_room
  b__law_room : Binds K fd__law_room ["due"] []
  m__law_room : mg "_law_room" = some (.ref f__law_room)
  f__law_order : Addr
  fd__law_order : FuncData
  F__law_order : Fun K "_law_order" "_law_order" s__law_order f__law_order fd__law_order
  b__law_order : Binds K fd__law_order ["deck", "book", "numbers", "most"] []
  m__law_order : mg "_law_order" = some (.ref f__law_order)
  f__law_numbers : Addr
  fd__law_numbers : FuncData
  F__law_numbers : Fun K "_law_numbers" "_law_numbers" s__law_numbers f__law_numbers fd__law_numbers
  b__law_numbers : Binds K fd__law_numbers ["deck"] []
  m__law_numbers : mg "_law_numbers" = some (.ref f__law_numbers)
  f__law_thing : Addr
  fd__law_thing : FuncData
  F__law_thing : Fun K "_law_thing" "_law_thing" s__law_thing f__law_thing fd__law_thing
  b__law_thing : Binds K fd__law_thing ["deck", "book", "numbers"] []
  m__law_thing : mg "_law_thing" = some (.ref f__law_thing)
  f__law_good_order : Addr
  fd__law_good_order : FuncData
  F__law_good_order : Fun K "_law_good_order" "_law_good_order" s__law_good_order f__law_good_order fd__law_good_order
  b__law_good_order : Binds K fd__law_good_order ["deck", "book", "numbers"] []
  m__law_good_order : mg "_law_good_order" = some (.ref f__law_good_order)
  f__law_about : Addr
  fd__law_about : FuncData
  F__law_about : Fun K "_law_about" "_law_about" s__law_about f__law_about fd__law_about
  b__law_about : Binds K fd__law_about ["side"] []
  m__law_about : mg "_law_about" = some (.ref f__law_about)
  f__law_turn_about : Addr
  fd__law_turn_about : FuncData
  F__law_turn_about : Fun K "_law_turn_about" "_law_turn_about" s__law_turn_about f__law_turn_about fd__law_turn_about
  b__law_turn_about : Binds K fd__law_turn_about ["order", "book", "things"] []
  m__law_turn_about : mg "_law_turn_about" = some (.ref f__law_turn_about)
  f__law_tame : Addr
  fd__law_tame : FuncData
  F__law_tame : Fun K "_law_tame" "_law_tame" s__law_tame f__law_tame fd__law_tame
  b__law_tame : Binds K fd__law_tame ["number"] []
  m__law_tame : mg "_law_tame" = some (.ref f__law_tame)
  c_looked : Addr
  P_looked : Addr
  cd_looked : fd_looked.code = .ref c_looked
  ch_looked : PySem.W.codeHdIn K c_looked P_looked = true
  len_ : mg "len" = none
  range_ : mg "range" = none
  tuple_ : mg "tuple" = none
  isinstance_ : mg "isinstance" = none
  list_ : mg "list" = none
  sum_ : mg "sum" = none
  max_ : mg "max" = none
  str_ : mg "str" = none
  int_ : mg "int" = none
  reversed_ : mg "reversed" = none
  enumerate_ : mg "enumerate" = none
  tt : PySem.W.kitOne K (.type "tuple") (.type "tuple") = some true
  st : PySem.W.kitOne K (.type "str") (.type "tuple") = some false
  bt : PySem.W.kitOne K (.type "bool") (.type "tuple") = some false
section
variable {P : Program} {w : World} {K : PySem.W.Frag} {mg : Str → Option Value} {base : Heap}
theorem scTake : FnScope ["deck", "many", "at", "cell"] ["deck", "many"] (defScope sTake) := ⟨rfl, rfl, rfl, by decide +kernel, rfl, by decide +kernel, by decide +kernel⟩
theorem ok_take {f : Addr} {fd : FuncData} (F : Fun K "_law_take" "_law_take" sTake f fd) (hlen : mg "len" = none) : FnOk P w K mg base CX0 1 f fd ["deck", "many"] spTake := by
  refine F.ok scTake (fun vs H Q E h => ?_) (fun cdv A outer s H vs Q E hr h => ?_)
  · obtain ⟨d, c, many, rfl, _⟩ := h
    rfl
  · obtain ⟨d, c, many, rfl, D, ⟨hm, hz⟩, k⟩ := h
    obtain ⟨n, ns, hd, hc, hl1, hl2, hn⟩ := id D.ex
    have ndc := D.ne
    refine ⟨_, pss_cons (ps_set (i := 2) scTake.nd rfl (Or.inl rfl) (pe_op op_mod (pe_ix ix_list (pv 0) pe_int (fun _ _ => rfl)) (pe_callB call_len_seq (by rfl) hlen PySem.boot_len (pa_cons (pe_ix ix_list (pv 0) pe_int (fun _ _ => rfl)) pa_nil))))
      (pss_cons (ps_asg (pe_op op_add (pe_ix ix_list (pv 0) pe_int (fun _ _ => rfl)) pe_int) (pg_sub (pv 0) pe_int set_list))
      (pss_cons (ps_set (i := 3) scTake.nd rfl (Or.inl rfl) (pe_ix ix_list (pe_ix ix_list (pv 0) pe_int (fun _ _ => rfl)) (pv 2) (fun _ _ => rfl)))
      (pss_cons (ps_asg (pe_op op_fdivP (pv 3) (pv 1)) (pg_sub (pe_ix ix_list (pv 0) pe_int (fun _ _ => rfl)) (pv 2) set_list))
      (pss_one (ps_ret (pe_op op_mod (pv 3) (pv 1))))))), ?_⟩
    have hi0 : 0 ≤ n % ((ns.map V.int).length : Int) := Int.emod_nonneg _ (by rw [List.length_map]; omega)
    have hi1 : n % ((ns.map V.int).length : Int) < ns.length := by
      have := Int.emod_lt_of_pos n (show (0 : Int) < ((ns.map V.int).length : Int) by rw [List.length_map]; omega)
      rw [List.length_map] at this ⊢; exact this
    obtain ⟨z, j, hat, hix, hj⟩ := atI_ints hi0 hi1
    refine ⟨_, rfl, d, _, 1, _, rfl, rfl, SqL.of hd, rfl, _, rfl, d, _, 0, _, rfl, rfl, SqL.of hd, rfl, c, _, rfl, .inl (SqL.of hc), _, _, rfl, rfl, (by rw [List.length_map]; omega), ?_⟩
    refine ⟨_, rfl, d, _, 1, _, rfl, rfl, SqL.of hd, rfl, _, _, rfl, rfl, _, rfl, d, _, 1, 1, rfl, rfl, hd, rfl, ?_⟩
    have hc1 : ∀ o, (upd H d o) c = some (.lst (ns.map V.int)) := fun o => by rw [upd_ne (Ne.symm ndc)]; exact hc
    refine ⟨_, rfl, d, _, 0, _, rfl, rfl, SqL.of upd_same, rfl, _, rfl, c, _, _, _, rfl, rfl, SqL.of (hc1 _), hat, ?_⟩
    refine ⟨_, rfl, _, rfl, _, _, rfl, rfl, ⟨by omega, w0 hz⟩, _, rfl, d, _, 0, _, rfl, rfl, SqL.of upd_same, rfl, _, rfl, c, _, _, j, rfl, rfl, hc1 _, hix, ?_⟩
    refine ⟨_, rfl, _, rfl, _, _, rfl, rfl, (by omega), ?_⟩
    refine k _ _ (Int.emod_nonneg _ (by omega)) (Int.emod_lt_of_pos _ (by omega)) ⟨n + 1, ns.set j (z / many), ?_, ?_, by simpa using hl1, by simpa using hl2, by omega⟩ fun b o e h1 h2 => ?_
    · rw [upd_ne ndc, upd_same]; rfl
    · rw [upd_same, set_ints]
    · rw [upd_ne h2, upd_ne h1]; exact e
theorem scDeck : FnScope ["script", "cells", "k", "mixed"] ["script"] (defScope sDeck) := ⟨rfl, rfl, rfl, by decide +kernel, rfl, by decide +kernel, by decide +kernel⟩
theorem ok_deck {f : Addr} {fd : FuncData} (F : Fun K "_law_deck" "_law_deck" sDeck f fd) (hlen : mg "len" = none) (hsum : mg "sum" = none) (hrange : mg "range" = none) : FnOk P w K mg base CX0 1 f fd ["script"] (spDeck K) := by
  refine F.ok scDeck (fun vs H Q E h => ?_) (fun cdv A outer s H vs Q E hr h => ?_)
  · obtain ⟨a, ns, rfl, _⟩ := h
    rfl
  · obtain ⟨a, ns, rfl, hS, hlen63, k⟩ := h
    refine ⟨_, pss_cons (ps_set (i := 1) scDeck.nd rfl (Or.inl rfl) (pe_op op_cat (pe_slice sl_list (pv 0) po_none (po_some pe_int)) (pe_lst (pa_cons (pe_callB call_len_seq (by rfl) hlen PySem.boot_len (pa_cons (pv 0) pa_nil)) pa_nil))))
      (pss_cons (ps_if (pt_cmpR op_eq (pe_op op_mod (pe_callB (call_sum rfl) (by rfl) hsum bSum (pa_cons (pe_slice sl_list (pv 0) po_none (po_some pe_int)) pa_nil)) pe_int) pe_int (nomark _))
        (pss_one (ps_for PassesOwn.never rfl (pi_range1 rfl hrange (pa_cons (pe_callB call_len_seq (by rfl) hlen PySem.boot_len (pa_cons (pv 1) pa_nil)) pa_nil)) (pg_name (i := 2) scDeck.nd rfl (Or.inl rfl))
          (pss_cons (ps_set (i := 3) scDeck.nd rfl (Or.inl rfl) (pe_op op_mod (pe_op op_mulW (pe_op op_add (pe_op op_add (pe_op op_mod (pe_ix ix_list (pv 1) (pv 2) (fun _ _ => rfl)) pe_int) (pe_op op_mulW pe_int (pv 2))) pe_int) pe_int) pe_int))
          (pss_cons (ps_set (i := 3) scDeck.nd rfl (Or.inl rfl) (pe_op op_mod (pe_op op_mulW (pe_op op_mod (pe_op op_add (pe_op op_mulW (pv 3) (pv 3)) (pe_op op_mulW pe_int (pv 2))) pe_int) pe_int) pe_int))
          (pss_one (ps_asg (pe_op op_add (pe_op op_mulW (pe_op op_mulW (pv 3) (pv 3)) pe_int) (pe_op op_mod (pe_op op_mulW (pv 3) pe_int) pe_int)) (pg_sub (pv 1) (pv 2) set_list)))))))
        pss_nil)
      (pss_one (ps_ret (pe_lst (pa_cons (pv 1) (pa_cons pe_int pa_nil)))))), ?_⟩
    refine ⟨_, rfl, 63, rfl, a, _, rfl, hS, fun p hp => ?_⟩
    have s1 := same_new (o := .lst (cutV (ns.map V.int) none (some 63))) hp
    refine ⟨_, rfl, a, _, rfl, .inl (s1.seq hS), (by show 1 ≤ sizeLine; decide), fun q hq => ?_⟩
    have npq : p ≠ q := ne_of_none (H := upd H p (.lst (cutV (ns.map V.int) none (some 63)))) upd_same hq
    refine ⟨p, q, _, _, rfl, rfl, (by rw [upd_ne npq, upd_same]), upd_same, ?_, fun c hc => ?_⟩
    · rw [cut63 hlen63, List.length_map]
      show ns.length + 1 ≤ sizeLine
      rw [sizeLine_eq]; omega
    have s2 := s1.trans (same_new (o := .lst [V.int ((ns.map V.int).length : Nat)]) hq)
    have s3 := s2.trans (same_new (o := .lst (cutV (ns.map V.int) none (some 63) ++ [V.int ((ns.map V.int).length : Nat)])) hc)
    have ec : cutV (ns.map V.int) none (some 63) ++ [V.int ((ns.map V.int).length : Nat)] = (ns ++ [((ns.map V.int).length : Int)]).map V.int := by
      rw [cut63 hlen63, List.map_append]; rfl
    have nc0 : H c = none := s2.free hc
    generalize hH3 : upd (upd (upd H p (.lst (cutV (ns.map V.int) none (some 63)))) q (.lst [V.int ((ns.map V.int).length : Nat)])) c (.lst (cutV (ns.map V.int) none (some 63) ++ [V.int ((ns.map V.int).length : Nat)])) = H3 at s3
    have hc3 : H3 c = some (.lst ((ns ++ [((ns.map V.int).length : Int)]).map V.int)) := by rw [← hH3, upd_same, ec]
    have hlc : (ns ++ [((ns.map V.int).length : Int)]).length = ns.length + 1 := by simp
    have fin : ∀ (v2 v3 : Option V) (H4 : Hp) (ms : List Int), Same H H4 → H4 c = some (.lst (ms.map V.int)) → ms.length = ns.length + 1 →
        tRet (tLst (tCons (tVar 1) (tCons (tC (.int 0)) tNil))) { nx := fun _ H' => Q .non H', rt := Q } [some (.ref a), some (.ref c), v2, v3] H4 := fun v2 v3 H4 ms s4 h4 hl4 => by
      refine ⟨_, rfl, (by show 2 ≤ sizeLine; decide), fun d hd => ?_⟩
      have ncd : c ≠ d := ne_of_none h4 hd
      exact k d c _ ⟨0, ms, upd_same, (by rw [upd_ne ncd]; exact h4), by omega, by omega, by omega⟩ (s4.free hd) nc0 (s4.trans (same_new hd))
    refine ⟨_, rfl, 63, rfl, a, _, rfl, s3.seq hS, fun e he => ?_⟩
    have s4 := s3.trans (same_new (o := .lst (cutV (ns.map V.int) none (some 63))) he)
    have hce : c ≠ e := ne_of_none hc3 he
    have hc4 : (upd H3 e (.lst (cutV (ns.map V.int) none (some 63)))) c = some (.lst ((ns ++ [((ns.map V.int).length : Int)]).map V.int)) := by rw [upd_ne hce]; exact hc3
    refine ⟨e, ns, rfl, SqL.of (by rw [upd_same, cut63 hlen63]), _, _, rfl, rfl, (by show (0 : Int) < 2; decide), rfl, _, rfl, ?_⟩
    refine ite2 (fun _ => ?_) (fun _ => fin _ _ _ _ s4 hc4 hlc)
    refine ⟨_, rfl, c, _, rfl, .inl (SqL.of hc4), _, rfl, ?_, ?_, for_range (Pv := fun i σ H5 => ∃ (v2 v3 : Option V) (ms : List Int), σ = [some (.ref a), some (.ref c), v2, v3] ∧ Same H H5 ∧ H5 c = some (.lst (ms.map V.int)) ∧ ms.length = ns.length + 1) ⟨_, _, _, rfl, s4, hc4, hlc⟩ ?_ ?_⟩
    · rw [List.length_map, hlc]; omega
    · rw [List.length_map, hlc]; omega
    · rintro i σ H5 hi ⟨v2, v3, ms, rfl, s5, h5, hl5⟩
      have hi' : i < ms.length := by
        rw [List.length_map, hlc] at hi
        omega
      obtain ⟨z, j, hat, hix, hj⟩ := atI_ints (ns := ms) (i := 0 + (i : Int)) (by omega) (by omega)
      have hb1 : (0 : Int) ≤ z % 2147483587 ∧ z % 2147483587 < 2147483587 := ⟨Int.emod_nonneg _ (by decide), Int.emod_lt_of_pos _ (by decide)⟩
      refine ⟨_, rfl, _, rfl, c, _, _, _, rfl, rfl, SqL.of h5, hat, _, _, rfl, rfl, (by show (0 : Int) < 2147483587; decide), _, rfl, _, _, rfl, rfl, mw (by decide) (by omega), _, _, rfl, rfl, _, _, rfl, rfl, _, _, rfl, rfl, mw (by omega) (by decide), _, _, rfl, rfl, (by show (0 : Int) < 2147483629; decide), ?_⟩
      (try dsimp only)
      generalize hM1 : (z % 2147483587 + 911 * (0 + (i : Int)) + 3) * 69621 % 2147483629 = m1
      have hm1 : 0 ≤ m1 ∧ m1 < 2147483629 := by rw [← hM1]; exact ⟨Int.emod_nonneg _ (by decide), Int.emod_lt_of_pos _ (by decide)⟩
      have hmm : (m1 * m1).natAbs ≤ 2147483629 * 2147483629 := mulb (by omega) (by omega)
      refine ⟨_, rfl, _, rfl, _, _, rfl, rfl, mw (by omega) (by omega), _, rfl, _, _, rfl, rfl, mw (by decide) (by omega), _, _, rfl, rfl, _, _, rfl, rfl, (by show (0 : Int) < 2147483563; decide), _, _, rfl, rfl, mw ?_ (by decide), _, _, rfl, rfl, (by show (0 : Int) < 2147483549; decide), ?_⟩
      · have := Int.emod_nonneg (m1 * m1 + 29 * (0 + (i : Int))) (show (2147483563 : Int) ≠ 0 by decide)
        have := Int.emod_lt_of_pos (m1 * m1 + 29 * (0 + (i : Int))) (show (0 : Int) < 2147483563 by decide)
        omega
      (try dsimp only)
      generalize hM2 : (m1 * m1 + 29 * (0 + (i : Int))) % 2147483563 * 16807 % 2147483549 = m2
      have hm2 : 0 ≤ m2 ∧ m2 < 2147483549 := by rw [← hM2]; exact ⟨Int.emod_nonneg _ (by decide), Int.emod_lt_of_pos _ (by decide)⟩
      have hmm2 : (m2 * m2).natAbs ≤ 2147483629 * 2147483629 := mulb (by omega) (by omega)
      refine ⟨_, rfl, _, rfl, _, _, rfl, rfl, mw (by omega) (by omega), _, _, rfl, rfl, mw (by omega) (by decide), _, rfl, _, _, rfl, rfl, mw (by omega) (by decide), _, _, rfl, rfl, (by show (0 : Int) < 2147483579; decide), _, _, rfl, rfl, _, rfl, _, rfl, c, _, _, j, rfl, rfl, h5, hix, ?_⟩
      refine ⟨_, _, ms.set j (m2 * m2 * 2147483543 + m2 * 48271 % 2147483579), rfl, fun b o eb => ?_, (by rw [upd_same, set_ints]), by simpa using hl5⟩
      rw [upd_ne (ne_of_none eb nc0)]
      exact s5 b o eb
    · rintro σ H5 ⟨v2, v3, ms, rfl, s5, h5, hl5⟩
      exact fin _ _ _ _ s5 h5 hl5
theorem scCommon : FnScope ["one", "other"] ["one", "other"] (defScope sCommon) := ⟨rfl, rfl, rfl, by decide +kernel, rfl, by decide +kernel, by decide +kernel⟩
theorem ok_common {f : Addr} {fd : FuncData} (F : Fun K "_law_common" "_law_common" sCommon f fd) : FnOk P w K mg base CX0 1 f fd ["one", "other"] spCommon := by
  refine F.ok scCommon (fun vs H Q E h => ?_) (fun cdv A outer s H vs Q E hr h => ?_)
  · obtain ⟨a, b, rfl, _⟩ := h
    rfl
  · obtain ⟨a, b, rfl, ha, hb, k⟩ := h
    refine ⟨_, pss_cons (ps_while PassesOwn.never (pt_cmpR op_gt (pv 1) pe_int (nomark _)) (pss_one (ps_par (i := 0) (j := 1) rfl scCommon.nd rfl rfl (by decide) rfl rfl (pa_cons (pv 1) (pa_cons (pe_op op_mod (pv 0) (pv 1)) pa_nil)) (by rfl))))
      (pss_one (ps_ret (pv 0))), ?_⟩
    refine while_by (fun σ H2 => ∃ x y : Int, σ = [some (.int x), some (.int y)] ∧ H2 = H ∧ 0 ≤ x ∧ 0 ≤ y ∧ Int.gcd x y = Int.gcd a b) (fun σ _ => match σ with | [_, some (.int y)] => y.toNat | _ => 0) ⟨a, b, rfl, rfl, ha, hb, rfl⟩ ?_ ?_
    · rintro σ H2 ⟨x, y, rfl, rfl, hx, hy, hg⟩
      refine ⟨_, rfl, _, _, rfl, rfl, _, rfl, ?_⟩
      by_cases h0 : 0 < y
      · rw [decide_eq_true h0]
        refine iteT ?_
        have hr0 := Int.emod_nonneg x (show y ≠ 0 by omega)
        have hr1 := Int.emod_lt_of_pos x h0
        refine ⟨_, rfl, _, rfl, _, rfl, _, _, rfl, rfl, h0, _, _, rfl, ⟨y, x % y, rfl, rfl, hy, hr0, ?_⟩, ?_⟩
        · rw [gcd_step x y h0]; exact hg
        · show (x % y).toNat < y.toNat
          omega
      · rw [decide_eq_false h0]
        refine iteF ?_
        have y0 : y = 0 := by omega
        subst y0
        refine ⟨_, rfl, ?_⟩
        have e := gcd_zero x hx
        rw [hg] at e
        rw [← e]
        exact k
    · rintro σ H2 Q1 Q2 hq ⟨v, e, i, j, e1, e2, b', e3, q⟩
      exact ⟨v, e, i, j, e1, e2, b', e3, hq _ _ q⟩
theorem scLeast : FnScope ["top", "below", "by"] ["top", "below"] (defScope sLeast) := ⟨rfl, rfl, rfl, by decide +kernel, rfl, by decide +kernel, by decide +kernel⟩
theorem ok_least {f fC : Addr} {fd fdC : FuncData} (F : Fun K "_law_least" "_law_least" sLeast f fd) (hmax : mg "max" = none) (FC : Fun K "_law_common" "_law_common" sCommon fC fdC) (bC : Binds K fdC ["one", "other"] []) (mC : mg "_law_common" = some (.ref fC)) : FnOk P w K mg base CX0 2 f fd ["top", "below"] spLeast := by
  have GC : FnOk P w K mg base CX0 1 fC fdC ["one", "other"] spCommon := ok_common FC
  refine F.ok scLeast (fun vs H Q E h => ?_) (fun cdv A outer s H vs Q E hr h => ?_)
  · obtain ⟨a, b, rfl, _⟩ := h
    rfl
  · obtain ⟨a, b, rfl, hb, ⟨za, zb⟩, k⟩ := h
    refine ⟨_, pss_cons (ps_if (pt_cmpR op_lt (pv 1) pe_int (nomark _)) (pss_cons (ps_set (i := 0) scLeast.nd rfl (Or.inl rfl) (pe_op op_sub pe_int (pv 0))) (pss_one (ps_set (i := 1) scLeast.nd rfl (Or.inl rfl) (pe_op op_sub pe_int (pv 1))))) pss_nil)
      (pss_cons (ps_set (i := 2) scLeast.nd rfl (Or.inl rfl) (pe_call GC hr (by rfl) mC FC.kp bC .nil pass0 (pa_cons (pe_callB (call_max2 rfl) (by rfl) hmax bMax (pa_cons (pv 0) (pa_cons (pe_op op_sub pe_int (pv 0)) pa_nil))) (pa_cons (pv 1) pa_nil))))
      (pss_one (ps_ret (pe_tup (pa_cons (pe_op op_fdivP (pv 0) (pv 2)) (pa_cons (pe_op op_fdivP (pv 1) (pv 2)) pa_nil)))))), ?_⟩
    have fin : ∀ (x y : Int) (v : Option V), 0 < y → norm a b = norm x y → y.natAbs < 10 ^ 100 → (tSeq (tAsg (tCall spCommon [] E0 (tCons (tCB (fun xs H Q => ∃ i j, xs = [.int i, .int j] ∧ Q (.int (if j > i then j else i)) H) (tCons (tVar 0) (tCons (tOp (rI0 fun i j => .int (i - j)) (tC (.int 0)) (tVar 0)) tNil))) (tCons (tVar 1) tNil))) (gName 2))
        (tRet (tTup (tCons (tOp (rI CDivP fun i j => .int (i / j)) (tVar 0) (tVar 2)) (tCons (tOp (rI CDivP fun i j => .int (i / j)) (tVar 1) (tVar 2)) tNil))))) { nx := fun _ H' => Q .non H', rt := Q } [some (.int x), some (.int y), v] H := fun x y v hy he hz => by
      have em : (if 0 - x > x then 0 - x else x) = (x.natAbs : Int) := by split <;> omega
      have eg : Int.gcd (if 0 - x > x then 0 - x else x) y = Int.gcd x y := by rw [em]; unfold Int.gcd; rw [Int.natAbs_natCast]
      refine ⟨_, rfl, _, rfl, _, _, rfl, rfl, _, _, rfl, _, rfl, _, _, rfl, (by split <;> omega), by omega, ?_⟩
      rw [eg]
      have hg := gpos (a := x) (show y ≠ 0 by omega)
      have hgz : (Int.gcd x y : Int).natAbs < 10 ^ 100 := by
        have := Int.le_of_dvd hy (dvd_r x y)
        omega
      refine ⟨_, rfl, _, rfl, _, _, rfl, rfl, ⟨hg, w0 hgz⟩, _, rfl, _, rfl, _, _, rfl, rfl, ⟨hg, w0 hgz⟩, (by show 2 ≤ sizeLine; decide), fun p hp => ?_⟩
      have := k p hp
      rw [he, norm_pos x y hy] at this
      exact this
    refine ⟨_, rfl, _, _, rfl, rfl, _, rfl, ?_⟩
    by_cases h0 : b < 0
    · rw [decide_eq_true h0]
      refine iteT ?_
      refine ⟨_, rfl, _, _, rfl, rfl, _, rfl, _, _, rfl, rfl, ?_⟩
      refine fin (0 - a) (0 - b) _ (by omega) ?_ (by omega)
      rw [norm_flip a b h0, Int.zero_sub, Int.zero_sub]
    · rw [decide_eq_false h0]
      refine iteF ?_
      exact fin a b _ (by omega) rfl zb
theorem scWhole : FnScope ["deck", "way"] ["deck"] (defScope sWhole) := ⟨rfl, rfl, rfl, by decide +kernel, rfl, by decide +kernel, by decide +kernel⟩
theorem ok_whole {f fT : Addr} {fd fdT : FuncData} (F : Fun K "_law_whole_number" "_law_whole_number" sWhole f fd) (FT : Fun K "_law_take" "_law_take" sTake fT fdT) (bT : Binds K fdT ["deck", "many"] []) (mT : mg "_law_take" = some (.ref fT)) (hlen : mg "len" = none) : FnOk P w K mg base CX0 2 f fd ["deck"] spWhole := by
  have GT : FnOk P w K mg base CX0 1 fT fdT ["deck", "many"] spTake := ok_take FT hlen
  refine F.ok scWhole (fun vs H Q E h => ?_) (fun cdv A outer s H vs Q E hr h => ?_)
  · obtain ⟨d, c, rfl, _⟩ := h
    rfl
  · obtain ⟨d, c, rfl, D, k⟩ := h
    refine ⟨_, pss_cons (ps_set (i := 1) scWhole.nd rfl (Or.inl rfl) (pe_call GT hr (by rfl) mT FT.kp bT .nil pass0 (pa_cons (pv 0) (pa_cons pe_int pa_nil))))
      (pss_cons (ps_if (pt_cmpR op_lt (pv 1) pe_int (nomark _)) (pss_one (ps_ret (pe_call GT hr (by rfl) mT FT.kp bT .nil pass0 (pa_cons (pv 0) (pa_cons pe_int pa_nil))))) pss_nil)
      (pss_cons (ps_if (pt_cmpR op_eq (pv 1) pe_int (nomark _)) (pss_one (ps_ret (pe_call GT hr (by rfl) mT FT.kp bT .nil pass0 (pa_cons (pv 0) (pa_cons pe_int pa_nil))))) pss_nil)
      (pss_one (ps_ret (pe_op op_add (pe_op op_add (pe_op op_mulW (pe_call GT hr (by rfl) mT FT.kp bT .nil pass0 (pa_cons (pv 0) (pa_cons (pe_op op_pow pe_int pe_int) pa_nil))) (pe_op op_pow pe_int pe_int))
        (pe_op op_mulW (pe_call GT hr (by rfl) mT FT.kp bT .nil pass0 (pa_cons (pv 0) (pa_cons (pe_op op_pow pe_int pe_int) pa_nil))) (pe_op op_pow pe_int pe_int)))
        (pe_call GT hr (by rfl) mT FT.kp bT .nil pass0 (pa_cons (pv 0) (pa_cons (pe_op op_pow pe_int pe_int) pa_nil)))))))), ?_⟩
    have cp : ∀ i j : Int, 0 ≤ j → j ≤ 100 → i = 10 → CPow i j := fun i j h1 h2 h3 => ⟨h1, by omega, by rw [h3]; decide⟩
    refine ⟨_, rfl, d, c, 8, rfl, D, ⟨by decide, by decide⟩, fun way H1 hw0 hw1 D1 K1 => ?_⟩
    refine ⟨_, rfl, _, _, rfl, rfl, _, rfl, ?_⟩
    refine ite2 (fun _ => ?_) (fun _ => ?_)
    · exact ⟨_, rfl, d, c, 9, rfl, D1, ⟨by decide, by decide⟩, fun r H2 h0 h1 D2 K2 => k r H2 h0 (by omega) D2 (K1.trans K2)⟩
    refine ⟨_, rfl, rfl, _, rfl, ?_⟩
    refine ite2 (fun _ => ?_) (fun _ => ?_)
    · exact ⟨_, rfl, d, c, 1000, rfl, D1, ⟨by decide, by decide⟩, fun r H2 h0 h1 D2 K2 => k r H2 h0 (by omega) D2 (K1.trans K2)⟩
    refine ⟨_, rfl, _, _, rfl, rfl, cp _ _ (by decide) (by decide) rfl, d, c, _, rfl, D1, ⟨by decide, by decide⟩, fun r1 H2 h10 h11 D2 K2 => ?_⟩
    have h11' : r1 < 100000 := h11
    refine ⟨_, _, rfl, rfl, cp _ _ (by decide) (by decide) rfl, _, _, rfl, rfl, mw (by omega) (by decide), ?_⟩
    refine ⟨_, rfl, _, _, rfl, rfl, cp _ _ (by decide) (by decide) rfl, d, c, _, rfl, D2, ⟨by decide, by decide⟩, fun r2 H3 h20 h21 D3 K3 => ?_⟩
    have h21' : r2 < 100000 := h21
    refine ⟨_, _, rfl, rfl, cp _ _ (by decide) (by decide) rfl, _, _, rfl, rfl, mw (by omega) (by decide), _, _, rfl, rfl, ?_⟩
    refine ⟨_, rfl, _, _, rfl, rfl, cp _ _ (by decide) (by decide) rfl, d, c, _, rfl, D3, ⟨by decide, by decide⟩, fun r3 H4 h30 h31 D4 K4 => ?_⟩
    have h31' : r3 < 10000000000 := h31
    refine ⟨_, _, rfl, rfl, k _ H4 ?_ ?_ D4 (K1.trans (K2.trans (K3.trans K4)))⟩
    · show 0 ≤ r1 * 1000000000000000 + r2 * 10000000000 + r3
      omega
    · show r1 * 1000000000000000 + r2 * 10000000000 + r3 < 10 ^ 20
      omega
end
section
variable {P : Program} {w : World} {K : PySem.W.Frag} {mg : Str → Option Value} {base : Heap}
theorem sgn2 {r : Int} (h0 : 0 ≤ r) (h1 : r < 2) : ∃ e : Int, (e = 1 ∨ e = -1) ∧ atI [V.int 1, V.int (-1)] r = some (V.int e) := by
  have : r = 0 ∨ r = 1 := by omega
  rcases this with rfl | rfl
  · exact ⟨1, .inl rfl, rfl⟩
  · exact ⟨-1, .inr rfl, rfl⟩
theorem mulS {x e : Int} {n : Nat} (he : e = 1 ∨ e = -1) (hx : x.natAbs < n) : (x * e).natAbs < n := by
  rcases he with rfl | rfl
  · rw [Int.mul_one]; exact hx
  · rw [Int.mul_neg, Int.mul_one, Int.natAbs_neg]; exact hx
theorem scNumber : FnScope ["deck", "top"] ["deck"] (defScope sNumber) := ⟨rfl, rfl, rfl, by decide +kernel, rfl, by decide +kernel, by decide +kernel⟩
theorem ok_number {f fT fW fL fC : Addr} {fd fdT fdW fdL fdC : FuncData} (F : Fun K "_law_number" "_law_number" sNumber f fd) (hlen : mg "len" = none) (hmax : mg "max" = none)
    (FT : Fun K "_law_take" "_law_take" sTake fT fdT) (bT : Binds K fdT ["deck", "many"] []) (mT : mg "_law_take" = some (.ref fT))
    (FC : Fun K "_law_common" "_law_common" sCommon fC fdC) (bC : Binds K fdC ["one", "other"] []) (mC : mg "_law_common" = some (.ref fC))
    (FL : Fun K "_law_least" "_law_least" sLeast fL fdL) (bL : Binds K fdL ["top", "below"] []) (mL : mg "_law_least" = some (.ref fL))
    (FW : Fun K "_law_whole_number" "_law_whole_number" sWhole fW fdW) (bW : Binds K fdW ["deck"] []) (mW : mg "_law_whole_number" = some (.ref fW)) : FnOk P w K mg base CX0 3 f fd ["deck"] spNumber := by
  have GT : FnOk P w K mg base CX0 2 fT fdT ["deck", "many"] spTake := (ok_take FT hlen).mono (by decide)
  have GL : FnOk P w K mg base CX0 2 fL fdL ["top", "below"] spLeast := ok_least FL hmax FC bC mC
  have GW : FnOk P w K mg base CX0 2 fW fdW ["deck"] spWhole := ok_whole FW FT bT mT hlen
  refine F.ok scNumber (fun vs H Q E h => ?_) (fun cdv A outer s H vs Q E hr h => ?_)
  · obtain ⟨d, c, rfl, _⟩ := h
    rfl
  · obtain ⟨d, c, rfl, D, k⟩ := h
    refine ⟨_, pss_cons (ps_set (i := 1) scNumber.nd rfl (Or.inl rfl) (pe_op op_mulW (pe_call GW hr (by rfl) mW FW.kp bW .nil pass0 (pa_cons (pv 0) pa_nil)) (pe_ix ix_list (pe_lst (pa_cons pe_int (pa_cons (pe_un un_neg pe_int) pa_nil))) (pe_call GT hr (by rfl) mT FT.kp bT .nil pass0 (pa_cons (pv 0) (pa_cons pe_int pa_nil))) (fun _ _ => rfl))))
      (pss_one (ps_ret (pe_call GL hr (by rfl) mL FL.kp bL .nil pass0 (pa_cons (pv 1) (pa_cons (pe_ix ix_list (pe_lst (pa_cons pe_int (pa_cons (pe_op op_add pe_int (pe_op op_mod (pe_call GW hr (by rfl) mW FW.kp bW .nil pass0 (pa_cons (pv 0) pa_nil)) (pe_op op_sub (pe_op op_pow pe_int pe_int) pe_int))) pa_nil))) (pe_call GT hr (by rfl) mT FT.kp bT .nil pass0 (pa_cons (pv 0) (pa_cons pe_int pa_nil))) (fun _ _ => rfl)) pa_nil))))), ?_⟩
    refine ⟨_, rfl, d, c, rfl, D, fun t H3 t0 t1 D3 K3 => ?_⟩
    refine ⟨_, rfl, (by show 2 ≤ sizeLine; decide), fun p hp => ?_⟩
    refine ⟨_, rfl, d, c, 2, rfl, D3.new hp, ⟨by decide, by decide⟩, fun r H4 r0 r1 D4 K4 => ?_⟩
    obtain ⟨e, he, hat⟩ := sgn2 r0 r1
    refine ⟨p, _, r, _, rfl, rfl, SqL.of (K4 p _ upd_same (D3.free hp).1 (D3.free hp).2), hat, _, _, rfl, rfl, mw (by omega) (by rcases he with rfl | rfl <;> decide), ?_⟩
    have K34 : KeptBut d c H H4 := K3.trans ((Same.but (same_new hp)).trans K4)
    have ht : (t * e).natAbs < 10 ^ 20 := mulS he (by omega)
    (try dsimp only)
    generalize t * e = a0 at ht
    have cp : CPow 10 20 := ⟨by decide, by decide, by decide⟩
    refine ⟨_, rfl, _, rfl, d, c, rfl, D4, fun u H5 u0 u1 D5 K5 => ?_⟩
    refine ⟨_, _, rfl, rfl, cp, _, _, rfl, rfl, _, _, rfl, rfl, (by show (0 : Int) < 10 ^ 20 - 1; decide), _, _, rfl, rfl, (by show 2 ≤ sizeLine; decide), fun q hq => ?_⟩
    have v0 := Int.emod_nonneg u (show (10 ^ (20 : Int).toNat - 1 : Int) ≠ 0 by decide)
    have v1 := Int.emod_lt_of_pos u (show (0 : Int) < 10 ^ (20 : Int).toNat - 1 by decide)
    have e20 : (10 ^ (20 : Int).toNat - 1 : Int) = 99999999999999999999 := by decide
    (try dsimp only)
    generalize u % (10 ^ (20 : Int).toNat - 1) = v at v0 v1
    rw [e20] at v1
    refine ⟨_, rfl, d, c, 2, rfl, D5.new hq, ⟨by decide, by decide⟩, fun r' H6 r0' r1' D6 K6 => ?_⟩
    have two : ∃ b : Int, (1 ≤ b ∧ b ≤ 99999999999999999999) ∧ atI [V.int 1, V.int (1 + v)] r' = some (V.int b) := by
      have : r' = 0 ∨ r' = 1 := by omega
      rcases this with rfl | rfl
      · exact ⟨1, by decide, rfl⟩
      · exact ⟨1 + v, by omega, rfl⟩
    obtain ⟨b0, hb, hat'⟩ := two
    refine ⟨q, _, r', _, rfl, rfl, SqL.of (K6 q _ upd_same (D5.free hq).1 (D5.free hq).2), hat', ?_⟩
    have K56 : KeptBut d c H H6 := K34.trans (K5.trans ((Same.but (same_new hq)).trans K6))
    refine ⟨_, _, rfl, by omega, ⟨by omega, by omega⟩, fun z hz => ?_⟩
    have sz := norm_size a0 b0 (by omega)
    have ok := norm_ok a0 b0 (by omega)
    refine k _ _ z _ ok.1 ok.2.2 (by omega) (by omega) ?_ upd_same (D6.new hz) (K56.trans (Same.but (same_new hz)))
    cases hh : H z with
    | none => rfl
    | some o =>
      exfalso
      obtain ⟨n1, n2⟩ := D6.free hz
      have := K56 z o hh n1 n2
      rw [hz] at this
      cases this
end
end K12
set_option maxHeartbeats 4000000
namespace K12
open PySem L2 Frac Lw Dig PySem.NumText Nm
section
variable {P : Program} {w : World} {K : PySem.W.Frag} {mg : Str → Option Value} {base : Heap}
theorem scBook : FnScope ["deck", "letters", "base", "at", "names", "k", "place", "name", "words"] ["deck"] (defScope sBook) := ⟨rfl, rfl, rfl, by decide +kernel, rfl, by decide +kernel, by decide +kernel⟩
theorem ok_book {f fT : Addr} {fd fdT : FuncData} (F : Fun K "_law_book" "_law_book" sBook f fd) (hlen : mg "len" = none) (hrange : mg "range" = none) (htup : mg "tuple" = none)
    (FT : Fun K "_law_take" "_law_take" sTake fT fdT) (bT : Binds K fdT ["deck", "many"] []) (mT : mg "_law_take" = some (.ref fT)) : FnOk P w K mg base CX0 2 f fd ["deck"] spBook := by
  have GT : FnOk P w K mg base CX0 1 fT fdT ["deck", "many"] spTake := ok_take FT hlen
  refine F.ok scBook (fun vs H Q E h => ?_) (fun cdv A outer s H vs Q E hr h => ?_)
  · obtain ⟨d, c, rfl, _⟩ := h
    rfl
  · obtain ⟨d, c, rfl, D, k⟩ := h
    refine ⟨_, pss_cons (ps_set (i := 1) scBook.nd rfl (Or.inr rfl) pe_str)
      (pss_cons (ps_set (i := 2) scBook.nd rfl (Or.inl rfl) (pe_bm PySem.F.plainAttrs_str PySem.F.slot_str_join PySem.F.type_str_join (mt_join (K := K) rfl) pe_str (pa_cons (pe_lc (x := "k") (cap := ["letters", "deck"]) (js := [1, 0]) ⟨rfl, by decide +kernel, by decide +kernel, rfl, (by show ∀ p ∈ (_ : List (Str × NameKind)), p.2 = NameKind.free → List.lookup p.1 (defScope sBook).names = some NameKind.cell; decide +kernel), by decide +kernel, by decide +kernel, by decide +kernel⟩ rfl rfl (fun _ _ h => h) (pi_range1 rfl hrange (pa_cons (pe_op op_add pe_int (pe_call GT hr (by rfl) mT FT.kp bT .nil pass0 (pa_cons (pv 0) (pa_cons pe_int pa_nil)))) pa_nil))
        (fun _ _ _ _ => ⟨pif_nil, pe_ix ix_str (pv 1) (pe_call GT hr (by rfl) mT FT.kp bT .nil pass0 (pa_cons (pv 2) (pa_cons pe_int pa_nil))) (fun _ _ => rfl)⟩)) pa_nil)))
      (pss_cons (ps_set (i := 3) scBook.nd rfl (Or.inl rfl) (pe_call GT hr (by rfl) mT FT.kp bT .nil pass0 (pa_cons (pv 0) (pa_cons (pe_callB call_len_str (by rfl) hlen PySem.boot_len (pa_cons (pv 2) pa_nil)) pa_nil))))
      (pss_cons (ps_set (i := 4) scBook.nd rfl (Or.inl rfl) (pe_lst pa_nil))
      (pss_cons (ps_for PassesOwn.never rfl (pi_range1 rfl hrange (pa_cons (pe_op op_add pe_int (pe_call GT hr (by rfl) mT FT.kp bT .nil pass0 (pa_cons (pv 0) (pa_cons pe_int pa_nil)))) pa_nil)) (pg_name (i := 5) scBook.nd rfl (Or.inl rfl))
        (pss_cons (ps_set (i := 6) scBook.nd rfl (Or.inl rfl) (pe_op op_add (pe_bm PySem.F.plainAttrs_str PySem.F.slot_str_index PySem.F.type_str_index mt_index (pv 1) (pa_cons (pe_ix ix_str (pv 2) (pv 3) (fun _ _ => rfl)) pa_nil)) (pe_op op_mulW pe_int (pv 5))))
        (pss_cons (ps_set (i := 7) scBook.nd rfl (Or.inl rfl) (pe_op op_add_str (pe_op op_add_str (pe_slice sl_str (pv 2) po_none (po_some (pv 3))) (pe_ix ix_str (pv 1) (pe_op op_mod (pv 6) pe_int) (fun _ _ => rfl))) (pe_slice sl_str (pv 2) (po_some (pe_op op_add (pv 3) pe_int)) po_none)))
        (pss_cons (ps_set (i := 8) scBook.nd rfl (Or.inl rfl) pe_str)
        (pss_cons (ps_if (pt_cmpR op_in_seq (pv 7) (pe_bm PySem.F.plainAttrs_str PySem.F.slot_str_split PySem.F.type_str_split mt_split (pv 8) (pa_cons pe_str pa_nil)) (by rfl))
          (pss_one (ps_set (i := 7) scBook.nd rfl (Or.inl rfl) (pe_op op_add_str pe_str (pe_slice sl_str (pv 7) po_none (po_some pe_int))))) pss_nil)
        (pss_one (ps_expr (pe_bm PySem.F.plainAttrs_list PySem.F.slot_list_append PySem.F.type_list_append mt_append (pv 4) (pa_cons (pv 7) pa_nil)))))))))
      (pss_one (ps_ret (pe_callTy call_tuple_of (by rfl) htup bTup (pa_cons (pv 4) pa_nil)))))))), ?_⟩
    refine ⟨rfl, _, rfl, d, c, 8, rfl, D, ⟨by decide, by decide⟩, fun r0 H1 a0 a1 D1 K1 => ?_⟩
    refine ⟨_, _, rfl, rfl, _, rfl, by omega, by omega, fun i m ys H2 => m = (1 + r0).toNat - i ∧ i ≤ (1 + r0).toNat ∧ ∃ cs : List Nat, ys = (cs.map fun c => (⟨#[c]⟩ : Str)).map V.str ∧ cs.length = i ∧ Low cs ∧ DeckAt H2 d c ∧ KeptBut d c H H2, ⟨_, rfl, by omega, [], rfl, rfl, (fun c m => by cases m), D1, K1⟩, ?_⟩
    rintro i m ys H2 ⟨rfl, hi, cs, rfl, hcl, low, D2, K2⟩
    refine ⟨by rw [List.length_map, List.length_map, hcl, sizeLine_eq]; omega, ?_⟩
    by_cases hn : i < (1 + r0).toNat
    · refine .inr ⟨hn, fun x H' yl => ?_⟩
      obtain ⟨rfl, rfl⟩ := yl
      refine tNoIf_of ?_
      refine ⟨_, rfl, _, rfl, d, c, 26, rfl, D2, ⟨by decide, by decide⟩, fun r H3 b0 b1 D3 K3 => ?_⟩
      refine ⟨_, r, 97 + r.toNat, rfl, rfl, (by show letters.length ≤ _; rw [let_len]; decide), let_at b0 b1, ?_⟩
      refine ⟨(1 + r0).toNat - (i + 1), by omega, rfl, by omega, cs ++ [97 + r.toNat], by simp, by simp [hcl], low.app (Low.one (by omega)), D3, K2.trans K3⟩
    refine .inl ⟨show (1 + r0).toNat ≤ i by omega, fun l hl => ?_⟩
    have hcs : 1 ≤ cs.length ∧ cs.length ≤ 8 := by omega
    have D3 := D2.new (o := .lst ((cs.map fun c => (⟨#[c]⟩ : Str)).map V.str)) hl
    have K3 := K2.trans (Same.but (d := d) (c := c) (same_new (o := .lst ((cs.map fun c => (⟨#[c]⟩ : Str)).map V.str)) hl))
    refine ⟨_, l, cs.map fun c => (⟨#[c]⟩ : Str), rfl, rfl, SqL.of upd_same, (by rw [sum_ones, List.length_map, em']; show _ + _ * 0 ≤ _; omega), ?_⟩
    have hb : (Txt.join (Str.ofString "") (cs.map fun c => (⟨#[c]⟩ : Str))).cps.toList = cs := by rw [em']; exact join_ones cs
    (try dsimp only)
    generalize Txt.join (Str.ofString "") (cs.map fun c => (⟨#[c]⟩ : Str)) = bs at hb
    generalize upd H2 l (.lst ((cs.map fun c => (⟨#[c]⟩ : Str)).map V.str)) = H3 at D3 K3
    have lbs : bs.length = cs.length := by rw [len_codes, hb]
    refine ⟨_, rfl, _, rfl, bs, rfl, (by rw [sizeLine_eq]; omega), d, c, _, rfl, D3, ⟨by omega, by omega⟩, fun at' H4 c0 c1 D4 K4 => ?_⟩
    obtain ⟨an, rfl⟩ := Int.eq_ofNat_of_zero_le c0
    have K4' := K3.trans K4
    refine ⟨(by show 0 ≤ sizeLine; decide), fun p hp => ?_⟩
    have hp0 : H p = none := KeptBut.free K4' D4 hp
    have D5 := D4.new (o := .lst []) hp
    have K5 := K4'.trans (Same.but (d := d) (c := c) (same_new (o := .lst []) hp))
    have np := D4.free hp
    refine ⟨_, rfl, d, c, 4, rfl, D5, ⟨by decide, by decide⟩, fun r4 H5 e0 e1 D6 K6 => ?_⟩
    have K6' := K5.trans K6
    have hp6 : H5 p = some (.lst (([] : List Str).map V.str)) := K6 p _ upd_same np.1 np.2
    refine ⟨_, _, rfl, rfl, _, rfl, by omega, by omega, for_range (Pv := fun i σ H5 => ∃ (v5 v6 v7 v8 : Option V) (xs : List Str), σ = [some (.ref d), some (.str letters), some (.str bs), some (.int (an : Int)), some (.ref p), v5, v6, v7, v8] ∧ H5 p = some (.lst (xs.map V.str)) ∧ xs.length = i ∧ (∀ x ∈ xs, IsName x) ∧ DeckAt H5 d c ∧ KeptBut d c H H5)
      ⟨_, _, _, _, [], rfl, hp6, rfl, (fun x m => by cases m), D6, K6'⟩ ?_ ?_⟩
    · rintro i σ H7 hi7 ⟨v5, v6, v7, v8, xs, rfl, h7, hxl, hxs, D7, K7⟩
      have hat : ∃ ch, atI bs.cps.toList (an : Int) = some ch ∧ 97 ≤ ch ∧ ch ≤ 122 := by
        have hj : an < cs.length := by omega
        refine ⟨cs[an], ?_, low _ (List.getElem_mem hj)⟩
        have q := atI_nat (xs := cs) (j := an) (v := cs[an]) (List.getElem?_eq_getElem hj)
        rw [hb]; exact q
      obtain ⟨ch, hat, hch⟩ := hat
      have sbs : bs.length ≤ sizeLine := by rw [sizeLine_eq]; omega
      refine ⟨_, rfl, rfl, _, rfl, _, rfl, bs, (an : Int), ch, rfl, rfl, sbs, hat, _, _, rfl, rfl, let_in hch, _, rfl, _, _, rfl, rfl, mw (by decide) (by omega), _, _, rfl, rfl, ?_⟩
      (try dsimp only)
      generalize Txt.find letters ⟨#[ch]⟩ + 7 * (0 + (i : Int)) = pl
      have m0 := Int.emod_nonneg pl (show (26 : Int) ≠ 0 by decide)
      have m1 := Int.emod_lt_of_pos pl (show (0 : Int) < 26 by decide)
      have s1 : (Txt.slice bs none (some (an : Int))).cps.toList = cs.take an := by
        have e1 := slice_codes bs (a := 0) (b := an) (by omega) (by omega)
        rw [slice_lo, e1, hb]
        simp
      have s2 : (Txt.slice bs (some ((an : Int) + 1)) none).cps.toList = cs.drop (an + 1) := by
        have e1 := slice_codes bs (a := an + 1) (b := bs.length) (by omega) (Nat.le_refl _)
        rw [slice_hi, show (an : Int) + 1 = ((an + 1 : Nat) : Int) by omega, e1, hb]
        exact List.take_of_length_le (by rw [List.length_drop]; omega)
      have l1 : (Txt.slice bs none (some (an : Int))).length ≤ 8 := by rw [len_codes, s1, List.length_take]; omega
      have l2 : (Txt.slice bs (some ((an : Int) + 1)) none).length ≤ 8 := by rw [len_codes, s2, List.length_drop]; omega
      have l3 : (Txt.slice bs none (some (an : Int)) ++ (⟨#[97 + (pl % 26).toNat]⟩ : Str)).length ≤ 9 := by rw [PySem.Str.length_append]; show _ + 1 ≤ 9; omega
      refine ⟨_, rfl, _, rfl, (an : Int), rfl, bs, rfl, sbs, _, rfl, _, rfl, _, _, rfl, rfl, (by show (0 : Int) < 26; decide), _, _, _, rfl, rfl, (by show letters.length ≤ _; rw [let_len]; decide), let_at m0 m1, _, _, rfl, rfl, (by rw [sizeLine_eq]; show _ + 1 ≤ _; omega), _, rfl, _, rfl, _, _, rfl, rfl, (an : Int) + 1, rfl, bs, rfl, sbs, _, _, rfl, rfl, (by rw [sizeLine_eq]; omega), ?_⟩
      have hnm : (Txt.slice bs none (some (an : Int)) ++ (⟨#[97 + (pl % 26).toNat]⟩ : Str) ++ Txt.slice bs (some ((an : Int) + 1)) none).cps.toList = cs.take an ++ [97 + (pl % 26).toNat] ++ cs.drop (an + 1) := by
        rw [PySem.Str.cps_append, PySem.Str.cps_append, Array.toList_append, Array.toList_append, s1, s2]
      (try dsimp only)
      generalize Txt.slice bs none (some (an : Int)) ++ (⟨#[97 + (pl % 26).toNat]⟩ : Str) ++ Txt.slice bs (some ((an : Int) + 1)) none = nm at hnm
      have lnm : nm.cps.toList.length = cs.length := by
        rw [hnm, List.length_append, List.length_append, List.length_take, List.length_drop]
        show min _ _ + 1 + _ = _
        omega
      have lownm : Low nm.cps.toList := by rw [hnm]; exact ((low.take _).app (Low.one (by omega))).app (low.drop _)
      have done : ∀ (v5 v6 v7 v8 : Option V) (nn : Str) (H8 : Hp), IsName nn → Same H7 H8 → ∃ (v5' v6' v7' v8' : Option V) (ys : List Str), [some (V.ref d), some (V.str letters), some (V.str bs), some (V.int (an : Int)), some (V.ref p), v5, v6, v7, v8] = [some (V.ref d), some (V.str letters), some (V.str bs), some (V.int (an : Int)), some (V.ref p), v5', v6', v7', v8'] ∧ (upd H8 p (.lst (xs.map V.str ++ [V.str nn]))) p = some (.lst (ys.map V.str)) ∧ ys.length = i + 1 ∧ (∀ x ∈ ys, IsName x) ∧ DeckAt (upd H8 p (.lst (xs.map V.str ++ [V.str nn]))) d c ∧ KeptBut d c H (upd H8 p (.lst (xs.map V.str ++ [V.str nn]))) := fun v5 v6 v7 v8 nn H8 hn s8 => by
        refine ⟨v5, v6, v7, v8, xs ++ [nn], rfl, by rw [upd_same, List.map_append]; rfl, by simp [hxl], fun x m => ?_, Nm.DeckAt.upd (D7.same s8) np.1 np.2, fun b o e h1 h2 => ?_⟩
        · rcases List.mem_append.mp m with m | m
          · exact hxs x m
          · have : x = nn := by simpa using m
            subst this; exact hn
        · rw [upd_ne (ne_of_none e hp0)]
          exact s8 b o (K7 b o e h1 h2)
      refine ⟨_, rfl, _, rfl, rfl, _, 32, rfl, (by rw [sp32]), (by show wordsS.length + 2 ≤ _; decide +kernel), fun l hl => ⟨l, _, rfl, .inl (SqL.of upd_same), rfl, flat_strs _, _, rfl, ?_⟩⟩
      have s8 := same_new (o := .lst ((Txt.split wordsS ⟨#[32]⟩).map V.str)) hl
      rw [if_neg Bool.false_ne_true, inV_strs]
      by_cases hw : nm ∈ wordsL
      · rw [decide_eq_true (show nm ∈ Txt.split _ _ from hw)]
        refine iteT ?_
        have z1 := slice_to nm 6
        have z2 : (Str.ofString "zz" ++ Txt.slice nm none (some ((6 : Nat) : Int))).cps.toList = 122 :: 122 :: nm.cps.toList.take 6 := by
          rw [PySem.Str.cps_append, Array.toList_append, zz_codes, z1]; rfl
        refine ⟨_, rfl, 6, rfl, nm, rfl, (by rw [len_codes, sizeLine_eq]; omega), _, _, rfl, rfl, ?_, ?_⟩
        · show (Str.ofString "zz").length + (Txt.slice nm none (some ((6 : Nat) : Int))).length ≤ _
          rw [len_codes, len_codes, zz_codes, z1, List.length_take, sizeLine_eq]
          show 2 + _ ≤ _
          omega
        refine ⟨_, rfl, .inl ⟨rfl, _, SqL.of (s8 _ _ h7)⟩, _, rfl, p, _, _, rfl, rfl, s8 _ _ h7, (by rw [List.length_map, sizeLine_eq]; omega), ?_⟩
        exact done _ _ _ _ _ _ (zz_name z2 lownm) s8
      · rw [decide_eq_false (show ¬ nm ∈ Txt.split _ _ from hw)]
        refine iteF ?_
        refine ⟨_, rfl, .inl ⟨rfl, _, SqL.of (s8 _ _ h7)⟩, _, rfl, p, _, _, rfl, rfl, s8 _ _ h7, (by rw [List.length_map, sizeLine_eq]; omega), ?_⟩
        exact done _ _ _ _ nm _ ⟨by omega, by omega, lownm, hw⟩ s8
    · rintro σ H7 ⟨v5, v6, v7, v8, xs, rfl, h7, hxl, hxs, D7, K7⟩
      refine ⟨_, rfl, p, _, rfl, .inl ⟨SqL.of h7, fun q hq => ?_⟩⟩
      exact k xs q _ (by omega) (by omega) hxs (KeptBut.free K7 D7 hq) upd_same (D7.new hq) (K7.trans (Same.but (same_new hq)))
end
section
variable {P : Program} {w : World} {K : PySem.W.Frag} {mg : Str → Option Value} {base : Heap}
theorem scRoom : FnScope ["due"] ["due"] (defScope sRoom) := ⟨rfl, rfl, rfl, by decide +kernel, rfl, by decide +kernel, by decide +kernel⟩
theorem ok_room {f : Addr} {fd : FuncData} (F : Fun K "_law_room" "_law_room" sRoom f fd) (hsum : mg "sum" = none) : FnOk P w K mg base CX0 1 f fd ["due"] (spRoom K) := by
  refine F.ok scRoom (fun vs H Q E h => ?_) (fun cdv A outer s H vs Q E hr h => ?_)
  · obtain ⟨p, ws, rfl, _⟩ := h
    rfl
  · obtain ⟨p, ws, rfl, hp, hwl, k⟩ := h
    have hu := Nat.lt_of_le_of_lt (Nat.add_le_add_left (show 1 ≤ 64 by decide) _) hr.units
    refine ⟨_, pss_one (ps_ret (pe_callB (call_sum rfl) (by rfl) hsum bSum (pa_cons (pe_lc (x := "want") (cap := []) (js := []) ⟨rfl, by decide +kernel, by decide +kernel, rfl, (by show ∀ p ∈ (_ : List (Str × NameKind)), p.2 = NameKind.free → List.lookup p.1 (defScope sRoom).names = some NameKind.cell; decide +kernel), by decide +kernel, by decide +kernel, by decide +kernel⟩ rfl rfl (fun _ _ h => h) (pi_list (pv 0))
        (fun _ _ _ _ => ⟨pif_nil, pe_dget2 hu (pe_disp (pps_cons pe_str pe_int (pps_cons pe_str pe_int (pps_cons pe_str pe_int pps_nil))) rfl rfl (by simp) (by decide)) (pv 0) pe_int ⟨rfl, rfl, rfl, rfl⟩⟩)) pa_nil))), ?_⟩
    refine ⟨_, rfl, p, rfl, ⟨_, SqL.of hp⟩, fun j m ys H9 => m = ws.length - j ∧ j ≤ ws.length ∧ ys = ((ws.take j).map roomW).map V.int ∧ Same H H9, ⟨ws.length, rfl, Nat.zero_le _, rfl, Same.refl _⟩, ?_⟩
    rintro j m ys H9 ⟨rfl, hj, rfl, s9⟩
    refine ⟨by rw [List.length_map, List.length_map, List.length_take, sizeLine_eq]; omega, ?_⟩
    have hp9 := s9 _ _ hp
    by_cases hjl : j = ws.length
    · subst hjl
      refine .inl ⟨⟨_, SqL.of hp9, by rw [List.length_map]; exact Nat.le_refl _⟩, fun z hz => ?_⟩
      rw [List.take_of_length_le (Nat.le_refl _)]
      exact ⟨z, ws.map roomW, rfl, SqL.of upd_same, k _ (s9.trans (same_new hz))⟩
    · have hj' : j < ws.length := by omega
      refine .inr ⟨⟨_, _, SqL.of hp9, by rw [List.getElem?_map, List.getElem?_eq_getElem hj']; rfl⟩, fun x H' yl => ?_⟩
      obtain ⟨rfl, hv⟩ := yl
      have hv' := hv _ (SqL.of hp9)
      rw [List.getElem?_map, List.getElem?_eq_getElem hj'] at hv'
      obtain rfl : V.str ws[j] = x := Option.some.inj hv'
      refine tNoIf_of ?_
      refine fun q hq => ⟨upd_same, [(Sum.inr (Str.ofString "order"), V.int 1), (Sum.inr (Str.ofString "case"), V.int 2), (Sum.inr (Str.ofString "mark"), V.int 3)], rfl, by decide, q, rfl, .inl ⟨_, Rd.of upd_same⟩, _, rfl, _, DGet.k (k := Sum.inr ws[j]) upd_same, ?_⟩
      rw [room_is]
      refine ⟨ws.length - (j + 1), by omega, rfl, by omega, ?_, fun b o e => ?_⟩
      · rw [List.take_succ_eq_append_getElem hj', List.map_append, List.map_append]; rfl
      · have := s9 b o e
        rw [upd_ne (ne_of_none this hq), upd_ne (ne_of_none this hq)]
        exact this
theorem scNumbers : FnScope ["deck"] ["deck"] (defScope sNumbers) := ⟨rfl, rfl, rfl, by decide +kernel, rfl, by decide +kernel, by decide +kernel⟩
theorem ok_numbers {f fT fC fL fW fN : Addr} {fd fdT fdC fdL fdW fdN : FuncData} (F : Fun K "_law_numbers" "_law_numbers" sNumbers f fd) (hlen : mg "len" = none) (hmax : mg "max" = none) (hrange : mg "range" = none)
    (FT : Fun K "_law_take" "_law_take" sTake fT fdT) (bT : Binds K fdT ["deck", "many"] []) (mT : mg "_law_take" = some (.ref fT))
    (FC : Fun K "_law_common" "_law_common" sCommon fC fdC) (bC : Binds K fdC ["one", "other"] []) (mC : mg "_law_common" = some (.ref fC))
    (FL : Fun K "_law_least" "_law_least" sLeast fL fdL) (bL : Binds K fdL ["top", "below"] []) (mL : mg "_law_least" = some (.ref fL))
    (FW : Fun K "_law_whole_number" "_law_whole_number" sWhole fW fdW) (bW : Binds K fdW ["deck"] []) (mW : mg "_law_whole_number" = some (.ref fW))
    (FN : Fun K "_law_number" "_law_number" sNumber fN fdN) (bN : Binds K fdN ["deck"] []) (mN : mg "_law_number" = some (.ref fN)) : FnOk P w K mg base CX0 4 f fd ["deck"] spNumbers := by
  have GT : FnOk P w K mg base CX0 3 fT fdT ["deck", "many"] spTake := (ok_take FT hlen).mono (by decide)
  have GN : FnOk P w K mg base CX0 3 fN fdN ["deck"] spNumber := ok_number FN hlen hmax FT bT mT FC bC mC FL bL mL FW bW mW
  refine F.ok scNumbers (fun vs H Q E h => ?_) (fun cdv A outer s H vs Q E hr h => ?_)
  · obtain ⟨d, c, rfl, _⟩ := h
    rfl
  · obtain ⟨d, c, rfl, D, k⟩ := h
    refine ⟨_, pss_one (ps_ret (pe_lc (x := "k") (cap := ["deck"]) (js := [0]) ⟨rfl, by decide +kernel, by decide +kernel, rfl, (by show ∀ p ∈ (_ : List (Str × NameKind)), p.2 = NameKind.free → List.lookup p.1 (defScope sNumbers).names = some NameKind.cell; decide +kernel), by decide +kernel, by decide +kernel, by decide +kernel⟩ rfl rfl (fun _ _ h => h) (pi_range1 rfl hrange (pa_cons (pe_op op_add pe_int (pe_call GT hr (by rfl) mT FT.kp bT .nil pass0 (pa_cons (pv 0) (pa_cons pe_int pa_nil)))) pa_nil))
        (fun _ _ _ _ => ⟨pif_nil, pe_call GN hr (by rfl) mN FN.kp bN .nil pass0 (pa_cons (pv 1) pa_nil)⟩))), ?_⟩
    refine ⟨_, rfl, d, c, 4, rfl, D, ⟨by decide, by decide⟩, fun r0 H1 a0 a1 D1 K1 => ?_⟩
    refine ⟨_, _, rfl, rfl, _, rfl, by omega, by omega, fun i m ys H2 => m = (1 + r0).toNat - i ∧ i ≤ (1 + r0).toNat ∧ ∃ ps : List Addr, ys = ps.map V.ref ∧ ps.length = i ∧ (∀ p ∈ ps, ∃ b, NumAt H2 p b) ∧ DeckAt H2 d c ∧ KeptBut d c H H2, ⟨_, rfl, by omega, [], rfl, rfl, (fun p m => by cases m), D1, K1⟩, ?_⟩
    rintro i m ys H2 ⟨rfl, hi, ps, rfl, hpl, hps, D2, K2⟩
    refine ⟨by rw [List.length_map, hpl, sizeLine_eq]; omega, ?_⟩
    by_cases hn : i < (1 + r0).toNat
    · refine .inr ⟨hn, fun x H' yl => ?_⟩
      obtain ⟨rfl, rfl⟩ := yl
      refine tNoIf_of ?_
      refine ⟨_, rfl, d, c, rfl, D2, fun x y p H3 hy hg hx1 hy1 hp hp3 D3 K3 => ?_⟩
      refine ⟨(1 + r0).toNat - (i + 1), by omega, rfl, by omega, ps ++ [p], by simp, by simp [hpl], fun q hq => ?_, D3, K2.trans K3⟩
      rcases List.mem_append.mp hq with hq | hq
      · obtain ⟨b, nb⟩ := hps q hq
        exact ⟨b, nb.kept D2 K3⟩
      · have e : q = p := by simpa using hq
        subst e
        exact ⟨(x, y), hp3, hy, hg, hx1, hy1⟩
    refine .inl ⟨show (1 + r0).toNat ≤ i by omega, fun l hl => ?_⟩
    refine k ps l _ (by omega) (by omega) (fun p hp => ?_) (KeptBut.free K2 D2 hl) upd_same (D2.new hl) (K2.trans (Same.but (same_new hl)))
    obtain ⟨b, nb⟩ := hps p hp
    exact ⟨b, nb.same (same_new hl)⟩
end
end K12
set_option maxHeartbeats 4000000
namespace K12
open PySem L2 Frac Lw Dig PySem.NumText Nm
open Ord
theorem roomW_eq (w : Str) : roomW w = roomOf w := by
  have e : mergeK [] [((Sum.inr (Str.ofString "order") : Key), V.int 1), (Sum.inr (Str.ofString "case"), V.int 2), (Sum.inr (Str.ofString "mark"), V.int 3)] = [(Sum.inr (Str.ofString "order"), V.int 1), (Sum.inr (Str.ofString "case"), V.int 2), (Sum.inr (Str.ofString "mark"), V.int 3)] := by rfl
  have n1 : Str.ofString "order" ≠ Str.ofString "case" := by decide +kernel
  have n2 : Str.ofString "order" ≠ Str.ofString "mark" := by decide +kernel
  have n3 : Str.ofString "case" ≠ Str.ofString "mark" := by decide +kernel
  unfold roomW roomOf S
  rw [e]
  unfold valV
  by_cases h1 : Str.ofString "order" = w
  · subst h1; simp [n1, n2]
  · by_cases h2 : Str.ofString "case" = w
    · subst h2; simp [h1]
    · by_cases h3 : Str.ofString "mark" = w
      · subst h3; simp [h1, h2, Ne.symm n3]
      · simp [h1, h2, h3, Ne.symm h2, Ne.symm h3]
theorem room_eq (ws : List Str) : room ws = rooms ws := by
  unfold room rooms
  congr 1
  exact List.map_congr_left fun w _ => roomW_eq w
abbrev dS (ws : List Str) : PyData := .list (ws.map PyData.str)
def ROpts : List PyData → PyData → Prop := fun as d => ∃ want : Str, as = [.str want] ∧ d = .list ((optsOf want).map dS)
def stAt (i : Nat) : Stmt := (defBody s__law_options).getD i (.Pass ⟨0, 0, 0, 0⟩)
def inIf (s : Stmt) (j : Nat) : Stmt := match s with | .If _ b _ _ => b.getD j (.Pass ⟨0, 0, 0, 0⟩) | s => s
def valOf (s : Stmt) : Expr := match s with | .Return (some e) _ => e | .Assign _ e _ => e | _ => .Constant .none 0 ⟨0, 0, 0, 0⟩
def rightOf (e : Expr) : Expr := match e with | .BinOp _ _ b _ => b | e => e
@[irreducible] def eA : Expr := valOf (inIf (stAt 0) 0)
@[irreducible] def eB : Expr := rightOf (valOf (inIf (stAt 0) 1))
@[irreducible] def eC : Expr := valOf (inIf (stAt 1) 0)
@[irreducible] def eD : Expr := rightOf (valOf (inIf (stAt 1) 1))
@[irreducible] def eE : Expr := valOf (stAt 2)
def dA : PyData := (.list [(.list [(.str (Str.ofString "like"))]), (.list [(.str (Str.ofString "up")), (.str (Str.ofString "field"))]), (.list [(.str (Str.ofString "down")), (.str (Str.ofString "field"))]), (.list [(.str (Str.ofString "then")), (.str (Str.ofString "order")), (.str (Str.ofString "order"))]), (.list [(.str (Str.ofString "turn")), (.str (Str.ofString "order"))])])
theorem litA : litD 6 eA = some dA := by kernel_rfl
def dB : PyData := (.list [(.list [(.str (Str.ofString "pick")), (.str (Str.ofString "case")), (.str (Str.ofString "order")), (.str (Str.ofString "order"))])])
theorem litB : litD 6 eB = some dB := by kernel_rfl
def dC : PyData := (.list [(.list [(.str (Str.ofString "same")), (.str (Str.ofString "field"))]), (.list [(.str (Str.ofString "both")), (.str (Str.ofString "mark"))]), (.list [(.str (Str.ofString "either")), (.str (Str.ofString "mark"))]), (.list [(.str (Str.ofString "not")), (.str (Str.ofString "case"))]), (.list [(.str (Str.ofString "and")), (.str (Str.ofString "case")), (.str (Str.ofString "case"))])])
theorem litC : litD 6 eC = some dC := by kernel_rfl
def dD : PyData := (.list [(.list [(.str (Str.ofString "or")), (.str (Str.ofString "case")), (.str (Str.ofString "case"))])])
theorem litD_ : litD 6 eD = some dD := by kernel_rfl
def dE : PyData := (.list [(.list [(.str (Str.ofString "under")), (.str (Str.ofString "field")), (.str (Str.ofString "number"))]), (.list [(.str (Str.ofString "is")), (.str (Str.ofString "field")), (.str (Str.ofString "number"))])])
theorem litE : litD 6 eE = some dE := by kernel_rfl
theorem body_opts : defBody s__law_options = [Stmt.If (.Compare (.Name "want" ⟨167, 7, 167, 11⟩) [.Eq] [.Constant (.str "order") 0 ⟨167, 15, 167, 22⟩] ⟨167, 7, 167, 22⟩) [.Assign [.Name "some" ⟨168, 8, 168, 12⟩] eA ⟨168, 8, 168, 108⟩, .Return (some (.BinOp (.Name "some" ⟨169, 15, 169, 19⟩) .Add eB ⟨169, 15, 169, 58⟩)) ⟨169, 8, 169, 58⟩] [] ⟨167, 4, 169, 58⟩, Stmt.If (.Compare (.Name "want" ⟨170, 7, 170, 11⟩) [.Eq] [.Constant (.str "case") 0 ⟨170, 15, 170, 21⟩] ⟨170, 7, 170, 21⟩) [.Assign [.Name "some" ⟨171, 8, 171, 12⟩] eC ⟨171, 8, 171, 114⟩, .Return (some (.BinOp (.Name "some" ⟨172, 15, 172, 19⟩) .Add eD ⟨172, 15, 172, 46⟩)) ⟨172, 8, 172, 46⟩] [] ⟨170, 4, 172, 46⟩, .Return (some eE) ⟨173, 4, 173, 68⟩] := by kernel_rfl
section
variable {P : Program} {w : World} {K : PySem.W.Frag} {mg : Str → Option Value} {base : Heap}
theorem ev_eqS {σ : St} {G : Hp} {ta tb : TE} {x y : Str} (ha : Ev K ta σ G (.str x)) (hb : Ev K tb σ G (.str y)) : Ev K (tOp rEq ta tb) σ G (.bool (decide (x = y))) :=
  ev_op ha hb fun G1 H u v Q s1 s2 hx hy k => by
    rw [hx.str, hy.str]
    refine ⟨rfl, ?_⟩
    have e : decide (V.str x = V.str y) = decide (x = y) := by
      by_cases h : x = y
      · rw [decide_eq_true h, decide_eq_true (by rw [h])]
      · rw [decide_eq_false h, decide_eq_false fun z => h (by injection z)]
    rw [e]
    exact k _ G1 H (Grow.refl s2) (dat_bl _)
theorem ev_cat {σ : St} {G : Hp} {ta tb : TE} {xs ys : List PyData} (ha : Ev K ta σ G (.list xs)) (hb : Ev K tb σ G (.list ys)) (hl : xs.length + ys.length ≤ sizeLine) : Ev K (tOp rCat ta tb) σ G (.list (xs ++ ys)) :=
  ev_op ha hb fun G1 H u v Q s1 s2 hx hy k => by
    obtain ⟨p, us, rfl, hp, hus⟩ := hx.lst
    obtain ⟨q, vs, rfl, hq, hvs⟩ := hy.lst
    refine ⟨p, q, us, vs, rfl, rfl, s2 _ _ hp, s2 _ _ hq, by rw [hus.length, hvs.length]; exact hl, fun l hl => ?_⟩
    have g := grow_new (o := .lst (us ++ vs)) s2 hl
    exact k _ _ _ g (dat_lst upd_same ((dats_append hus hvs).same g.gg))
theorem ok_opts (T : Top K mg) : FnOk P w K mg base CX0 1 T.f__law_options T.fd__law_options ["want"] (spP K ROpts) := by
  refine T.F__law_options.ok sc__law_options (fun vs H Q E h => ?_) (fun cdv A outer s H vs Q E hr h => ?_)
  · obtain ⟨G, as, d, sg, hv, ⟨want, rfl, _⟩, _⟩ := h
    rw [hv.length]; rfl
  · obtain ⟨G, as, d, sg, hv, ⟨want, rfl, rfl⟩, k⟩ := h
    obtain ⟨v1, r1, rfl, h1, hv⟩ := hv.cons
    cases hv.nil
    rw [body_opts]
    refine ⟨_, pss_cons (ps_if (pt_cmpR op_eq (pv 0) pe_str (nomark _)) (pss_cons (ps_set (i := 1) sc__law_options.nd rfl (Or.inl rfl) (pe_lit litA) (hs := litD_swaps litA)) (pss_one (ps_ret (pe_op op_cat (pv 1) (pe_lit litB))))) pss_nil)
      (pss_cons (ps_if (pt_cmpR op_eq (pv 0) pe_str (nomark _)) (pss_cons (ps_set (i := 1) sc__law_options.nd rfl (Or.inl rfl) (pe_lit litC) (hs := litD_swaps litC)) (pss_one (ps_ret (pe_op op_cat (pv 1) (pe_lit litD_))))) pss_nil)
      (pss_one (ps_ret (pe_lit litE)))), ?_⟩
    refine if_ev (evt_test (ev_eqS (ev_var rfl h1) ev_str)) sg (fun e G1 H1 g1 => ?_) (fun e G1 H1 g1 => ?_)
    · have e1 := of_decide_eq_true e
      subst e1
      refine asg_ev ev_lit g1.gh fun v G2 H2 g2 hv => ?_
      refine ret_ev (ev_cat (ev_var rfl hv) ev_lit (by decide)) g2.gh fun v G3 H3 g3 hv => k v G3 H3 ((g1.trans g2).trans g3) ?_
      have q : optsOf (Str.ofString "order") = [[S "like"], [S "up", S "field"], [S "down", S "field"], [S "then", S "order", S "order"], [S "turn", S "order"]] ++ [[S "pick", S "case", S "order", S "order"]] := by decide +kernel
      rw [q, List.map_append]
      exact hv
    · have e1 := of_decide_eq_false e
      have h1' := h1.same g1.gg
      refine if_ev (evt_test (ev_eqS (ev_var rfl h1') ev_str)) g1.gh (fun e' G2 H2 g2 => ?_) (fun e' G2 H2 g2 => ?_)
      · have e2 := of_decide_eq_true e'
        subst e2
        refine asg_ev ev_lit g2.gh fun v G3 H3 g3 hv => ?_
        refine ret_ev (ev_cat (ev_var rfl hv) ev_lit (by decide)) g3.gh fun v G4 H4 g4 hv => k v G4 H4 (((g1.trans g2).trans g3).trans g4) ?_
        have q : optsOf (Str.ofString "case") = [[S "same", S "field"], [S "both", S "mark"], [S "either", S "mark"], [S "not", S "case"], [S "and", S "case", S "case"]] ++ [[S "or", S "case", S "case"]] := by decide +kernel
        rw [q, List.map_append]
        exact hv
      · have e2 := of_decide_eq_false e'
        refine ret_ev (σ := []) ev_lit g2.gh fun v G3 H3 g3 hv => k v G3 H3 ((g1.trans g2).trans g3) ?_
        have q : optsOf want = [[S "under", S "field", S "number"], [S "is", S "field", S "number"]] := by
          unfold optsOf; rw [if_neg e1, if_neg e2]
        rw [q]
        exact hv
end
end K12
set_option maxHeartbeats 4000000
namespace K12
open PySem L2 Frac Lw Dig PySem.NumText Nm
open Ord
abbrev dF (p : Int × Int) : PyData := .tuple [.int p.1, .int p.2]
def Want (p : Str) : Prop := p = S "order" ∨ p = S "case" ∨ p = S "mark" ∨ p = S "field" ∨ p = S "number"
theorem pl_want {n : Nat} {p : Str} (h : Want p) : Pl n (.str p) := by
  refine ⟨?_, by unfold PyData.depth; omega, by unfold noBool; rfl⟩
  unfold PyData.canLay0
  rcases h with rfl | rfl | rfl | rfl | rfl <;> decide +kernel
def spOrder (K : PySem.W.Frag) : Sp := fun vs H Q _ => ∃ (d c : Addr) (vb vn : V) (most : Int) (G : Hp) (book : List Str) (nums : List (Int × Int)), vs = [.ref d, vb, vn, .int most] ∧ DeckAt H d c ∧ (Same G H ∧ G d = none ∧ G c = none) ∧
  Dat K G vb (.tuple (book.map PyData.str)) ∧ Dat K G vn (.list (nums.map dF)) ∧ (1 ≤ book.length ∧ book.length ≤ 4 ∧ 1 ≤ nums.length ∧ nums.length ≤ 8 ∧ 1 ≤ most ∧ most ≤ 100) ∧
  ∀ (ws : List Wd) (v : V) (G' H' : Hp), IsOrd (· ∈ book) (fun a b => (a, b) ∈ nums) ws → (ws.length : Int) ≤ most → Same G G' → Same G' H' → G' d = none → G' c = none → Dat K G' v (.tuple (ws.map Wd.d)) → DeckAt H' d c → KeptBut d c H H' → Q v H'
theorem dats_strs {K : PySem.W.Frag} {G : Hp} : ∀ ws : List Str, Dats K G (ws.map V.str) (ws.map PyData.str)
  | [] => dats_nil
  | w :: ws => dats_cons (dat_str w) (dats_strs ws)
theorem datStrs {K : PySem.W.Frag} {G : Hp} : ∀ {ws : List Str} {xs : List V}, Dats K G xs (ws.map PyData.str) → xs = ws.map V.str
  | [], _, h => h.nil
  | w :: ws, _, h => by
    obtain ⟨y, ys, rfl, hd, r⟩ := h.cons
    rw [hd.str, datStrs r]; rfl
theorem fm_filter {α β : Type} (p : α → Bool) (g : α → β) : ∀ l : List α, l.filterMap (fun o => if p o = true then some (g o) else none) = (l.filter p).map g
  | [] => rfl
  | x :: l => by
    rw [List.filterMap_cons, List.filter_cons]
    cases h : p x with
    | true => simp [fm_filter p g l]
    | false => simp [fm_filter p g l]
theorem opts_few (want : Str) : (optsOf want).length < sizeLine := by
  have : (optsOf want).length ≤ 6 := by unfold optsOf; split <;> (try split) <;> decide
  exact Nat.lt_of_le_of_lt this (by decide)
theorem pick_rev {α : Type} (x : α) (ps : List α) (h : ps.length ≤ 3) : pickV (x :: ps) none (some 0) (some (-1)) = ps.reverse := by
  match ps, h with
  | [], _ => rfl
  | [a], _ => kernel_rfl
  | [a, b], _ => kernel_rfl
  | [a, b, c], _ => kernel_rfl
  | _ :: _ :: _ :: _ :: _, h => simp at h
theorem cut_one {α : Type} [Inhabited α] (xs : List V) : cutV xs (some 1) none = xs.drop 1 := by
  unfold cutV
  have e1 : HT.sIx xs.length 0 (some 1) = min 1 xs.length := by
    have := HT.sIx_nat xs.length 0 1
    exact this
  have e2 : HT.sIx xs.length xs.length none = xs.length := rfl
  rw [e1, e2]
  cases xs with
  | nil => rfl
  | cons a r =>
    have : min 1 (a :: r).length = 1 := by simp
    rw [this]
    exact List.take_of_length_le (by simp)
section
variable {P : Program} {w : World} {K : PySem.W.Frag} {mg : Str → Option Value} {base : Heap}
theorem ev_room {σ : St} {G : Hp} {te : TE} {E : XK} {ws : List Str} (h : Ev K te σ G (dS ws)) (hl : ws.length ≤ 1000) : Ev K (tCall (spRoom K) [] E (tCons te tNil)) σ G (.int (rooms ws)) :=
  fun G1 H s1 s2 Q k => h G1 H s1 s2 _ fun v G2 H2 g2 hv => by
    obtain ⟨p, xs, rfl, hp, hxs⟩ := hv.lst
    have e := datStrs hxs
    subst e
    exact ⟨p, ws, rfl, g2.gh _ _ hp, hl, fun H3 s3 => by rw [room_eq]; exact k _ G2 H3 (g2.trans (grow_h g2.gh s3)) (dat_int _)⟩
theorem ev_drop1 {σ : St} {G : Hp} {te : TE} {ds : List PyData} (h : Ev K te σ G (.list ds)) : Ev K (tSl (rSlL K) te (tPart (tC (.int 1))) tNoPart) σ G (.list (ds.drop 1)) :=
  fun G1 H s1 s2 Q k => h G1 H s1 s2 _ fun v G2 H2 g2 hv => by
    obtain ⟨p, xs, rfl, hp, hxs⟩ := hv.lst
    refine ⟨1, rfl, p, xs, rfl, SqL.of (g2.gh _ _ hp), fun l hl => ?_⟩
    have g := grow_new (o := .lst (cutV xs (some 1) none)) g2.gh hl
    refine k _ _ _ (g2.trans g) (dat_lst upd_same ?_)
    have q := dats_drop 1 (hxs.same g.gg)
    rw [← cut_one (α := Nat)] at q
    exact q
theorem ok_order (T : Top K mg) : FnOk P w K mg base CX0 2 T.f__law_order T.fd__law_order ["deck", "book", "numbers", "most"] (spOrder K) := by
  have G__law_take : FnOk P w K mg base CX0 1 T.f__law_take T.fd__law_take ["deck", "many"] spTake := ok_take T.F__law_take T.len_
  have G__law_room : FnOk P w K mg base CX0 1 T.f__law_room T.fd__law_room ["due"] (spRoom K) := ok_room T.F__law_room T.sum_
  have G__law_options : FnOk P w K mg base CX0 1 T.f__law_options T.fd__law_options ["want"] (spP K ROpts) := ok_opts T
  refine T.F__law_order.ok sc__law_order (fun vs H Q E h => ?_) (fun cdv A outer s H vs Q E hr h => ?_)
  · obtain ⟨d, c, vb, vn, most, G, book, nums, rfl, _⟩ := h
    rfl
  · obtain ⟨d, c, vb, vn, most, G, book, nums, rfl, D, ⟨sg, gd, gc⟩, hb, hn, ⟨b1, b2, n1, n2, m1, m2⟩, fin⟩ := h
    have hu := hr.units
    have zl : (2000 : Nat) ≤ sizeLine := by decide
    refine ⟨_, (pss_cons (ps_set (i := 4) sc__law_order.nd rfl (Or.inl rfl) (pe_lst pa_nil))
      (pss_cons (ps_set (i := 5) sc__law_order.nd rfl (Or.inl rfl) (pe_lst (pa_cons pe_str pa_nil st_Constant)))
      (pss_cons (ps_while PassesOwn.never (pt_cmpR (op_neDK (K := K) rfl hu) (pv 5) (pe_lst pa_nil) (nomark _)) (pss_cons (ps_set (i := 6) sc__law_order.nd rfl (Or.inl rfl) (pe_bm0 PySem.F.plainAttrs_list PySem.F.slot_list_pop PySem.F.type_list_pop mt_pop (pv 5)))
      (pss_one (ps_if (pt_cmpR op_eq (pv 6) pe_str (nomark _)) (pss_one (ps_expr (pe_bm PySem.F.plainAttrs_list PySem.F.slot_list_append PySem.F.type_list_append mt_append (pv 4) (pa_cons (pe_ix (ix_tupK (K := K) rfl) (pv 1) (pe_call G__law_take hr (by rfl) T.m__law_take T.F__law_take.kp T.b__law_take .nil pass0 (pa_cons (pv 0) (pa_cons (pe_callB (call_lenK (K := K) rfl) (by rfl) T.len_ PySem.boot_len (pa_cons (pv 1) pa_nil st_Name)) pa_nil st_Call) st_Name)) (fun _ _ => rfl)) pa_nil st_Subscript)))) (pss_one (ps_if (pt_cmpR op_eq (pv 6) pe_str (nomark _)) (pss_one (ps_expr (pe_bm PySem.F.plainAttrs_list PySem.F.slot_list_append PySem.F.type_list_append mt_append (pv 4) (pa_cons (pe_ix (ix_listK (K := K) rfl) (pv 2) (pe_call G__law_take hr (by rfl) T.m__law_take T.F__law_take.kp T.b__law_take .nil pass0 (pa_cons (pv 0) (pa_cons (pe_callB (call_lenK (K := K) rfl) (by rfl) T.len_ PySem.boot_len (pa_cons (pv 2) pa_nil st_Name)) pa_nil st_Call) st_Name)) (fun _ _ => rfl)) pa_nil st_Subscript)))) (pss_cons (ps_set (i := 7) sc__law_order.nd rfl (Or.inr rfl) (pe_op op_sub (pe_op op_sub (pv 3) (pe_callB (call_lenK (K := K) rfl) (by rfl) T.len_ PySem.boot_len (pa_cons (pv 4) pa_nil st_Name))) (pe_call G__law_room hr (by rfl) T.m__law_room T.F__law_room.kp T.b__law_room .nil pass0 (pa_cons (pv 5) pa_nil st_Name))))
      (pss_cons (ps_lc (x := "option") (cap := ["room"]) (js := [7]) (i := 8) (y := "some") ⟨rfl, by decide +kernel, by decide +kernel, rfl, (by show ∀ p ∈ (_ : List (Str × NameKind)), p.2 = NameKind.free → List.lookup p.1 (defScope s__law_order).names = some NameKind.cell; decide +kernel), by decide +kernel, by decide +kernel, by decide +kernel⟩ rfl rfl (fun _ _ h => h) sc__law_order.nd rfl rfl (pi_list (pe_call G__law_options hr (by rfl) T.m__law_options T.F__law_options.kp T.b__law_options .nil pass0 (pa_cons (pv 6) pa_nil st_Name))) (fun _ _ _ _ => ⟨(pif_one (pt_cmpR op_le (pe_op op_add pe_int (pe_call G__law_room hr (by rfl) T.m__law_room T.F__law_room.kp T.b__law_room .nil pass0 (pa_cons (pe_slice (sl_listK (K := K) rfl) (pv 0) (po_some pe_int) po_none) pa_nil st_Subscript))) (pv 1) (nomark _))), (pv 0)⟩))
      (pss_cons (ps_set (i := 9) sc__law_order.nd rfl (Or.inl rfl) (pe_ix (ix_listK (K := K) rfl) (pv 8) (pe_op op_mod (pe_call G__law_take hr (by rfl) T.m__law_take T.F__law_take.kp T.b__law_take .nil pass0 (pa_cons (pv 0) (pa_cons pe_int pa_nil st_Constant) st_Name)) (pe_callB (call_lenK (K := K) rfl) (by rfl) T.len_ PySem.boot_len (pa_cons (pv 8) pa_nil st_Name))) (fun _ _ => rfl)))
      (pss_cons (ps_expr (pe_bm PySem.F.plainAttrs_list PySem.F.slot_list_append PySem.F.type_list_append mt_append (pv 4) (pa_cons (pe_ix (ix_listK (K := K) rfl) (pv 9) pe_int (fun _ _ => rfl)) pa_nil st_Subscript)))
      (pss_one (ps_set (i := 5) sc__law_order.nd rfl (Or.inl rfl) (pe_op op_cat (pv 5) (pe_slice3 (pv 9) po_none (po_some pe_int) (po_some (pe_un un_neg pe_int))))))))))))))))
      (pss_one (ps_ret (pe_callTy (call_tupleK (K := K) rfl) (by rfl) T.tuple_ bTup (pa_cons (pv 4) pa_nil st_Name))))))) , ?_⟩
    refine ⟨(by show 0 ≤ sizeLine; decide), fun pw hpw => ?_⟩
    refine ⟨(by show 1 ≤ sizeLine; decide), fun pd0 hpd0 => ?_⟩
    have nwd := D.free hpw
    have npd := (D.new (o := .lst []) hpw).free hpd0
    have npp : pw ≠ pd0 := ne_of_none (H := L2.upd H pw (.lst [])) upd_same hpd0
    have s2 : Same H (L2.upd (L2.upd H pw (.lst [])) pd0 (.lst [V.str (S "order")])) := (same_new hpw).trans (same_new hpd0)
    have er0 : ((([] : List Wd).length : Nat) : Int) + rooms [S "order"] ≤ most := by
      have e : rooms [S "order"] = 1 := by decide +kernel
      rw [e]; show (0 : Int) + 1 ≤ most; omega
    refine while_by (fun σ H' => ∃ (ws : List Wd) (st : List Str) (pd : Addr) (xs : List V) (G' : Hp) (v6 v7 v8 v9 : Option V), σ = [some (.ref d), some vb, some vn, some (.int most), some (.ref pw), some (.ref pd), v6, v7, v8, v9] ∧
        Run (· ∈ book) (fun a b => (a, b) ∈ nums) [S "order"] ws st ∧ (∀ p ∈ st, Want p) ∧ (ws.length : Int) + rooms st ≤ most ∧ (H' pw = some (.lst xs) ∧ Dats K G' xs (ws.map Wd.d) ∧ H' pd = some (.lst (st.reverse.map V.str))) ∧ (pw ≠ pd ∧ pd ≠ d ∧ pd ≠ c ∧ H pd = none) ∧
        (Same G G' ∧ Same G' H' ∧ G' d = none ∧ G' c = none ∧ G' pw = none ∧ G' pd = none) ∧ DeckAt H' d c ∧ KeptBut d c H H') (fun σ H' => match H' pw with | some (.lst xs) => 200 - xs.length | _ => 0)
      ⟨[], [S "order"], pd0, [], G, _, _, _, _, rfl, .nil, fun p hp => .inl (List.mem_singleton.mp hp), er0, ⟨by rw [upd_ne npp, upd_same], dats_nil, by rw [upd_same]; rfl⟩, ⟨npp, npd.1, npd.2, (same_new hpw).free hpd0⟩,
        ⟨Same.refl _, sg.trans s2, gd, gc, sg.free hpw, sg.free ((same_new hpw).free hpd0)⟩, D.same s2, Same.but s2⟩ ?_ ?_
    · rintro σ H1 ⟨ws, st, pd, xs, G1, v6, v7, v8, v9, rfl, run, hw, hroom, ⟨h1, h2, h3⟩, ⟨q1, q2, q3, q4⟩, ⟨g1, g2, g3, g4, g5, g6⟩, D1, K1⟩
      have hxl := h2.length
      rw [List.length_map] at hxl
      have hrg := rooms_ge st
      refine ⟨_, rfl, (by show 0 ≤ sizeLine; decide), fun e he => ?_⟩
      have npe : pd ≠ e := ne_of_none h3 he
      have nwe : pw ≠ e := ne_of_none h1 he
      have s1e : Same H1 (L2.upd H1 e (.lst [])) := same_new he
      have pls : Pl 2 (dS st.reverse) := pl_lst fun x hx => by
        obtain ⟨p, hp, rfl⟩ := List.mem_map.mp hx
        exact pl_want (hw p (List.mem_reverse.mp hp))
      have pl0 : Pl 2 (.list []) := pl_lst fun x hx => by cases hx
      refine ⟨_, dS st.reverse, .list [], Same.refl _, dat_lst (s1e _ _ h3) (dats_strs _), dat_lst upd_same dats_nil, ⟨pls.shaped (by decide), pl0.shaped (by decide), pls.mix pl0⟩, _, rfl, ?_⟩
      have h1' := s1e _ _ h1
      have h3' := s1e _ _ h3
      have D1' := D1.same s1e
      have K1' := K1.trans (Same.but (d := d) (c := c) s1e)
      have g2' := g2.trans s1e
      generalize L2.upd H1 e (.lst []) = H2 at h1' h3' D1' K1' g2'
      cases st with
      | nil =>
        rw [show PySem.Spec.same (dS ([] : List Str).reverse) (.list []) = true from PySem.Spec.same_self _]
        refine iteF ?_
        refine ⟨_, rfl, pw, _, rfl, .inl ⟨SqL.of h1', fun p hp => ?_⟩⟩
        have g := grow_new (o := .tup xs) g2' hp
        have nf := D1'.free hp
        exact fin ws _ _ _ run (by simp [rooms] at hroom; omega) (g1.trans g.gg) g.gh (upd_none g3 (Ne.symm nf.1)) (upd_none g4 (Ne.symm nf.2)) (dat_tup (SqT.of upd_same) (h2.same g.gg)) (D1'.new hp) (K1'.trans (Same.but (same_new hp)))
      | cons want st' =>
        have esf : PySem.Spec.same (dS (want :: st').reverse) (.list []) = false := same_ne fun z => by
          have z' : (want :: st').reverse.map PyData.str = [] := by injection z
          simp at z'
        rw [esf]
        refine iteT ?_
        rw [rooms_cons] at hroom hrg
        have hrg' := rooms_ge st'
        have hwr := roomOf_ge want
        have hwant := hw want List.mem_cons_self
        have hw' : ∀ p ∈ st', Want p := fun p hp => hw p (List.mem_cons_of_mem _ hp)
        refine ⟨_, rfl, .inl ⟨rfl, _, SqL.of h3'⟩, pd, _, V.str want, rfl, rfl, h3', by rw [List.reverse_cons, List.map_append]; simp, ?_⟩
        have edl : ((want :: st').reverse.map V.str).dropLast = st'.reverse.map V.str := by rw [List.reverse_cons, List.map_append]; simp
        have h3'' : L2.upd H2 pd (.lst ((want :: st').reverse.map V.str).dropLast) pd = some (.lst (st'.reverse.map V.str)) := by rw [upd_same, edl]
        have h1'' : L2.upd H2 pd (.lst ((want :: st').reverse.map V.str).dropLast) pw = some (.lst xs) := by rw [upd_ne q1]; exact h1'
        have D3 := Nm.DeckAt.upd (o := .lst ((want :: st').reverse.map V.str).dropLast) D1' q2 q3
        have g23 := same_upd (o := .lst ((want :: st').reverse.map V.str).dropLast) g2' g6
        have K3 : KeptBut d c H (L2.upd H2 pd (.lst ((want :: st').reverse.map V.str).dropLast)) := fun b o eb hbd hbc => by
          rw [upd_ne (ne_of_none eb q4)]; exact K1' b o eb hbd hbc
        (try dsimp only)
        generalize L2.upd H2 pd (.lst ((want :: st').reverse.map V.str).dropLast) = H3 at h3'' h1'' D3 g23 K3
        have hmu : (match H1 pw with | some (.lst xs) => 200 - xs.length | _ => 0) = 200 - xs.length := by rw [h1]
        clear h1 h1' h3 h3' D1 D1' g2 g2' K1 K1' s1e he npe nwe pls
        have next : ∀ (x : Wd) (st2 : List Str) (pd2 : Addr) (y : V) (G4 H4 : Hp) (v6 v7 v8 v9 : Option V), Step (· ∈ book) (fun a b => (a, b) ∈ nums) (want :: st') x st2 → (∀ p ∈ st2, Want p) → (ws.length : Int) + 1 + rooms st2 ≤ most →
            Same G1 G4 → Same G4 H4 → G4 d = none → G4 c = none → G4 pw = none → G4 pd2 = none → H4 pw = some (.lst (xs ++ [y])) → Dat K G4 y x.d → H4 pd2 = some (.lst (st2.reverse.map V.str)) → pw ≠ pd2 → pd2 ≠ d → pd2 ≠ c → H pd2 = none → DeckAt H4 d c → KeptBut d c H H4 →
            (∃ (ws : List Wd) (st : List Str) (pd : Addr) (xs : List V) (G' : Hp) (w6 w7 w8 w9 : Option V), [some (.ref d), some vb, some vn, some (.int most), some (.ref pw), some (.ref pd2), v6, v7, v8, v9] = [some (.ref d), some vb, some vn, some (.int most), some (.ref pw), some (.ref pd), w6, w7, w8, w9] ∧
        Run (· ∈ book) (fun a b => (a, b) ∈ nums) [S "order"] ws st ∧ (∀ p ∈ st, Want p) ∧ (ws.length : Int) + rooms st ≤ most ∧ (H4 pw = some (.lst xs) ∧ Dats K G' xs (ws.map Wd.d) ∧ H4 pd = some (.lst (st.reverse.map V.str))) ∧ (pw ≠ pd ∧ pd ≠ d ∧ pd ≠ c ∧ H pd = none) ∧
        (Same G G' ∧ Same G' H4 ∧ G' d = none ∧ G' c = none ∧ G' pw = none ∧ G' pd = none) ∧ DeckAt H4 d c ∧ KeptBut d c H H4) := fun x st2 pd2 y G4 H4 v6 v7 v8 v9 hst hw2 hr2 a1 a2 a3 a4 a5 a6 a7 a8 a9 a10 a11 a12 a13 a14 a15 =>
          ⟨ws ++ [x], st2, pd2, xs ++ [y], G4, v6, v7, v8, v9, rfl, run.snoc hst, hw2, by rw [List.length_append]; show ((ws.length + 1 : Nat) : Int) + rooms st2 ≤ most; omega, ⟨a7, by rw [List.map_append]; exact dats_snoc (h2.same a1) a8, a9⟩, ⟨a10, a11, a12, a13⟩, ⟨g1.trans a1, a2, a3, a4, a5, a6⟩, a14, a15⟩
        have less : ∀ (H4 : Hp) (y : V), H4 pw = some (.lst (xs ++ [y])) → (match H4 pw with | some (.lst xs) => 200 - xs.length | _ => 0) < 200 - xs.length := fun H4 y e4 => by
          rw [e4]
          show 200 - (xs ++ [y]).length < 200 - xs.length
          rw [List.length_append]; show 200 - (xs.length + 1) < _; omega
        refine ⟨_, rfl, rfl, _, rfl, ?_⟩
        by_cases hf : want = S "field"
        · subst hf
          rw [decide_eq_true rfl]
          refine iteT ?_
          obtain ⟨pb, bs, rfl, hpb, hbs⟩ := hb.tup
          have eb := datStrs hbs
          subst eb
          have hpb1 := (g1.trans g23).tup hpb
          refine ⟨_, rfl, .inl ⟨rfl, _, SqL.of h1''⟩, _, rfl, _, rfl, _, rfl, pb, _, rfl, .inr hpb1, d, c, _, rfl, D3, ⟨by rw [List.length_map]; omega, by rw [List.length_map]; omega⟩, fun r H4 r0 r1 D4 K4 => ?_⟩
          rw [List.length_map] at r1
          have hi : r.toNat < book.length := by omega
          have g4' : Same G1 H4 := fun b o e => K4 b o (g23 b o e) (ne_of_none e g3) (ne_of_none e g4)
          have hat : atI (book.map V.str) r = some (V.str book[r.toNat]) := by
            have q := atI_nat (xs := book.map V.str) (j := r.toNat) (v := V.str book[r.toNat]) (by rw [List.getElem?_map, List.getElem?_eq_getElem hi]; rfl)
            have er : ((r.toNat : Nat) : Int) = r := by omega
            rw [er] at q; exact q
          have h4w := K4 _ _ h1'' nwd.1 nwd.2
          have h4d := K4 _ _ h3'' q2 q3
          refine ⟨pb, _, r, _, rfl, rfl, (g1.trans g4').tup hpb, hat, pw, xs, _, rfl, rfl, h4w, by omega, ?_⟩
          refine ⟨next (.t book[r.toNat]) st' pd _ G1 _ _ _ _ _ (.field (List.getElem_mem hi)) hw' (by omega) (Same.refl _) (same_upd g4' g5) g3 g4 g5 g6 upd_same (dat_str _) (by rw [upd_ne (Ne.symm q1)]; exact h4d) q1 q2 q3 q4 (Nm.DeckAt.upd D4 nwd.1 nwd.2) (fun b o e hbd hbc => by
            rw [upd_ne (ne_of_none e hpw)]; exact K4 _ _ (K3 b o e hbd hbc) hbd hbc), ?_⟩
          show _ < (match H1 pw with | some (.lst xs) => 200 - xs.length | _ => 0)
          rw [hmu]
          exact less _ _ upd_same
        · rw [decide_eq_false (fun z => hf (by injection z))]
          refine iteF ?_
          refine ⟨_, rfl, rfl, _, rfl, ?_⟩
          by_cases hm : want = S "number"
          · subst hm
            rw [decide_eq_true rfl]
            refine iteT ?_
            obtain ⟨pn, bs, rfl, hpn, hbs⟩ := hn.lst
            have hbl := hbs.length
            rw [List.length_map] at hbl
            have hpn1 := (g1.trans g23) _ _ hpn
            refine ⟨_, rfl, .inl ⟨rfl, _, SqL.of h1''⟩, _, rfl, _, rfl, _, rfl, pn, _, rfl, .inl (SqL.of hpn1), d, c, _, rfl, D3, ⟨by omega, by omega⟩, fun r H4 r0 r1 D4 K4 => ?_⟩
            have hi : r.toNat < nums.length := by omega
            have g4' : Same G1 H4 := fun b o e => K4 b o (g23 b o e) (ne_of_none e g3) (ne_of_none e g4)
            obtain ⟨y, hy, hyd⟩ := hbs.get (show (nums.map dF)[r.toNat]? = some (dF nums[r.toNat]) by rw [List.getElem?_map, List.getElem?_eq_getElem hi]; rfl)
            have hat : atI bs r = some y := by
              have q := atI_nat (xs := bs) (j := r.toNat) (v := y) hy
              have er : ((r.toNat : Nat) : Int) = r := by omega
              rw [er] at q; exact q
            have h4w := K4 _ _ h1'' nwd.1 nwd.2
            have h4d := K4 _ _ h3'' q2 q3
            refine ⟨pn, _, r, _, rfl, rfl, SqL.of ((g1.trans g4') _ _ hpn), hat, pw, xs, _, rfl, rfl, h4w, by omega, ?_⟩
            refine ⟨next (.n nums[r.toNat].1 nums[r.toNat].2) st' pd _ G1 _ _ _ _ _ (.number (List.getElem_mem hi)) hw' (by omega) (Same.refl _) (same_upd g4' g5) g3 g4 g5 g6 upd_same (hyd.same g1) (by rw [upd_ne (Ne.symm q1)]; exact h4d) q1 q2 q3 q4 (Nm.DeckAt.upd D4 nwd.1 nwd.2) (fun b o e hbd hbc => by
              rw [upd_ne (ne_of_none e hpw)]; exact K4 _ _ (K3 b o e hbd hbc) hbd hbc), ?_⟩
            show _ < (match H1 pw with | some (.lst xs) => 200 - xs.length | _ => 0)
            rw [hmu]
            exact less _ _ upd_same
          · rw [decide_eq_false (fun z => hm (by injection z))]
            refine iteF ?_
            have hwo : want = S "order" ∨ want = S "case" ∨ want = S "mark" := by
              rcases hwant with h | h | h | h | h
              · exact .inl h
              · exact .inr (.inl h)
              · exact .inr (.inr h)
              · exact absurd h hf
              · exact absurd h hm
            refine ⟨_, rfl, _, rfl, pw, _, rfl, .inl (SqL.of h1''), _, _, rfl, rfl, _, rfl, pd, st'.reverse, rfl, h3'', by rw [List.length_reverse]; omega, fun H4 s4 => ⟨_, _, rfl, rfl, ?_⟩⟩
            have hR0 : most - (xs.length : Nat) - room st'.reverse = most - xs.length - rooms st' := by rw [room_eq, rooms_rev]
            (try dsimp only)
            rw [hR0]
            generalize hR : most - (xs.length : Int) - rooms st' = R
            have h4w := s4 _ _ h1''
            have h4d := s4 _ _ h3''
            have D4 := D3.same s4
            have g44 := g23.trans s4
            have K4 : KeptBut d c H H4 := K3.trans (Same.but s4)
            obtain ⟨dk, dns, hd4, hc4, _⟩ := id D4.ex
            refine (ev_lcL (K := K) (optsOf want) dS (fun o => if (decide (1 + rooms (o.drop 1) ≤ R)) = true then some (dS o) else none) (ev_call (eva_cons (ev_var rfl (dat_str want)) eva_nil) ⟨want, rfl, rfl⟩) (opts_few want) fun G2 i o x s3 ho hx =>
              lcB (evt_test (ev_i0 (ev_i0 ev_int (ev_room (ws := o.drop 1) (ev_d (ev_drop1 (ev_var rfl hx)) (by show PyData.list ((o.map PyData.str).drop 1) = PyData.list ((o.drop 1).map PyData.str); rw [List.map_drop])) (by
                obtain ⟨a, b, e, hl, _⟩ := opts_form want o (List.mem_of_getElem? ho)
                subst e; show b.length ≤ 1000; omega)) (dat_int _)) (ev_var rfl (dat_int R)) (dat_bl _))) (fun _ => ev_var rfl hx)).use (G := G1) g44 fun v8' G5 H5 g5' hv8 => ?_
            rw [fm_filter] at hv8
            generalize hcd : (optsOf want).filter (fun o => decide (1 + rooms (o.drop 1) ≤ R)) = cand at hv8
            have hcmem : ∀ o ∈ cand, o ∈ optsOf want ∧ 1 + rooms (o.drop 1) ≤ R := fun o ho => by
              rw [← hcd] at ho
              obtain ⟨h1, h2⟩ := List.mem_filter.mp ho
              exact ⟨h1, of_decide_eq_true h2⟩
            have hcne : 0 < cand.length := by
              obtain ⟨o, ho, hro⟩ := opts_small want hwo
              refine List.length_pos_of_mem (a := o) ?_
              rw [← hcd]
              exact List.mem_filter.mpr ⟨ho, decide_eq_true (by omega)⟩
            obtain ⟨ps8, ys8, rfl, hp8, hys8⟩ := hv8.lst
            have hyl := hys8.length
            rw [List.length_map] at hyl
            have D5 := D4.same g5'.hh
            refine ⟨_, rfl, _, rfl, d, c, 12, rfl, D5, ⟨by decide, by decide⟩, fun r H6 r0 r1 D6 K6 => ?_⟩
            have g5d := g5'.out hd4 g3
            have g5c := g5'.out hc4 g4
            have g5w := g5'.out h4w g5
            have g5p := g5'.out h4d g6
            have g56 : Same G5 H6 := fun b o e => K6 b o (g5'.gh b o e) (ne_of_none e g5d) (ne_of_none e g5c)
            have hp86 := g56 _ _ hp8
            have j0 : 0 ≤ r % (ys8.length : Int) := Int.emod_nonneg _ (by omega)
            have j1 : r % (ys8.length : Int) < ys8.length := Int.emod_lt_of_pos _ (by omega)
            obtain ⟨j, hj⟩ : ∃ j : Nat, r % (ys8.length : Int) = j := ⟨(r % (ys8.length : Int)).toNat, by omega⟩
            have hjl : j < cand.length := by omega
            obtain ⟨yo, hyo, hyod⟩ := hys8.get (show (cand.map dS)[j]? = some (dS cand[j]) by rw [List.getElem?_map, List.getElem?_eq_getElem hjl]; rfl)
            obtain ⟨ho1, ho2⟩ := hcmem _ (List.getElem_mem hjl)
            generalize cand[j] = o at hyod ho1 ho2
            obtain ⟨x, ps, rfl, hpl, hpw'⟩ := opts_form want o ho1
            obtain ⟨po, zs, rfl, hpo, hzs⟩ := hyod.lst
            have ez := datStrs hzs
            subst ez
            refine ⟨_, rfl, ps8, _, rfl, .inl (SqL.of hp86), _, _, rfl, rfl, (by omega), ps8, _, _, _, rfl, rfl, SqL.of hp86, (by rw [hj]; exact atI_nat hyo), ?_⟩
            have h6w := K6 _ _ (g5'.hh _ _ h4w) nwd.1 nwd.2
            have h6d := K6 _ _ (g5'.hh _ _ h4d) q2 q3
            have hpo6 := g56 _ _ hpo
            refine ⟨_, rfl, .inl ⟨rfl, _, SqL.of h6w⟩, _, rfl, po, _, 0, _, rfl, rfl, SqL.of hpo6, at0, pw, xs, _, rfl, rfl, h6w, by omega, ?_⟩
            have npo : po ≠ pw := ne_of_none hpo g5w
            have hpo7 : L2.upd H6 pw (.lst (xs ++ [V.str x])) po = some (.lst ((x :: ps).map V.str)) := by rw [upd_ne npo]; exact hpo6
            have h7d : L2.upd H6 pw (.lst (xs ++ [V.str x])) pd = some (.lst (st'.reverse.map V.str)) := by rw [upd_ne (Ne.symm q1)]; exact h6d
            have D7 := Nm.DeckAt.upd (o := .lst (xs ++ [V.str x])) D6 nwd.1 nwd.2
            have g57 := same_upd (o := .lst (xs ++ [V.str x])) g56 g5w
            have K7 : KeptBut d c H (L2.upd H6 pw (.lst (xs ++ [V.str x]))) := fun b o e hbd hbc => by
              rw [upd_ne (ne_of_none e hpw)]; exact K6 b o (g5'.hh b o (K4 b o e hbd hbc)) hbd hbc
            have h7w : L2.upd H6 pw (.lst (xs ++ [V.str x])) pw = some (.lst (xs ++ [V.str x])) := upd_same
            (try dsimp only)
            generalize L2.upd H6 pw (.lst (xs ++ [V.str x])) = H7 at hpo7 h7d D7 g57 K7 h7w
            have epk : pickV ((x :: ps).map V.str) none (some 0) (some (-1)) = ps.reverse.map V.str := by
              rw [List.map_cons, pick_rev _ _ (by rw [List.length_map]; exact hpl), List.map_reverse]
            refine ⟨_, rfl, _, rfl, 0, rfl, 1, rfl, -1, rfl, po, _, rfl, SqL.of hpo7, by decide, by rw [epk, List.length_map, List.length_reverse]; omega, fun p8 hp8' => ?_⟩
            have s8 := same_new (o := .lst (pickV ((x :: ps).map V.str) none (some 0) (some (-1)))) hp8'
            refine ⟨pd, p8, _, _, rfl, rfl, s8 _ _ h7d, upd_same, by rw [epk, List.length_map, List.length_map, List.length_reverse, List.length_reverse]; omega, fun p9 hp9 => ?_⟩
            have s9 := same_new (o := .lst (st'.reverse.map V.str ++ pickV ((x :: ps).map V.str) none (some 0) (some (-1)))) hp9
            have D8 := D7.same s8
            have nf := D8.free hp9
            have K8 := K7.trans (Same.but (d := d) (c := c) s8)
            refine ⟨next (.t x) (ps ++ st') p9 (V.str x) G5 _ _ _ _ _ (.word hf hm ho1) (fun p hp => ?_) ?_ g5'.gg ((g57.trans s8).trans s9) g5d g5c g5w ((g57.trans s8).free hp9) (s9 _ _ (s8 _ _ h7w)) (dat_str _) ?_ (ne_of_none (s8 _ _ h7w) hp9) nf.1 nf.2 (KeptBut.free K8 D8 hp9) (D8.same s9) (K8.trans (Same.but s9)), ?_⟩
            · rcases List.mem_append.mp hp with hp | hp
              · exact hpw' p hp
              · exact hw' p hp
            · rw [rooms_app]
              have e1 : rooms ((x :: ps).drop 1) = rooms ps := rfl
              rw [e1] at ho2
              omega
            · rw [upd_same, epk, ← List.map_append, List.reverse_append]
            · show _ < (match H1 pw with | some (.lst xs) => 200 - xs.length | _ => 0)
              rw [hmu]
              exact less _ _ (s9 _ _ (s8 _ _ h7w))
    · rintro σ H1 Q1 Q2 hq ⟨v, e1, z, q⟩
      exact ⟨v, e1, z, fun e he => by
        obtain ⟨G0, a, b, x1, x2, x3, x4, b', x5, x6⟩ := q e he
        exact ⟨G0, a, b, x1, x2, x3, x4, b', x5, hq _ _ x6⟩⟩
end
end K12
set_option maxHeartbeats 4000000
namespace K12
open PySem L2 Frac Lw Dig PySem.NumText Nm
open Ord Num Look
def Sz (p : Int × Int) : Prop := p.1.natAbs < 10 ^ 40 ∧ p.2.natAbs < 10 ^ 40
def RCmp : List PyData → PyData → Prop := fun as d => ∃ p q : Int × Int, as = [dF p, dF q] ∧ Sz p ∧ Sz q ∧ d = .int (cmp p q)
def RHow : List PyData → PyData → Prop := fun as d => ∃ p q : Int × Int, as = [dF p, dF q] ∧ Sz p ∧ Sz q ∧ d = .str (hsA p q).how
def ROpen : List PyData → PyData → Prop := fun as d => ((∃ x, as = [.str x]) ∨ ∃ b, as = [.bool b]) ∧ d = .bool false
def RAns : List PyData → PyData → Prop := fun as d => ∃ a : An, (as = [.str (S "look"), .str a.how] ∧ d = .str a.t) ∨ ∃ x, x ≠ S "look" ∧ as = [.str x, .str a.how] ∧ d = .bool (decide (a.how = x))
def RTurn : List PyData → PyData → Prop := fun as d => ∃ a : An, as = [.str a.t] ∧ d = .str a.turn.t
def RThen : List PyData → PyData → Prop := fun as d => ∃ a b : An, as = [.str a.t, .str b.t] ∧ d = .str (if a = .like then b else a).t
def RPick : List PyData → PyData → Prop := fun as d => ∃ (c : Bool) (a b : An), as = [.bool c, .str a.t, .str b.t] ∧ d = .str (if c = true then a else b).t
def RSet : List PyData → PyData → Prop := fun as d => ∃ (t : Bool) (x : Str) (b c : Bool), as = [.bool t, .str x, .list [.bool b, .bool c]] ∧ d = .bool (if t = true then b || c else b && c)
abbrev aheadT : List (Str × Str) := [(S "less", S "ahead"), (S "same", S "like"), (S "more", S "behind")]
abbrev otherT : List (Str × Str) := [(S "ahead", S "behind"), (S "like", S "like"), (S "behind", S "ahead")]
theorem ahead_at (a : An) : aheadT.find? (fun r => decide (r.1 = a.how)) = some (a.how, a.t) := by cases a <;> decide +kernel
theorem other_at (a : An) : otherT.find? (fun r => decide (r.1 = a.t)) = some (a.t, a.turn.t) := by cases a <;> decide +kernel
theorem like_t (a : An) : decide (a.t = S "like") = decide (a = .like) := by cases a <;> decide +kernel
section
variable {P : Program} {w : World} {K : PySem.W.Frag} {mg : Str → Option Value} {base : Heap}
theorem ev_txs {σ : St} {G : Hp} {tb : TE} {x z v : Str} {rs : List (Str × Str)} (W : Txs K w.params mg x rs) (hb : Ev K tb σ G (.str z)) (h : rs.find? (fun r => decide (r.1 = z)) = some (z, v)) :
    Ev K (tOp (fun x y H Q => ∃ z a g v u, x = .ref a ∧ y = .str z ∧ DictK K w.params a g ∧ g z = some (v, u) ∧ Q v H) (tC (.ref W.a)) tb) σ G (.str v) :=
  fun G1 H s1 s2 Q k => hb G1 H s1 s2 _ fun u G2 H2 g2 hu => by
    obtain ⟨u', hu'⟩ := W.yes z v h
    rw [hu.str]
    exact ⟨z, W.a, W.g, .str v, u', rfl, rfl, W.D, hu', k _ G2 H2 g2 (dat_str _)⟩
theorem ok_compared (T : Top K mg) : FnOk P w K mg base CX0 1 T.f_compared T.fd_compared ["one", "other"] (spP K RCmp) := by
  refine T.F_compared.ok sc_compared (fun vs H Q E h => ?_) (fun cdv A outer s H vs Q E hr h => ?_)
  · obtain ⟨G, as, d, sg, hv, ⟨p, q, rfl, _⟩, _⟩ := h
    rw [hv.length]; rfl
  · obtain ⟨G, as, d, sg, hv, ⟨p, q, rfl, hp, hq, rfl⟩, k⟩ := h
    obtain ⟨v1, r1, rfl, h1, hv⟩ := hv.cons
    obtain ⟨v2, r2, rfl, h2, hv⟩ := hv.cons
    cases hv.nil
    have zz : ∀ {x : Int}, x.natAbs < 10 ^ 40 → x.natAbs < 10 ^ 100 := fun h => Nat.lt_of_lt_of_le h (by decide)
    refine ⟨_, (pss_cons (ps_set (i := 2) sc_compared.nd rfl (Or.inl rfl) (pe_op op_mulW (pe_ix (ix_tupK (K := K) rfl) (pv 0) pe_int (fun _ _ => rfl)) (pe_ix (ix_tupK (K := K) rfl) (pv 1) pe_int (fun _ _ => rfl))))
      (pss_cons (ps_set (i := 3) sc_compared.nd rfl (Or.inl rfl) (pe_op op_mulW (pe_ix (ix_tupK (K := K) rfl) (pv 1) pe_int (fun _ _ => rfl)) (pe_ix (ix_tupK (K := K) rfl) (pv 0) pe_int (fun _ _ => rfl))))
      (pss_cons (ps_if (pt_cmpR op_lt (pv 2) (pv 3) (nomark _)) (pss_one (ps_ret (pe_un un_neg pe_int))) pss_nil)
      (pss_cons (ps_if (pt_cmpR op_gt (pv 2) (pv 3) (nomark _)) (pss_one (ps_ret pe_int)) pss_nil)
      (pss_one (ps_ret pe_int)))))) , ?_⟩
    refine asg_ev (K := K) (ev_iC (ev_ixT (ev_var rfl h1) ev_int rfl rfl) (ev_ixT (ev_var rfl h2) ev_int rfl rfl) (mw (zz hp.1) (zz hq.2)) (dat_int _)) sg fun v3 G1 H1 g1 h3 => ?_
    refine asg_ev (K := K) (ev_iC (ev_ixT (ev_var rfl (h2.same g1.gg)) ev_int rfl rfl) (ev_ixT (ev_var rfl (h1.same g1.gg)) ev_int rfl rfl) (mw (zz hq.1) (zz hp.2)) (dat_int _)) g1.gh fun v4 G2 H2 g2 h4 => ?_
    have g12 := g1.trans g2
    refine if_ev (evt_test (K := K) (ev_i0 (ev_var rfl (h3.same g2.gg)) (ev_var rfl h4) (dat_bl _))) g2.gh (fun e G3 H3 g3 => ?_) (fun e G3 H3 g3 => ?_)
    · have e' := of_decide_eq_true e
      have : cmp p q = -1 := by unfold cmp; rw [if_pos e']
      exact ⟨1, rfl, k (.int (-1)) G3 H3 (g12.trans g3) (by rw [this]; exact dat_int _)⟩
    · have e' := of_decide_eq_false e
      refine if_ev (evt_test (K := K) (ev_i0 (ev_var rfl ((h3.same g2.gg).same g3.gg)) (ev_var rfl (h4.same g3.gg)) (dat_bl _))) g3.gh (fun f G4 H4 g4 => ?_) (fun f G4 H4 g4 => ?_)
      · have f' := of_decide_eq_true f
        have : cmp p q = 1 := by unfold cmp; rw [if_neg e', if_pos f']
        exact k (.int 1) G4 H4 ((g12.trans g3).trans g4) (by rw [this]; exact dat_int _)
      · have f' := of_decide_eq_false f
        have : cmp p q = 0 := by unfold cmp; rw [if_neg e', if_neg f']
        exact k (.int 0) G4 H4 ((g12.trans g3).trans g4) (by rw [this]; exact dat_int _)
theorem ok_how (T : Top K mg) : FnOk P w K mg base CX0 2 T.f_how_stands T.fd_how_stands ["one", "other"] (spP K RHow) := by
  have G_compared : FnOk P w K mg base CX0 1 T.f_compared T.fd_compared ["one", "other"] (spP K RCmp) := ok_compared T
  refine T.F_how_stands.ok sc_how_stands (fun vs H Q E h => ?_) (fun cdv A outer s H vs Q E hr h => ?_)
  · obtain ⟨G, as, d, sg, hv, ⟨p, q, rfl, _⟩, _⟩ := h
    rw [hv.length]; rfl
  · obtain ⟨G, as, d, sg, hv, ⟨p, q, rfl, hp, hq, rfl⟩, k⟩ := h
    obtain ⟨v1, r1, rfl, h1, hv⟩ := hv.cons
    obtain ⟨v2, r2, rfl, h2, hv⟩ := hv.cons
    cases hv.nil
    refine ⟨_, (pss_cons (ps_set (i := 2) sc_how_stands.nd rfl (Or.inl rfl) (pe_call G_compared hr (by rfl) T.m_compared T.F_compared.kp T.b_compared .nil pass0 (pa_cons (pv 0) (pa_cons (pv 1) pa_nil st_Name) st_Name)))
      (pss_cons (ps_if (pt_cmpR op_eq (pv 2) pe_int (nomark _)) (pss_one (ps_ret pe_str)) pss_nil)
      (pss_one (ps_ret (pe_ifExp (pt_cmpR op_lt (pv 2) pe_int (nomark _)) pe_str pe_str))))) , ?_⟩
    refine asg_ev (K := K) (ev_call (E := E0) (R := RCmp) (d := .int (cmp p q)) (eva_cons (ev_var rfl h1) (eva_cons (ev_var rfl h2) eva_nil)) ⟨p, q, rfl, hp, hq, rfl⟩) sg fun v3 G1 H1 g1 h3 => ?_
    refine if_ev (evt_test (K := K) (ev_eqI (ev_var rfl h3) ev_int)) g1.gh (fun e G2 H2 g2 => ?_) (fun e G2 H2 g2 => ?_)
    · refine ret_ev (K := K) (G := G2) (d := .str (hsA p q).how) (ev_d ev_str ?_) g2.gh fun v G3 H3 g3 hv => k v G3 H3 ((g1.trans g2).trans g3) hv
      have e' := of_decide_eq_true e
      unfold cmp at e'
      unfold hsA
      split at e'
      · cases e'
      · split at e'
        · cases e'
        · rename_i n1 n2; rw [if_neg n1, if_neg n2]; rfl
    · refine ret_ev (K := K) (G := G2) (d := .str (hsA p q).how) (ev_ite (evt_test (K := K) (ev_i0 (ev_var rfl (h3.same g2.gg)) ev_int (dat_bl _))) (fun f => ev_d ev_str ?_) (fun f => ev_d ev_str ?_)) g2.gh fun v G3 H3 g3 hv => k v G3 H3 ((g1.trans g2).trans g3) hv
      · have f' := of_decide_eq_true f
        unfold cmp at f'
        unfold hsA
        split at f'
        · rename_i n1; rw [if_pos n1]; rfl
        · split at f'
          · cases f'
          · cases f'
      · have f' := of_decide_eq_false f
        have e' := of_decide_eq_false e
        unfold cmp at f' e'
        unfold hsA
        split at f'
        · exact absurd (by decide) f'
        · rename_i n1
          rw [if_neg n1] at e' ⊢
          split at f'
          · rename_i n2; rw [if_pos n2]; rfl
          · rename_i n2; rw [if_neg n2] at e'; exact absurd rfl e'
theorem ok_open (T : Top K mg) : FnOk P w K mg base CX0 1 T.f_is_open T.fd_is_open ["part"] (spP K ROpen) := by
  refine T.F_is_open.ok sc_is_open (fun vs H Q E h => ?_) (fun cdv A outer s H vs Q E hr h => ?_)
  · obtain ⟨G, as, d, sg, hv, ⟨h1, _⟩, _⟩ := h
    rw [hv.length]
    rcases h1 with ⟨x, rfl⟩ | ⟨b, rfl⟩ <;> rfl
  · obtain ⟨G, as, d, sg, hv, ⟨h0, rfl⟩, k⟩ := h
    refine ⟨_, (pss_one (ps_ret (pe_callB (call_isD (K := K) rfl) (by rfl) T.isinstance_ bIsi (pa_cons (pv 0) (pa_cons (pe_bltn (v := .ty "tuple") (by rfl) T.tuple_ bTup rfl) pa_nil))))) , ?_⟩
    rcases h0 with ⟨x, rfl⟩ | ⟨b, rfl⟩
    · obtain ⟨v1, r1, rfl, h1, hv⟩ := hv.cons
      cases hv.nil
      exact ret_ev (K := K) (ev_isD (ev_var rfl h1) T.st) sg k
    · obtain ⟨v1, r1, rfl, h1, hv⟩ := hv.cons
      cases hv.nil
      exact ret_ev (K := K) (ev_isD (ev_var rfl h1) T.bt) sg k
theorem ok_answer (T : Top K mg) (W1 : Txs K w.params mg "AHEAD" aheadT) : FnOk P w K mg base CX0 1 T.f_answer T.fd_answer ["word", "how"] (spP K RAns) := by
  refine T.F_answer.ok sc_answer (fun vs H Q E h => ?_) (fun cdv A outer s H vs Q E hr h => ?_)
  · obtain ⟨G, as, d, sg, hv, ⟨a, h1⟩, _⟩ := h
    rw [hv.length]
    rcases h1 with ⟨rfl, _⟩ | ⟨x, _, rfl, _⟩ <;> rfl
  · obtain ⟨G, as, d, sg, hv, ⟨a, h0⟩, k⟩ := h
    refine ⟨_, (pss_one (ps_ret (pe_ifExp (pt_cmpR op_eq (pv 0) pe_str (nomark _)) (pe_ix ix_dictK (pe_glob (v := .ref W1.a) (by rfl) W1.m rfl) (pv 1) (fun _ _ => rfl)) (pe_cmpR op_eq (pv 1) (pv 0) (nomark _))))) , ?_⟩
    rcases h0 with ⟨rfl, rfl⟩ | ⟨x, hx, rfl, rfl⟩
    · obtain ⟨v1, r1, rfl, h1, hv⟩ := hv.cons
      obtain ⟨v2, r2, rfl, h2, hv⟩ := hv.cons
      cases hv.nil
      exact ret_ev (K := K) (ev_ite (evt_test (K := K) (ev_eqS (ev_var rfl h1) ev_str)) (fun _ => ev_txs W1 (ev_var rfl h2) (ahead_at a)) (fun z => absurd (of_decide_eq_false z) (fun n => n rfl))) sg k
    · obtain ⟨v1, r1, rfl, h1, hv⟩ := hv.cons
      obtain ⟨v2, r2, rfl, h2, hv⟩ := hv.cons
      cases hv.nil
      exact ret_ev (K := K) (ev_ite (evt_test (K := K) (ev_eqS (ev_var rfl h1) ev_str)) (fun z => absurd (of_decide_eq_true z) hx) (fun _ => ev_eqS (ev_var rfl h2) (ev_var rfl h1))) sg k
theorem ok_turned (T : Top K mg) (W2 : Txs K w.params mg "OTHER_WAY" otherT) : FnOk P w K mg base CX0 2 T.f_turned_about T.fd_turned_about ["part"] (spP K RTurn) := by
  have G_is_open : FnOk P w K mg base CX0 1 T.f_is_open T.fd_is_open ["part"] (spP K ROpen) := ok_open T
  refine T.F_turned_about.ok sc_turned_about (fun vs H Q E h => ?_) (fun cdv A outer s H vs Q E hr h => ?_)
  · obtain ⟨G, as, d, sg, hv, ⟨a, rfl, _⟩, _⟩ := h
    rw [hv.length]; rfl
  · obtain ⟨G, as, d, sg, hv, ⟨a, rfl, rfl⟩, k⟩ := h
    obtain ⟨v1, r1, rfl, h1, hv⟩ := hv.cons
    cases hv.nil
    refine ⟨_, (pss_one (ps_ret (pe_ifExp (pt_val (pe_call G_is_open hr (by rfl) T.m_is_open T.F_is_open.kp T.b_is_open .nil pass0 (pa_cons (pv 0) pa_nil st_Name))) (pe_tup (pa_cons pe_str (pa_cons (pv 0) pa_nil st_Name) st_Constant)) (pe_ix ix_dictK (pe_glob (v := .ref W2.a) (by rfl) W2.m rfl) (pv 0) (fun _ _ => rfl))))) , ?_⟩
    exact ret_ev (K := K) (ev_ite (evt_b (K := K) (ev_call (E := E0) (R := ROpen) (d := .bool false) (eva_cons (ev_var rfl h1) eva_nil) ⟨.inl ⟨_, rfl⟩, rfl⟩)) (fun z => nomatch z) (fun _ => ev_txs W2 (ev_var rfl h1) (other_at a))) sg k
theorem ok_then (T : Top K mg) : FnOk P w K mg base CX0 2 T.f_one_then_other T.fd_one_then_other ["one", "other"] (spP K RThen) := by
  have G_is_open : FnOk P w K mg base CX0 1 T.f_is_open T.fd_is_open ["part"] (spP K ROpen) := ok_open T
  refine T.F_one_then_other.ok sc_one_then_other (fun vs H Q E h => ?_) (fun cdv A outer s H vs Q E hr h => ?_)
  · obtain ⟨G, as, d, sg, hv, ⟨a, b, rfl, _⟩, _⟩ := h
    rw [hv.length]; rfl
  · obtain ⟨G, as, d, sg, hv, ⟨a, b, rfl, rfl⟩, k⟩ := h
    obtain ⟨v1, r1, rfl, h1, hv⟩ := hv.cons
    obtain ⟨v2, r2, rfl, h2, hv⟩ := hv.cons
    cases hv.nil
    refine ⟨_, (pss_cons (ps_if (pt_val (pe_call G_is_open hr (by rfl) T.m_is_open T.F_is_open.kp T.b_is_open .nil pass0 (pa_cons (pv 0) pa_nil st_Name))) (pss_one (ps_ret (pe_tup (pa_cons pe_str (pa_cons (pv 0) (pa_cons (pv 1) pa_nil st_Name) st_Name) st_Constant)))) pss_nil)
      (pss_one (ps_ret (pe_ifExp (pt_cmpR op_eq (pv 0) pe_str (nomark _)) (pv 1) (pv 0))))) , ?_⟩
    refine if_no (evt_b (K := K) (ev_call (E := E0) (R := ROpen) (d := .bool false) (eva_cons (ev_var rfl h1) eva_nil) ⟨.inl ⟨_, rfl⟩, rfl⟩)) sg fun G1 H1 g1 => ?_
    refine ret_ev (K := K) (G := G1) (ev_ite (evt_test (K := K) (ev_eqS (ev_var rfl (h1.same g1.gg)) ev_str)) (fun z => ?_) (fun z => ?_)) g1.gh fun v G' H' g hv => k v G' H' (g1.trans g) hv
    · rw [like_t] at z
      rw [if_pos (of_decide_eq_true z)]
      exact ev_var rfl (h2.same g1.gg)
    · rw [like_t] at z
      rw [if_neg (of_decide_eq_false z)]
      exact ev_var rfl (h1.same g1.gg)
theorem ok_picked (T : Top K mg) : FnOk P w K mg base CX0 2 T.f_picked T.fd_picked ["case", "one", "other"] (spP K RPick) := by
  have G_is_open : FnOk P w K mg base CX0 1 T.f_is_open T.fd_is_open ["part"] (spP K ROpen) := ok_open T
  refine T.F_picked.ok sc_picked (fun vs H Q E h => ?_) (fun cdv A outer s H vs Q E hr h => ?_)
  · obtain ⟨G, as, d, sg, hv, ⟨c, a, b, rfl, _⟩, _⟩ := h
    rw [hv.length]; rfl
  · obtain ⟨G, as, d, sg, hv, ⟨c, a, b, rfl, rfl⟩, k⟩ := h
    obtain ⟨v1, r1, rfl, h1, hv⟩ := hv.cons
    obtain ⟨v2, r2, rfl, h2, hv⟩ := hv.cons
    obtain ⟨v3, r3, rfl, h3, hv⟩ := hv.cons
    cases hv.nil
    refine ⟨_, (pss_cons (ps_if (pt_val (pe_call G_is_open hr (by rfl) T.m_is_open T.F_is_open.kp T.b_is_open .nil pass0 (pa_cons (pv 0) pa_nil st_Name))) (pss_one (ps_ret (pe_tup (pa_cons pe_str (pa_cons (pv 0) (pa_cons (pv 1) (pa_cons (pv 2) pa_nil st_Name) st_Name) st_Name) st_Constant)))) pss_nil)
      (pss_one (ps_ret (pe_ifExp (pt_val (pv 0)) (pv 1) (pv 2))))) , ?_⟩
    refine if_no (evt_b (K := K) (ev_call (E := E0) (R := ROpen) (d := .bool false) (eva_cons (ev_var rfl h1) eva_nil) ⟨.inr ⟨_, rfl⟩, rfl⟩)) sg fun G1 H1 g1 => ?_
    refine ret_ev (K := K) (G := G1) (ev_ite (evt_b (K := K) (ev_var rfl (h1.same g1.gg))) (fun z => ?_) (fun z => ?_)) g1.gh fun v G' H' g hv => k v G' H' (g1.trans g) hv
    · subst z; exact ev_var rfl (h2.same g1.gg)
    · subst z; exact ev_var rfl (h3.same g1.gg)
end
end K12
set_option maxHeartbeats 4000000
namespace K12
open PySem L2 Frac Lw Dig PySem.NumText Nm
open Ord Num Look
section
variable {P : Program} {w : World} {K : PySem.W.Frag} {mg : Str → Option Value} {base : Heap}
theorem ev_notV {σ : St} {G : Hp} {ta : TE} {b : Bool} (h : Ev K ta σ G (.bool b)) : Ev K (tNotV ta) σ G (.bool (!b)) :=
  fun G1 H s1 s2 Q k => h G1 H s1 s2 _ fun v G2 H2 g2 hv => ⟨b, hv.bl, k _ G2 H2 g2 (dat_bl _)⟩
theorem ev_inB {σ : St} {G : Hp} {ta tb : TE} {t b c : Bool} (ha : Ev K ta σ G (.bool t)) (hb : Ev K tb σ G (.list [.bool b, .bool c])) : Ev K (tOp (rIn K false) ta tb) σ G (.bool (b == t || c == t)) :=
  ev_op ha hb fun G1 H u v Q s1 s2 hu hv k => by
    obtain ⟨p, xs, rfl, hp, hx⟩ := hv.lst
    obtain ⟨y1, r1, rfl, h1, hx⟩ := hx.cons
    obtain ⟨y2, r2, rfl, h2, hx⟩ := hx.cons
    cases hx.nil
    rw [hu.bl]
    rw [h1.bl, h2.bl] at hp
    refine ⟨p, _, rfl, .inl (SqL.of (s2 _ _ hp)), rfl, rfl, ?_⟩
    have e : inV (.bl t) [.bl b, .bl c] = (b == t || c == t) := by cases t <;> cases b <;> cases c <;> rfl
    show Q (.bl (inV (.bl t) [.bl b, .bl c])) H
    rw [e]
    exact k _ G1 H (Grow.refl s2) (dat_bl _)
theorem ok_settled (T : Top K mg) : FnOk P w K mg base CX0 2 T.f_settled_by T.fd_settled_by ["truth", "word", "parts"] (spP K RSet) := by
  have G_is_open : FnOk P w K mg base CX0 1 T.f_is_open T.fd_is_open ["part"] (spP K ROpen) := ok_open T
  refine T.F_settled_by.ok sc_settled_by (fun vs H Q E h => ?_) (fun cdv A outer s H vs Q E hr h => ?_)
  · obtain ⟨G, as, d, sg, hv, ⟨t, x, b, c, rfl, _⟩, _⟩ := h
    rw [hv.length]; rfl
  · obtain ⟨G, as, d, sg, hv, ⟨t, x, b, c, rfl, rfl⟩, k⟩ := h
    have hu := hr.units
    obtain ⟨v1, r1, rfl, h1, hv⟩ := hv.cons
    obtain ⟨v2, r2, rfl, h2, hv⟩ := hv.cons
    obtain ⟨v3, r3, rfl, h3, hv⟩ := hv.cons
    cases hv.nil
    refine ⟨_, (pss_cons (ps_if (pt_cmpR op_in_seq (pv 0) (pv 2) (by rfl)) (pss_one (ps_ret (pv 0))) pss_nil)
      (pss_cons (ps_lc (x := "part") (cap := []) (js := []) (i := 3) (y := "rest") ⟨rfl, by decide +kernel, by decide +kernel, rfl, (by show ∀ p ∈ (_ : List (Str × NameKind)), p.2 = NameKind.free → List.lookup p.1 (defScope s_settled_by).names = some NameKind.cell; decide +kernel), by decide +kernel, by decide +kernel, by decide +kernel⟩ rfl rfl (fun _ _ h => h) sc_settled_by.nd rfl rfl (pi_list (pv 2)) (fun _ _ _ _ => ⟨(pif_one (pt_val (pe_call G_is_open hr (by rfl) T.m_is_open T.F_is_open.kp T.b_is_open .nil pass0 (pa_cons (pv 0) pa_nil st_Name)))), (pv 0)⟩))
      (pss_cons (ps_if (pt_cmpR (op_eqDK (K := K) rfl hu) (pv 3) (pe_lst pa_nil) (nomark _)) (pss_one (ps_ret (pe_not (pv 0)))) pss_nil)
      (pss_one (ps_ret (pe_ifExp (pt_cmpR op_eq (pe_callB (call_lenK (K := K) rfl) (by rfl) T.len_ PySem.boot_len (pa_cons (pv 3) pa_nil st_Name)) pe_int (nomark _)) (pe_ix (ix_listK (K := K) rfl) (pv 3) pe_int (fun _ _ => rfl)) (pe_tup (pa_cons (pv 1) (pa_cons (pe_ix (ix_listK (K := K) rfl) (pv 3) pe_int (fun _ _ => rfl)) (pa_cons (pe_ix (ix_listK (K := K) rfl) (pv 3) pe_int (fun _ _ => rfl)) pa_nil st_Subscript) st_Subscript) st_Name)))))))) , ?_⟩
    refine if_ev (evt_test (K := K) (ev_inB (ev_var rfl h1) (ev_var rfl h3))) sg (fun z G1 H1 g1 => ?_) (fun z G1 H1 g1 => ?_)
    · refine ret_ev (K := K) (G := G1) (d := .bool (if t = true then b || c else b && c)) (ev_d (ev_var rfl (h1.same g1.gg)) ?_) g1.gh fun v G' H' g hv => k v G' H' (g1.trans g) hv
      revert z; cases t <;> cases b <;> cases c <;> simp
    · have h3' : Dat K G1 v3 (.list ([b, c].map PyData.bool)) := h3.same g1.gg
      refine (ev_lcL (K := K) (G := G1) [b, c] PyData.bool (fun _ => none) (ev_var rfl h3') (by show 2 < sizeLine; decide) (fun G2 i a x sG ha hx => ?_)).use g1.gh fun v4 G2 H2 g2 h4 => ?_
      · exact .inr ⟨rfl, evt_b (K := K) (ev_call (E := E0) (R := ROpen) (d := .bool false) (eva_cons (ev_var rfl hx) eva_nil) ⟨.inr ⟨_, rfl⟩, rfl⟩)⟩
      · have h4' : Dat K G2 v4 (.list []) := by
          have e : [b, c].filterMap (fun _ => (none : Option PyData)) = [] := rfl
          rw [e] at h4; exact h4
        have pl0 : Pl 2 (.list []) := pl_lst fun x hx => by cases hx
        refine if_ev (evt_test (K := K) (ev_eqD (ev_var rfl h4') (ev_lst eva_nil (by decide)) pl0 pl0 (by decide))) g2.gh (fun y G3 H3 g3 => ?_) (fun y => ?_)
        · refine ret_ev (K := K) (G := G3) (d := .bool (if t = true then b || c else b && c)) (ev_d (ev_notV (ev_var rfl (((h1.same g1.gg).same g2.gg).same g3.gg))) ?_) g3.gh fun v G' H' g hv => k v G' H' (((g1.trans g2).trans g3).trans g) hv
          revert z; cases t <;> cases b <;> cases c <;> simp
        · rw [PySem.Spec.same_self] at y; cases y
def spTaken : Sp := fun vs H Q _ => ∃ (p : Addr) (n : Nat) (xs : List V), vs = [.ref p, .int (n : Nat)] ∧ H p = some (.lst xs) ∧ n ≤ xs.length ∧ n ≤ 1000 ∧
  ∀ l H', H l = none → l ≠ p → H' l = some (.lst (xs.drop (xs.length - n)).reverse) → H' p = some (.lst (xs.take (xs.length - n))) → (∀ b, b ≠ l → b ≠ p → H' b = H b) → Q (.ref l) H'
theorem ok_taken (T : Top K mg) : FnOk P w K mg base CX0 1 T.f_taken T.fd_taken ["told", "many"] spTaken := by
  refine T.F_taken.ok sc_taken (fun vs H Q E h => ?_) (fun cdv A outer s H vs Q E hr h => ?_)
  · obtain ⟨p, n, xs, rfl, _⟩ := h
    rfl
  · obtain ⟨p, n, xs, rfl, hp, hn, hm, k⟩ := h
    have zl : (2000 : Nat) ≤ sizeLine := by decide
    refine ⟨_, (pss_cons (ps_set (i := 2) sc_taken.nd rfl (Or.inl rfl) (pe_lst pa_nil))
      (pss_cons (ps_while PassesOwn.never (pt_cmpR op_lt (pe_callB (call_lenK (K := K) rfl) (by rfl) T.len_ PySem.boot_len (pa_cons (pv 2) pa_nil st_Name)) (pv 1) (nomark _)) (pss_one (ps_expr (pe_bm PySem.F.plainAttrs_list PySem.F.slot_list_append PySem.F.type_list_append mt_append (pv 2) (pa_cons (pe_bm0 PySem.F.plainAttrs_list PySem.F.slot_list_pop PySem.F.type_list_pop mt_pop (pv 0)) pa_nil st_Call)))))
      (pss_one (ps_ret (pv 2))))) , ?_⟩
    refine ⟨(by show 0 ≤ sizeLine; decide), fun l hl => ?_⟩
    have nlp : l ≠ p := fun z => by subst z; rw [hp] at hl; cases hl
    refine while_by (fun σ H' => ∃ j, j ≤ n ∧ σ = [some (.ref p), some (.int (n : Nat)), some (.ref l)] ∧ H' l = some (.lst (xs.drop (xs.length - j)).reverse) ∧ H' p = some (.lst (xs.take (xs.length - j))) ∧ ∀ b, b ≠ l → b ≠ p → H' b = H b) (fun σ H' => match H' l with | some (.lst ys) => n - ys.length | _ => 0)
      ⟨0, Nat.zero_le _, rfl, by rw [upd_same]; simp, by rw [upd_ne (Ne.symm nlp), hp]; simp, fun b h1 h2 => by rw [upd_ne h1]⟩ ?_ ?_
    · rintro σ H1 ⟨j, hj, rfl, h1, h2, h3⟩
      have hlen : ((xs.drop (xs.length - j)).reverse).length = j := by rw [List.length_reverse, List.length_drop]; omega
      have hlt : (xs.take (xs.length - j)).length = xs.length - j := by rw [List.length_take]; omega
      have hmu : (match H1 l with | some (.lst ys) => n - ys.length | _ => 0) = n - j := by rw [h1]; show n - _ = _; rw [hlen]
      refine ⟨_, rfl, l, _, rfl, .inl (SqL.of h1), _, rfl, _, _, rfl, rfl, _, rfl, ?_⟩
      by_cases hjn : j < n
      · have e : decide (((xs.drop (xs.length - j)).reverse.length : Int) < (n : Nat)) = true := decide_eq_true (by rw [hlen]; omega)
        rw [e]
        refine iteT ?_
        have hy : (xs.take (xs.length - j))[(xs.take (xs.length - j)).length - 1]? = some (xs[xs.length - j - 1]'(by omega)) := by
          rw [hlt, List.getElem?_take_of_lt (by omega), List.getElem?_eq_getElem]
        have edl : (xs.take (xs.length - j)).dropLast = xs.take (xs.length - (j + 1)) := by
          rw [List.dropLast_eq_take, hlt, List.take_take]
          congr 1; omega
        have edr : (xs.drop (xs.length - j)).reverse ++ [xs[xs.length - j - 1]'(by omega)] = (xs.drop (xs.length - (j + 1))).reverse := by
          have : xs.drop (xs.length - (j + 1)) = xs[xs.length - j - 1]'(by omega) :: xs.drop (xs.length - j) := by
            rw [List.drop_eq_getElem_cons (by omega : xs.length - (j + 1) < xs.length)]
            congr 1
            congr 1; omega
          rw [this, List.reverse_cons]
        refine ⟨_, rfl, .inl ⟨rfl, _, SqL.of h1⟩, _, rfl, .inl ⟨rfl, _, SqL.of h2⟩, p, _, _, rfl, rfl, h2, hy, l, _, _, rfl, rfl, (by rw [upd_ne nlp]; exact h1), (by rw [hlen]; omega), ?_, ?_⟩
        · refine ⟨j + 1, hjn, rfl, by rw [upd_same, edr], by rw [upd_ne (Ne.symm nlp), upd_same, edl], fun b hb1 hb2 => by rw [upd_ne hb1, upd_ne hb2]; exact h3 b hb1 hb2⟩
        · show (match L2.upd _ l _ l with | some (.lst ys) => n - ys.length | _ => 0) < _
          rw [hmu, upd_same]
          show n - _ < _
          rw [List.length_append, hlen]
          show n - (j + 1) < n - j
          omega
      · have e : decide (((xs.drop (xs.length - j)).reverse.length : Int) < (n : Nat)) = false := decide_eq_false (by rw [hlen]; omega)
        rw [e]
        refine iteF ?_
        have : j = n := by omega
        subst this
        exact ⟨_, rfl, k l H1 hl nlp h1 h2 h3⟩
    · rintro σ H1 Q1 Q2 hq ⟨v, e1, p', ys, e2, e3, v2, e4, i, j, e5, e6, c, e7, e8⟩
      exact ⟨v, e1, p', ys, e2, e3, v2, e4, i, j, e5, e6, c, e7, hq _ _ e8⟩
end
def RPut : List PyData → PyData → Prop := fun as d => ∃ (x : Str) (n : Nat) (vs : List Tv), as = [.str x, .list (vs.map Tv.d)] ∧ d = (appN ⟨fun _ => .like, fun _ _ _ => .like, fun _ _ _ => .like⟩ n vs).d ∧
  ((x = S "then" ∧ n = 3 ∧ ∃ a b, vs = [.an a, .an b]) ∨ (x = S "turn" ∧ n = 4 ∧ ∃ a, vs = [.an a]) ∨ (x = S "pick" ∧ n = 5 ∧ ∃ c a b, vs = [.tr c, .an a, .an b]) ∨ (x = S "not" ∧ n = 9 ∧ ∃ a, vs = [.tr a]) ∨ (x = S "and" ∧ n = 10 ∧ ∃ a b, vs = [.tr a, .tr b]) ∨ (x = S "or" ∧ n = 11 ∧ ∃ a b, vs = [.tr a, .tr b]))
theorem words_ne : (S "turn" ≠ S "then" ∧ S "pick" ≠ S "then" ∧ S "pick" ≠ S "turn") ∧ (S "not" ≠ S "then" ∧ S "not" ≠ S "turn" ∧ S "not" ≠ S "pick") ∧ (S "and" ≠ S "then" ∧ S "and" ≠ S "turn" ∧ S "and" ≠ S "pick" ∧ S "and" ≠ S "not") ∧ (S "or" ≠ S "then" ∧ S "or" ≠ S "turn" ∧ S "or" ≠ S "pick" ∧ S "or" ≠ S "not") ∧ S "and" ≠ S "or" := by decide +kernel
section
variable {P : Program} {w : World} {K : PySem.W.Frag} {mg : Str → Option Value} {base : Heap}
theorem if_yes {G H : Hp} {D : Ends} {σ : St} {tc : TT} {t u : TS} (h : EvT tc σ G true) (s : Same G H) (k : ∀ G' H', Grow G H G' H' → t D σ H') : tIfS tc t u D σ H := if_ev h s (fun _ => k) fun z => nomatch z
theorem evt_is {σ : St} {G : Hp} {ta tb : TE} {x y : Str} (ha : Ev K ta σ G (.str x)) (hb : Ev K tb σ G (.str y)) (e : x = y) : EvT (tTest (tOp rEq ta tb)) σ G true := evt_c (evt_test (K := K) (ev_eqS ha hb)) (decide_eq_true e)
theorem evt_isnt {σ : St} {G : Hp} {ta tb : TE} {x y : Str} (ha : Ev K ta σ G (.str x)) (hb : Ev K tb σ G (.str y)) (e : x ≠ y) : EvT (tTest (tOp rEq ta tb)) σ G false := evt_c (evt_test (K := K) (ev_eqS ha hb)) (decide_eq_false e)
theorem ok_put (T : Top K mg) (W2 : Txs K w.params mg "OTHER_WAY" otherT) : FnOk P w K mg base CX0 3 T.f_put_together T.fd_put_together ["word", "parts"] (spP K RPut) := by
  have G_is_open : FnOk P w K mg base CX0 2 T.f_is_open T.fd_is_open ["part"] (spP K ROpen) := (ok_open T).mono (by decide)
  have G_one_then_other : FnOk P w K mg base CX0 2 T.f_one_then_other T.fd_one_then_other ["one", "other"] (spP K RThen) := ok_then T
  have G_turned_about : FnOk P w K mg base CX0 2 T.f_turned_about T.fd_turned_about ["part"] (spP K RTurn) := ok_turned T W2
  have G_picked : FnOk P w K mg base CX0 2 T.f_picked T.fd_picked ["case", "one", "other"] (spP K RPick) := ok_picked T
  have G_settled_by : FnOk P w K mg base CX0 2 T.f_settled_by T.fd_settled_by ["truth", "word", "parts"] (spP K RSet) := ok_settled T
  obtain ⟨⟨n1, n2, n3⟩, ⟨m1, m2, m3⟩, ⟨a1, a2, a3, a4⟩, ⟨o1, o2, o3, o4⟩, ao⟩ := words_ne
  refine T.F_put_together.ok sc_put_together (fun vs H Q E h => ?_) (fun cdv A outer s H vs Q E hr h => ?_)
  · obtain ⟨G, as, d, sg, hv, ⟨x, n, us, rfl, _⟩, _⟩ := h
    rw [hv.length]; rfl
  · obtain ⟨G, as, d, sg, hv, ⟨x, n, us, rfl, rfl, hx⟩, k⟩ := h
    obtain ⟨v1, r1, rfl, h1, hv⟩ := hv.cons
    obtain ⟨v2, r2, rfl, h2, hv⟩ := hv.cons
    cases hv.nil
    refine ⟨_, (pss_cons (ps_if (pt_cmpR op_eq (pv 0) pe_str (nomark _)) (pss_one (ps_ret (pe_call G_one_then_other hr (by rfl) T.m_one_then_other T.F_one_then_other.kp T.b_one_then_other .nil pass0 (pa_cons (pe_ix (ix_listK (K := K) rfl) (pv 1) pe_int (fun _ _ => rfl)) (pa_cons (pe_ix (ix_listK (K := K) rfl) (pv 1) pe_int (fun _ _ => rfl)) pa_nil st_Subscript) st_Subscript)))) pss_nil)
      (pss_cons (ps_if (pt_cmpR op_eq (pv 0) pe_str (nomark _)) (pss_one (ps_ret (pe_call G_turned_about hr (by rfl) T.m_turned_about T.F_turned_about.kp T.b_turned_about .nil pass0 (pa_cons (pe_ix (ix_listK (K := K) rfl) (pv 1) pe_int (fun _ _ => rfl)) pa_nil st_Subscript)))) pss_nil)
      (pss_cons (ps_if (pt_cmpR op_eq (pv 0) pe_str (nomark _)) (pss_one (ps_ret (pe_call G_picked hr (by rfl) T.m_picked T.F_picked.kp T.b_picked .nil pass0 (pa_cons (pe_ix (ix_listK (K := K) rfl) (pv 1) pe_int (fun _ _ => rfl)) (pa_cons (pe_ix (ix_listK (K := K) rfl) (pv 1) pe_int (fun _ _ => rfl)) (pa_cons (pe_ix (ix_listK (K := K) rfl) (pv 1) pe_int (fun _ _ => rfl)) pa_nil st_Subscript) st_Subscript) st_Subscript)))) pss_nil)
      (pss_cons (ps_if (pt_cmpR op_eq (pv 0) pe_str (nomark _)) (pss_one (ps_ret (pe_ifExp (pt_val (pe_call G_is_open hr (by rfl) T.m_is_open T.F_is_open.kp T.b_is_open .nil pass0 (pa_cons (pe_ix (ix_listK (K := K) rfl) (pv 1) pe_int (fun _ _ => rfl)) pa_nil st_Subscript))) (pe_tup (pa_cons pe_str (pa_cons (pe_ix (ix_listK (K := K) rfl) (pv 1) pe_int (fun _ _ => rfl)) pa_nil st_Subscript) st_Constant)) (pe_not (pe_ix (ix_listK (K := K) rfl) (pv 1) pe_int (fun _ _ => rfl)))))) pss_nil)
      (pss_one (ps_ret (pe_call G_settled_by hr (by rfl) T.m_settled_by T.F_settled_by.kp T.b_settled_by .nil pass0 (pa_cons (pe_cmpR op_eq (pv 0) pe_str (nomark _)) (pa_cons (pv 0) (pa_cons (pv 1) pa_nil st_Name) st_Name) st_Compare)))))))) , ?_⟩
    rcases hx with ⟨rfl, rfl, a, b, rfl⟩ | ⟨rfl, rfl, a, rfl⟩ | ⟨rfl, rfl, c, a, b, rfl⟩ | ⟨rfl, rfl, a, rfl⟩ | ⟨rfl, rfl, a, b, rfl⟩ | ⟨rfl, rfl, a, b, rfl⟩
    · refine if_yes (evt_is (K := K) (ev_var rfl h1) ev_str rfl) sg fun G1 H1 g1 => ?_
      have h2' := h2.same g1.gg
      exact ret_ev (K := K) (G := G1) (ev_call (E := E0) (R := RThen) (eva_cons (ev_ixL (ev_var rfl h2') ev_int rfl rfl) (eva_cons (ev_ixL (ev_var rfl h2') ev_int rfl rfl) eva_nil)) ⟨a, b, rfl, rfl⟩) g1.gh fun v G' H' g hv => k v G' H' (g1.trans g) hv
    · refine if_no (evt_isnt (K := K) (ev_var rfl h1) ev_str n1) sg fun G1 H1 g1 => ?_
      refine if_yes (evt_is (K := K) (ev_var rfl (h1.same g1.gg)) ev_str rfl) g1.gh fun G2 H2 g2 => ?_
      have g12 := g1.trans g2
      have h2' := h2.same g12.gg
      exact ret_ev (K := K) (G := G2) (ev_call (E := E0) (R := RTurn) (eva_cons (ev_ixL (ev_var rfl h2') ev_int rfl rfl) eva_nil) ⟨a, rfl, rfl⟩) g2.gh fun v G' H' g hv => k v G' H' (g12.trans g) hv
    · refine if_no (evt_isnt (K := K) (ev_var rfl h1) ev_str n2) sg fun G1 H1 g1 => ?_
      refine if_no (evt_isnt (K := K) (ev_var rfl (h1.same g1.gg)) ev_str n3) g1.gh fun G2 H2 g2 => ?_
      have g12 := g1.trans g2
      refine if_yes (evt_is (K := K) (ev_var rfl (h1.same g12.gg)) ev_str rfl) g2.gh fun G3 H3 g3 => ?_
      have g13 := g12.trans g3
      have h2' := h2.same g13.gg
      exact ret_ev (K := K) (G := G3) (ev_call (E := E0) (R := RPick) (eva_cons (ev_ixL (ev_var rfl h2') ev_int rfl rfl) (eva_cons (ev_ixL (ev_var rfl h2') ev_int rfl rfl) (eva_cons (ev_ixL (ev_var rfl h2') ev_int rfl rfl) eva_nil))) ⟨c, a, b, rfl, rfl⟩) g3.gh fun v G' H' g hv => k v G' H' (g13.trans g) hv
    · refine if_no (evt_isnt (K := K) (ev_var rfl h1) ev_str m1) sg fun G1 H1 g1 => ?_
      refine if_no (evt_isnt (K := K) (ev_var rfl (h1.same g1.gg)) ev_str m2) g1.gh fun G2 H2 g2 => ?_
      have g12 := g1.trans g2
      refine if_no (evt_isnt (K := K) (ev_var rfl (h1.same g12.gg)) ev_str m3) g2.gh fun G3 H3 g3 => ?_
      have g13 := g12.trans g3
      refine if_yes (evt_is (K := K) (ev_var rfl (h1.same g13.gg)) ev_str rfl) g3.gh fun G4 H4 g4 => ?_
      have g14 := g13.trans g4
      have h2' := h2.same g14.gg
      exact ret_ev (K := K) (G := G4) (ev_ite (evt_b (K := K) (ev_call (E := E0) (R := ROpen) (d := .bool false) (eva_cons (ev_ixL (ev_var rfl h2') ev_int rfl rfl) eva_nil) ⟨.inr ⟨_, rfl⟩, rfl⟩)) (fun z => nomatch z) (fun _ => ev_notV (ev_ixL (ev_var rfl h2') ev_int rfl rfl))) g4.gh fun v G' H' g hv => k v G' H' (g14.trans g) hv
    · refine if_no (evt_isnt (K := K) (ev_var rfl h1) ev_str a1) sg fun G1 H1 g1 => ?_
      refine if_no (evt_isnt (K := K) (ev_var rfl (h1.same g1.gg)) ev_str a2) g1.gh fun G2 H2 g2 => ?_
      have g12 := g1.trans g2
      refine if_no (evt_isnt (K := K) (ev_var rfl (h1.same g12.gg)) ev_str a3) g2.gh fun G3 H3 g3 => ?_
      have g13 := g12.trans g3
      refine if_no (evt_isnt (K := K) (ev_var rfl (h1.same g13.gg)) ev_str a4) g3.gh fun G4 H4 g4 => ?_
      have g14 := g13.trans g4
      exact ret_ev (K := K) (G := G4) (ev_call (E := E0) (R := RSet) (eva_cons (ev_d (ev_eqS (ev_var rfl (h1.same g14.gg)) ev_str) (by rw [decide_eq_false ao])) (eva_cons (ev_var rfl (h1.same g14.gg)) (eva_cons (ev_var rfl (h2.same g14.gg)) eva_nil))) ⟨false, _, a, b, rfl, rfl⟩) g4.gh fun v G' H' g hv => k v G' H' (g14.trans g) hv
    · refine if_no (evt_isnt (K := K) (ev_var rfl h1) ev_str o1) sg fun G1 H1 g1 => ?_
      refine if_no (evt_isnt (K := K) (ev_var rfl (h1.same g1.gg)) ev_str o2) g1.gh fun G2 H2 g2 => ?_
      have g12 := g1.trans g2
      refine if_no (evt_isnt (K := K) (ev_var rfl (h1.same g12.gg)) ev_str o3) g2.gh fun G3 H3 g3 => ?_
      have g13 := g12.trans g3
      refine if_no (evt_isnt (K := K) (ev_var rfl (h1.same g13.gg)) ev_str o4) g3.gh fun G4 H4 g4 => ?_
      have g14 := g13.trans g4
      exact ret_ev (K := K) (G := G4) (ev_call (E := E0) (R := RSet) (eva_cons (ev_d (ev_eqS (ev_var rfl (h1.same g14.gg)) ev_str) (by rw [decide_eq_true rfl])) (eva_cons (ev_var rfl (h1.same g14.gg)) (eva_cons (ev_var rfl (h2.same g14.gg)) eva_nil))) ⟨true, _, a, b, rfl, rfl⟩) g4.gh fun v G' H' g hv => k v G' H' (g14.trans g) hv
end
end K12
set_option maxHeartbeats 4000000
namespace K12
open PySem L2 Frac Lw Dig PySem.NumText Nm
open Ord Num Look
def RBF (book : List Str) (E : En) : List PyData → PyData → Prop := fun as d => ∃ z, z ∈ book ∧ ((as = [.str (S "look"), .str z] ∧ d = .str (E.look z).t) ∨ (as = [.str (S "same"), .str z] ∧ d = .bool (isA (E.look z) .like)))
def RBM (book : List Str) (num : Int → Int → Prop) (E : En) : List PyData → PyData → Prop := fun as d => ∃ z, z ∈ book ∧ ∃ a b, num a b ∧ ((as = [.str (S "less"), .str z, dF (a, b)] ∧ d = .list [.bool (isA (E.one z a b) .ahead), .bool (isA (E.two z a b) .ahead)]) ∨
  (as = [.str (S "same"), .str z, dF (a, b)] ∧ d = .list [.bool (isA (E.one z a b) .like), .bool (isA (E.two z a b) .like)]))
def RWT (book : List Str) (num : Int → Int → Prop) (E : En) : List PyData → PyData → Prop := fun as d => ∃ (x want : Str) (ps : List Str) (vs : List Tv), as = [.str x, .list (vs.map Tv.d)] ∧ wordT x = some (x, want, ps) ∧ Tys (· ∈ book) num ps vs ∧ d = (appN E (wix x) vs).d
def cls2 (P : Program) (w : World) (K : PySem.W.Frag) (mg : Str → Option Value) (base : Heap) (book : List Str) (num : Int → Int → Prop) (E : En) (f1 f2 : Addr) : Shared → Hp → Prop := fun s H => ClOk P w K mg base 3 f1 2 (spP K (RBF book E)) s H ∧ ClOk P w K mg base 3 f2 3 (spP K (RBM book num E)) s H
theorem cls2_un {P : Program} {w : World} {K : PySem.W.Frag} {mg : Str → Option Value} {base : Heap} {book : List Str} {num : Int → Int → Prop} {E : En} {f1 f2 : Addr} : ∀ (fs : List Addr) (s : Shared) (H : Hp) (s' : Shared) (H' : Hp), Un fs [] H H' s.heap s'.heap → cls2 P w K mg base book num E f1 f2 s H → cls2 P w K mg base book num E f1 f2 s' H' :=
  fun _ _ _ _ _ u C => ⟨C.1.un u, C.2.un u⟩
section
variable {P : Program} {w : World} {K : PySem.W.Frag} {mg : Str → Option Value} {base : Heap}
theorem ok_wt (T : Top K mg) (W2 : Txs K w.params mg "OTHER_WAY" otherT) (book : List Str) (num : Int → Int → Prop) (E : En) (f1 f2 : Addr) : FnOkS P w K mg base 4 T.f_word_told T.fd_word_told ["word", "parts", "by_field", "by_mark"] (fun s vs H Q => cls2 P w K mg base book num E f1 f2 s H ∧ spC K f1 f2 (RWT book num E) vs H Q E0) := by
  have G_turned_about : FnOk P w K mg base CX0 3 T.f_turned_about T.fd_turned_about ["part"] (spP K RTurn) := (ok_turned T W2).mono (by decide)
  have G_settled_by : FnOk P w K mg base CX0 3 T.f_settled_by T.fd_settled_by ["truth", "word", "parts"] (spP K RSet) := (ok_settled T).mono (by decide)
  have G_put_together : FnOk P w K mg base CX0 3 T.f_put_together T.fd_put_together ["word", "parts"] (spP K RPut) := ok_put T W2
  obtain ⟨w0, w1, w2, w3, w4, w5, w6, w7, w8, w9, w10, w11, w12, w13⟩ := wix14
  refine T.F_word_told.okS sc_word_told (fun s vs H Q h => ?_) (fun cdv A outer s H vs Q hr h => ?_)
  · obtain ⟨_, G, as, d, xs, rfl, sg, hv, ⟨x, want, ps, us, rfl, _⟩, _⟩ := h
    rw [List.length_append, hv.length]; rfl
  · obtain ⟨⟨C_by_field, C_by_mark⟩, G, as, d, xs, rfl, sg, hv, ⟨x, want, ps, us, rfl, hw, hty, rfl⟩, k⟩ := h
    have hu := hr.units
    obtain ⟨v1, r1, rfl, h1, hv⟩ := hv.cons
    obtain ⟨v2, r2, rfl, h2, hv⟩ := hv.cons
    cases hv.nil
    have go1 : ∀ {p : Str}, Tys (· ∈ book) num [p] us → ∃ v, us = [v] ∧ Ty (· ∈ book) num p v := fun h => by cases h with | cons a b => cases b; exact ⟨_, rfl, a⟩
    have go2 : ∀ {p q : Str}, Tys (· ∈ book) num [p, q] us → ∃ v u, us = [v, u] ∧ Ty (· ∈ book) num p v ∧ Ty (· ∈ book) num q u := fun h => by cases h with | cons a b => cases b with | cons b c => cases c; exact ⟨_, _, rfl, a, b⟩
    have go3 : ∀ {p q r : Str}, Tys (· ∈ book) num [p, q, r] us → ∃ v u t, us = [v, u, t] ∧ Ty (· ∈ book) num p v ∧ Ty (· ∈ book) num q u ∧ Ty (· ∈ book) num r t := fun h => by cases h with | cons a b => cases b with | cons b c => cases c with | cons c d => cases d; exact ⟨_, _, _, rfl, a, b, c⟩
    refine ⟨_, (pss_cons (ps_if (pt_cmpR op_eq (pv 0) pe_str (nomark _)) (pss_one (ps_ret pe_str)) pss_nil)
      (pss_cons (ps_if (pt_cmpR op_eq (pv 0) pe_str (nomark _)) (pss_one (ps_ret (pe_callF (i := 2) rfl (Or.inl rfl) (hr.mono (by decide)) rfl C_by_field (pa_cons pe_str (pa_cons (pe_ix (ix_listK (K := K) rfl) (pv 1) pe_int (fun _ _ => rfl)) pa_nil st_Subscript) st_Constant)))) pss_nil)
      (pss_cons (ps_if (pt_cmpR op_eq (pv 0) pe_str (nomark _)) (pss_one (ps_ret (pe_call G_turned_about hr (by rfl) T.m_turned_about T.F_turned_about.kp T.b_turned_about .nil pass0 (pa_cons (pe_callF (i := 2) rfl (Or.inl rfl) (hr.mono (by decide)) rfl C_by_field (pa_cons pe_str (pa_cons (pe_ix (ix_listK (K := K) rfl) (pv 1) pe_int (fun _ _ => rfl)) pa_nil st_Subscript) st_Constant)) pa_nil st_Call)))) pss_nil)
      (pss_cons (ps_if (pt_cmpR op_eq (pv 0) pe_str (nomark _)) (pss_one (ps_ret (pe_callF (i := 2) rfl (Or.inl rfl) (hr.mono (by decide)) rfl C_by_field (pa_cons pe_str (pa_cons (pe_ix (ix_listK (K := K) rfl) (pv 1) pe_int (fun _ _ => rfl)) pa_nil st_Subscript) st_Constant)))) pss_nil)
      (pss_cons (ps_if (pt_cmpR op_eq (pv 0) pe_str (nomark _)) (pss_one (ps_ret (pe_callF (i := 3) rfl (Or.inl rfl) (hr.mono (by decide)) rfl C_by_mark (pa_cons pe_str (pa_cons (pe_ix (ix_listK (K := K) rfl) (pv 1) pe_int (fun _ _ => rfl)) (pa_cons (pe_ix (ix_listK (K := K) rfl) (pv 1) pe_int (fun _ _ => rfl)) pa_nil st_Subscript) st_Subscript) st_Constant)))) pss_nil)
      (pss_cons (ps_if (pt_cmpR op_eq (pv 0) pe_str (nomark _)) (pss_one (ps_ret (pe_callF (i := 3) rfl (Or.inl rfl) (hr.mono (by decide)) rfl C_by_mark (pa_cons pe_str (pa_cons (pe_ix (ix_listK (K := K) rfl) (pv 1) pe_int (fun _ _ => rfl)) (pa_cons (pe_ix (ix_listK (K := K) rfl) (pv 1) pe_int (fun _ _ => rfl)) pa_nil st_Subscript) st_Subscript) st_Constant)))) pss_nil)
      (pss_cons (ps_if (pt_cmpR op_eq (pv 0) pe_str (nomark _)) (pss_one (ps_ret (pe_call G_settled_by hr (by rfl) T.m_settled_by T.F_settled_by.kp T.b_settled_by .nil pass0 (pa_cons pe_bl (pa_cons pe_str (pa_cons (pe_ix (ix_listK (K := K) rfl) (pv 1) pe_int (fun _ _ => rfl)) pa_nil st_Subscript) st_Constant) st_Constant)))) pss_nil)
      (pss_cons (ps_if (pt_cmpR op_eq (pv 0) pe_str (nomark _)) (pss_one (ps_ret (pe_call G_settled_by hr (by rfl) T.m_settled_by T.F_settled_by.kp T.b_settled_by .nil pass0 (pa_cons pe_bl (pa_cons pe_str (pa_cons (pe_ix (ix_listK (K := K) rfl) (pv 1) pe_int (fun _ _ => rfl)) pa_nil st_Subscript) st_Constant) st_Constant)))) pss_nil)
      (pss_one (ps_ret (pe_call G_put_together hr (by rfl) T.m_put_together T.F_put_together.kp T.b_put_together .nil pass0 (pa_cons (pv 0) (pa_cons (pv 1) pa_nil st_Name) st_Name)))))))))))) , ?_⟩
    rcases word14 hw with ⟨rfl, rfl, rfl⟩ | ⟨rfl, rfl, rfl⟩ | ⟨rfl, rfl, rfl⟩ | ⟨rfl, rfl, rfl⟩ | ⟨rfl, rfl, rfl⟩ | ⟨rfl, rfl, rfl⟩ | ⟨rfl, rfl, rfl⟩ | ⟨rfl, rfl, rfl⟩ | ⟨rfl, rfl, rfl⟩ | ⟨rfl, rfl, rfl⟩ | ⟨rfl, rfl, rfl⟩ | ⟨rfl, rfl, rfl⟩ | ⟨rfl, rfl, rfl⟩ | ⟨rfl, rfl, rfl⟩
    · rw [w0] at k
      refine if_yes (evt_is (K := K) (ev_var rfl h1) ev_str rfl) sg fun G1 H1 q1 => ?_
      have g1 := q1
      have h2' := h2.same g1.gg
      exact ret_ev (K := K) (G := G1) ev_str q1.gh fun v G' H' g hv => k v G' H' (g1.trans g) hv
    · obtain ⟨v, rfl, t1⟩ := go1 hty; obtain ⟨z, hz, rfl⟩ := t1.field; rw [w1] at k
      refine if_no (evt_isnt (K := K) (ev_var rfl h1) ev_str (by decide +kernel)) sg fun G1 H1 q1 => ?_
      have g1 := q1
      refine if_yes (evt_is (K := K) (ev_var rfl (h1.same g1.gg)) ev_str rfl) q1.gh fun G2 H2 q2 => ?_
      have g2 := g1.trans q2
      have h2' := h2.same g2.gg
      exact ret_ev (K := K) (G := G2) (ev_callF (R := RBF book E) rfl (eva_cons ev_str (eva_cons (ev_ixL (ev_var rfl h2') ev_int rfl rfl) eva_nil)) rfl ⟨z, hz, .inl ⟨rfl, rfl⟩⟩) q2.gh fun v G' H' g hv => k v G' H' (g2.trans g) hv
    · obtain ⟨v, rfl, t1⟩ := go1 hty; obtain ⟨z, hz, rfl⟩ := t1.field; rw [w2] at k
      refine if_no (evt_isnt (K := K) (ev_var rfl h1) ev_str (by decide +kernel)) sg fun G1 H1 q1 => ?_
      have g1 := q1
      refine if_no (evt_isnt (K := K) (ev_var rfl (h1.same g1.gg)) ev_str (by decide +kernel)) q1.gh fun G2 H2 q2 => ?_
      have g2 := g1.trans q2
      refine if_yes (evt_is (K := K) (ev_var rfl (h1.same g2.gg)) ev_str rfl) q2.gh fun G3 H3 q3 => ?_
      have g3 := g2.trans q3
      have h2' := h2.same g3.gg
      exact ret_ev (K := K) (G := G3) (ev_call (E := E0) (R := RTurn) (eva_cons (ev_callF (R := RBF book E) rfl (eva_cons ev_str (eva_cons (ev_ixL (ev_var rfl h2') ev_int rfl rfl) eva_nil)) rfl ⟨z, hz, .inl ⟨rfl, rfl⟩⟩) eva_nil) ⟨_, rfl, rfl⟩) q3.gh fun v G' H' g hv => k v G' H' (g3.trans g) hv
    · obtain ⟨v, u, rfl, t1, t2⟩ := go2 hty; obtain ⟨a, rfl⟩ := t1.order; obtain ⟨b, rfl⟩ := t2.order; rw [w3] at k
      refine if_no (evt_isnt (K := K) (ev_var rfl h1) ev_str (by decide +kernel)) sg fun G1 H1 q1 => ?_
      have g1 := q1
      refine if_no (evt_isnt (K := K) (ev_var rfl (h1.same g1.gg)) ev_str (by decide +kernel)) q1.gh fun G2 H2 q2 => ?_
      have g2 := g1.trans q2
      refine if_no (evt_isnt (K := K) (ev_var rfl (h1.same g2.gg)) ev_str (by decide +kernel)) q2.gh fun G3 H3 q3 => ?_
      have g3 := g2.trans q3
      refine if_no (evt_isnt (K := K) (ev_var rfl (h1.same g3.gg)) ev_str (by decide +kernel)) q3.gh fun G4 H4 q4 => ?_
      have g4 := g3.trans q4
      refine if_no (evt_isnt (K := K) (ev_var rfl (h1.same g4.gg)) ev_str (by decide +kernel)) q4.gh fun G5 H5 q5 => ?_
      have g5 := g4.trans q5
      refine if_no (evt_isnt (K := K) (ev_var rfl (h1.same g5.gg)) ev_str (by decide +kernel)) q5.gh fun G6 H6 q6 => ?_
      have g6 := g5.trans q6
      refine if_no (evt_isnt (K := K) (ev_var rfl (h1.same g6.gg)) ev_str (by decide +kernel)) q6.gh fun G7 H7 q7 => ?_
      have g7 := g6.trans q7
      refine if_no (evt_isnt (K := K) (ev_var rfl (h1.same g7.gg)) ev_str (by decide +kernel)) q7.gh fun G8 H8 q8 => ?_
      have g8 := g7.trans q8
      have h2' := h2.same g8.gg
      exact ret_ev (K := K) (G := G8) (ev_call (E := E0) (R := RPut) (eva_cons (ev_var rfl (h1.same g8.gg)) (eva_cons (ev_var rfl h2') eva_nil)) ⟨_, 3, _, rfl, rfl, .inl ⟨rfl, rfl, a, b, rfl⟩⟩) q8.gh fun v G' H' g hv => k v G' H' (g8.trans g) hv
    · obtain ⟨v, rfl, t1⟩ := go1 hty; obtain ⟨a, rfl⟩ := t1.order; rw [w4] at k
      refine if_no (evt_isnt (K := K) (ev_var rfl h1) ev_str (by decide +kernel)) sg fun G1 H1 q1 => ?_
      have g1 := q1
      refine if_no (evt_isnt (K := K) (ev_var rfl (h1.same g1.gg)) ev_str (by decide +kernel)) q1.gh fun G2 H2 q2 => ?_
      have g2 := g1.trans q2
      refine if_no (evt_isnt (K := K) (ev_var rfl (h1.same g2.gg)) ev_str (by decide +kernel)) q2.gh fun G3 H3 q3 => ?_
      have g3 := g2.trans q3
      refine if_no (evt_isnt (K := K) (ev_var rfl (h1.same g3.gg)) ev_str (by decide +kernel)) q3.gh fun G4 H4 q4 => ?_
      have g4 := g3.trans q4
      refine if_no (evt_isnt (K := K) (ev_var rfl (h1.same g4.gg)) ev_str (by decide +kernel)) q4.gh fun G5 H5 q5 => ?_
      have g5 := g4.trans q5
      refine if_no (evt_isnt (K := K) (ev_var rfl (h1.same g5.gg)) ev_str (by decide +kernel)) q5.gh fun G6 H6 q6 => ?_
      have g6 := g5.trans q6
      refine if_no (evt_isnt (K := K) (ev_var rfl (h1.same g6.gg)) ev_str (by decide +kernel)) q6.gh fun G7 H7 q7 => ?_
      have g7 := g6.trans q7
      refine if_no (evt_isnt (K := K) (ev_var rfl (h1.same g7.gg)) ev_str (by decide +kernel)) q7.gh fun G8 H8 q8 => ?_
      have g8 := g7.trans q8
      have h2' := h2.same g8.gg
      exact ret_ev (K := K) (G := G8) (ev_call (E := E0) (R := RPut) (eva_cons (ev_var rfl (h1.same g8.gg)) (eva_cons (ev_var rfl h2') eva_nil)) ⟨_, 4, _, rfl, rfl, .inr (.inl ⟨rfl, rfl, a, rfl⟩)⟩) q8.gh fun v G' H' g hv => k v G' H' (g8.trans g) hv
    · obtain ⟨v, u, t, rfl, t1, t2, t3⟩ := go3 hty; obtain ⟨c, rfl⟩ := t1.case; obtain ⟨a, rfl⟩ := t2.order; obtain ⟨b, rfl⟩ := t3.order; rw [w5] at k
      refine if_no (evt_isnt (K := K) (ev_var rfl h1) ev_str (by decide +kernel)) sg fun G1 H1 q1 => ?_
      have g1 := q1
      refine if_no (evt_isnt (K := K) (ev_var rfl (h1.same g1.gg)) ev_str (by decide +kernel)) q1.gh fun G2 H2 q2 => ?_
      have g2 := g1.trans q2
      refine if_no (evt_isnt (K := K) (ev_var rfl (h1.same g2.gg)) ev_str (by decide +kernel)) q2.gh fun G3 H3 q3 => ?_
      have g3 := g2.trans q3
      refine if_no (evt_isnt (K := K) (ev_var rfl (h1.same g3.gg)) ev_str (by decide +kernel)) q3.gh fun G4 H4 q4 => ?_
      have g4 := g3.trans q4
      refine if_no (evt_isnt (K := K) (ev_var rfl (h1.same g4.gg)) ev_str (by decide +kernel)) q4.gh fun G5 H5 q5 => ?_
      have g5 := g4.trans q5
      refine if_no (evt_isnt (K := K) (ev_var rfl (h1.same g5.gg)) ev_str (by decide +kernel)) q5.gh fun G6 H6 q6 => ?_
      have g6 := g5.trans q6
      refine if_no (evt_isnt (K := K) (ev_var rfl (h1.same g6.gg)) ev_str (by decide +kernel)) q6.gh fun G7 H7 q7 => ?_
      have g7 := g6.trans q7
      refine if_no (evt_isnt (K := K) (ev_var rfl (h1.same g7.gg)) ev_str (by decide +kernel)) q7.gh fun G8 H8 q8 => ?_
      have g8 := g7.trans q8
      have h2' := h2.same g8.gg
      exact ret_ev (K := K) (G := G8) (ev_call (E := E0) (R := RPut) (eva_cons (ev_var rfl (h1.same g8.gg)) (eva_cons (ev_var rfl h2') eva_nil)) ⟨_, 5, _, rfl, rfl, .inr (.inr (.inl ⟨rfl, rfl, c, a, b, rfl⟩))⟩) q8.gh fun v G' H' g hv => k v G' H' (g8.trans g) hv
    · obtain ⟨v, rfl, t1⟩ := go1 hty; obtain ⟨z, hz, rfl⟩ := t1.field; rw [w6] at k
      refine if_no (evt_isnt (K := K) (ev_var rfl h1) ev_str (by decide +kernel)) sg fun G1 H1 q1 => ?_
      have g1 := q1
      refine if_no (evt_isnt (K := K) (ev_var rfl (h1.same g1.gg)) ev_str (by decide +kernel)) q1.gh fun G2 H2 q2 => ?_
      have g2 := g1.trans q2
      refine if_no (evt_isnt (K := K) (ev_var rfl (h1.same g2.gg)) ev_str (by decide +kernel)) q2.gh fun G3 H3 q3 => ?_
      have g3 := g2.trans q3
      refine if_yes (evt_is (K := K) (ev_var rfl (h1.same g3.gg)) ev_str rfl) q3.gh fun G4 H4 q4 => ?_
      have g4 := g3.trans q4
      have h2' := h2.same g4.gg
      exact ret_ev (K := K) (G := G4) (ev_callF (R := RBF book E) rfl (eva_cons ev_str (eva_cons (ev_ixL (ev_var rfl h2') ev_int rfl rfl) eva_nil)) rfl ⟨z, hz, .inr ⟨rfl, rfl⟩⟩) q4.gh fun v G' H' g hv => k v G' H' (g4.trans g) hv
    · obtain ⟨v, rfl, t1⟩ := go1 hty; obtain ⟨a, b, rfl⟩ := t1.mark; rw [w7] at k
      refine if_no (evt_isnt (K := K) (ev_var rfl h1) ev_str (by decide +kernel)) sg fun G1 H1 q1 => ?_
      have g1 := q1
      refine if_no (evt_isnt (K := K) (ev_var rfl (h1.same g1.gg)) ev_str (by decide +kernel)) q1.gh fun G2 H2 q2 => ?_
      have g2 := g1.trans q2
      refine if_no (evt_isnt (K := K) (ev_var rfl (h1.same g2.gg)) ev_str (by decide +kernel)) q2.gh fun G3 H3 q3 => ?_
      have g3 := g2.trans q3
      refine if_no (evt_isnt (K := K) (ev_var rfl (h1.same g3.gg)) ev_str (by decide +kernel)) q3.gh fun G4 H4 q4 => ?_
      have g4 := g3.trans q4
      refine if_no (evt_isnt (K := K) (ev_var rfl (h1.same g4.gg)) ev_str (by decide +kernel)) q4.gh fun G5 H5 q5 => ?_
      have g5 := g4.trans q5
      refine if_no (evt_isnt (K := K) (ev_var rfl (h1.same g5.gg)) ev_str (by decide +kernel)) q5.gh fun G6 H6 q6 => ?_
      have g6 := g5.trans q6
      refine if_yes (evt_is (K := K) (ev_var rfl (h1.same g6.gg)) ev_str rfl) q6.gh fun G7 H7 q7 => ?_
      have g7 := g6.trans q7
      have h2' := h2.same g7.gg
      exact ret_ev (K := K) (G := G7) (ev_call (E := E0) (R := RSet) (eva_cons ev_bl (eva_cons ev_str (eva_cons (ev_ixL (ev_var rfl h2') ev_int rfl rfl) eva_nil))) ⟨false, _, a, b, rfl, rfl⟩) q7.gh fun v G' H' g hv => k v G' H' (g7.trans g) hv
    · obtain ⟨v, rfl, t1⟩ := go1 hty; obtain ⟨a, b, rfl⟩ := t1.mark; rw [w8] at k
      refine if_no (evt_isnt (K := K) (ev_var rfl h1) ev_str (by decide +kernel)) sg fun G1 H1 q1 => ?_
      have g1 := q1
      refine if_no (evt_isnt (K := K) (ev_var rfl (h1.same g1.gg)) ev_str (by decide +kernel)) q1.gh fun G2 H2 q2 => ?_
      have g2 := g1.trans q2
      refine if_no (evt_isnt (K := K) (ev_var rfl (h1.same g2.gg)) ev_str (by decide +kernel)) q2.gh fun G3 H3 q3 => ?_
      have g3 := g2.trans q3
      refine if_no (evt_isnt (K := K) (ev_var rfl (h1.same g3.gg)) ev_str (by decide +kernel)) q3.gh fun G4 H4 q4 => ?_
      have g4 := g3.trans q4
      refine if_no (evt_isnt (K := K) (ev_var rfl (h1.same g4.gg)) ev_str (by decide +kernel)) q4.gh fun G5 H5 q5 => ?_
      have g5 := g4.trans q5
      refine if_no (evt_isnt (K := K) (ev_var rfl (h1.same g5.gg)) ev_str (by decide +kernel)) q5.gh fun G6 H6 q6 => ?_
      have g6 := g5.trans q6
      refine if_no (evt_isnt (K := K) (ev_var rfl (h1.same g6.gg)) ev_str (by decide +kernel)) q6.gh fun G7 H7 q7 => ?_
      have g7 := g6.trans q7
      refine if_yes (evt_is (K := K) (ev_var rfl (h1.same g7.gg)) ev_str rfl) q7.gh fun G8 H8 q8 => ?_
      have g8 := g7.trans q8
      have h2' := h2.same g8.gg
      exact ret_ev (K := K) (G := G8) (ev_call (E := E0) (R := RSet) (eva_cons ev_bl (eva_cons ev_str (eva_cons (ev_ixL (ev_var rfl h2') ev_int rfl rfl) eva_nil))) ⟨true, _, a, b, rfl, rfl⟩) q8.gh fun v G' H' g hv => k v G' H' (g8.trans g) hv
    · obtain ⟨v, rfl, t1⟩ := go1 hty; obtain ⟨a, rfl⟩ := t1.case; rw [w9] at k
      refine if_no (evt_isnt (K := K) (ev_var rfl h1) ev_str (by decide +kernel)) sg fun G1 H1 q1 => ?_
      have g1 := q1
      refine if_no (evt_isnt (K := K) (ev_var rfl (h1.same g1.gg)) ev_str (by decide +kernel)) q1.gh fun G2 H2 q2 => ?_
      have g2 := g1.trans q2
      refine if_no (evt_isnt (K := K) (ev_var rfl (h1.same g2.gg)) ev_str (by decide +kernel)) q2.gh fun G3 H3 q3 => ?_
      have g3 := g2.trans q3
      refine if_no (evt_isnt (K := K) (ev_var rfl (h1.same g3.gg)) ev_str (by decide +kernel)) q3.gh fun G4 H4 q4 => ?_
      have g4 := g3.trans q4
      refine if_no (evt_isnt (K := K) (ev_var rfl (h1.same g4.gg)) ev_str (by decide +kernel)) q4.gh fun G5 H5 q5 => ?_
      have g5 := g4.trans q5
      refine if_no (evt_isnt (K := K) (ev_var rfl (h1.same g5.gg)) ev_str (by decide +kernel)) q5.gh fun G6 H6 q6 => ?_
      have g6 := g5.trans q6
      refine if_no (evt_isnt (K := K) (ev_var rfl (h1.same g6.gg)) ev_str (by decide +kernel)) q6.gh fun G7 H7 q7 => ?_
      have g7 := g6.trans q7
      refine if_no (evt_isnt (K := K) (ev_var rfl (h1.same g7.gg)) ev_str (by decide +kernel)) q7.gh fun G8 H8 q8 => ?_
      have g8 := g7.trans q8
      have h2' := h2.same g8.gg
      exact ret_ev (K := K) (G := G8) (ev_call (E := E0) (R := RPut) (eva_cons (ev_var rfl (h1.same g8.gg)) (eva_cons (ev_var rfl h2') eva_nil)) ⟨_, 9, _, rfl, rfl, .inr (.inr (.inr (.inl ⟨rfl, rfl, a, rfl⟩)))⟩) q8.gh fun v G' H' g hv => k v G' H' (g8.trans g) hv
    · obtain ⟨v, u, rfl, t1, t2⟩ := go2 hty; obtain ⟨a, rfl⟩ := t1.case; obtain ⟨b, rfl⟩ := t2.case; rw [w10] at k
      refine if_no (evt_isnt (K := K) (ev_var rfl h1) ev_str (by decide +kernel)) sg fun G1 H1 q1 => ?_
      have g1 := q1
      refine if_no (evt_isnt (K := K) (ev_var rfl (h1.same g1.gg)) ev_str (by decide +kernel)) q1.gh fun G2 H2 q2 => ?_
      have g2 := g1.trans q2
      refine if_no (evt_isnt (K := K) (ev_var rfl (h1.same g2.gg)) ev_str (by decide +kernel)) q2.gh fun G3 H3 q3 => ?_
      have g3 := g2.trans q3
      refine if_no (evt_isnt (K := K) (ev_var rfl (h1.same g3.gg)) ev_str (by decide +kernel)) q3.gh fun G4 H4 q4 => ?_
      have g4 := g3.trans q4
      refine if_no (evt_isnt (K := K) (ev_var rfl (h1.same g4.gg)) ev_str (by decide +kernel)) q4.gh fun G5 H5 q5 => ?_
      have g5 := g4.trans q5
      refine if_no (evt_isnt (K := K) (ev_var rfl (h1.same g5.gg)) ev_str (by decide +kernel)) q5.gh fun G6 H6 q6 => ?_
      have g6 := g5.trans q6
      refine if_no (evt_isnt (K := K) (ev_var rfl (h1.same g6.gg)) ev_str (by decide +kernel)) q6.gh fun G7 H7 q7 => ?_
      have g7 := g6.trans q7
      refine if_no (evt_isnt (K := K) (ev_var rfl (h1.same g7.gg)) ev_str (by decide +kernel)) q7.gh fun G8 H8 q8 => ?_
      have g8 := g7.trans q8
      have h2' := h2.same g8.gg
      exact ret_ev (K := K) (G := G8) (ev_call (E := E0) (R := RPut) (eva_cons (ev_var rfl (h1.same g8.gg)) (eva_cons (ev_var rfl h2') eva_nil)) ⟨_, 10, _, rfl, rfl, .inr (.inr (.inr (.inr (.inl ⟨rfl, rfl, a, b, rfl⟩))))⟩) q8.gh fun v G' H' g hv => k v G' H' (g8.trans g) hv
    · obtain ⟨v, u, rfl, t1, t2⟩ := go2 hty; obtain ⟨a, rfl⟩ := t1.case; obtain ⟨b, rfl⟩ := t2.case; rw [w11] at k
      refine if_no (evt_isnt (K := K) (ev_var rfl h1) ev_str (by decide +kernel)) sg fun G1 H1 q1 => ?_
      have g1 := q1
      refine if_no (evt_isnt (K := K) (ev_var rfl (h1.same g1.gg)) ev_str (by decide +kernel)) q1.gh fun G2 H2 q2 => ?_
      have g2 := g1.trans q2
      refine if_no (evt_isnt (K := K) (ev_var rfl (h1.same g2.gg)) ev_str (by decide +kernel)) q2.gh fun G3 H3 q3 => ?_
      have g3 := g2.trans q3
      refine if_no (evt_isnt (K := K) (ev_var rfl (h1.same g3.gg)) ev_str (by decide +kernel)) q3.gh fun G4 H4 q4 => ?_
      have g4 := g3.trans q4
      refine if_no (evt_isnt (K := K) (ev_var rfl (h1.same g4.gg)) ev_str (by decide +kernel)) q4.gh fun G5 H5 q5 => ?_
      have g5 := g4.trans q5
      refine if_no (evt_isnt (K := K) (ev_var rfl (h1.same g5.gg)) ev_str (by decide +kernel)) q5.gh fun G6 H6 q6 => ?_
      have g6 := g5.trans q6
      refine if_no (evt_isnt (K := K) (ev_var rfl (h1.same g6.gg)) ev_str (by decide +kernel)) q6.gh fun G7 H7 q7 => ?_
      have g7 := g6.trans q7
      refine if_no (evt_isnt (K := K) (ev_var rfl (h1.same g7.gg)) ev_str (by decide +kernel)) q7.gh fun G8 H8 q8 => ?_
      have g8 := g7.trans q8
      have h2' := h2.same g8.gg
      exact ret_ev (K := K) (G := G8) (ev_call (E := E0) (R := RPut) (eva_cons (ev_var rfl (h1.same g8.gg)) (eva_cons (ev_var rfl h2') eva_nil)) ⟨_, 11, _, rfl, rfl, .inr (.inr (.inr (.inr (.inr ⟨rfl, rfl, a, b, rfl⟩))))⟩) q8.gh fun v G' H' g hv => k v G' H' (g8.trans g) hv
    · obtain ⟨v, u, rfl, t1, t2⟩ := go2 hty; obtain ⟨z, hz, rfl⟩ := t1.field; obtain ⟨a, b, hab, rfl⟩ := t2.number; rw [w12] at k
      refine if_no (evt_isnt (K := K) (ev_var rfl h1) ev_str (by decide +kernel)) sg fun G1 H1 q1 => ?_
      have g1 := q1
      refine if_no (evt_isnt (K := K) (ev_var rfl (h1.same g1.gg)) ev_str (by decide +kernel)) q1.gh fun G2 H2 q2 => ?_
      have g2 := g1.trans q2
      refine if_no (evt_isnt (K := K) (ev_var rfl (h1.same g2.gg)) ev_str (by decide +kernel)) q2.gh fun G3 H3 q3 => ?_
      have g3 := g2.trans q3
      refine if_no (evt_isnt (K := K) (ev_var rfl (h1.same g3.gg)) ev_str (by decide +kernel)) q3.gh fun G4 H4 q4 => ?_
      have g4 := g3.trans q4
      refine if_yes (evt_is (K := K) (ev_var rfl (h1.same g4.gg)) ev_str rfl) q4.gh fun G5 H5 q5 => ?_
      have g5 := g4.trans q5
      have h2' := h2.same g5.gg
      exact ret_ev (K := K) (G := G5) (ev_callF (R := RBM book num E) rfl (eva_cons ev_str (eva_cons (ev_ixL (ev_var rfl h2') ev_int rfl rfl) (eva_cons (ev_ixL (ev_var rfl h2') ev_int rfl rfl) eva_nil))) rfl ⟨z, hz, a, b, hab, .inl ⟨rfl, rfl⟩⟩) q5.gh fun v G' H' g hv => k v G' H' (g5.trans g) hv
    · obtain ⟨v, u, rfl, t1, t2⟩ := go2 hty; obtain ⟨z, hz, rfl⟩ := t1.field; obtain ⟨a, b, hab, rfl⟩ := t2.number; rw [w13] at k
      refine if_no (evt_isnt (K := K) (ev_var rfl h1) ev_str (by decide +kernel)) sg fun G1 H1 q1 => ?_
      have g1 := q1
      refine if_no (evt_isnt (K := K) (ev_var rfl (h1.same g1.gg)) ev_str (by decide +kernel)) q1.gh fun G2 H2 q2 => ?_
      have g2 := g1.trans q2
      refine if_no (evt_isnt (K := K) (ev_var rfl (h1.same g2.gg)) ev_str (by decide +kernel)) q2.gh fun G3 H3 q3 => ?_
      have g3 := g2.trans q3
      refine if_no (evt_isnt (K := K) (ev_var rfl (h1.same g3.gg)) ev_str (by decide +kernel)) q3.gh fun G4 H4 q4 => ?_
      have g4 := g3.trans q4
      refine if_no (evt_isnt (K := K) (ev_var rfl (h1.same g4.gg)) ev_str (by decide +kernel)) q4.gh fun G5 H5 q5 => ?_
      have g5 := g4.trans q5
      refine if_yes (evt_is (K := K) (ev_var rfl (h1.same g5.gg)) ev_str rfl) q5.gh fun G6 H6 q6 => ?_
      have g6 := g5.trans q6
      have h2' := h2.same g6.gg
      exact ret_ev (K := K) (G := G6) (ev_callF (R := RBM book num E) rfl (eva_cons ev_str (eva_cons (ev_ixL (ev_var rfl h2') ev_int rfl rfl) (eva_cons (ev_ixL (ev_var rfl h2') ev_int rfl rfl) eva_nil))) rfl ⟨z, hz, a, b, hab, .inr ⟨rfl, rfl⟩⟩) q6.gh fun v G' H' g hv => k v G' H' (g6.trans g) hv
end
end K12
set_option maxHeartbeats 4000000
namespace K12
open PySem L2 Frac Lw Dig PySem.NumText Nm
open Ord Num Look Rdo
theorem for_rev {K : PySem.W.Frag} {a : Addr} {xs : List V} {g : TG} {tb : TS} {D : Ends} {σ : St} {H : Hp} (Pv : Nat → St → Hp → Prop) (h0 : Pv 0 σ H) (hl : ∀ i σ H, i ≤ xs.length → Pv i σ H → SqT K H a xs)
    (hs : ∀ i x σ H, xs.reverse[i]? = some x → Pv i σ H → g x σ H fun σ2 H2 => tb { D with nx := Pv (i + 1), ct := Pv (i + 1), bk := D.nx } σ2 H2) (hd : ∀ σ H, Pv xs.length σ H → D.nx σ H) :
    ∃ W : Nat → Nat → St → Hp → Prop, (∃ m, W 0 m σ H) ∧ ∀ i m σ H, W i m σ H →
      ((Itv K a xs.length).stop i H ∧ D.nx σ H) ∨ ((Itv K a xs.length).go i H ∧ ∃ N : St → Hp → Prop, (∀ σ' H', N σ' H' → ∃ m', m' < m ∧ W (i + 1) m' σ' H') ∧ ∀ x H', (Itv K a xs.length).yld i H x H' → g x σ H' fun σ2 H2 => tb { D with nx := N, ct := N, bk := D.nx } σ2 H2) := by
  refine ⟨fun i m σ H => m = xs.length - i ∧ i ≤ xs.length ∧ Pv i σ H, ⟨xs.length, by simp, Nat.zero_le _, h0⟩, ?_⟩
  rintro i m σ H ⟨rfl, hi, p⟩
  have q := hl i σ H hi p
  by_cases hlt : i < xs.length
  · refine .inr ⟨⟨hlt, xs, q, rfl⟩, Pv (i + 1), fun σ' H' p' => ⟨xs.length - (i + 1), by omega, rfl, hlt, p'⟩, fun x H' y => ?_⟩
    obtain ⟨e, y⟩ := y
    subst e
    exact hs i x σ _ (y xs q) p
  · have e : i = xs.length := by omega
    subst e
    exact .inl ⟨⟨rfl, xs, q⟩, hd σ H p⟩
theorem run_drop {fld : Str → Prop} {num : Int → Int → Prop} : ∀ {ws : List Wd} {st st' : List Str}, Run fld num st ws st' → Kinds st → ∀ j, ∃ st2, Kinds st2 ∧ Run fld num st2 (ws.drop j) st'
  | ws, st, _, h, hk, 0 => ⟨st, hk, h⟩
  | [], st, _, h, hk, j + 1 => ⟨st, hk, h⟩
  | w :: ws, st, _, h, hk, j + 1 => by
    cases h with
    | cons a b => exact run_drop b (step_kinds a hk) j
def RTell (book : List Str) (num : Int → Int → Prop) (E : En) : List PyData → PyData → Prop := fun as d => ∃ (ws : List Wd) (a : An), as = [.tuple (ws.map Wd.d)] ∧ IsOrd (· ∈ book) num ws ∧ (∀ R, ev E ws R = .an a :: R) ∧ ws.length ≤ 900 ∧ d = .str a.t
theorem stk_len {fld : Str → Prop} {num : Int → Int → Prop} {E : En} : ∀ (ws : List Wd), (ev E ws []).length ≤ ws.length
  | [] => Nat.le_refl _
  | w :: ws => by
    have ih := stk_len (fld := fld) (num := num) (E := E) ws
    show (push E w (ev E ws [])).length ≤ ws.length + 1
    unfold push
    split
    · rw [List.length_cons]; omega
    · split
      · rw [List.length_cons, List.length_drop]; omega
      · rw [List.length_cons]; omega
section
variable {P : Program} {w : World} {K : PySem.W.Frag} {mg : Str → Option Value} {base : Heap}
theorem ev_wds {σ : St} {G : Hp} {tb : TE} {x : Str} {r : Str × Str × List Str} (W : Wds K w.params mg) (hb : Ev K tb σ G (.str x)) (h : wordT x = some r) :
    Ev K (tOp (fun x y H Q => ∃ z a g v u, x = .ref a ∧ y = .str z ∧ DictK K w.params a g ∧ g z = some (v, u) ∧ Q v H) (tC (.ref W.a)) tb) σ G (.tuple [.str r.2.1, .tuple (r.2.2.map PyData.str)]) :=
  fun G1 H s1 s2 Q k => hb G1 H s1 s2 _ fun u G2 H2 g2 hu => by
    obtain ⟨v, u', hg, hd⟩ := W.yes x r h
    rw [hu.str]
    exact ⟨x, W.a, W.g, v, u', rfl, rfl, W.D, hg, k _ G2 H2 g2 (hd G2)⟩
theorem ok_telling (T : Top K mg) (W : Wds K w.params mg) (W2 : Txs K w.params mg "OTHER_WAY" otherT) (book : List Str) (num : Int → Int → Prop) (E : En) (hf : ∀ z ∈ book, wordT z = none) (f1 f2 : Addr) :
    FnOkS P w K mg base 5 T.f_telling T.fd_telling ["order", "by_field", "by_mark"] (fun s vs H Q => cls2 P w K mg base book num E f1 f2 s H ∧ spC K f1 f2 (RTell book num E) vs H Q E0) := by
  have G_word_told : FnOkS P w K mg base 4 T.f_word_told T.fd_word_told ["word", "parts", "by_field", "by_mark"] (fun s vs H Q => cls2 P w K mg base book num E f1 f2 s H ∧ spC K f1 f2 (RWT book num E) vs H Q E0) := ok_wt T W2 book num E f1 f2
  have G_taken : FnOk P w K mg base CX0 4 T.f_taken T.fd_taken ["told", "many"] spTaken := (ok_taken T).mono (by decide)
  have hst := cls2_un (P := P) (w := w) (K := K) (mg := mg) (base := base) (book := book) (num := num) (E := E) (f1 := f1) (f2 := f2)
  refine T.F_telling.okS sc_telling (fun s vs H Q h => ?_) (fun cdv A outer s H vs Q hr h => ?_)
  · obtain ⟨_, G, as, d, xs, rfl, sg, hv, ⟨ws, a, rfl, _⟩, _⟩ := h
    rw [List.length_append, hv.length]; rfl
  · obtain ⟨hC, G, as, d, xs, rfl, sg, hv, ⟨ws, a, rfl, ho, hev, hlen, rfl⟩, k⟩ := h
    have hu := hr.units
    have zl : (2000 : Nat) ≤ sizeLine := by decide
    obtain ⟨v1, r1, rfl, h1, hv⟩ := hv.cons
    cases hv.nil
    obtain ⟨po, os, rfl, hpo, hos⟩ := h1.tup
    have hol : os.length = ws.length := by rw [hos.length, List.length_map]
    refine ⟨_, (pss_cons (ps_set (i := 3) sc_telling.nd rfl (Or.inl rfl) (pe_lst pa_nil))
      (pss_cons (ps_for PassesOwn.never rfl (pi_rev (by rfl) T.reversed_ (pv 0)) (pg_name (i := 4) sc_telling.nd rfl (Or.inl rfl)) (pss_one (ps_if (pt_cmpR (op_inKW hu) (pv 4) (pe_glob (v := .ref W.a) (by rfl) W.m rfl) (by rfl)) (pss_one (ps_expr (pe_bm PySem.F.plainAttrs_list PySem.F.slot_list_append PySem.F.type_list_append mt_append (pv 3) (pa_cons (pe_callH G_word_told hC hst rfl hr (by rfl) T.m_word_told T.F_word_told.kp T.b_word_told (pa_cons (pv 4) (pa_cons (pe_call G_taken hr (by rfl) T.m_taken T.F_taken.kp T.b_taken .nil pass0 (pa_cons (pv 3) (pa_cons (pe_callB (call_lenK (K := K) rfl) (by rfl) T.len_ PySem.boot_len (pa_cons (pe_ix (ix_tupK (K := K) rfl) (pe_ix ix_dictK (pe_glob (v := .ref W.a) (by rfl) W.m rfl) (pv 4) (fun _ _ => rfl)) pe_int (fun _ _ => rfl)) pa_nil st_Subscript)) pa_nil st_Call) st_Name)) (pa_cons (pv 1) (pa_cons (pv 2) pa_nil st_Name) st_Name) st_Call) st_Name)) pa_nil st_Call)))) (pss_one (ps_expr (pe_bm PySem.F.plainAttrs_list PySem.F.slot_list_append PySem.F.type_list_append mt_append (pv 3) (pa_cons (pv 4) pa_nil st_Name)))))))
      (pss_one (ps_ret (pe_ix (ix_listK (K := K) rfl) (pv 3) pe_int (fun _ _ => rfl)))))) , ?_⟩
    refine ⟨(by show 0 ≤ sizeLine; decide), fun pt hpt => ?_⟩
    refine ⟨_, rfl, po, os, rfl, (same_new hpt).tup (sg.tup hpo), for_rev (fun i σ H' => ∃ (v : Option V) (xs : List V) (G' : Hp), σ = [some (.ref po), some (.ref f1), some (.ref f2), some (.ref pt), v] ∧ H' pt = some (.lst xs) ∧ Dats K G' xs ((ev E (ws.drop (ws.length - i)) []).map Tv.d).reverse ∧ Same G G' ∧ Same G' H' ∧ G' pt = none ∧ Same H H')
      ⟨_, [], G, rfl, upd_same, by rw [Nat.sub_zero, List.drop_length]; exact dats_nil, Same.refl _, sg.trans (same_new hpt), sg.free hpt, same_new hpt⟩ ?_ ?_ ?_⟩
    · rintro i σ H' _ ⟨v, xs, G', rfl, _, _, g1, g2, _, _⟩
      exact (g1.trans g2).tup hpo
    · rintro i x σ H' hx ⟨v, xs, G', rfl, hp, hxs, g1, g2, g3, g4⟩
      have hi : i < ws.length := by
        have := (List.getElem?_eq_some_iff.mp hx).1
        rw [List.length_reverse, hol] at this; exact this
      have hdr : ws.drop (ws.length - (i + 1)) = ws[ws.length - (i + 1)] :: ws.drop (ws.length - i) := by
        rw [List.drop_eq_getElem_cons (by omega : ws.length - (i + 1) < ws.length)]
        congr 2; omega
      obtain ⟨st, hks, hrun⟩ := run_drop ho kinds_o (ws.length - (i + 1))
      rw [hdr] at hrun
      have hxd : Dat K G x (ws[ws.length - (i + 1)]).d := by
        obtain ⟨d, e1, e2⟩ := (dats_rev hos).get' hx
        rw [List.getElem?_reverse (by rw [List.length_map]; exact hi), List.length_map, List.getElem?_map, List.getElem?_eq_getElem (by omega)] at e1
        have e1 : some (ws[ws.length - 1 - i]).d = some d := e1
        injection e1 with e1
        have e3 : ws[ws.length - (i + 1)] = ws[ws.length - 1 - i] := by congr 1; omega
        rw [e3, e1]; exact e2
      have hevs : ev E (ws.drop (ws.length - (i + 1))) [] = push E ws[ws.length - (i + 1)] (ev E (ws.drop (ws.length - i)) []) := by rw [hdr]; rfl
      have hsl := stk_len (fld := (· ∈ book)) (num := num) (E := E) (ws.drop (ws.length - i))
      rw [List.length_drop] at hsl
      rw [hevs]
      generalize ws[ws.length - (i + 1)] = wd at hrun hxd
      generalize ws.drop (ws.length - i) = wr at hrun hxs hsl
      cases hrun with
      | @cons _ st1 _ _ _ sa sb =>
        obtain ⟨hty, _⟩ := ev_ty (E := E) hf sb (step_kinds sa hks) (vs := []) .nil
        generalize ev E wr [] = stk at hty hxs hsl
        have hxl : xs.length = stk.length := by rw [hxs.length, List.length_reverse, List.length_map]
        have hxd' := hxd.same g1
        rcases step_word sa hks with ⟨z, st0, rfl, rfl, hz, rfl⟩ | ⟨b, c, st0, rfl, rfl, hbc, rfl⟩ | ⟨want, z, ps, st0, rfl, rfl, n1, n2, hw, hl3, rfl⟩
        · have e : push E (.t z) stk = .wd (.t z) :: stk := by unfold push; dsimp only; rw [hf z hz]
          rw [e]
          have ez : x = V.str z := hxd'.str
          subst ez
          refine ⟨_, rfl, W.a, W.g, rfl, W.D, .inl ⟨z, rfl, ?_⟩⟩
          rw [W.no z (hf z hz)]
          refine ⟨_, rfl, iteF ?_⟩
          refine ⟨_, rfl, .inl ⟨rfl, _, SqL.of hp⟩, _, rfl, pt, _, _, rfl, rfl, hp, by omega, ?_⟩
          refine ⟨_, _, G', rfl, upd_same, ?_, g1, same_upd g2 g3, g3, same_upd g4 hpt⟩
          rw [List.map_cons, List.reverse_cons]
          exact dats_snoc hxs (dat_str z)
        · obtain ⟨pn, ns, rfl, hpn, hns⟩ := hxd'.tup
          obtain ⟨y1, s1, rfl, d1, hns⟩ := hns.cons
          obtain ⟨y2, s2, rfl, d2, hns⟩ := hns.cons
          cases hns.nil
          rw [d1.int, d2.int] at hpn
          refine ⟨_, rfl, W.a, W.g, rfl, W.D, .inr ⟨pn, b, c, rfl, g2.tup hpn, ?_⟩⟩
          refine ⟨_, rfl, iteF ?_⟩
          refine ⟨_, rfl, .inl ⟨rfl, _, SqL.of hp⟩, _, rfl, pt, _, _, rfl, rfl, hp, by omega, ?_⟩
          refine ⟨_, _, G', rfl, upd_same, ?_, g1, same_upd g2 g3, g3, same_upd g4 hpt⟩
          show Dats K G' _ ((Tv.wd (.n b c) :: stk).map Tv.d).reverse
          rw [List.map_cons, List.reverse_cons]
          exact dats_snoc hxs hxd'
        · have e : push E (.t z) stk = appN E (wix z) (stk.take ps.length) :: stk.drop ps.length := by unfold push; dsimp only; rw [hw]
          rw [e]
          have ez : x = V.str z := hxd'.str
          subst ez
          obtain ⟨u, v', hg, _⟩ := W.yes z _ hw
          refine ⟨_, rfl, W.a, W.g, rfl, W.D, .inl ⟨z, rfl, ?_⟩⟩
          rw [hg]
          refine ⟨_, rfl, iteT ?_⟩
          have hpl : ps.length ≤ stk.length := by have := hty.length; rw [List.length_append] at this; omega
          have hLn : stk.length - (stk.length - ps.length) = ps.length := by omega
          refine ⟨_, rfl, .inl ⟨rfl, _, SqL.of hp⟩, _, rfl, _, rfl, ?_⟩
          refine (ev_lenT (K := K) (G := G') (eva_cons (ev_ixT (ev_wds W (ev_var rfl (dat_str z)) hw) ev_int rfl rfl) eva_nil)).use g2 fun v6 G6 H6 g6 h6 => ?_
          rw [h6.int, List.length_map]
          have hp6 := g6.hh _ _ hp
          have g6pt : G6 pt = none := by
            cases e : G6 pt with
            | none => rfl
            | some o =>
              rcases g6.fr pt o e with q | q
              · rw [g3] at q; cases q
              · rw [hp] at q; cases q
          refine ⟨pt, ps.length, xs, rfl, hp6, by rw [hxl]; exact hpl, by omega, fun l H7 hl nlp h7l h7p h7o => ?_⟩
          have g6l : G6 l = none := g6.gh.free hl
          have s67 : Same (L2.upd G6 l (.lst (xs.drop (xs.length - ps.length)).reverse)) H7 := fun b o q => by
            by_cases hb : b = l
            · subst hb; rw [upd_same] at q; rw [← q]; exact h7l
            · rw [upd_ne hb] at q
              have hbp : b ≠ pt := fun z => by subst z; rw [g6pt] at q; cases q
              rw [h7o b hb hbp]; exact g6.gh _ _ q
          have hxs6 := hxs.same g6.gg
          have hys : Dats K G6 (xs.drop (xs.length - ps.length)).reverse ((stk.take ps.length).map Tv.d) := by
            have q := dats_rev (dats_drop (xs.length - ps.length) hxs6)
            rw [List.drop_reverse, List.reverse_reverse, List.length_map, hxl, hLn, ← List.map_take] at q
            rw [hxl]; exact q
          refine ⟨_, rfl, _, rfl, L2.upd G6 l (.lst (xs.drop (xs.length - ps.length)).reverse), [.str z, .list ((stk.take ps.length).map Tv.d)], _, [.str z, .ref l], rfl, s67, dats_cons (dat_str z) (dats_cons (dat_lst upd_same (hys.same (same_new g6l))) dats_nil), ⟨z, want, ps, _, rfl, hw, (tys_split hty).1, rfl⟩, fun v8 G8 H8 g8 h8 => ?_⟩
          have g8pt : G8 pt = none := by
            cases e : G8 pt with
            | none => rfl
            | some o =>
              rcases g8.fr pt o e with q | q
              · rw [upd_ne (Ne.symm nlp), g6pt] at q; cases q
              · rw [h7p] at q; cases q
          have s68 : Same G6 G8 := (same_new g6l).trans g8.gg
          refine ⟨pt, _, _, rfl, rfl, g8.hh _ _ h7p, by rw [List.length_take]; omega, ?_⟩
          refine ⟨_, _, G8, rfl, upd_same, ?_, (g1.trans g6.gg).trans s68, same_upd g8.gh g8pt, g8pt, fun b o q => ?_⟩
          · rw [List.map_cons, List.reverse_cons]
            refine dats_snoc ?_ h8
            have q := dats_take (xs.length - ps.length) (hxs6.same s68)
            rw [List.take_reverse, List.length_map, hxl, hLn, ← List.map_drop] at q
            rw [hxl]; exact q
          · have hbp : b ≠ pt := ne_of_none q hpt
            have q6 := g6.hh _ _ (g4 _ _ q)
            have hbl : b ≠ l := ne_of_none q6 hl
            rw [upd_ne hbp]
            exact g8.hh _ _ (by rw [h7o b hbl hbp]; exact q6)
    · rintro σ H' ⟨v, xs, G', rfl, hp, hxs, g1, g2, g3, g4⟩
      rw [hol, Nat.sub_self, List.drop_zero, hev] at hxs
      obtain ⟨y, ys, rfl, hy, hr'⟩ := hxs.cons
      cases hr'.nil
      rw [show y = V.str a.t from hy.str] at hp
      exact ⟨_, rfl, pt, _, 0, _, rfl, rfl, SqL.of hp, rfl, k _ G H' ⟨Same.refl _, g1.trans g2, g4, fun _ _ h => .inl h⟩ (dat_str _)⟩
end
end K12
set_option maxHeartbeats 4000000
namespace L2
open PySem PySem.Spec PyProof.Rows
section
variable {X : Cx} {o e : Expr} {es : List Expr} {to : TE} {t : TA} {name : Str} {apos cpos : Pos} {id : String} {r : V → List V → Hp → VK → Prop}
def tTM (r : V → List V → Hp → VK → Prop) (to : TE) (t : TA) : TE := fun σ H Q => to σ H fun x H1 => (∃ p xs, x = .ref p ∧ H1 p = some (.tup xs)) ∧ t σ H1 fun vs H2 => r x vs H2 Q
theorem pe_tm (slot : Slot "tuple" name id) (hty : typeOf (.builtin id) = pure (.type "method_descriptor")) (hm : MtR X id r) (ho : PE X o to) (ha : PA X (e :: es) t)
    (hbase : attributeBase o name X.env (eval o X.env) = eval o X.env := by rfl)
    (hfew : ((backTo cpos (starEach (e :: es) X.env)).all (fun x => !x.1) && (backToKw cpos (keywordEach [] X.env)).all (fun x => x.1.isSome)
      && decide ((e :: es).length + ([] : List Keyword).length + (if ([] : List Keyword).isEmpty then 0 else 1) < 30)) = true := by rfl)
    (hline : (apos.endLine == cpos.line) = true := by rfl) (hs : starEach (e :: es) X.env = (false, eval e X.env) :: starEach es X.env := by rfl) (hplain : (backTo cpos (starEach es X.env)).any (·.1) = false := by rfl) :
    PE X (.Call (.Attribute o name apos) (e :: es) [] cpos) (tTM r to t) := by
  intro pins s σ H Q I h
  refine wpAny_Call_method_late hbase hfew hline rfl (thn (ho pins s σ H _ I h) fun v s1 ⟨x, H1, I1, r1, ⟨p, xs, ex, hp⟩, q1⟩ => ?_)
  subst ex
  cases (show v = Value.ref p from r1)
  obtain ⟨_, its, _, pt, nd⟩ := I1.hok p _ hp
  refine ⟨"tuple", id, PySem.F.plainAttrs_tuple, slot, hty, pt.typeIs, fun a ea => ?_, ?_⟩
  · cases ea; exact nd
  have hA := ha cpos pins s1 σ H1 _ I1 q1
  rw [hs] at hA ⊢
  refine Calls.callWith_builtin (by show (false || (backTo cpos (starEach es X.env)).any (·.1)) = false; rw [hplain] <;> rfl) (Calls.evalArgs_plain ?_)
  exact thn hA fun us s2 ⟨vs, H2, I2, r2, q2⟩ => hm pins s2 σ H2 (.ref p) vs (.ref p) us Q I2 (show RelV (.ref p) (.ref p) from rfl) r2 q2
end
end L2
set_option maxHeartbeats 4000000
namespace K12
open PySem L2 Frac Lw Dig PySem.NumText Nm
open Ord Num Look Rdo
section
variable {P : Program} {w : World} {K : PySem.W.Frag} {mg : Str → Option Value} {base : Heap}
theorem getD_dF {f : List (Int × Int)} {n : Nat} (h : n < f.length) : (f.map dF)[n]? = some (dF (f.getD n (0, 1))) := by
  rw [List.getElem?_map, List.getD_eq_getElem?_getD, List.getElem?_eq_getElem h]; rfl
theorem getD_mem {f : List (Int × Int)} {n : Nat} (h : n < f.length) : f.getD n (0, 1) ∈ f := by
  rw [List.getD_eq_getElem?_getD, List.getElem?_eq_getElem h]; exact List.getElem_mem h
theorem ev_tix {σ : St} {G : Hp} {i : Nat} {tb : TE} {ws : List Str} {z : Str} {p : Addr} (hi : σ[i]? = some (some (.ref p))) (hp : G p = some (.tup (ws.map V.str))) (hb : Ev K tb σ G (.str z)) (hz : z ∈ ws) : Ev K (tTM (rTIndex K) (tVar i) (tCons tb tNil)) σ G (.int (ws.idxOf z : Nat)) :=
  fun G1 H s1 s2 Q k => ⟨_, hi, ⟨p, _, rfl, s2 _ _ (s1 _ _ hp)⟩, hb G1 H s1 s2 _ fun u G3 H3 g3 hu => by
    rw [hu.str]
    exact ⟨p, ws, z, rfl, rfl, SqT.of (g3.hh _ _ (s2 _ _ (s1 _ _ hp))), hz, k _ G3 H3 g3 (dat_int _)⟩⟩
theorem noL_dFs (ws : List (Int × Int)) : noL (.tuple (ws.map dF)) = true := by
  unfold noL
  induction ws with
  | nil => rfl
  | cons x r ih => rw [List.map_cons]; unfold noLs; rw [ih]; rfl
theorem body_field (T : Top K mg) (W1 : Txs K w.params mg "AHEAD" aheadT) {book : List Str} {f g : List (Int × Int)} (hfl : f.length = book.length) (hgl : g.length = book.length) (hf : ∀ p ∈ f, Sz p) (hg : ∀ p ∈ g, Sz p)
    {H0 : Hp} {pb : Addr} {vf vg : V} (hb : H0 pb = some (.tup (book.map V.str))) (hvf : Dat K H0 vf (.tuple (f.map dF))) (hvg : Dat K H0 vg (.tuple (g.map dF)))
    {A : Around} {outer : List Env} {s' : Shared} {H' : Hp} {vs : List V} {Q : VK} {fa c' : Addr} {cl : List (Str × Addr)} (hr : Room 2 (A.deeper (envB lq_by_field (defScope s_by_field) s'.heap.objs.size fa (.ref c') cl))) (kp : Kp H0 H') (h : spP K (RBF book (enOf book f g)) vs H' Q E0) :
    ∃ t, PSs (cloCx P w K mg base ((["word", "field"] : List Str) ++ (["place"] : List Str) ++ (["book", "first", "second"] : List Str)) lq_by_field (defScope s_by_field) fa c' cl A outer s' H') (defBody s_by_field) t ∧ t { nx := fun _ H' => Q .non H', rt := Q } (vs.map some ++ List.replicate (["place"] : List Str).length none ++ [some (.ref pb), some vf, some vg]) H' := by
  have G_answer : FnOk P w K mg base CX0 2 T.f_answer T.fd_answer ["word", "how"] (spP K RAns) := (ok_answer T W1).mono (by decide)
  have G_how_stands : FnOk P w K mg base CX0 2 T.f_how_stands T.fd_how_stands ["one", "other"] (spP K RHow) := ok_how T
  have hu := hr.units
  obtain ⟨G, as, d, sg, hv, ⟨z, hz, hx⟩, k⟩ := h
  have hi : book.idxOf z < book.length := List.idxOf_lt_length_of_mem hz
  have hb' := kp.1 _ _ hb
  have hf' := kp.dat _ _ (noL_dFs _) hvf
  have hg' := kp.dat _ _ (noL_dFs _) hvg
  have key : ∀ {x : Str} {e : PyData} {v1 v2 : V}, Dat K H' v1 (.str x) → Dat K H' v2 (.str z) → RAns [.str x, .str (hsA (f.getD (book.idxOf z) (0, 1)) (g.getD (book.idxOf z) (0, 1))).how] e → (∀ v G' H'', Grow H' H' G' H'' → Dat K G' v e → Q v H'') →
      ∃ t, PSs (cloCx P w K mg base ((["word", "field"] : List Str) ++ (["place"] : List Str) ++ (["book", "first", "second"] : List Str)) lq_by_field (defScope s_by_field) fa c' cl A outer s' H') (defBody s_by_field) t ∧ t { nx := fun _ H' => Q .non H', rt := Q } [some v1, some v2, none, some (.ref pb), some vf, some vg] H' := fun {x e v1 v2} h1 h2 hR hk => by
    refine ⟨_, (pss_cons (ps_set (i := 2) sc_by_field.nd rfl (Or.inl rfl) (pe_tm PySem.F.slot_tuple_index PySem.F.type_tuple_index (mt_tindex (K := K) rfl) (pv 3) (pa_cons (pv 1) pa_nil st_Name)))
      (pss_one (ps_ret (pe_call G_answer hr (by rfl) T.m_answer T.F_answer.kp T.b_answer .nil pass0 (pa_cons (pv 0) (pa_cons (pe_call G_how_stands hr (by rfl) T.m_how_stands T.F_how_stands.kp T.b_how_stands .nil pass0 (pa_cons (pe_ix (ix_tupK (K := K) rfl) (pv 4) (pv 2) (fun _ _ => rfl)) (pa_cons (pe_ix (ix_tupK (K := K) rfl) (pv 5) (pv 2) (fun _ _ => rfl)) pa_nil st_Subscript) st_Subscript)) pa_nil st_Call) st_Name))))) , ?_⟩
    refine asg_ev (K := K) (G := H') (ev_tix rfl hb' (ev_var rfl h2) hz) (Same.refl _) fun v3 G1 H1 g1 h3 => ?_
    refine ret_ev (K := K) (G := G1) (ev_call (E := E0) (R := RAns) (eva_cons (ev_var rfl (h1.same g1.gg)) (eva_cons (ev_call (E := E0) (R := RHow) (eva_cons (ev_ixT (ev_var rfl (hf'.same g1.gg)) (ev_var rfl h3) (ixN_nat (by rw [List.length_map]; omega)) (getD_dF (by omega))) (eva_cons (ev_ixT (ev_var rfl (hg'.same g1.gg)) (ev_var rfl h3) (ixN_nat (by rw [List.length_map]; omega)) (getD_dF (by omega))) eva_nil)) ⟨_, _, rfl, hf _ (getD_mem (by omega)), hg _ (getD_mem (by omega)), rfl⟩) eva_nil)) hR) g1.gh fun v G' H'' g hv => hk v G' H'' (g1.trans g) hv
  rcases hx with ⟨rfl, rfl⟩ | ⟨rfl, rfl⟩
  · obtain ⟨v1, r1, rfl, h1, hv⟩ := hv.cons
    obtain ⟨v2, r2, rfl, h2, hv⟩ := hv.cons
    cases hv.nil
    exact key (h1.same sg) (h2.same sg) ⟨_, .inl ⟨rfl, rfl⟩⟩ fun v G' H'' g hv => by
      rw [hv.str]
      exact k _ G H'' ⟨Same.refl _, sg.trans g.hh, g.hh, fun _ _ h => .inl h⟩ (dat_str _)
  · obtain ⟨v1, r1, rfl, h1, hv⟩ := hv.cons
    obtain ⟨v2, r2, rfl, h2, hv⟩ := hv.cons
    cases hv.nil
    refine key (e := .bool (isA (hsA (f.getD (book.idxOf z) (0, 1)) (g.getD (book.idxOf z) (0, 1))) .like)) (h1.same sg) (h2.same sg) ⟨_, .inr ⟨_, by decide +kernel, rfl, ?_⟩⟩ fun v G' H'' g hv => by
      rw [hv.bl]
      exact k _ G H'' ⟨Same.refl _, sg.trans g.hh, g.hh, fun _ _ h => .inl h⟩ (dat_bl _)
    congr 1
    generalize hsA _ _ = a
    cases a <;> decide +kernel
end
end K12
set_option maxHeartbeats 4000000
namespace K12
open PySem L2 Frac Lw Dig PySem.NumText Nm
open Ord Num Look Rdo
def wid (G H : Hp) : Hp := fun b => match G b with
  | some o => some o
  | none => match H b with
    | some (.lst _) => none
    | o => o
theorem wid_G {G H : Hp} : Same G (wid G H) := fun b o e => by unfold wid; rw [e]
theorem wid_H {G H : Hp} (s : Same G H) : Same (wid G H) H := fun b o e => by
  unfold wid at e
  cases hg : G b with
  | some o' => rw [hg] at e; dsimp only at e; rw [← e]; exact s _ _ hg
  | none =>
    rw [hg] at e
    dsimp only at e
    split at e
    · cases e
    · exact e
theorem wid_kp {G H : Hp} (s : Same G H) : Kp H (wid G H) := by
  refine ⟨fun b xs e => ?_, fun b o u e => ?_⟩
  · unfold wid
    cases hg : G b with
    | some o' => rw [s _ _ hg] at e; exact e
    | none => dsimp only; rw [e]
  · unfold wid
    cases hg : G b with
    | some o' => rw [s _ _ hg] at e; exact e
    | none => dsimp only; rw [e]
theorem wid_back {K : PySem.W.Frag} {G H G' H' : Hp} {v : V} {ds : List PyData} (s : Same G H) (g : Grow (wid G H) H G' H') (hv : Dat K G' v (.list ds)) (hf : ∀ {G1 G2 : Hp} {xs : List V}, Dats K G1 xs ds → Dats K G2 xs ds) : ∃ G'', Grow G H G'' H' ∧ Dat K G'' v (.list ds) := by
  obtain ⟨p, xs, rfl, hp, hx⟩ := hv.lst
  cases hg : G p with
  | some o =>
    have e := g.gg _ _ (wid_G (H := H) _ _ hg)
    rw [hp] at e
    injection e with e
    refine ⟨G, ⟨Same.refl _, s.trans g.hh, g.hh, fun _ _ h => .inl h⟩, dat_lst (xs := xs) (by rw [hg, ← e]) (hf hx)⟩
  | none =>
    have hn : H p = none := by
      rcases g.fr p _ hp with q | q
      · have hH := wid_H s _ _ q
        unfold wid at q
        rw [hg] at q
        dsimp only at q
        rw [hH] at q
        cases q
      · exact q
    have sG : Same G (L2.upd G p (.lst xs)) := same_new hg
    refine ⟨L2.upd G p (.lst xs), ⟨sG, fun b o e => ?_, g.hh, fun b o e => ?_⟩, dat_lst upd_same (hf hx)⟩
    · by_cases hb : b = p
      · subst hb; rw [upd_same] at e; rw [← e]; exact g.gh _ _ hp
      · rw [upd_ne hb] at e; exact g.hh _ _ (s _ _ e)
    · by_cases hb : b = p
      · subst hb; exact .inr hn
      · rw [upd_ne hb] at e; exact .inl e
theorem how_is {a : An} {x : Str} {b : An} (h : b.how = x) : decide (a.how = x) = isA a b := by
  subst h
  cases a <;> cases b <;> decide +kernel
section
variable {P : Program} {w : World} {K : PySem.W.Frag} {mg : Str → Option Value} {base : Heap}
theorem body_mark (T : Top K mg) (W1 : Txs K w.params mg "AHEAD" aheadT) {book : List Str} {f g : List (Int × Int)} {num : Int → Int → Prop} (hnum : ∀ a b, num a b → Sz (a, b)) (hfl : f.length = book.length) (hgl : g.length = book.length) (hf : ∀ p ∈ f, Sz p) (hg : ∀ p ∈ g, Sz p)
    {H0 : Hp} {pb : Addr} {vf vg : V} (hb : H0 pb = some (.tup (book.map V.str))) (hvf : Dat K H0 vf (.tuple (f.map dF))) (hvg : Dat K H0 vg (.tuple (g.map dF)))
    {A : Around} {outer : List Env} {s' : Shared} {H' : Hp} {vs : List V} {Q : VK} {fa c' : Addr} {cl : List (Str × Addr)} (hr : Room 2 (A.deeper (envB lq_by_mark (defScope s_by_mark) s'.heap.objs.size fa (.ref c') cl))) (kp : Kp H0 H') (h : spP K (RBM book num (enOf book f g)) vs H' Q E0) :
    ∃ t, PSs (cloCx P w K mg base ((["word", "field", "number"] : List Str) ++ (["place"] : List Str) ++ (["book", "first", "second"] : List Str)) lq_by_mark (defScope s_by_mark) fa c' cl A outer s' H') (defBody s_by_mark) t ∧ t { nx := fun _ H' => Q .non H', rt := Q } (vs.map some ++ List.replicate (["place"] : List Str).length none ++ [some (.ref pb), some vf, some vg]) H' := by
  have G_answer : FnOk P w K mg base CX0 2 T.f_answer T.fd_answer ["word", "how"] (spP K RAns) := (ok_answer T W1).mono (by decide)
  have G_how_stands : FnOk P w K mg base CX0 2 T.f_how_stands T.fd_how_stands ["one", "other"] (spP K RHow) := ok_how T
  have hu := hr.units
  obtain ⟨G, as, d, sg, hv, ⟨z, hz, a, b, hab, hx⟩, k⟩ := h
  have hi : book.idxOf z < book.length := List.idxOf_lt_length_of_mem hz
  have kw := kp.trans (wid_kp sg)
  have hb' := kw.1 _ _ hb
  have hf' := kw.dat _ _ (noL_dFs _) hvf
  have hg' := kw.dat _ _ (noL_dFs _) hvg
  have key : ∀ {x : Str} {c : An} {v1 v2 v3 : V}, x ≠ S "look" → c.how = x → Dat K G v1 (.str x) → Dat K G v2 (.str z) → Dat K G v3 (dF (a, b)) →
      (∀ v G' H'', Grow G H' G' H'' → Dat K G' v (.list [.bool (isA (hsA (f.getD (book.idxOf z) (0, 1)) (a, b)) c), .bool (isA (hsA (g.getD (book.idxOf z) (0, 1)) (a, b)) c)]) → Q v H'') →
      ∃ t, PSs (cloCx P w K mg base ((["word", "field", "number"] : List Str) ++ (["place"] : List Str) ++ (["book", "first", "second"] : List Str)) lq_by_mark (defScope s_by_mark) fa c' cl A outer s' H') (defBody s_by_mark) t ∧ t { nx := fun _ H' => Q .non H', rt := Q } [some v1, some v2, some v3, none, some (.ref pb), some vf, some vg] H' := fun {x c v1 v2 v3} hxl hc h1 h2 h3 hk => by
    have h1' := h1.same (wid_G (H := H'))
    have h2' := h2.same (wid_G (H := H'))
    have h3' := h3.same (wid_G (H := H'))
    refine ⟨_, (pss_cons (ps_set (i := 3) sc_by_mark.nd rfl (Or.inr rfl) (pe_tm PySem.F.slot_tuple_index PySem.F.type_tuple_index (mt_tindex (K := K) rfl) (pv 4) (pa_cons (pv 1) pa_nil st_Name)))
      (pss_one (ps_ret (pe_lc (x := "thing") (cap := ["word", "place", "number"]) (js := [0, 3, 2]) ⟨rfl, by decide +kernel, by decide +kernel, rfl, (by show ∀ p ∈ (_ : List (Str × NameKind)), p.2 = NameKind.free → List.lookup p.1 (defScope s_by_mark).names = some NameKind.cell; decide +kernel), by decide +kernel, by decide +kernel, by decide +kernel⟩ rfl rfl (fun _ _ h => h) (pi_tup (pe_tup (pa_cons (pv 5) (pa_cons (pv 6) pa_nil st_Name) st_Name))) (fun _ _ _ _ => ⟨pif_nil, (pe_call G_answer hr (by rfl) T.m_answer T.F_answer.kp T.b_answer .nil pass0 (pa_cons (pv 1) (pa_cons (pe_call G_how_stands hr (by rfl) T.m_how_stands T.F_how_stands.kp T.b_how_stands .nil pass0 (pa_cons (pe_ix (ix_tupK (K := K) rfl) (pv 0) (pv 2) (fun _ _ => rfl)) (pa_cons (pv 3) pa_nil st_Name) st_Subscript)) pa_nil st_Call) st_Name))⟩))))) , ?_⟩
    refine asg_ev (K := K) (G := wid G H') (ev_tix rfl hb' (ev_var rfl h2') hz) (wid_H sg) fun v4 G1 H1 g1 h4 => ?_
    refine ret_ev (K := K) (G := G1) (d := .list [.bool (isA (hsA (f.getD (book.idxOf z) (0, 1)) (a, b)) c), .bool (isA (hsA (g.getD (book.idxOf z) (0, 1)) (a, b)) c)])
      (ev_lcT (K := K) [f, g] (fun l => .tuple (l.map dF)) (fun l => some (.bool (isA (hsA (l.getD (book.idxOf z) (0, 1)) (a, b)) c))) (ev_tup (eva_cons (ev_var rfl (hf'.same g1.gg)) (eva_cons (ev_var rfl (hg'.same g1.gg)) eva_nil)) (by show 2 ≤ sizeLine; decide)) (by show 2 < sizeLine; decide) (fun G2 i l y sG hl hy => ?_)) g1.gh fun v G' H'' g2 hv => ?_
    · have hll : l.length = book.length ∧ ∀ p ∈ l, Sz p := by
        match i, hl with
        | 0, hl => cases hl; exact ⟨hfl, hf⟩
        | 1, hl => cases hl; exact ⟨hgl, hg⟩
      refine .inl ⟨_, rfl, evt_noif, ev_call (E := E0) (R := RAns) (eva_cons (ev_var rfl ((h1'.same g1.gg).same sG)) (eva_cons (ev_call (E := E0) (R := RHow) (eva_cons (ev_ixT (ev_var rfl hy) (ev_var rfl (h4.same sG)) (ixN_nat (by rw [List.length_map]; omega)) (getD_dF (by omega))) (eva_cons (ev_var rfl ((h3'.same g1.gg).same sG)) eva_nil)) ⟨_, (a, b), rfl, hll.2 _ (getD_mem (by omega)), hnum a b hab, rfl⟩) eva_nil)) ⟨_, .inr ⟨x, hxl, rfl, ?_⟩⟩⟩
      rw [how_is hc]
    · obtain ⟨G'', g3, hv'⟩ := wid_back sg (g1.trans g2) hv (fun {G1 G2 xs} hd => by
        obtain ⟨y1, r1, rfl, d1, hd⟩ := hd.cons
        obtain ⟨y2, r2, rfl, d2, hd⟩ := hd.cons
        cases hd.nil
        rw [d1.bl, d2.bl]
        exact dats_cons (dat_bl _) (dats_cons (dat_bl _) dats_nil))
      exact hk v G'' H'' g3 hv'
  rcases hx with ⟨rfl, rfl⟩ | ⟨rfl, rfl⟩
  · obtain ⟨v1, r1, rfl, h1, hv⟩ := hv.cons
    obtain ⟨v2, r2, rfl, h2, hv⟩ := hv.cons
    obtain ⟨v3, r3, rfl, h3, hv⟩ := hv.cons
    cases hv.nil
    exact key (c := .ahead) (by decide +kernel) rfl h1 h2 h3 k
  · obtain ⟨v1, r1, rfl, h1, hv⟩ := hv.cons
    obtain ⟨v2, r2, rfl, h2, hv⟩ := hv.cons
    obtain ⟨v3, r3, rfl, h3, hv⟩ := hv.cons
    cases hv.nil
    exact key (c := .like) (by decide +kernel) rfl h1 h2 h3 k
end
end K12
set_option maxHeartbeats 4000000
namespace K12
open PySem L2 Frac Lw Dig PySem.NumText Nm
open Ord Num Look Rdo
def spLook (K : PySem.W.Frag) (Pt : Addr) (cr : Nat → Nat → Option Str) : Sp := fun vs H Q _ => ∃ (G : Hp) (ws : List Wd) (book : List Str) (f g : List (Int × Int)) (num : Int → Int → Prop) (a : An) (vo vf vg : V) (pb : Addr), vs = [vo, .ref pb, vf, vg] ∧ G Pt = some (.tbl cr) ∧ Same G H ∧ G pb = some (.tup (book.map V.str)) ∧
  (Dat K G vo (.tuple (ws.map Wd.d)) ∧ Dat K G vf (.tuple (f.map dF)) ∧ Dat K G vg (.tuple (g.map dF))) ∧ IsOrd (· ∈ book) num ws ∧ (∀ a b, num a b → Sz (a, b)) ∧ (f.length = book.length ∧ g.length = book.length ∧ (∀ p ∈ f, Sz p) ∧ ∀ p ∈ g, Sz p) ∧ (∀ z ∈ book, wordT z = none) ∧ ws.length ≤ 900 ∧
  (∀ R, ev (enOf book f g) ws R = .an a :: R) ∧ ∀ G' H', Grow G H G' H' → Q (.str a.t) H'
section
variable {P : Program} {w : World} {K : PySem.W.Frag} {mg : Str → Option Value} {base : Heap}
theorem ok_looked (T : Top K mg) (M : Bs K mg base) (W : Wds K w.params mg) (W1 : Txs K w.params mg "AHEAD" aheadT) (W2 : Txs K w.params mg "OTHER_WAY" otherT) : FnOk P w K mg base CX0 6 T.f_looked T.fd_looked ["order", "book", "first", "second"] (spLook K T.P_looked cr_looked) := by
  refine T.F_looked.okC sc_looked (fun vs H Q E h => ?_) (fun cdv A outer s H vs Q E hcd hr h => ?_)
  · obtain ⟨G, ws, book, f, g, num, a, vo, vf, vg, pb, rfl, _⟩ := h
    rfl
  · obtain ⟨G, ws, book, f, g, num, a, vo, vf, vg, pb, rfl, hP, sg, hpb, ⟨ho, hvf, hvg⟩, hord, hnum, ⟨hfl, hgl, hf, hg⟩, hwd, hlen, hev, k⟩ := h
    have hu := hr.units
    have G_telling := fun f1 f2 => ok_telling (P := P) (w := w) (base := base) T W W2 book num (enOf book f g) hwd f1 f2
    let RH : Addr → Addr → St → Hp → Prop := fun f1 f2 σ H1 => (IsDef H1 f1 "by_field" lq_by_field (defArgs s_by_field) (defBody s_by_field) (defScope s_by_field) (clOf (PyProof.Rows.envOfC "looked" (defScope s_looked) s.heap.objs.size T.f_looked cdv) (defScope s_by_field).names []) ∧
      IsDef H1 f2 "by_mark" lq_by_mark (defArgs s_by_mark) (defBody s_by_mark) (defScope s_by_mark) (clOf (PyProof.Rows.envOfC "looked" (defScope s_looked) s.heap.objs.size T.f_looked cdv) (defScope s_by_mark).names [])) ∧
      σ = [some vo, some (.ref pb), some vf, some vg, some (.ref f1), some (.ref f2)] ∧ H1 pb = some (.tup (book.map V.str)) ∧ Dat K H1 vf (.tuple (f.map dF)) ∧ Dat K H1 vg (.tuple (g.map dF))
    have hC : ∀ (pins : List (Addr × Obj)) (σ : St) (H1 : Hp) (s1 : Shared) (f1 f2 : Addr), Inv (cxOf CX0 P w K mg base ["order", "book", "first", "second", "by_field", "by_mark"] "looked" (defScope s_looked) T.f_looked cdv A outer s H E).nox pins σ H1 s1 → RH f1 f2 σ H1 → cls2 P w K mg base book num (enOf book f g) f1 f2 s1 H1 := by
      rintro pins σ H1 s1 f1 f2 I ⟨⟨L1, L2⟩, rfl, hb1, hf1, hg1⟩
      refine ⟨cl_of (js := [1, 2, 3]) I sc_by_field rfl L1 (fun cl us hl doc pm ctv c' => ?_) (fun A outer s' H' vs Q fa c' cl hr' kp hl h => body_field T W1 hfl hgl hf hg hb1 hf1 hg1 hr' kp h), cl_of (js := [1, 2, 3]) I sc_by_mark rfl L2 (fun cl us hl doc pm ctv c' => ?_) (fun A outer s' H' vs Q fa c' cl hr' kp hl h => body_mark T W1 hnum hfl hgl hf hg hb1 hf1 hg1 hr' kp h)⟩
      · match us, hl with
        | [_, _], _ => rfl
      · match us, hl with
        | [_, _, _], _ => rfl
    refine ⟨_, (pss_cons (ps_def (i := 4) (P := T.P_looked) (cr := cr_looked) (q := lq_by_field) sc_by_field (hcd.trans T.cd_looked) (PySem.W.codeHd_of_K M.kin T.ch_looked) M.bm rfl rfl sc_looked.nd rfl rfl)
      (pss_cons (ps_def (i := 5) (P := T.P_looked) (cr := cr_looked) (q := lq_by_mark) sc_by_mark (hcd.trans T.cd_looked) (PySem.W.codeHd_of_K M.kin T.ch_looked) M.bm rfl rfl sc_looked.nd rfl rfl)
      (pss_one (ps_ret (pe_hand (C := cls2 P w K mg base book num (enOf book f g)) (sp2 := fun f1 f2 _ => spC K f1 f2 (RTell book num (enOf book f g))) (RH := RH) (fun f1 f2 _ => G_telling f1 f2) hC hr (by rfl) T.m_telling T.F_telling.kp T.b_telling (pa_cons (pv 0) (pa_cons (pv 4) (pa_cons (pv 5) pa_nil st_Name) st_Name) st_Name)))))) , ?_⟩
    refine ⟨sg _ _ hP, fun f1 H1 hf1 s1 L1 => ⟨s1 _ _ (sg _ _ hP), fun f2 H2 hf2 s2 L2 => ?_⟩⟩
    have sH := s1.trans s2
    have sG := sg.trans sH
    refine ⟨_, rfl, _, rfl, _, rfl, f1, f2, ⟨⟨L1.same fun b o u e => s2 _ _ e, L2⟩, rfl, sG _ _ hpb, hvf.same sG, hvg.same sG⟩, ?_⟩
    refine ⟨G, [.tuple (ws.map Wd.d)], .str a.t, [vo], rfl, sG, dats_cons ho dats_nil, ⟨ws, a, rfl, hord, hev, hlen, rfl⟩, fun v G' H' g' hv => ?_⟩
    rw [hv.str]
    exact k G H' ⟨Same.refl _, sG.trans g'.hh, sH.trans g'.hh, fun _ _ h => .inl h⟩
end
end K12
set_option maxHeartbeats 4000000
namespace L2
open PySem PySem.Spec PyProof.Rows Lw Nm Frac
structure Dk (d c : Addr) (G H G' H' : Hp) : Prop where
  gg : Same G G'
  gh : Same G' H'
  fr : ∀ b o, G' b = some o → G b = some o ∨ H b = none
  kp : KeptBut d c H H'
  D : DeckAt H' d c
section
variable {K : PySem.W.Frag} {d c : Addr} {σ : St} {G H G' H' : Hp}
theorem Dk.out (k : Dk d c G H G' H') {p : Addr} {o : HO} (hp : H p = some o) (hg : G p = none) : G' p = none := by
  cases e : G' p with
  | none => rfl
  | some u =>
    rcases k.fr p u e with h | h
    · rw [hg] at h; cases h
    · rw [hp] at h; cases h
theorem deck_some (D : DeckAt H d c) : (∃ o, H d = some o) ∧ ∃ o, H c = some o := by
  obtain ⟨k, ns, h1, h2, _⟩ := D.ex
  exact ⟨⟨_, h1⟩, _, h2⟩
theorem Dk.gd (k : Dk d c G H G' H') (D : DeckAt H d c) (hg : G d = none) : G' d = none := by
  obtain ⟨⟨o, h⟩, _⟩ := deck_some D
  exact k.out h hg
theorem Dk.gc (k : Dk d c G H G' H') (D : DeckAt H d c) (hg : G c = none) : G' c = none := by
  obtain ⟨_, ⟨o, h⟩⟩ := deck_some D
  exact k.out h hg
theorem Grow.dk (g : Grow G H G' H') (D : DeckAt H d c) : Dk d c G H G' H' := ⟨g.gg, g.gh, g.fr, Same.but g.hh, D.same g.hh⟩
theorem Dk.refl (s : Same G H) (D : DeckAt H d c) : Dk d c G H G H := (Grow.refl s).dk D
theorem Dk.trans {G1 H1 : Hp} (a : Dk d c G H G1 H1) (b : Dk d c G1 H1 G' H') : Dk d c G H G' H' := by
  refine ⟨a.gg.trans b.gg, b.gh, fun x o e => ?_, a.kp.trans b.kp, b.D⟩
  rcases b.fr x o e with h | h
  · exact a.fr x o h
  · exact .inr (KeptBut.free a.kp a.D h)
theorem dk_kept (s : Same G H) (hd : G d = none) (hc : G c = none) (D : DeckAt H' d c) (k : KeptBut d c H H') : Dk d c G H G H' :=
  ⟨Same.refl _, fun b o e => k b o (s b o e) (ne_of_none e hd) (ne_of_none e hc), fun _ _ e => .inl e, k, D⟩
theorem dk_put {p : Addr} {o : HO} (s : Same G H) (hd : G d = none) (hc : G c = none) (D : DeckAt H' d c) (k : KeptBut d c H H') (hp : H p = none) (hp' : H' p = some o) : Dk d c G H (upd G p o) H' := by
  have hg : G p = none := s.free hp
  refine ⟨fun b u e => ?_, fun b u e => ?_, fun b u e => ?_, k, D⟩
  · rw [upd_ne (ne_of_none e hg)]; exact e
  · by_cases h : b = p
    · subst h; rw [upd_same] at e; rw [hp', e]
    · rw [upd_ne h] at e; exact k b u (s b u e) (ne_of_none e hd) (ne_of_none e hc)
  · by_cases h : b = p
    · subst h; exact .inr hp
    · rw [upd_ne h] at e; exact .inl e
def Dv (K : PySem.W.Frag) (d c : Addr) (t : TE) (σ : St) (G : Hp) (R : PyData → Prop) : Prop :=
  ∀ G1 H, Same G G1 → Same G1 H → G1 d = none → G1 c = none → DeckAt H d c → ∀ Q : VK, (∀ v x G' H', R x → Dk d c G1 H G' H' → Dat K G' v x → Q v H') → t σ H Q
def DvA (K : PySem.W.Frag) (d c : Addr) (t : TA) (σ : St) (G : Hp) (R : List PyData → Prop) : Prop :=
  ∀ G1 H, Same G G1 → Same G1 H → G1 d = none → G1 c = none → DeckAt H d c → ∀ Q : List V → Hp → Prop, (∀ vs xs G' H', R xs → Dk d c G1 H G' H' → Dats K G' vs xs → Q vs H') → t σ H Q
theorem Dv.mono {t : TE} {R : PyData → Prop} (h : Dv K d c t σ G R) (s : Same G G') : Dv K d c t σ G' R := fun G1 H s1 s2 a b D Q k => h G1 H (s.trans s1) s2 a b D Q k
theorem Dv.imp {t : TE} {R R' : PyData → Prop} (h : Dv K d c t σ G R) (hi : ∀ x, R x → R' x) : Dv K d c t σ G R' := fun G1 H s1 s2 a b D Q k => h G1 H s1 s2 a b D Q fun v x G' H' r => k v x G' H' (hi x r)
theorem dv_of {t : TE} {x : PyData} {R : PyData → Prop} (h : Ev K t σ G x) (hR : R x) : Dv K d c t σ G R := fun G1 H s1 s2 a b D Q k => h G1 H s1 s2 _ fun v G' H' g hv => k v x G' H' hR (g.dk D) hv
theorem dv_ev {t : TE} {x : PyData} (h : Ev K t σ G x) : Dv K d c t σ G (· = x) := dv_of h rfl
theorem dva_nil : DvA K d c tNil σ G (· = []) := fun G1 H s1 s2 a b D Q k => k [] [] G1 H rfl (Dk.refl s2 D) dats_nil
theorem dva_cons {ta : TE} {t : TA} {R : PyData → Prop} {Rs : List PyData → Prop} (h : Dv K d c ta σ G R) (h' : DvA K d c t σ G Rs) : DvA K d c (tCons ta t) σ G (fun xs => ∃ x r, xs = x :: r ∧ R x ∧ Rs r) := fun G1 H s1 s2 a b D Q k =>
  h G1 H s1 s2 a b D _ fun v x G2 H2 hx k2 hv => h' G2 H2 (s1.trans k2.gg) k2.gh (k2.gd D a) (k2.gc D b) k2.D _ fun vs xs G3 H3 hxs k3 hvs => k _ _ G3 H3 ⟨x, xs, rfl, hx, hxs⟩ (k2.trans k3) (dats_cons (hv.same k3.gg) hvs)
theorem dv_tup {t : TA} {Rs : List PyData → Prop} {R : PyData → Prop} (h : DvA K d c t σ G Rs) (hR : ∀ xs, Rs xs → xs.length ≤ sizeLine ∧ R (.tuple xs)) : Dv K d c (tTup t) σ G R := fun G1 H s1 s2 a b D Q k =>
  h G1 H s1 s2 a b D _ fun vs xs G2 H2 hx k2 hv => by
    refine ⟨by rw [hv.length]; exact (hR xs hx).1, fun p hp => ?_⟩
    have g := grow_new (o := .tup vs) k2.gh hp
    exact k _ _ _ _ (hR xs hx).2 (k2.trans (g.dk k2.D)) (dat_tup (SqT.of upd_same) (hv.same g.gg))
theorem dv_op {ta tb : TE} {r : R2} {Ra Rb R : PyData → Prop} (ha : Dv K d c ta σ G Ra) (hb : Dv K d c tb σ G Rb)
    (hr : ∀ a b va vb G', Ra a → Rb b → Same G G' → Dat K G' va a → Dat K G' vb b → ∃ x, R x ∧ Ev K (tOp r (tC va) (tC vb)) σ G' x) : Dv K d c (tOp r ta tb) σ G R := fun G1 H s1 s2 a b D Q k =>
  ha G1 H s1 s2 a b D _ fun va x G2 H2 hx k2 hva => hb G2 H2 (s1.trans k2.gg) k2.gh (k2.gd D a) (k2.gc D b) k2.D _ fun vb y G3 H3 hy k3 hvb => by
    have k23 := k2.trans k3
    obtain ⟨z, hz, he⟩ := hr x y va vb G3 hx hy (s1.trans k23.gg) (hva.same k3.gg) hvb
    exact he G3 H3 (Same.refl _) k3.gh Q fun v G4 H4 g4 hv => k v z G4 H4 hz (k23.trans (g4.dk k3.D)) hv
theorem dv_pickL {ta tb : TE} {n : Int} {R : PyData → Prop} (ha : Dv K d c ta σ G fun x => ∃ ds : List PyData, x = .list ds ∧ (ds.length : Int) = n ∧ ∀ e ∈ ds, R e) (hb : Dv K d c tb σ G fun x => ∃ r : Int, x = .int r ∧ 0 ≤ r ∧ r < n) : Dv K d c (tOp (rIxL K) ta tb) σ G R :=
  dv_op ha hb fun a b va vb G' h1 h2 s hva hvb => by
    obtain ⟨ds, rfl, hl, hR⟩ := h1
    obtain ⟨r, rfl, r0, r1⟩ := h2
    obtain ⟨j, rfl⟩ := Int.eq_ofNat_of_zero_le r0
    have hj : j < ds.length := by omega
    exact ⟨ds[j], hR _ (List.getElem_mem hj), ev_ixL (n := j) (ev_c hva) (ev_c hvb) (ixN_nat hj) (List.getElem?_eq_getElem hj)⟩
theorem dv_pickT {ta tb : TE} {n : Int} {R : PyData → Prop} (ha : Dv K d c ta σ G fun x => ∃ ds : List PyData, x = .tuple ds ∧ (ds.length : Int) = n ∧ ∀ e ∈ ds, R e) (hb : Dv K d c tb σ G fun x => ∃ r : Int, x = .int r ∧ 0 ≤ r ∧ r < n) : Dv K d c (tOp (rIxT K) ta tb) σ G R :=
  dv_op ha hb fun a b va vb G' h1 h2 s hva hvb => by
    obtain ⟨ds, rfl, hl, hR⟩ := h1
    obtain ⟨r, rfl, r0, r1⟩ := h2
    obtain ⟨j, rfl⟩ := Int.eq_ofNat_of_zero_le r0
    have hj : j < ds.length := by omega
    exact ⟨ds[j], hR _ (List.getElem_mem hj), ev_ixT (n := j) (ev_c hva) (ev_c hvb) (ixN_nat hj) (List.getElem?_eq_getElem hj)⟩
theorem dv_take {E : XK} {i : Nat} {tm : TE} {m : Int} (hi : σ[i]? = some (some (.ref d))) (hm : Ev K tm σ G (.int m)) (m1 : 1 ≤ m) (m2 : m.natAbs < 10 ^ 100) : Dv K d c (tCall spTake [] E (tCons (tVar i) (tCons tm tNil))) σ G fun x => ∃ r : Int, x = .int r ∧ 0 ≤ r ∧ r < m :=
  fun G1 H s1 s2 a b D Q k => ⟨_, hi, hm G1 H s1 s2 _ fun v G2 H2 g2 hv => by
    rw [hv.int]
    refine ⟨d, c, m, rfl, D.same g2.hh, ⟨m1, m2⟩, fun r H' r0 r1 D' k' => ?_⟩
    have k2 := g2.dk D
    exact k _ _ G2 H' ⟨r, rfl, r0, r1⟩ (k2.trans (dk_kept k2.gh (k2.gd D a) (k2.gc D b) D' k')) (dat_int _)⟩
abbrev dFr (p : Int × Int) : PyData := .tuple [.int p.1, .int p.2]
theorem dv_number {E : XK} {i : Nat} (hi : σ[i]? = some (some (.ref d))) : Dv K d c (tCall spNumber [] E (tCons (tVar i) tNil)) σ G fun x => ∃ n : Int × Int, x = dFr n ∧ Lst n ∧ n.1.natAbs < 10 ^ 20 ∧ n.2.natAbs ≤ 10 ^ 20 :=
  fun G1 H s1 s2 a b D Q k => ⟨_, hi, d, c, rfl, D, fun x y p H' y1 hg z1 z2 hp hp' D' k' => by
    exact k _ _ _ H' ⟨(x, y), rfl, ⟨y1, hg⟩, z1, z2⟩ (dk_put s2 a b D' k' hp hp') (dat_tup (SqT.of upd_same) (dats_cons (dat_int _) (dats_cons (dat_int _) dats_nil)))⟩
theorem ev_least {E : XK} {ta tb : TE} {a b : Int} (ha : Ev K ta σ G (.int a)) (hb : Ev K tb σ G (.int b)) (h0 : b ≠ 0) (z1 : a.natAbs < 10 ^ 100) (z2 : b.natAbs < 10 ^ 100) : Ev K (tCall spLeast [] E (tCons ta (tCons tb tNil))) σ G (dFr (norm a b)) :=
  fun G1 H s1 s2 Q k => ha G1 H s1 s2 _ fun v G2 H2 g2 hv => hb G2 H2 (s1.trans g2.gg) g2.gh _ fun u G3 H3 g3 hu => by
    rw [hv.int, hu.int]
    refine ⟨a, b, rfl, h0, ⟨z1, z2⟩, fun p hp => ?_⟩
    have g := grow_new (o := .tup [V.int (norm a b).1, V.int (norm a b).2]) g3.gh hp
    exact k _ _ _ ((g2.trans g3).trans g) (dat_tup (SqT.of upd_same) (dats_cons (dat_int _) (dats_cons (dat_int _) dats_nil)))
theorem Dv.use {t : TE} {R : PyData → Prop} {Q : VK} (h : Dv K d c t σ G R) (s : Same G H) (gd : G d = none) (gc : G c = none) (D : DeckAt H d c) (k : ∀ v x G' H', R x → Dk d c G H G' H' → Dat K G' v x → Q v H') : t σ H Q := h G H (Same.refl _) s gd gc D Q k
theorem asg_dv {te : TE} {Ed : Ends} {i : Nat} {R : PyData → Prop} (h : Dv K d c te σ G R) (s : Same G H) (gd : G d = none) (gc : G c = none) (D : DeckAt H d c) (k : ∀ v x G' H', R x → Dk d c G H G' H' → Dat K G' v x → Ed.nx (σ.set i (some v)) H') : tAsg te (gName i) Ed σ H := h.use s gd gc D k
def spDv (K : PySem.W.Frag) (R : List PyData → PyData → Prop) : Sp := fun vs H Q _ => ∃ (d c : Addr) (G : Hp) (us : List V) (ds : List PyData), vs = .ref d :: us ∧ Same G H ∧ G d = none ∧ G c = none ∧ DeckAt H d c ∧ Dats K G us ds ∧ (∃ x, R ds x) ∧ ∀ v x G' H', R ds x → Dk d c G H G' H' → Dat K G' v x → Q v H'
theorem dv_call {E : XK} {i : Nat} {t : TA} {ds : List PyData} {R : List PyData → PyData → Prop} (hi : σ[i]? = some (some (.ref d))) (h : EvA K t σ G ds) (hR : ∃ x, R ds x) : Dv K d c (tCall (spDv K R) [] E (tCons (tVar i) t)) σ G (R ds) :=
  fun G1 H s1 s2 a b D Q k => ⟨_, hi, h G1 H s1 s2 _ fun vs G2 H2 g2 hv => by
    have k2 := g2.dk D
    show spDv K R ((.ref d :: vs) ++ []) H2 Q E
    rw [List.append_nil]
    exact ⟨d, c, G2, vs, ds, rfl, k2.gh, k2.gd D a, k2.gc D b, k2.D, hv, hR, fun v x G' H' r k3 hx => k v x G' H' r (k2.trans k3) hx⟩⟩
theorem dv_lcR {t : TA} {js : List Nat} {te : TE} {n : Nat} {R : PyData → Prop} (hj : EvA K t σ G [.int (n : Nat)]) (hn : n < sizeLine) (he : ∀ G2 (i : Nat), Same G G2 → i < n → Dv K d c te (some (.int (0 + (i : Int))) :: capV σ js) G2 R) :
    Dv K d c (tLC (iRng1 t) js tNoIf te) σ G fun x => ∃ ds : List PyData, x = .list ds ∧ ds.length = n ∧ ∀ e ∈ ds, R e := fun G1 H s1 s2 a b D Q k =>
  hj G1 H s1 s2 _ fun vs G2 H2 g2 hv => by
    obtain ⟨y, ys, rfl, hy, r⟩ := hv.cons
    rw [r.nil, hy.int]
    have z : sizeLine < 2 ^ 62 := by decide
    have k2 := g2.dk D
    refine ⟨(n : Int), rfl, by omega, by omega, fun i m ys H' => m = n - i ∧ i ≤ n ∧ ∃ (G' : Hp) (ds : List PyData), Dk d c G2 H2 G' H' ∧ ds.length = i ∧ Dats K G' ys ds ∧ ∀ e ∈ ds, R e, ⟨n, by omega, by omega, G2, [], Dk.refl k2.gh k2.D, rfl, dats_nil, fun e he => by cases he⟩, ?_⟩
    rintro i m ys H' ⟨rfl, hi, G', ds, k3, hl, hys, hall⟩
    have hyl := hys.length
    have k23 := k2.trans k3
    refine ⟨by omega, ?_⟩
    by_cases h : i = n
    · subst h
      refine .inl ⟨show (i : Int).toNat ≤ i by omega, fun p hp => ?_⟩
      have g := grow_new (o := .lst ys) k3.gh hp
      exact k _ _ _ _ ⟨ds, rfl, hl, hall⟩ (k23.trans (g.dk k3.D)) (dat_lst upd_same (hys.same g.gg))
    · refine .inr ⟨show i < (n : Int).toNat by omega, fun x H'' hy => ?_⟩
      obtain ⟨rfl, rfl⟩ := hy
      refine tNoIf_of ?_
      refine he G' i (s1.trans k23.gg) (by omega) G' H'' (Same.refl _) k3.gh (k23.gd D a) (k23.gc D b) k3.D _ fun v e G4 H4 re k4 hv => ?_
      refine ⟨n - (i + 1), by omega, rfl, by omega, G4, ds ++ [e], k3.trans k4, by simp [hl], dats_append (hys.same k4.gg) (dats_cons hv dats_nil), fun z hz => ?_⟩
      rcases List.mem_append.mp hz with hz | hz
      · exact hall z hz
      · rw [List.mem_singleton.mp hz]; exact re
end
end L2
set_option maxHeartbeats 4000000
namespace L2
open PySem PySem.Spec PyProof.Rows
section
variable {X : Cx}
theorem call_max3v (hc : X.calm = true) : CallR X (.builtin "max") (fun xs H Q => ∃ i j k, xs = [.int i, .int j, .int k] ∧ Q (.int (if j > i then (if k > j then k else j) else (if k > i then k else i))) H) := by
  intro pins s σ H xs us Q I r h
  obtain ⟨i, j, k, rfl, q⟩ := h
  cases r with
  | cons r1 r => cases r with
    | cons r2 r => cases r with
      | cons r3 r =>
        cases r
        obtain ⟨t, rfl⟩ := r1
        obtain ⟨t', rfl⟩ := r2
        obtain ⟨t'', rfl⟩ := r3
        refine max_three_ints (I.ok.hd hc) fun h' tk kk => ⟨_, H, I.kept kk, ?_, q⟩
        by_cases h1 : j > i <;> by_cases h2 : k > j <;> by_cases h3 : k > i <;> simp only [h1, h2, h3, if_true, if_false] <;> exact ⟨_, rfl⟩
end
end L2
set_option maxHeartbeats 4000000
namespace Look
open PySem Ord Rdo
theorem wordT14 : wordT (S "like") = some (S "like", S "order", []) ∧ wordT (S "turn") = some (S "turn", S "order", [S "order"]) ∧ wordT (S "then") = some (S "then", S "order", [S "order", S "order"]) ∧ wordT (S "pick") = some (S "pick", S "order", [S "case", S "order", S "order"]) ∧ wordT (S "not") = some (S "not", S "case", [S "case"]) ∧
    wordT (S "up") = some (S "up", S "order", [S "field"]) ∧ wordT (S "down") = some (S "down", S "order", [S "field"]) := by decide +kernel
theorem push_w {E : En} {x : Str} {r : Str × Str × List Str} (h : wordT x = some r) (st : List Tv) : push E (.t x) st = appN E (wix x) (st.take r.2.2.length) :: st.drop r.2.2.length := by unfold push; dsimp only; rw [h]
section
variable {E : En} {one other cs : List Wd} {a b : An} {c : Bool}
theorem ev_like (R : List Tv) : ev E [.t (S "like")] R = .an .like :: R := by
  show push E (.t (S "like")) R = _
  rw [push_w wordT14.1, wix14.1]; rfl
theorem ev_turn (h : ∀ R, ev E one R = .an a :: R) (R : List Tv) : ev E (.t (S "turn") :: one) R = .an a.turn :: R := by
  show push E (.t (S "turn")) (ev E one R) = _
  rw [h, push_w wordT14.2.1, wix14.2.2.2.2.1]; rfl
theorem ev_then (h : ∀ R, ev E one R = .an a :: R) (h' : ∀ R, ev E other R = .an b :: R) (R : List Tv) : ev E (.t (S "then") :: (one ++ other)) R = .an (if a = .like then b else a) :: R := by
  show push E (.t (S "then")) (ev E (one ++ other) R) = _
  rw [ev_app, h', h, push_w wordT14.2.2.1, wix14.2.2.2.1]; rfl
theorem ev_pick (hc : ∀ R, ev E cs R = .tr c :: R) (h : ∀ R, ev E one R = .an a :: R) (h' : ∀ R, ev E other R = .an b :: R) (R : List Tv) : ev E (.t (S "pick") :: (cs ++ (one ++ other))) R = .an (if c = true then a else b) :: R := by
  show push E (.t (S "pick")) (ev E (cs ++ (one ++ other)) R) = _
  rw [ev_app, ev_app, h', h, hc, push_w wordT14.2.2.2.1, wix14.2.2.2.2.2.1]; rfl
end
theorem kinds_c : Kinds [S "case"] := fun x hx => by rw [List.mem_singleton.mp hx]; exact List.mem_cons_of_mem _ List.mem_cons_self
theorem ev_case {fld : Str → Prop} {num : Int → Int → Prop} (E : En) (hf : ∀ z, fld z → wordT z = none) {ws : List Wd} (h : Run fld num [S "case"] ws []) : ∃ c, ∀ R, ev E ws R = .tr c :: R := by
  obtain ⟨h1, h2⟩ := ev_ty (E := E) hf h kinds_c (vs := []) .nil
  cases hc : ev E ws [] with
  | nil => rw [hc] at h1; cases h1
  | cons v r =>
    rw [hc] at h1
    cases h1 with
    | cons x y =>
      cases y
      obtain ⟨a, rfl⟩ := x.case
      refine ⟨a, fun R => ?_⟩
      have := h2 R
      rw [List.nil_append] at this
      rw [this, hc]; rfl
end Look
set_option maxHeartbeats 4000000
namespace Look
open PySem Ord Rdo
section
variable {fld : Str → Prop} {num : Int → Int → Prop} {a b cs : List Wd}
abbrev IsCase (fld : Str → Prop) (num : Int → Int → Prop) (ws : List Wd) : Prop := Run fld num [S "case"] ws []
abbrev IsMark (fld : Str → Prop) (num : Int → Int → Prop) (ws : List Wd) : Prop := Run fld num [S "mark"] ws []
theorem o_like : IsOrd fld num [.t (S "like")] := .cons (st1 := []) (Ord.Step.word (ps := []) (st := []) (by decide +kernel) (by decide +kernel) (by decide +kernel)) .nil
theorem o_up {x : Str} (hx : fld x) : IsOrd fld num [.t (S "up"), .t x] := .cons (st1 := [S "field"]) (Ord.Step.word (ps := [S "field"]) (st := []) (by decide +kernel) (by decide +kernel) (by decide +kernel)) (.cons (Ord.Step.field hx) .nil)
theorem o_down {x : Str} (hx : fld x) : IsOrd fld num [.t (S "down"), .t x] := .cons (st1 := [S "field"]) (Ord.Step.word (ps := [S "field"]) (st := []) (by decide +kernel) (by decide +kernel) (by decide +kernel)) (.cons (Ord.Step.field hx) .nil)
theorem o_pickC (hc : IsCase fld num cs) (ha : IsOrd fld num a) (hb : IsOrd fld num b) : IsOrd fld num (.t (S "pick") :: (cs ++ (a ++ b))) :=
  .cons (st1 := [S "case", S "order", S "order"]) (Ord.Step.word (ps := [S "case", S "order", S "order"]) (st := []) (by decide +kernel) (by decide +kernel) (by decide +kernel))
    (Run.app (Run.frame [S "order", S "order"] hc) (Run.app (Run.frame [S "order"] ha) hb))
theorem c_both (hm : IsMark fld num cs) : IsCase fld num (.t (S "both") :: cs) := .cons (st1 := [S "mark"]) (Ord.Step.word (ps := [S "mark"]) (st := []) (by decide +kernel) (by decide +kernel) (by decide +kernel)) hm
theorem m_two {m x : Str} {p q : Int} (hm : m = S "under" ∨ m = S "is") (hx : fld x) (hn : num p q) : IsMark fld num [.t m, .t x, .n p q] :=
  .cons (st1 := [S "field", S "number"]) (Ord.Step.word (ps := [S "field", S "number"]) (st := []) (by decide +kernel) (by decide +kernel) (by rcases hm with rfl | rfl <;> decide +kernel)) (.cons (Ord.Step.field hx) (.cons (Ord.Step.number hn) .nil))
end
section
variable {E : En}
theorem ev_up {x : Str} (hx : wordT x = none) (R : List Tv) : ev E [.t (S "up"), .t x] R = .an (E.look x) :: R := by
  show push E (.t (S "up")) (push E (.t x) R) = _
  have e : push E (.t x) R = .wd (.t x) :: R := by unfold push; dsimp only; rw [hx]
  rw [e, push_w wordT14.2.2.2.2.2.1, wix14.2.1]; rfl
theorem ev_down {x : Str} (hx : wordT x = none) (R : List Tv) : ev E [.t (S "down"), .t x] R = .an (E.look x).turn :: R := by
  show push E (.t (S "down")) (push E (.t x) R) = _
  have e : push E (.t x) R = .wd (.t x) :: R := by unfold push; dsimp only; rw [hx]
  rw [e, push_w wordT14.2.2.2.2.2.2, wix14.2.2.1]; rfl
end
theorem t_inj {a b : An} : a.t = b.t ↔ a = b := by
  constructor
  · intro h
    have k : ∀ a b : An, a.t = b.t → a = b := by intro a b; cases a <;> cases b <;> decide +kernel
    exact k a b h
  · rintro rfl; rfl
end Look
set_option maxHeartbeats 4000000
namespace L2
open PySem PySem.Spec PyProof.Rows
section
variable {X : Cx}
end
end L2
set_option maxHeartbeats 4000000
namespace K12
open PySem L2 Frac Lw Dig PySem.NumText Nm
open Ord Num Look Rdo
abbrev dO (ws : List Wd) : PyData := .tuple (ws.map Wd.d)
def Gd (n : Int × Int) : Prop := Lst n ∧ n.1.natAbs < 10 ^ 20 ∧ n.2.natAbs ≤ 10 ^ 20
def tame (n : Int × Int) : Int × Int := if (if 0 - n.1 > n.1 then (if n.2 > 0 - n.1 then n.2 else 0 - n.1) else (if n.2 > n.1 then n.2 else n.1)) < (10 : Int) ^ 19 then n else norm (n.1 % 10 ^ 19) (n.2 % 10 ^ 19 + 1)
theorem tame_ok {n : Int × Int} (h : Gd n) : Gd (tame n) := by
  unfold tame
  by_cases hh : (if 0 - n.1 > n.1 then (if n.2 > 0 - n.1 then n.2 else 0 - n.1) else (if n.2 > n.1 then n.2 else n.1)) < (10 : Int) ^ 19
  · rw [if_pos hh]; exact h
  · rw [if_neg hh]
    have a0 : 0 ≤ n.2 % 10 ^ 19 := Int.emod_nonneg _ (by decide)
    have a1 : n.2 % 10 ^ 19 < 10 ^ 19 := Int.emod_lt_of_pos _ (by decide)
    have b0 : 0 ≤ n.1 % 10 ^ 19 := Int.emod_nonneg _ (by decide)
    have b1 : n.1 % 10 ^ 19 < 10 ^ 19 := Int.emod_lt_of_pos _ (by decide)
    have hz : n.2 % 10 ^ 19 + 1 ≠ 0 := by omega
    have s := norm_size (n.1 % 10 ^ 19) (n.2 % 10 ^ 19 + 1) hz
    exact ⟨norm_lst _ _ hz, by omega, by omega⟩
def RTame : List PyData → PyData → Prop := fun as d => ∃ n : Int × Int, Gd n ∧ as = [dF n] ∧ d = dF (tame n)
def SzP (p : Int × Int) : Prop := Sz p ∧ 1 ≤ p.2
def RThing : List PyData → PyData → Prop := fun as d => ∃ (book : List Str) (nums f : List (Int × Int)), as = [.tuple (book.map PyData.str), .list (nums.map dF)] ∧ (book.length ≤ 4 ∧ 1 ≤ nums.length ∧ nums.length ≤ 4) ∧ (∀ n ∈ nums, Gd n) ∧ d = .tuple (f.map dF) ∧ f.length = book.length ∧ ∀ p ∈ f, SzP p
section
variable {P : Program} {w : World} {K : PySem.W.Frag} {mg : Str → Option Value} {base : Heap}
theorem ev_max3 {σ : St} {G : Hp} {t : TA} {i j k : Int} (h : EvA K t σ G [.int i, .int j, .int k]) : Ev K (tCB (fun xs H Q => ∃ i j k, xs = [.int i, .int j, .int k] ∧ Q (.int (if j > i then (if k > j then k else j) else (if k > i then k else i))) H) t) σ G (.int (if j > i then (if k > j then k else j) else (if k > i then k else i))) :=
  ev_cb h fun G1 H xs Q s1 s2 hx q => by
    obtain ⟨a, r, rfl, ha, hx⟩ := hx.cons
    obtain ⟨b, r, rfl, hb, hx⟩ := hx.cons
    obtain ⟨c, r, rfl, hc, hx⟩ := hx.cons
    rw [hx.nil, ha.int, hb.int, hc.int]
    exact ⟨i, j, k, rfl, q _ G1 H (Grow.refl s2) (dat_int _)⟩
theorem ok_tame (T : Top K mg) : FnOk P w K mg base CX0 3 T.f__law_tame T.fd__law_tame ["number"] (spP K RTame) := by
  have G__law_least : FnOk P w K mg base CX0 2 T.f__law_least T.fd__law_least ["top", "below"] spLeast := ok_least T.F__law_least T.max_ T.F__law_common T.b__law_common T.m__law_common
  refine T.F__law_tame.ok sc__law_tame (fun vs H Q E h => ?_) (fun cdv A outer s H vs Q E hr h => ?_)
  · obtain ⟨G, as, d, sg, hv, ⟨n, _, rfl, _⟩, _⟩ := h
    rw [hv.length]; rfl
  · obtain ⟨G, as, d, sg, hv, ⟨n, hn, rfl, rfl⟩, k⟩ := h
    obtain ⟨v1, r1, rfl, h1, hv⟩ := hv.cons
    cases hv.nil
    have cp : CPow 10 19 := ⟨by decide, by decide, by decide⟩
    have E0' : ∀ {G' : Hp}, Same G G' → Ev K (tOp (rIxT K) (tVar 0) (tC (.int 0))) [some v1] G' (.int n.1) := fun s => ev_ixT (ev_var rfl (h1.same s)) ev_int rfl rfl
    have E1' : ∀ {G' : Hp}, Same G G' → Ev K (tOp (rIxT K) (tVar 0) (tC (.int 1))) [some v1] G' (.int n.2) := fun s => ev_ixT (ev_var rfl (h1.same s)) ev_int rfl rfl
    have EP : ∀ {G' : Hp}, Ev K (tOp (rI CPow fun i j => .int (i ^ j.toNat)) (tC (.int 10)) (tC (.int 19))) [some v1] G' (.int (10 ^ 19)) := fun {G'} => ev_iC ev_int ev_int cp (dat_int _)
    have s0 := Same.refl G
    refine ⟨_, (pss_cons (ps_if (pt_cmpR op_lt (pe_callB (call_max3v rfl) (by rfl) T.max_ bMax (pa_cons (pe_ix (ix_tupK (K := K) rfl) (pv 0) pe_int (fun _ _ => rfl)) (pa_cons (pe_op op_sub pe_int (pe_ix (ix_tupK (K := K) rfl) (pv 0) pe_int (fun _ _ => rfl))) (pa_cons (pe_ix (ix_tupK (K := K) rfl) (pv 0) pe_int (fun _ _ => rfl)) pa_nil st_Subscript) st_BinOp) st_Subscript)) (pe_op op_pow pe_int pe_int) (nomark _)) (pss_one (ps_ret (pv 0))) pss_nil)
      (pss_one (ps_ret (pe_call G__law_least hr (by rfl) T.m__law_least T.F__law_least.kp T.b__law_least .nil pass0 (pa_cons (pe_op op_mod (pe_ix (ix_tupK (K := K) rfl) (pv 0) pe_int (fun _ _ => rfl)) (pe_op op_pow pe_int pe_int)) (pa_cons (pe_op op_add (pe_op op_mod (pe_ix (ix_tupK (K := K) rfl) (pv 0) pe_int (fun _ _ => rfl)) (pe_op op_pow pe_int pe_int)) pe_int) pa_nil st_BinOp) st_BinOp))))) , ?_⟩
    refine if_ev (evt_test (K := K) (ev_i0 (ev_max3 (eva_cons (E0' s0) (eva_cons (ev_i0 ev_int (E0' s0) (dat_int _)) (eva_cons (E1' s0) eva_nil)))) EP (dat_bl _))) sg (fun e G1 H1 g1 => ?_) (fun e G1 H1 g1 => ?_)
    · refine ⟨v1, rfl, k _ G1 H1 g1 ?_⟩
      have : tame n = n := by unfold tame; rw [if_pos (of_decide_eq_true e)]
      rw [this]; exact h1.same g1.gg
    · have et : tame n = norm (n.1 % 10 ^ 19) (n.2 % 10 ^ 19 + 1) := by unfold tame; rw [if_neg (of_decide_eq_false e)]
      have a0 : 0 ≤ n.2 % 10 ^ 19 := Int.emod_nonneg _ (by decide)
      have a1 : n.2 % 10 ^ 19 < 10 ^ 19 := Int.emod_lt_of_pos _ (by decide)
      have b0 : 0 ≤ n.1 % 10 ^ 19 := Int.emod_nonneg _ (by decide)
      have b1 : n.1 % 10 ^ 19 < 10 ^ 19 := Int.emod_lt_of_pos _ (by decide)
      have zl : (10 : Nat) ^ 20 < 10 ^ 100 := by decide +kernel
      refine ret_ev (K := K) (ev_least (E := E0) (a := n.1 % 10 ^ 19) (b := n.2 % 10 ^ 19 + 1) (ev_iC (E0' g1.gg) EP ?_ (dat_int _)) (ev_i0 (ev_iC (E1' g1.gg) EP ?_ (dat_int _)) ev_int (dat_int _)) (by omega) (by omega) (by omega)) g1.gh fun v G2 H2 g2 hv => ?_
      · decide
      · decide
      · rw [et] at k
        exact k v G2 H2 (g1.trans g2) hv
theorem seq_if {tc : TT} {t u rest : TS} {D : Ends} {σ : St} {H : Hp} (R : St → Hp → Prop) (hr : ∀ σ' H', R σ' H' → rest D σ' H')
    (h : ∀ nx : St → Hp → Prop, (∀ σ' H', R σ' H' → nx σ' H') → tIfS tc t u { D with nx := nx } σ H) : tSeq (tIfS tc t u) rest D σ H := h (rest D) hr
theorem lenT_book {σ : St} {G : Hp} {i : Nat} {v : V} {book : List Str} (hi : σ[i]? = some (some v)) (hb : Dat K G v (.tuple (book.map PyData.str))) : Ev K (tCB (fun xs H Q => ∃ p ys, xs = [.ref p] ∧ (SqL K H p ys ∨ SqT K H p ys) ∧ Q (.int ys.length) H) (tCons (tVar i) tNil)) σ G (.int (book.length : Nat)) :=
  ev_d (ev_lenT (eva_cons (ev_var hi hb) eva_nil)) (by rw [List.length_map])
theorem ev_neg {σ : St} {G : Hp} {ta : TE} {i : Int} (h : Ev K ta σ G (.int i)) : Ev K (tUn (rU fun i => .int (-i)) ta) σ G (.int (-i)) :=
  fun G1 H s1 s2 Q k => h G1 H s1 s2 _ fun v G2 H2 g2 hv => ⟨i, hv.int, k _ G2 H2 g2 (dat_int _)⟩
theorem ok_thing (T : Top K mg) : FnOk P w K mg base CX0 4 T.f__law_thing T.fd__law_thing ["deck", "book", "numbers"] (spDv K RThing) := by
  have G__law_take : FnOk P w K mg base CX0 3 T.f__law_take T.fd__law_take ["deck", "many"] spTake := (ok_take T.F__law_take T.len_).mono (by decide)
  have G__law_least : FnOk P w K mg base CX0 3 T.f__law_least T.fd__law_least ["top", "below"] spLeast := (ok_least T.F__law_least T.max_ T.F__law_common T.b__law_common T.m__law_common).mono (by decide)
  have G__law_number : FnOk P w K mg base CX0 3 T.f__law_number T.fd__law_number ["deck"] spNumber := ok_number T.F__law_number T.len_ T.max_ T.F__law_take T.b__law_take T.m__law_take T.F__law_common T.b__law_common T.m__law_common T.F__law_least T.b__law_least T.m__law_least T.F__law_whole_number T.b__law_whole_number T.m__law_whole_number
  refine T.F__law_thing.ok sc__law_thing (fun vs H Q E h => ?_) (fun cdv A outer s H vs Q E hr h => ?_)
  · obtain ⟨d, c, G, us, ds, rfl, _, _, _, _, hv, ⟨x, book, nums, f, rfl, _⟩, _⟩ := h
    rw [List.length_cons, hv.length]; rfl
  · obtain ⟨d, c, G, us, ds, rfl, sg, gd, gc, D, hv, ⟨x, book, nums, f, rfl, ⟨b2, n1, n2⟩, hg, _⟩, k⟩ := h
    obtain ⟨vb, r1, rfl, hb, hv⟩ := hv.cons
    obtain ⟨vn, r2, rfl, hn, hv⟩ := hv.cons
    cases hv.nil
    have zl : (20000 : Nat) ≤ sizeLine := by decide
    refine ⟨_, (pss_cons (ps_set (i := 3) sc__law_thing.nd rfl (Or.inl rfl) (pe_op op_cat (pv 2) (pe_lst (pa_cons (pe_tup (pa_cons pe_int (pa_cons pe_int pa_nil st_Constant) st_Constant)) (pa_cons (pe_tup (pa_cons pe_int (pa_cons pe_int pa_nil st_Constant) st_Constant)) (pa_cons (pe_tup (pa_cons pe_int (pa_cons pe_int pa_nil st_Constant) st_Constant)) (pa_cons (pe_tup (pa_cons (pe_un un_neg pe_int) (pa_cons pe_int pa_nil st_Constant) st_UnaryOp)) pa_nil st_Tuple) st_Tuple) st_Tuple) st_Tuple))))
      (pss_cons (ps_set (i := 4) sc__law_thing.nd rfl (Or.inl rfl) (pe_lst pa_nil))
      (pss_cons (ps_for PassesOwn.never rfl (pi_tup (pv 1)) (pg_name (i := 5) sc__law_thing.nd rfl (Or.inl rfl)) (pss_cons (ps_set (i := 6) sc__law_thing.nd rfl (Or.inl rfl) (pe_ix (ix_listK (K := K) rfl) (pv 3) (pe_call G__law_take hr (by rfl) T.m__law_take T.F__law_take.kp T.b__law_take .nil pass0 (pa_cons (pv 0) (pa_cons (pe_callB (call_lenK (K := K) rfl) (by rfl) T.len_ PySem.boot_len (pa_cons (pv 3) pa_nil st_Name)) pa_nil st_Call) st_Name)) (fun _ _ => rfl)))
      (pss_cons (ps_set (i := 7) sc__law_thing.nd rfl (Or.inl rfl) (pe_call G__law_take hr (by rfl) T.m__law_take T.F__law_take.kp T.b__law_take .nil pass0 (pa_cons (pv 0) (pa_cons pe_int pa_nil st_Constant) st_Name)))
      (pss_cons (ps_if (pt_cmpR op_eq (pv 7) pe_int (nomark _)) (pss_one (ps_set (i := 6) sc__law_thing.nd rfl (Or.inl rfl) (pe_call G__law_least hr (by rfl) T.m__law_least T.F__law_least.kp T.b__law_least .nil pass0 (pa_cons (pe_op op_add (pe_ix (ix_tupK (K := K) rfl) (pv 6) pe_int (fun _ _ => rfl)) (pe_ix (ix_tupK (K := K) rfl) (pv 6) pe_int (fun _ _ => rfl))) (pa_cons (pe_op op_mulW pe_int (pe_ix (ix_tupK (K := K) rfl) (pv 6) pe_int (fun _ _ => rfl))) pa_nil st_BinOp) st_BinOp)))) pss_nil)
      (pss_cons (ps_if (pt_cmpR op_eq (pv 7) pe_int (nomark _)) (pss_one (ps_set (i := 6) sc__law_thing.nd rfl (Or.inl rfl) (pe_call G__law_number hr (by rfl) T.m__law_number T.F__law_number.kp T.b__law_number .nil pass0 (pa_cons (pv 0) pa_nil st_Name)))) pss_nil)
      (pss_one (ps_expr (pe_bm PySem.F.plainAttrs_list PySem.F.slot_list_append PySem.F.type_list_append mt_append (pv 4) (pa_cons (pv 6) pa_nil st_Name)))))))))
      (pss_one (ps_ret (pe_callTy (call_tupleK (K := K) rfl) (by rfl) T.tuple_ bTup (pa_cons (pv 4) pa_nil st_Name))))))) , ?_⟩
    have ht : ∀ {σ' : St} {G' : Hp} {ta : TE} {a b : Int}, Ev K ta σ' G' (.int a) → Ev K (tTup (tCons ta (tCons (tC (.int b)) tNil))) σ' G' (dF (a, b)) := fun h => ev_tup (eva_cons h (eva_cons ev_int eva_nil)) (by show 2 ≤ sizeLine; decide)
    refine asg_ev (K := K) (d := .list ((nums ++ [(0, 1), (1, 1), (1, 2), (-1, 1)]).map dF)) (ev_d (ev_cat (ev_var rfl hn) (ev_lst (eva_cons (ht ev_int) (eva_cons (ht ev_int) (eva_cons (ht ev_int) (eva_cons (ht (ev_neg ev_int)) eva_nil)))) (by show 4 ≤ sizeLine; decide)) (by rw [List.length_map]; show nums.length + 4 ≤ sizeLine; omega)) (by rw [List.map_append]; rfl)) sg fun v3 G1 H1 g1 h3 => ?_
    have hsome : ∀ n ∈ nums ++ [((0 : Int), (1 : Int)), (1, 1), (1, 2), (-1, 1)], Gd n := fun n hn => by
      rcases List.mem_append.mp hn with hn | hn
      · exact hg n hn
      · simp only [List.mem_cons, List.not_mem_nil, or_false] at hn
        rcases hn with rfl | rfl | rfl | rfl <;> exact ⟨⟨by decide, by decide⟩, by decide, by decide⟩
    have hsl : (nums ++ [((0 : Int), (1 : Int)), (1, 1), (1, 2), (-1, 1)]).length = nums.length + 4 := by rw [List.length_append]; rfl
    generalize nums ++ [((0 : Int), (1 : Int)), (1, 1), (1, 2), (-1, 1)] = sm at h3 hsome hsl
    refine ⟨(by show 0 ≤ sizeLine; decide), fun pp hpp => ?_⟩
    have k1 := g1.dk D
    have gd1 := k1.gd D gd
    have gc1 := k1.gc D gc
    have s1p := same_new (o := .lst ([] : List V)) hpp
    have hb1 := hb.same g1.gg
    obtain ⟨pb, bs, rfl, hpb, hbs⟩ := hb1.tup
    have eb := datStrs hbs
    subst eb
    have npp := k1.D.free hpp
    refine ⟨_, rfl, pb, rfl, ⟨_, (g1.gh.trans s1p).tup hpb⟩, for_tup (xs := book.map V.str) (fun i σ H' => ∃ (v5 v6 v7 : Option V) (xs : List V) (f : List (Int × Int)) (G' : Hp), σ = [some (.ref d), some (.ref pb), some vn, some v3, some (.ref pp), v5, v6, v7] ∧ Dk d c G1 H1 G' H' ∧ G' pp = none ∧ H' pp = some (.lst xs) ∧ Dats K G' xs (f.map dF) ∧ f.length = i ∧ ∀ p ∈ f, SzP p)
      ⟨_, _, _, [], [], G1, rfl, ⟨Same.refl _, g1.gh.trans s1p, fun _ _ e => .inl e, Same.but s1p, k1.D.same s1p⟩, g1.gh.free hpp, upd_same, dats_nil, rfl, fun p hp => by cases hp⟩ ?_ ?_ ?_⟩
    · rintro i σ H' _ ⟨v5, v6, v7, xs, f, G', rfl, k2, _⟩
      exact (k2.gg.trans k2.gh).tup hpb
    · rintro i x σ H' hx ⟨v5, v6, v7, xs, f, G2, rfl, k2, gpp, hpp2, hxs, hfl, hfs⟩
      have hil : i < book.length := by
        have := (List.getElem?_eq_some_iff.mp hx).1
        rwa [List.length_map] at this
      have hxl := hxs.length
      rw [List.length_map] at hxl
      refine asg_dv (K := K) (d := d) (c := c) (R := fun x => ∃ n, x = dF n ∧ Gd n) (dv_pickL (n := ((sm.length : Nat) : Int)) (dv_of (ev_var rfl (h3.same k2.gg)) ⟨_, rfl, by rw [List.length_map], fun e he => by
        obtain ⟨n, hn, rfl⟩ := List.mem_map.mp he
        exact ⟨n, rfl, hsome n hn⟩⟩) (dv_take rfl (ev_d (ev_lenL (eva_cons (ev_var rfl (h3.same k2.gg)) eva_nil)) (by rw [List.length_map])) (by omega) (by omega))) k2.gh (k2.gd k1.D gd1) (k2.gc k1.D gc1) k2.D fun v6' x6 G3 H3 h6 k3 hv6 => ?_
      obtain ⟨n, rfl, hn6⟩ := h6
      have k23 := k2.trans k3
      refine asg_dv (K := K) (d := d) (c := c) (dv_take rfl ev_int (by decide) (by decide)) k3.gh (k23.gd k1.D gd1) (k23.gc k1.D gc1) k3.D fun v7' x7 G4 H4 h7 k4 hv7 => ?_
      obtain ⟨r, rfl, r0, r1⟩ := h7
      have e7 := hv7.int
      subst e7
      have k24 := k23.trans k4
      have hppk : ∀ {Ga Ha : Hp}, Dk d c G2 H' Ga Ha → Ga pp = none ∧ Ha pp = some (.lst xs) := fun q => ⟨q.out hpp2 gpp, q.kp _ _ hpp2 npp.1 npp.2⟩
      have k34 := k3.trans k4
      (try dsimp only)
      refine seq_if (fun σ' H' => ∃ (v6 : V) (n : Int × Int) (G' : Hp), σ' = [some (.ref d), some (.ref pb), some vn, some v3, some (.ref pp), some x, some v6, some (.int r)] ∧ Dk d c G4 H4 G' H' ∧ Dat K G' v6 (dF n) ∧ SzP n) ?_ ?_
      · rintro σ' H5 ⟨v6, n, G5, rfl, k5, h6, z6⟩
        refine seq_if (fun σ' H' => ∃ (v6 : V) (n : Int × Int) (G' : Hp), σ' = [some (.ref d), some (.ref pb), some vn, some v3, some (.ref pp), some x, some v6, some (.int r)] ∧ Dk d c G4 H4 G' H' ∧ Dat K G' v6 (dF n) ∧ SzP n) ?_ ?_
        · rintro σ' H6 ⟨v6, n, G6, rfl, k6, h6, z6⟩
          have q := hppk (k34.trans k6)
          refine ⟨_, rfl, .inl ⟨rfl, _, SqL.of q.2⟩, _, rfl, pp, xs, _, rfl, rfl, q.2, by omega, ?_⟩
          have ka := (k2.trans (k34.trans k6))
          refine ⟨_, _, _, xs ++ [v6], f ++ [n], G6, rfl, ⟨ka.gg, same_upd ka.gh q.1, ka.fr, fun b o e h1 h2 => ?_, Nm.DeckAt.upd ka.D npp.1 npp.2⟩, q.1, upd_same, ?_, by simp [hfl], fun p hp => ?_⟩
          · rw [upd_ne (ne_of_none e hpp)]; exact ka.kp b o e h1 h2
          · rw [List.map_append]; exact dats_append (hxs.same (k34.trans k6).gg) (dats_cons h6 dats_nil)
          · rcases List.mem_append.mp hp with hp | hp
            · exact hfs p hp
            · rw [List.mem_singleton.mp hp]; exact z6
        · intro nx hnx
          refine if_ev (G := G5) (evt_test (K := K) (ev_eqI (ev_var rfl (dat_int r)) ev_int)) k5.gh (fun e G6 H6 g6 => ?_) (fun e G6 H6 g6 => ?_)
          · have k6 := k5.trans (g6.dk k5.D)
            have k26 := k24.trans k6
            refine asg_dv (K := K) (d := d) (c := c) (dv_number rfl) k6.gh (k26.gd k1.D gd1) (k26.gc k1.D gc1) k6.D fun v x G7 H7 hx7 k7 hv7 => ?_
            obtain ⟨m, rfl, hm, m1, m2⟩ := hx7
            exact hnx _ _ ⟨v, m, G7, rfl, k6.trans k7, hv7, ⟨Nat.lt_of_lt_of_le m1 (by decide), Nat.lt_of_le_of_lt m2 (by decide)⟩, hm.pos⟩
          · exact hnx _ _ ⟨v6, n, G6, rfl, k5.trans (g6.dk k5.D), h6.same g6.gg, z6⟩
      · intro nx hnx
        have hn4 := hv6.same k4.gg
        have hz : SzP n := ⟨⟨Nat.lt_of_lt_of_le hn6.2.1 (by decide), Nat.lt_of_le_of_lt hn6.2.2 (by decide)⟩, hn6.1.pos⟩
        refine if_ev (G := G4) (evt_test (K := K) (ev_eqI (ev_var rfl (dat_int r)) ev_int)) k4.gh (fun e G5 H5 g5 => ?_) (fun e G5 H5 g5 => ?_)
        · have hn5 := hn4.same g5.gg
          have p1 := hn6.1.pos
          have l1 := hn6.2.1
          have l2 := hn6.2.2
          have zp : (10 : Nat) ^ 40 < 10 ^ 100 := by decide +kernel
          have e0 : ∀ σ' : St, σ'[6]? = some (some v6') → Ev K (tOp (rIxT K) (tVar 6) (tC (.int 0))) σ' G5 (.int n.1) := fun σ' e => ev_ixT (ev_var e hn5) ev_int rfl rfl
          have e1 : ∀ σ' : St, σ'[6]? = some (some v6') → Ev K (tOp (rIxT K) (tVar 6) (tC (.int 1))) σ' G5 (.int n.2) := fun σ' e => ev_ixT (ev_var e hn5) ev_int rfl rfl
          have nz : 2 * n.2 ≠ 0 := by omega
          have ns := norm_size (n.1 + n.2) (2 * n.2) nz
          refine asg_ev (K := K) (ev_least (E := E0) (a := n.1 + n.2) (b := 2 * n.2) (ev_i0 (e0 _ rfl) (e1 _ rfl) (dat_int _)) (ev_iC ev_int (e1 _ rfl) (mw (by decide) (by omega)) (dat_int _)) nz (by omega) (by omega)) g5.gh fun v G6 H6 g6 hv => ?_
          exact hnx _ _ ⟨v, norm (n.1 + n.2) (2 * n.2), G6, rfl, (g5.trans g6).dk k4.D, hv, ⟨by omega, by omega⟩, (norm_lst _ _ nz).pos⟩
        · exact hnx _ _ ⟨v6', n, G5, rfl, g5.dk k4.D, hn4.same g5.gg, hz⟩
    · rintro σ H' ⟨v5, v6, v7, xs, f, G2, rfl, k2, gpp, hpp2, hxs, hfl, hfs⟩
      rw [List.length_map] at hfl
      refine ⟨_, rfl, pp, _, rfl, .inl ⟨SqL.of hpp2, fun p hp => ?_⟩⟩
      have g := grow_new (o := .tup xs) k2.gh hp
      exact k _ _ _ _ ⟨book, nums, f, rfl, ⟨b2, n1, n2⟩, hg, rfl, hfl, hfs⟩ (k1.trans (k2.trans (g.dk k2.D))) (dat_tup (SqT.of upd_same) (hxs.same g.gg))
end
end K12
set_option maxHeartbeats 4000000
namespace K12
open PySem L2 Frac Lw Dig PySem.NumText Nm
open Ord Num Look Rdo
abbrev dOs (ws : List Wd) : PyData := .tuple (ws.map Wd.d)
section
variable {P : Program} {w : World} {K : PySem.W.Frag} {mg : Str → Option Value} {base : Heap}
theorem ev_neS {σ : St} {G : Hp} {ta tb : TE} {x y : Str} (ha : Ev K ta σ G (.str x)) (hb : Ev K tb σ G (.str y)) : Ev K (tOp rNe ta tb) σ G (.bool (!decide (x = y))) :=
  ev_op ha hb fun G1 H u v Q s1 s2 hu hv k => by
    rw [hu.str, hv.str]
    refine ⟨rfl, ?_⟩
    have e : decide (V.str x = V.str y) = decide (x = y) := decide_eq_decide.mpr ⟨fun z => by injection z, fun z => by rw [z]⟩
    rw [e]
    exact k _ G1 H (Grow.refl s2) (dat_bl _)
theorem evt_neq {σ : St} {G : Hp} {ta tb : TE} {x y : Str} (ha : Ev K ta σ G (.str x)) (hb : Ev K tb σ G (.str y)) (h : x = y) : EvT (tTest (tOp rNe ta tb)) σ G false := evt_c (evt_test (K := K) (ev_neS ha hb)) (by rw [decide_eq_true h]; rfl)
theorem ev_look {σ : St} {G : Hp} {ta tf tg : TE} {i : Nat} {ws : List Wd} {book : List Str} {f g : List (Int × Int)} {num : Int → Int → Prop} {a : An} {pb Pt : Addr} {cr : Nat → Nat → Option Str} (hT : G Pt = some (.tbl cr)) (hpb : G pb = some (.tup (book.map V.str)))
    (hz : (f.length = book.length ∧ g.length = book.length ∧ (∀ p ∈ f, Sz p) ∧ ∀ p ∈ g, Sz p) ∧ (∀ a b, num a b → Sz (a, b)) ∧ ∀ z ∈ book, wordT z = none) (hi : σ[i]? = some (some (.ref pb))) (ha : Ev K ta σ G (dOs ws)) (hf : Ev K tf σ G (.tuple (f.map dF))) (hg : Ev K tg σ G (.tuple (g.map dF)))
    (hord : IsOrd (· ∈ book) num ws) (hlen : ws.length ≤ 900) (hev : ∀ R, ev (enOf book f g) ws R = .an a :: R) : Ev K (tCall (spLook K Pt cr) [] E0 (tCons ta (tCons (tVar i) (tCons tf (tCons tg tNil))))) σ G (.str a.t) :=
  fun G1 H s1 s2 Q k => ha G1 H s1 s2 _ fun v1 G2 H2 g2 h1 => ⟨_, hi, hf G2 H2 (s1.trans g2.gg) g2.gh _ fun v2 G3 H3 g3 h2 => hg G3 H3 ((s1.trans g2.gg).trans g3.gg) g3.gh _ fun v3 G4 H4 g4 h3 => by
    have g24 := (g2.trans g3).trans g4
    have sG := s1.trans g24.gg
    exact ⟨G4, ws, book, f, g, num, a, v1, v2, v3, pb, rfl, sG _ _ hT, g4.gh, sG _ _ hpb, ⟨(h1.same g3.gg).same g4.gg, h2.same g4.gg, h3⟩, hord, hz.2.1, hz.1, hz.2.2, hlen, hev, fun G' H' g' => k _ G' H' (g24.trans g') (dat_str _)⟩⟩
end
end K12
set_option maxHeartbeats 4000000
namespace L2
open PySem PySem.Spec PyProof.Rows
def RawD (h : Heap) (d : Addr) (es : Array DictEntry) (ep : Nat) : Prop := ∃ o, h.get? d = some o ∧ o.ExactDict ∧ o.data = .dict es ep
theorem RawD.keep {h h' : Heap} {d : Addr} {es : Array DictEntry} {ep : Nat} (x : RawD h d es ep) (k : ∀ o, h.get? d = some o → h'.get? d = some o) : RawD h' d es ep := let ⟨o, e, r⟩ := x; ⟨o, k o e, r⟩
section
variable {prog : Program} {w : World} {A : Around} {E : Value → Shared → Prop} {s : Shared}
theorem RawD.ty {d : Addr} {es : Array DictEntry} {ep : Nat} (x : RawD s.heap d es ep) : s.TypeIs (.ref d) "dict" := let ⟨o, e, c, _⟩ := x; ⟨o, e, c.1⟩
abbrev kIt (d : Addr) (n ep : Nat) : Obj := { cls := .type "dict_keyiterator", data := .fields #[.ref d, .int 0 0, .int n 0, .int ep 0] }
theorem rd_iter {d : Addr} {es : Array DictEntry} {ep : Nat} {Q : Value → Shared → Prop} (hd : (d == sysModules) = false) (x : RawD s.heap d es ep) (q : Q (.ref s.heap.objs.size) { s with heap := s.heap.push (kIt d es.size ep) }) : wpAny (model prog w) A (pyIter (.ref d)) Q E s := by
  have hT := x.ty
  obtain ⟨o, e, _, hdat⟩ := x
  refine wpAny_pyIter_slot hT F.slot_dict_iter (wpAny_call_entry F.slot_dict_iter hT F.entry_dict_iter ?_ (F.args_dict_iter_1 _))
  unfold Builtin.«dict.__iter__»; refine wpAny_bind ?_; unfold Builtin.Dict.dictSlotNone
  refine wpAny_bind (wpAny_notOrdered_dict hT (wpAny_pure (a := Value.ref d) ?_))
  refine wpAny_bind (m := Builtin.Dict.showsAll d) ?_
  unfold Builtin.Dict.showsAll; rw [if_neg (by rw [hd]; exact Bool.false_ne_true)]
  exact wpAny_pure (wpAny_bind (wpAny_dictEntries e hdat (wpAny_bind (wpAny_dictEpoch e hdat (wpAny_bind (wpAny_newObj_type (wpAny_pure ⟨_, rfl, "dict_keyiterator", _, ⟨_, Heap.get?_push_size _ rfl, rfl⟩, F.slot_dict_keyiterator_next.lookup, q⟩)))))))
theorem rd_item {it d : Addr} {i ep : Nat} {es : Array DictEntry} {en : DictEntry} {Q : Option Value → Shared → Prop} (hit : s.heap.IsKeyIter it d i es.size ep) (x : RawD s.heap d es ep) (hx : es[i]? = some en)
    (q : ∀ h', h'.IsKeyIter it d (i + 1) es.size ep → Heap.SameBut it s.heap h' → Q (some en.key) { s with heap := h' }) : wpAny (model prog w) A (pyNext (.ref it)) Q E s := by
  obtain ⟨o, ho, hc, hd⟩ := id hit
  obtain ⟨od, hod, _, hdd⟩ := x
  have ty := hit.typeIs
  unfold pyNext
  refine wpAny_bind (wpAny_attempt (wpAny_callSpecial?_slot (name := Str.ofString "__next__") ty F.slot_dict_keyiterator_next (wpAny_call_entry F.slot_dict_keyiterator_next ty F.entry_dict_keyiterator_next (wpAny_bind (wpAny_pure (wpAny_bind (wpAny_bind ?_)))) (F.args_dict_keyiterator_next_1 _))))
  first | refine wpAny_bind (wpAny_typeNameOfWhole_keyiter ty (wpAny_pure (wpAny_bind (wpAny_fieldsOf ho hd ?_)))) | refine wpAny_bind (wpAny_typeNameOf_keyiter ty (wpAny_pure (wpAny_bind (wpAny_fieldsOf ho hd ?_))))
  have own : Builtin.Dict_items.ownsTuple "dict_keyiterator" = false := by decide
  simp only [own, if_false, Bool.false_eq_true]
  show wpAny _ _ (if (Value.ref d == Value.none) = true then _ else _) _ _ s
  rw [if_neg (fun z : (Value.ref d == Value.none) = true => Bool.false_ne_true z)]
  refine wpAny_bind (wpAny_pure (wpAny_bind (wpAny_dictEntries hod hdd ?_))); rw [if_neg (by simp)]
  refine wpAny_bind (wpAny_pure (wpAny_bind (wpAny_dictEpoch hod hdd ?_))); rw [if_neg (by simp)]; refine wpAny_pure ?_
  have lt : i < es.size := by
    rcases Nat.lt_or_ge i es.size with h | h
    · exact h
    · rw [Array.getElem?_eq_none h] at hx; cases hx
  have ee : es[i] = en := by rw [Array.getElem?_eq_getElem lt] at hx; exact Option.some.inj hx
  simp only [show ¬ ((i : Int) < 0) by omega, if_false, Int.toNat_natCast, Array.getElem?_eq_getElem lt]; refine wpAny_bind ?_
  first | refine wpAny_bind (wpAny_typeNameOfWhole_keyiter ty (wpAny_pure (wpAny_bind (wpAny_isOneOf_keyiter ty ?_)))) | refine wpAny_bind (wpAny_typeNameOf_keyiter ty (wpAny_pure (wpAny_bind (wpAny_isOneOf_keyiter ty ?_))))
  refine wpAny_bind (m := setField (.ref it) 1 (rawInt ((i : Int) + 1))) (wpAny_setField ho hd (by simp) ?_)
  have hit' : (s.heap.update it (Obj.mapFields (·.setIfInBounds 1 (rawInt ((i : Int) + 1))))).IsKeyIter it d (i + 1) es.size ep := ⟨_, Heap.get?_update_self _ ho (Obj.isFreed_of_fields (Obj.data_mapFields hd _)), (Obj.cls_mapFields ..).trans hc, by rw [Obj.data_mapFields hd]; simp [rawInt]⟩
  refine wpAny_bind (wpAny_holding (wpAny_bind (wpAny_isOneOf_keyiter (s := { s with heap := s.heap.update it (Obj.mapFields (·.setIfInBounds 1 (rawInt ((i : Int) + 1)))) }) hit'.typeIs ?_)))
  show wpAny _ _ (pure es[i].key) _ _ _
  rw [ee]
  exact wpAny_pure (wpAny_pure ⟨_, rfl, wpAny_pure (q _ hit' (Heap.SameBut.update ..))⟩)
theorem rd_end {it d : Addr} {i ep : Nat} {es : Array DictEntry} {Q : Option Value → Shared → Prop} (hh : A.handled = none) (hit : s.heap.IsKeyIter it d i es.size ep) (x : RawD s.heap d es ep) (hx : es.size ≤ i)
    (q : ∀ h', Heap.ExtBut it s.heap h' → Q none { s with heap := h' }) : wpAny (model prog w) A (pyNext (.ref it)) Q E s := by
  obtain ⟨o, ho, hc, hd⟩ := id hit
  obtain ⟨od, hod, _, hdd⟩ := x
  have ty := hit.typeIs
  unfold pyNext
  refine wpAny_bind (wpAny_attempt (wpAny_callSpecial?_slot (name := Str.ofString "__next__") ty F.slot_dict_keyiterator_next (wpAny_call_entry F.slot_dict_keyiterator_next ty F.entry_dict_keyiterator_next (wpAny_bind (wpAny_pure (wpAny_bind (wpAny_bind ?_)))) (F.args_dict_keyiterator_next_1 _))))
  first | refine wpAny_bind (wpAny_typeNameOfWhole_keyiter ty (wpAny_pure (wpAny_bind (wpAny_fieldsOf ho hd ?_)))) | refine wpAny_bind (wpAny_typeNameOf_keyiter ty (wpAny_pure (wpAny_bind (wpAny_fieldsOf ho hd ?_))))
  have own : Builtin.Dict_items.ownsTuple "dict_keyiterator" = false := by decide
  simp only [own, if_false, Bool.false_eq_true]
  show wpAny _ _ (if (Value.ref d == Value.none) = true then _ else _) _ _ s
  rw [if_neg (fun z : (Value.ref d == Value.none) = true => Bool.false_ne_true z)]
  refine wpAny_bind (wpAny_pure (wpAny_bind (wpAny_dictEntries hod hdd ?_))); rw [if_neg (by simp)]
  refine wpAny_bind (wpAny_pure (wpAny_bind (wpAny_dictEpoch hod hdd ?_))); rw [if_neg (by simp)]; refine wpAny_pure ?_
  simp only [show ¬ ((i : Int) < 0) by omega, if_false, Int.toNat_natCast, Array.getElem?_eq_none hx]; refine wpAny_bind ?_
  first | refine wpAny_bind (wpAny_typeNameOfWhole_keyiter ty (wpAny_pure ?_)) | refine wpAny_bind (wpAny_typeNameOf_keyiter ty (wpAny_pure ?_))
  refine wpAny_bind (m := setField (.ref it) 0 .none) (wpAny_setField ho hd (by simp) (wpAny_bind (m := newExc (.type "StopIteration") []) ?_))
  simp only [newTuple, newExc]; refine wpAny_bind (wpAny_newObj_type (wpAny_bind (m := firstArgMember _ _) (wpAny_of_eq (a := Value.none) (by first | rfl | (simp only [firstArgMember]; rfl)) (wpAny_newObj_type ?_ (by size_fits)))) (by size_fits))
  simp only [raiseNew]; refine wpAny_bind (wpAny_handled ?_); rw [show A.in1.handled = none from hh]
  refine wpAny_bind (wpAny_pure (wpAny_throw ?_))
  exact wpAny_bind (wpAny_isInstance (T := "StopIteration") (b := true) ⟨_, Heap.get?_push_size _ rfl, rfl⟩ isSubtype_stop (wpAny_pure (q _ (((Heap.SameBut.update ..).extBut.push _).push _))))
theorem rd_walk (hh : A.handled = none) (I d : Addr) (hne : d ≠ I) (es : Array DictEntry) (ep : Nat) : Walks prog w A I [I, d] [I] es.size (fun i v => ∃ en, es[i]? = some en ∧ v = en.key) (fun i h => h.IsKeyIter I d i es.size ep ∧ RawD h d es ep) where
  sub := fun b hb => by simp at hb; simp [hb]
  frame := fun _ _ _ st hk => ⟨st.1.at fun o e => hk I (by simp) o e, st.2.keep fun o e => hk d (by simp) o e⟩
  item := fun i s Q E hi st hQ => rd_item st.1 st.2 (Array.getElem?_eq_getElem hi) fun h' hit' hs' => hQ _ h' s.toks ⟨_, Array.getElem?_eq_getElem hi, rfl⟩ ⟨hit', st.2.keep fun o e => hs'.extBut d o hne e⟩ fun b o hb e => hs'.extBut b o (fun h => hb (by simp [h])) e
  done := fun s Q E st hQ => rd_end hh st.1 st.2 (Nat.le_refl _) fun h' he' => hQ h' s.toks fun b o hb e => he' b o (fun h => hb (by simp [h])) e
  self := fun _ _ _ _ st hQ => wpAny_pyIter_keyiter st.1 hQ
theorem len_slot_dict : typeLookup (.type "dict") "__len__" = pure (some (.builtin "dict.__len__")) := by rw [typeLookup_type, builtinLookup_eq_fast]; kernel_rfl
theorem extend_dict {R : Result → Shared → Prop} (hh : A.handled = none) (S d : Addr) (res : Value) (c0 : Nat) {es : Array DictEntry} {ep : Nat} (hd : (d == sysModules) = false) (x : RawD s.heap d es ep) (hSd : S ≠ d)
    (hS : s.heap.get? S = some { cls := .type "list", data := .seq #[] c0 }) (hn : es.size ≤ sizeLine)
    (hR : ∀ s' acc' c', Moved [S, s.heap.objs.size] (fun a b => b = a) { s with heap := s.heap.push (kIt d es.size ep) } s' → s'.heap.get? S = some { cls := .type "list", dict := none, data := .seq acc' c', slots := #[] } → ItemsOf (fun i v => ∃ en, es[i]? = some en ∧ v = en.key) acc' es.size → R (.ok (.ret res)) s') :
    wpAny (model prog w) A.in1 (Builtin.List.listExtendWith (.ref S) (.ref d) res)
      (fun fin s' => match fin with | .done f => R (.ok f) s' | .again c' => c'.quiet = true ∧ codeAny (model prog w) A c' R s') (fun e s' => R (.error e) s') s := by
  have hT := x.ty
  have ltS := Heap.lt_size hS
  have ltd : d < s.heap.objs.size := by obtain ⟨o, e, _⟩ := id x; exact Heap.lt_size e
  unfold Builtin.List.listExtendWith
  refine wpAny_bind (wpAny_typeOf hT ?_)
  have z1 : Builtin.List.listSameRef (.ref S) (.ref d) = false := by simp [Builtin.List.listSameRef, hSd]
  rw [if_neg (by rw [z1]; decide)]
  refine wpAny_bind (rd_iter hd x (wpAny_bind (wpAny_holding ?_)))
  have hT1 : Shared.TypeIs { s with heap := s.heap.push (kIt d es.size ep) } (.ref d) "dict" := by
    obtain ⟨o, e, c, _⟩ := id x
    exact ⟨o, Heap.get?_push_of_some _ e, c.1⟩
  unfold Builtin.List.listLengthHint
  refine wpAny_bind (wpAny_specialOf hT1 len_slot_dict ?_)
  generalize hid : ("dict.__len__" : String) = id0
  wp_delta
  rw [show splitId id0 = some ("dict", "__len__") from by subst hid; decide +kernel]
  subst hid
  refine wpAny_bind (wpAny_isInstance (b := true) hT1 (by rw [isSubtype_type]; kernel_rfl) ?_)
  rw [if_neg (show ¬ ((!true) = true) by decide)]
  dsimp only
  rw [if_pos (by decide +kernel)]
  refine wpAny_bind (wpAny_typeOf hT1 (wpAny_pure ?_))
  rw [if_pos (by decide +kernel)]
  refine wpAny_bind (wpAny_rule (wpAny_bind ?_))
  have hSp : (s.heap.push (kIt d es.size ep)).get? S = some { cls := .type "list", data := .seq #[] c0 } := Heap.get?_push_of_some _ hS
  show wpAny _ A.in1 (updateSeq S (·.push .none) >>= fun _ => updateSeq S (·.pop)) _ _ _
  refine wpAny_bind (wpAny_updateSeq (s := { s with heap := s.heap.push (kIt d es.size ep) }) hSp rfl ?_)
  have q2 := Heap.get?_update_self (Obj.mapSeq (·.push Value.none)) hSp rfl
  refine wpAny_updateSeq (hz := by seq_fits) q2 rfl ?_
  have q3 := Heap.get?_update_self (Obj.mapSeq (·.pop)) q2 rfl
  have oth : ∀ b o, b ≠ S → (s.heap.push (kIt d es.size ep)).get? b = some o → (((s.heap.push (kIt d es.size ep)).update S (Obj.mapSeq (·.push Value.none))).update S (Obj.mapSeq (·.pop))).get? b = some o :=
    fun b o hb e => (Heap.get?_update_other _ _ (Ne.symm hb)).trans ((Heap.get?_update_other _ _ (Ne.symm hb)).trans e)
  have ndI : d ≠ s.heap.objs.size := Nat.ne_of_lt ltd
  have nSI : S ≠ s.heap.objs.size := Nat.ne_of_lt ltS
  have W := (rd_walk (prog := prog) (w := w) (A := A.in1) (show A.in1.handled = none from hh) s.heap.objs.size d ndI es ep).toS
  have hSf : S ∉ [s.heap.objs.size, d] := fun hm => by
    rcases List.mem_cons.mp hm with z | z
    · exact nSI z
    · exact hSd (List.mem_singleton.mp z)
  refine wpAny_pure ⟨plainId_quiet F.plain_extend_loop _, codeAny_extend_loopS W hn S hSf _ es.size 0 _ _ _ rfl (Nat.zero_le _) ⟨?_, ?_⟩ q3 (ItemsOf.nil _) fun s' acc' c' hm hS' hacc => ?_⟩
  · exact ⟨_, oth _ _ (Ne.symm nSI) (Heap.get?_push_size _ rfl), rfl, rfl⟩
  · exact x.keep fun o e => oth d o (Ne.symm hSd) (Heap.get?_push_of_some _ e)
  · exact hR s' acc' c' ⟨fun b o hb e => hm.heap b o hb (oth b o (fun h => hb (by simp [h])) e), hm.gens, hm.drawn, hm.os, hm.toks⟩ hS' hacc
theorem call_list_dict {Q : Value → Shared → Prop} (hh : A.handled = none) {d : Addr} {es : Array DictEntry} {ep : Nat} (hd : (d == sysModules) = false) (x : RawD s.heap d es ep) (hn : es.size ≤ sizeLine)
    (q : ∀ s' acc' c', (∀ b o, s.heap.get? b = some o → s'.heap.get? b = some o) → s' = { s with heap := s'.heap, toks := s'.toks } → s'.heap.get? s.heap.objs.size = some { cls := .type "list", dict := none, data := .seq acc' c', slots := #[] } → ItemsOf (fun i v => ∃ en, es[i]? = some en ∧ v = en.key) acc' es.size → Q (.ref s.heap.objs.size) s') :
    wpAny (model prog w) A (call (.type "list") [.ref d]) Q E s := by
  have ltd : d < s.heap.objs.size := by obtain ⟨o, e, _⟩ := id x; exact Heap.lt_size e
  refine callType_codes (Q₁ := fun obj s₁ => obj = .ref s.heap.objs.size ∧ s₁ = { s with heap := s.heap.push { cls := .type "list", data := .seq #[] } }) F.called_list (F.typeCall_list_1 _) F.entry_list_init (code_list_new _ ⟨rfl, rfl⟩) fun obj s1 h1 => ?_
  obtain ⟨rfl, rfl⟩ := h1
  have hS : (s.heap.push { cls := .type "list", data := .seq #[] }).get? s.heap.objs.size = some { cls := .type "list", data := .seq #[] } := Heap.get?_push_size _ rfl
  refine ⟨⟨_, hS, rfl⟩, F.args_list_init_2 _ _, ?_⟩
  refine wpAny_bind (m := Builtin.List.listItems (.ref s.heap.objs.size)) ?_
  unfold Builtin.List.listItems
  refine wpAny_bind (wpAny_seqItems hS rfl (wpAny_pure ?_))
  refine wpAny_bind (m := updateSeq s.heap.objs.size (fun _ => #[])) (wpAny_updateSeq hS rfl ?_)
  have hS2 := Heap.get?_update_self (Obj.mapSeq (fun _ => (#[] : Array Value))) hS rfl
  have oth : ∀ b o, b ≠ s.heap.objs.size → (s.heap.push { cls := .type "list", data := .seq #[] }).get? b = some o → ((s.heap.push { cls := .type "list", data := .seq #[] }).update s.heap.objs.size (Obj.mapSeq (fun _ => (#[] : Array Value)))).get? b = some o := fun b o hb e => (Heap.get?_update_other _ _ (Ne.symm hb)).trans e
  have old : ∀ b o, s.heap.get? b = some o → ((s.heap.push { cls := .type "list", data := .seq #[] }).update s.heap.objs.size (Obj.mapSeq (fun _ => (#[] : Array Value)))).get? b = some o := fun b o e => oth b o (Nat.ne_of_lt (Heap.lt_size e)) (Heap.get?_push_of_some _ e)
  refine wpAny_bind (wpAny_letGo ?_)
  refine extend_dict (A := A.in1) (prog := prog) (w := w) (s := { s with heap := (s.heap.push { cls := .type "list", data := .seq #[] }).update s.heap.objs.size (Obj.mapSeq (fun _ => (#[] : Array Value))) }) (show A.in1.handled = none from hh) s.heap.objs.size d .none _ hd (x.keep fun o e => old d o e) (Nat.ne_of_gt ltd) hS2 hn fun s' acc' c' hm hS' hacc => ?_
  refine ⟨rfl, q s' acc' c' (fun b o e => ?_) ?_ hS' hacc⟩
  · have hb := Heap.lt_size e
    refine hm.heap b o (fun hmem => ?_) (Heap.get?_push_of_some _ (old b o e))
    have hsz : ((s.heap.push { cls := .type "list", data := .seq #[] }).update s.heap.objs.size (Obj.mapSeq (fun _ => (#[] : Array Value)))).objs.size = s.heap.objs.size + 1 := by rw [Heap.size_update, Heap.size_push]
    rcases List.mem_cons.mp hmem with z | z
    · exact neLt hb z
    · have z' := List.mem_singleton.mp z
      rw [show (Shared.heap { s with heap := (s.heap.push { cls := .type "list", data := .seq #[] }).update s.heap.objs.size (Obj.mapSeq (fun _ => (#[] : Array Value))) }).objs.size = s.heap.objs.size + 1 from hsz] at z'
      exact neLt (Nat.lt_succ_of_lt hb) z'
  · obtain ⟨h1, h2, h3, h4, h5⟩ := s'
    have e1 : h2 = s.gens := hm.gens
    have e2 : h3 = s.drawn := hm.drawn
    have e3 : h5 = s.os := hm.os
    subst e1 e2 e3
    rfl
end
end L2
set_option maxHeartbeats 4000000
namespace L2
open PySem PySem.Spec PyProof.Rows
section
variable {prog : Program} {w : World} {K : Type} [DecidableEq K] (knd : KeyKind prog w K)
def It2 (h : Heap) : List (List K) → List Value → Prop := Paired fun k v => ∃ b, v = .ref b ∧ IsTupleKey knd h k b
def IsTup2 (h : Heap) (ks : List (List K)) (a : Addr) : Prop := ∃ o items n, h.get? a = some o ∧ o.cls = .type "tuple" ∧ o.data = .seq items n ∧ It2 knd h ks items.toList
variable {knd}
theorem It2.inj {h : Heap} : ∀ {x y : List (List K)} {vs : List Value}, It2 knd h x vs → It2 knd h y vs → x = y
  | _, _, _, .nil, .nil => rfl
  | _, _, _, .cons ⟨b, e, i⟩ r, .cons ⟨b', e', i'⟩ r' => by
    have z : Value.ref b = Value.ref b' := e.symm.trans e'
    cases z
    rw [i.inj i', It2.inj r r']
theorem IsTup2.ty {s : Shared} {ks : List (List K)} {a : Addr} (x : IsTup2 knd s.heap ks a) : s.TypeIs (.ref a) "tuple" := let ⟨o, _, _, ho, hc, _⟩ := x; ⟨o, ho, hc⟩
theorem IsTup2.inj {h : Heap} {a : Addr} {x y : List (List K)} (hx : IsTup2 knd h x a) (hy : IsTup2 knd h y a) : x = y := by
  obtain ⟨o, its, n, ho, _, hd, hi⟩ := hx
  obtain ⟨o', its', n', ho', _, hd', hi'⟩ := hy
  rw [ho] at ho'
  cases ho'
  rw [hd] at hd'
  cases hd'
  exact hi.inj hi'
theorem It2.map {h h' : Heap} (f : ∀ k b, IsTupleKey knd h k b → IsTupleKey knd h' k b) : ∀ {ks : List (List K)} {vs : List Value}, It2 knd h ks vs → It2 knd h' ks vs
  | _, _, .nil => .nil
  | _, _, .cons ⟨b, e, i⟩ r => .cons ⟨b, e, f _ _ i⟩ (It2.map f r)
theorem IsTup2.keeps {h h' : Heap} {ks : List (List K)} {a d : Addr} {o : Obj} {es ep} (x : IsTup2 knd h ks a) (ho : h.get? d = some o) (hd : o.data = .dict es ep) (hs : Heap.SameBut d h h') : IsTup2 knd h' ks a := by
  obtain ⟨o', its, n, ho', hc, hd', hi⟩ := x
  have ne : a ≠ d := by
    rintro rfl
    rw [ho] at ho'; cases ho'
    rw [hd] at hd'; cases hd'
  exact ⟨o', its, n, (hs.2 a ne).trans ho', hc, hd', hi.map fun k b i => i.keeps ho hd hs⟩
def hash2 (knd : KeyKind prog w K) (ks : List (List K)) : Int := reduceHash (Builtin.Tuple.tupleHashOf (ks.map (tupleKeyHash knd)))
def draws2 (ks : List (List K)) : Nat := (ks.map fun k => k.length + 1).sum
variable {A : Around} {E : Value → Shared → Prop} {s : Shared}
theorem hash_tup2 {ks : List (List K)} {a : Addr} {Q : Int → Shared → Prop} (hu : A.units + 1 < cLine) (hk : IsTup2 knd s.heap ks a) (h : Q (hash2 knd ks) { s with toks := s.toks + (draws2 ks + 1) }) : wpAny (model prog w) A (pyHash (.ref a)) Q E s := by
  have hT := hk.ty
  obtain ⟨o, items, n, ho, _, hd, hi⟩ := hk
  unfold pyHash
  first | unfold pyHashByItsType | skip
  first | refine wpAny_bind (wpAny_cRoomFor_or (.inr (by omega)) ?_) | skip
  refine wpAny_bind (wpAny_specialOf hT F.slot_tuple_hash.lookup ?_)
  rw [if_neg (by rw [beq_builtin_none]; exact Bool.false_ne_true)]
  refine wpAny_bind (wpAny_specialOf hT F.slot_tuple_hash.lookup ?_)
  refine wpAny_bind (m := callSpecialIfBoundUnlessNone? (.ref a) "__hash__" _) (wpAny_callSpecialIfBoundUnlessNone?_slot hT F.slot_tuple_hash (wpAny_call_entry F.slot_tuple_hash hT F.entry_tuple_hash (wpAny_bind (m := Builtin.Tuple.tupleItemsOf (.ref a)) (wpAny_tupleItemsOf ho hd (wpAny_bind ?_))) (F.args_tuple_hash_1 _)))
  rw [← Array.forIn_toList]
  refine wpAny_forIn_list _ (fun rest (b : Array Int) s' => ∃ done left, ks = done ++ left ∧ It2 knd s.heap left rest ∧ b.toList = done.map (tupleKeyHash knd) ∧ s' = { s with toks := s.toks + draws2 done }) _ ?_ ?_ _ _ ⟨[], ks, rfl, hi, rfl, rfl⟩
  · rintro x rest b s' ⟨done, left, rfl, hl, hb, rfl⟩
    cases hl with
    | @cons k _ ks' _ h1 hl' =>
      obtain ⟨c, rfl, hc⟩ := h1
      have hdr : draws2 (done ++ [k]) = draws2 done + (k.length + 1) := by simp [draws2]
      refine wpAny_bind (wpAny_pyHash_tuple (s := { s with toks := s.toks + draws2 done }) (by show A.units + 1 < cLine; exact hu) hc ?_)
      have fin : ({ s with toks := s.toks + draws2 done + (k.length + 1) } : Shared) = { s with toks := s.toks + draws2 (done ++ [k]) } := by rw [hdr, Nat.add_assoc]
      first
        | exact wpAny_pure ⟨done ++ [k], ks', by simp, hl', by simp [hb], fin⟩
        | exact wpAny_bind (wpAny_pure (wpAny_pure ⟨done ++ [k], ks', by simp, hl', by simp [hb], fin⟩))
  · rintro b s' ⟨done, left, rfl, hl, hb, rfl⟩
    cases hl
    rw [List.append_nil] at h
    show wpAny _ _ (retInt (Builtin.Tuple.tupleHashOf b.toList)) _ _ _
    rw [hb]
    refine wpAny_ret_mkInt ?_
    unfold hash2 at h
    generalize Builtin.Tuple.tupleHashOf (done.map (tupleKeyHash knd)) = x at h
    show wpAny _ _ (if (decide (-(2 : Int) ^ 63 ≤ x) && decide (x < 2 ^ 63)) = true then _ else _) Q E _
    unfold reduceHash at h
    by_cases hr : (decide (-(2 : Int) ^ 63 ≤ x) && decide (x < 2 ^ 63)) = true
    · rw [if_pos hr]; rw [if_pos hr] at h; exact wpAny_pure (by simpa [Nat.add_assoc] using h)
    · rw [if_neg hr]; rw [if_neg hr] at h; exact wpAny_bind (wpAny_rule (wpAny_pure (by simpa [Nat.add_assoc] using h)))
theorem eq_tree2 {x y : List (List K)} {a b : Addr} {P : Fin → Shared → Prop} (hu : A.units < cLine) (hx : IsTup2 knd s.heap x a) (hy : IsTup2 knd s.heap y b) (h : P (.done (.ret (.bool (decide (x = y))))) s) : wpAny (model prog w) A (Builtin.«tuple.__eq__» ⟨[.ref a, .ref b], []⟩) P E s := by
  have hTb := hy.ty
  obtain ⟨oa, xs, na, hoa, _, hda, hia⟩ := hx
  obtain ⟨ob, ys, nb, hob, _, hdb, hib⟩ := hy
  refine wpAny_bind (m := isInstance (.ref b) (.type "tuple")) (wpAny_isInstance hTb isSubtype_tuple_tuple ?_)
  simp only [Bool.not_true, if_false, Bool.false_eq_true]
  refine wpAny_bind (wpAny_tupleItemsOf hoa hda (wpAny_bind (wpAny_tupleItemsOf hob hdb (wpAny_bind ?_))))
  refine wpAny_forIn_list _ (fun rest r s' => r.1 = none ∧ s' = s ∧ ∃ x' y' xs' ys', rest = List.zip xs' ys' ∧ It2 knd s.heap x' xs' ∧ It2 knd s.heap y' ys' ∧ decide (x' = y') = decide (x = y) ∧ (xs'.length == ys'.length) = (xs.size == ys.size)) _ ?_ ?_ _ _ ⟨rfl, rfl, x, y, xs.toList, ys.toList, rfl, hia, hib, rfl, by simp⟩
  · rintro ⟨u, v⟩ rest r s' ⟨hr, rfl, x', y', xs', ys', hz, hx', hy', hdec, hlen⟩
    cases hx' with
    | nil => simp at hz
    | @cons k1 u' x'' xs'' h1 hx'' =>
      cases hy' with
      | nil => simp at hz
      | @cons k2 v' y'' ys'' h2 hy'' =>
        simp only [List.cons.injEq, List.zip_cons_cons, Prod.mk.injEq] at hz
        obtain ⟨⟨rfl, rfl⟩, rfl⟩ := hz
        obtain ⟨c1, rfl, i1⟩ := h1
        obtain ⟨c2, rfl, i2⟩ := h2
        refine wpAny_bind (wpAny_eqBool_tuple hu i1 i2 ?_)
        by_cases hk : k1 = k2
        · subst hk
          rw [decide_eq_true rfl]
          simp only [Bool.not_true, if_false, Bool.false_eq_true]
          refine wpAny_pure ⟨rfl, rfl, x'', y'', xs'', ys'', rfl, hx'', hy'', ?_, by simpa using hlen⟩
          rw [← hdec]
          by_cases hxy : x'' = y'' <;> simp [hxy]
        · rw [decide_eq_false hk]
          simp only [Bool.not_false, if_true]
          have hf : decide (x = y) = false := by rw [← hdec]; simp [hk]
          rw [hf] at h
          exact wpAny_bind (wpAny_pure (wpAny_pure (wpAny_pure h)))
  · rintro ⟨r1, r2⟩ s' ⟨hr, rfl, x', y', xs', ys', hz, hx', hy', hdec, hlen⟩
    simp only at hr
    subst hr
    refine wpAny_pure ?_
    have e : (xs.size == ys.size) = decide (x = y) := by
      rw [← hdec, ← hlen]
      cases hx' with
      | nil => cases hy' with
        | nil => simp
        | cons _ _ => simp
      | cons _ _ => cases hy' with
        | nil => simp
        | cons _ _ => simp at hz
    show P (.done (.ret (.bool (xs.size == ys.size)))) s'
    rw [e]; exact h
theorem eq_tup2 {x y : List (List K)} {a b : Addr} {Q : Bool → Shared → Prop} (hu : A.units + 1 < cLine) (hx : IsTup2 knd s.heap x a) (hy : IsTup2 knd s.heap y b) (h : Q (decide (x = y)) s) : wpAny (model prog w) A (eqBool (.ref a) (.ref b)) Q E s := by
  unfold eqBool
  try with_reducible refine wpAny_holding ?_
  by_cases hab : (Value.ref a == Value.ref b) = true
  · rw [if_pos hab]
    have e : a = b := by have := eq_of_beq hab; injection this
    subst e
    obtain rfl := hx.inj hy
    exact wpAny_bind (wpAny_rule (wpAny_pure (by simpa using h)))
  · rw [if_neg hab]
    exact wpAny_bind (wpAny_richCompare_same_room (op := .Eq) hx.ty hy.ty F.slot_tuple_eq (wpAny_call_entry F.slot_tuple_eq hx.ty F.entry_tuple_eq (eq_tree2 (by show A.units + 1 < cLine; exact hu) hx hy ⟨_, rfl, (fun e => nomatch e), wpAny_truthy_bool h⟩) (F.args_tuple_eq_2 _ _)) (by omega))
theorem quiet1 {ks : List K} {a : Addr} {m : Nat} {Q : Bool → Shared → Prop} (hk : IsTupleKey knd s.heap ks a) (h : Q true s) : wpAny (model prog w) A (eqIsQuiet (m + 1) (.ref a)) Q E s := by
  have hT := hk.typeIs
  obtain ⟨o, items, n, ho, _, hd, hi⟩ := hk
  unfold eqIsQuiet
  refine wpAny_bind (wpAny_specialOf hT F.slot_tuple_eq.lookup (wpAny_bind (m := isInstance (.ref a) (.type "tuple")) (wpAny_isInstance hT isSubtype_tuple_tuple ?_)))
  simp only [Bool.not_true, if_false, Bool.false_eq_true]
  refine wpAny_bind (wpAny_seqItems ho hd (wpAny_bind (m := forIn items _ _) ?_)); rw [← Array.forIn_toList]
  refine wpAny_forIn_list _ (fun rest r s' => r.1 = none ∧ s' = s ∧ ∀ v ∈ rest, carriedByValue v = true) _ ?_ ?_ _ _ ⟨rfl, rfl, hi.byValue⟩
  · rintro v rest r s' ⟨hr, rfl, hall⟩
    rw [eqIsQuiet_byValue _ (hall v List.mem_cons_self)]; refine wpAny_bind (wpAny_pure ?_)
    simp only [Bool.not_true, if_false, Bool.false_eq_true]
    exact wpAny_pure ⟨rfl, rfl, fun u hu' => hall u (List.mem_cons_of_mem _ hu')⟩
  · rintro ⟨r1, r2⟩ s' ⟨hr, rfl, _⟩
    simp only at hr
    subst hr
    exact wpAny_pure h
theorem quiet2 {ks : List (List K)} {a : Addr} {Q : Bool → Shared → Prop} (hk : IsTup2 knd s.heap ks a) (h : Q true s) : wpAny (model prog w) A (eqIsQuiet 8 (.ref a)) Q E s := by
  have hT := hk.ty
  obtain ⟨o, items, n, ho, _, hd, hi⟩ := hk
  unfold eqIsQuiet
  refine wpAny_bind (wpAny_specialOf hT F.slot_tuple_eq.lookup (wpAny_bind (m := isInstance (.ref a) (.type "tuple")) (wpAny_isInstance hT isSubtype_tuple_tuple ?_)))
  simp only [Bool.not_true, if_false, Bool.false_eq_true]
  refine wpAny_bind (wpAny_seqItems ho hd (wpAny_bind (m := forIn items _ _) ?_)); rw [← Array.forIn_toList]
  refine wpAny_forIn_list _ (fun rest r s' => r.1 = none ∧ s' = s ∧ ∃ left, It2 knd s.heap left rest) _ ?_ ?_ _ _ ⟨rfl, rfl, ks, hi⟩
  · rintro v rest r s' ⟨hr, rfl, left, hl⟩
    cases hl with
    | @cons k _ ks' _ h1 hl' =>
      obtain ⟨c, rfl, hc⟩ := h1
      refine wpAny_bind (quiet1 (m := 6) hc ?_)
      simp only [Bool.not_true, if_false, Bool.false_eq_true]
      exact wpAny_pure ⟨rfl, rfl, ks', hl'⟩
  · rintro ⟨r1, r2⟩ s' ⟨hr, rfl, _⟩
    simp only at hr
    subst hr
    exact wpAny_pure h
end
def kind2 {prog : Program} {w : World} {K : Type} [DecidableEq K] (knd : KeyKind prog w K) : HeapKind prog w (List (List K)) where
  is := IsTup2 knd
  hash := hash2 knd
  draws := fun ks => draws2 ks + 1
  room := fun A => A.units + 1 < cLine
  inj := fun hx hy => hx.inj hy
  keeps := fun x ho hd hs => x.keeps ho hd hs
  pyHash := fun hu hk h => hash_tup2 hu hk h
  eqBool := fun hu hx hy h => eq_tup2 hu hx hy h
  quiet := fun hk h => quiet2 hk h
end L2
set_option maxHeartbeats 4000000
namespace L2
open PySem PySem.Spec PyProof.Rows
section
variable {X : Cx}
def rIsB (g : Bool → Bool) : R2 := fun x y H Q => ∃ b, y = .bl b ∧ Q (.bl (g (decide (x = .bl b)))) H
theorem op_notB : OpR X (compareOp .IsNot) (rIsB fun b => !b) := by
  intro pins s σ H x y v u Q I rx ry h
  obtain ⟨b, rfl, q⟩ := h
  cases ry
  cases x with
  | bl c =>
    cases rx
    refine wpAny_isNot_plain (by rfl) (fin_bl I q ?_)
    cases b <;> cases c <;> rfl
  | _ => first
    | (cases rx; exact wpAny_isNot_plain (by rfl) (fin_bl I q (by first | rfl | (cases b <;> rfl))))
    | (obtain ⟨t, rfl⟩ := rx; exact wpAny_isNot_plain (by rfl) (fin_bl I q (by first | rfl | (cases b <;> rfl))))
end
section
variable {K : PySem.W.Frag} {σ : St} {G : Hp} {ta tb : TE} {a b d : PyData}
theorem ev_isB {g : Bool → Bool} {c t : Bool} (h : Ev K ta σ G (.bool c)) : Ev K (tOp (rIsB g) ta (tC (.bl t))) σ G (.bool (g (decide (c = t)))) :=
  ev_op h ev_bl fun G1 H u v Q s1 s2 hu hv k => by
    rw [hu.bl, hv.bl]
    refine ⟨t, rfl, ?_⟩
    have e : decide (V.bl c = V.bl t) = decide (c = t) := decide_eq_decide.mpr ⟨fun z => by injection z, fun z => by rw [z]⟩
    rw [e]
    exact k _ G1 H (Grow.refl s2) (dat_bl _)
theorem ev_eqS' {g : Bool → Bool} (ha : Ev K ta σ G a) (hb : Ev K tb σ G b) (sh : SeqAt.shaped a = true ∧ SeqAt.shaped b = true ∧ SeqAt.noMix a b = true) : Ev K (tOp (rEqD K g) ta tb) σ G (.bool (g (PySem.Spec.same a b))) :=
  ev_op ha hb fun G1 H x y Q s1 s2 hx hy k => ⟨G1, a, b, s2, hx, hy, sh, k _ G1 H (Grow.refl s2) (dat_bl _)⟩
def kD : Key → PyData
  | .inl i => .int i
  | .inr x => .str x
theorem datK {v : V} {k : Key} (h : Dat K G v (kD k)) : v = kV k := by
  cases k with
  | inl i => exact h.int
  | inr x => exact h.str
def EvPs (K : PySem.W.Frag) (σ : St) (G : Hp) : List (TE × TE) → List (Key × PyData) → Prop
  | [], [] => True
  | (tk, tv) :: r, (k, d) :: ds => Ev K tk σ G (kD k) ∧ Ev K tv σ G d ∧ EvPs K σ G r ds
  | _, _ => False
theorem mergeK_nodup : ∀ (more acc : List (Key × V)), ((acc ++ more).map (·.1)).Nodup → mergeK acc more = acc ++ more
  | [], acc, _ => by simp [mergeK]
  | p :: r, acc, h => by
    have hp : (acc.any fun kv => decide (kv.1 = p.1)) = false := by
      rw [List.any_eq_false]
      intro q hq e
      have e' : q.1 = p.1 := of_decide_eq_true e
      rw [List.map_append, List.nodup_append] at h
      exact h.2.2 q.1 (List.mem_map_of_mem hq) p.1 (by simp) e'
    have e1 : mergeK acc (p :: r) = mergeK (acc ++ [p]) r := by
      show mergeK (putK acc p.1 p.2) r = _
      unfold putK
      rw [if_neg (by rw [hp]; exact Bool.false_ne_true)]
    rw [e1, mergeK_nodup r (acc ++ [p]) (by simpa using h)]
    simp
theorem pairs_ev : ∀ (trs : List (TE × TE)) (kds : List (Key × PyData)), EvPs K σ G trs kds → ∀ G1 H, Same G G1 → Same G1 H → ∀ Q : List (V × V) → Hp → Prop,
    (∀ kvs : List (Key × V), ∀ G' H', Grow G1 H G' H' → kvs.map (·.1) = kds.map (·.1) → Dats K G' (kvs.map (·.2)) (kds.map (·.2)) → Q (kvs.map fun kv => (kV kv.1, kv.2)) H') → tPairs trs σ H Q
  | [], [], _, G1, H, s1, s2, Q, k => k [] G1 H (Grow.refl s2) rfl dats_nil
  | (tk, tv) :: r, (k0, d0) :: ds, h, G1, H, s1, s2, Q, k => h.1 G1 H s1 s2 _ fun v1 G2 H2 g2 h1 => h.2.1 G2 H2 (s1.trans g2.gg) g2.gh _ fun v2 G3 H3 g3 h2 =>
    pairs_ev r ds h.2.2 G3 H3 ((s1.trans g2.gg).trans g3.gg) g3.gh _ fun kvs G4 H4 g4 e hd => by
      have := k ((k0, v2) :: kvs) G4 H4 ((g2.trans g3).trans g4) (by simp [e]) (dats_cons (h2.same g4.gg) hd)
      rw [datK h1]
      exact this
  | [], _ :: _, h, _, _, _, _, _, _ => h.elim
  | _ :: _, [], h, _, _, _, _, _, _ => h.elim
theorem valV_get : ∀ (kvs : List (Key × V)) (kds : List (Key × PyData)) (G' : Hp), kvs.map (·.1) = kds.map (·.1) → Dats K G' (kvs.map (·.2)) (kds.map (·.2)) → ∀ k d, (kds.find? fun kv => decide (kv.1 = k)).map (·.2) = some d → ∃ v, valV kvs k = some v ∧ Dat K G' v d
  | [], [], _, _, _, k, d, h => by cases h
  | (k1, v1) :: r, (k2, d2) :: ds, G', e, hd, k, d, h => by
    simp only [List.map_cons, List.cons.injEq] at e
    obtain ⟨rfl, e⟩ := e
    obtain ⟨y, ys, ey, hy, hr⟩ := hd.cons
    simp only [List.map_cons, List.cons.injEq] at ey
    obtain ⟨rfl, rfl⟩ := ey
    by_cases hk : k1 = k
    · subst hk
      rw [valV_pos (by rfl)]
      have : d2 = d := by simpa using h
      subst this
      exact ⟨_, rfl, hy⟩
    · have h' : (ds.find? fun kv => decide (kv.1 = k)).map (·.2) = some d := by simpa [List.find?_cons, hk] using h
      obtain ⟨v, ev, dv⟩ := valV_get r ds G' e hr k d h'
      exact ⟨v, by rw [← ev]; simp [valV, List.find?_cons, hk], dv⟩
  | [], _ :: _, _, e, _, _, _, _ => by simp at e
  | _ :: _, [], _, e, _, _, _, _ => by simp at e
theorem ev_disp {trs : List (TE × TE)} {ty : TE} {kds : List (Key × PyData)} {k : Key} (h : EvPs K σ G trs kds) (hl : kds.length ≤ 15) (hn : (kds.map (·.1)).Nodup) (hy : Ev K ty σ G (kD k)) (hd : (kds.find? fun kv => decide (kv.1 = k)).map (·.2) = some d) :
    Ev K (tDGet (tDisp trs) ty) σ G d := fun G1 H s1 s2 Q q p hp => by
  refine pairs_ev trs kds h G1 _ s1 (s2.trans (fun b o e => by rw [upd_ne (ne_of_none e hp)]; exact e)) _ fun kvs G2 H2 g2 e1 e2 => ?_
  have hlen : kvs.length = kds.length := by have := congrArg List.length e1; simpa using this
  have hp2 : H2 p = some (.dK []) := g2.hh _ _ upd_same
  refine ⟨hp2, kvs, rfl, by omega, ?_⟩
  have hm : mergeK [] kvs = kvs := by rw [mergeK_nodup kvs [] (by rw [List.nil_append, e1]; exact hn)]; rfl
  rw [hm]
  have hgp : G1 p = none := s2.free hp
  have hG2p : G2 p = none := g2.out upd_same hgp
  have s3 : Same G2 (upd H2 p (.dK kvs)) := same_upd g2.gh hG2p
  refine hy G2 _ (s1.trans g2.gg) s3 _ fun v G3 H3 g3 hv => ?_
  obtain ⟨w, ew, dw⟩ := valV_get kvs kds G2 e1 e2 k d hd
  refine ⟨p, w, rfl, ?_, q w G3 H3 ⟨g2.gg.trans g3.gg, g3.gh, fun b o e => ?_, fun b o e => ?_⟩ (dw.same g3.gg)⟩
  · rw [datK hv, ← ew]
    exact DGet.k (g3.hh _ _ upd_same)
  · exact g3.hh _ _ (by rw [upd_ne (ne_of_none e hp)]; exact g2.hh _ _ (by rw [upd_ne (ne_of_none e hp)]; exact e))
  · rcases g3.fr b o e with e | e
    · rcases g2.fr b o e with e | e
      · exact .inl e
      · by_cases hb : b = p
        · subst hb; exact .inr hp
        · rw [upd_ne hb] at e; exact .inr e
    · by_cases hb : b = p
      · subst hb; exact .inr hp
      · rw [upd_ne hb] at e
        refine .inr ?_
        cases eb : H b with
        | none => rfl
        | some u =>
          have := g2.hh b u (by rw [upd_ne hb]; exact eb)
          rw [e] at this; cases this
end
end L2
set_option maxHeartbeats 4000000
namespace L2
open PySem PySem.Spec PyProof.Rows
abbrev KX := List (List Key)
def kdat (k : KX) : PyData := .tuple (k.map fun l => .tuple (l.map kD))
def dxOk (P : Program) (w : World) (a : Addr) (xs : List (KX × Addr)) (h : Heap) : Prop := (a == sysModules) = false ∧ xs.length ≤ sizeLine ∧ ∃ o es ep, h.get? a = some o ∧ o.ExactDict ∧ o.data = .dict es ep ∧ es.toList = xs.map (fun x => entryOfKey (kind2 (mixKind P w)) (x.1, x.2, .bool true)) ∧ (xs.map (·.1)).Nodup
def dX (P : Program) (w : World) (a : Addr) (xs : List (KX × Addr)) : HO := .ext (dxOk P w a xs)
def hasX (xs : List (KX × Addr)) (k : KX) : Bool := xs.any fun x => decide (x.1 = k)
theorem hasX_iff {xs : List (KX × Addr)} {k : KX} : hasX xs k = true ↔ k ∈ xs.map (·.1) := by
  unfold hasX
  rw [List.any_eq_true]
  constructor
  · rintro ⟨x, hx, e⟩
    exact List.mem_map.mpr ⟨x, hx, of_decide_eq_true e⟩
  · intro h
    obtain ⟨x, hx, e⟩ := List.mem_map.mp h
    exact ⟨x, hx, decide_eq_true e⟩
def putX (xs : List (KX × Addr)) (k : KX) (b : Addr) : List (KX × Addr) := if hasX xs k = true then xs else xs ++ [(k, b)]
theorem dx_obj {P : Program} {w : World} {H : Hp} {h : Heap} {a : Addr} {xs : List (KX × Addr)} (x : dxOk P w a xs h) : ObjOk P w H h a (dX P w a xs) := by
  refine ⟨x, ?_, fun h1 h2 y k => ?_⟩
  · obtain ⟨_, _, o, _, _, e, _⟩ := x
    exact ⟨o, e⟩
  · obtain ⟨z1, z2, o, es, ep, e, r⟩ := y
    exact ⟨z1, z2, o, es, ep, k o e, r⟩
section
variable {X : Cx} {pins : List (Addr × Obj)} {σ : St} {H G : Hp} {s : Shared}
theorem it2_of (I : Inv X pins σ H s) (sg : Same G H) : ∀ {k : KX} {xs : List V} {its : List Value}, Vals xs its → Dats X.K G xs (k.map fun l => .tuple (l.map kD)) → It2 (mixKind X.prog X.w) s.heap k its
  | [], _, _, r, h => by
    have e := h.nil
    subst e
    cases r
    exact .nil
  | l :: k, _, _, r, h => by
    obtain ⟨y, ys, rfl, hy, hr⟩ := h.cons
    cases r with
    | cons r1 r2 =>
      obtain ⟨p, zs, rfl, hp, hz⟩ := Dat.tup hy
      cases r1
      obtain ⟨jts, rj, ⟨o, h1, h2, n, h3⟩, zz⟩ := I.tuple (sg.tup hp)
      clear zz
      have e : zs = l.map kV := by
        clear rj hp hr r2 hy h
        induction l generalizing zs with
        | nil => exact hz.nil
        | cons q l ih =>
          obtain ⟨u, us, rfl, hu, hus⟩ := hz.cons
          rw [datK hu, ih us hus]; rfl
      subst e
      exact .cons ⟨p, rfl, o, jts.toArray, n, h1, h2, h3, by simpa using items_are rj⟩ (it2_of I sg r2 hr)
theorem is2_of (I : Inv X pins σ H s) (sg : Same G H) {k : KX} {b : Addr} (h : Dat X.K G (.ref b) (kdat k)) : IsTup2 (mixKind X.prog X.w) s.heap k b := by
  obtain ⟨p, xs, e, hp, hx⟩ := Dat.tup h
  cases e
  obtain ⟨its, r, ⟨o, h1, h2, n, h3⟩, _⟩ := I.tuple (sg.tup hp)
  exact ⟨o, its.toArray, n, h1, h2, h3, by simpa using it2_of I sg r hx⟩
def tDNewX (P : Program) (w : World) : TE := fun _ H Q => ∀ p, H p = none → Q (.ref p) (upd H p (dX P w p []))
theorem pe_dnewX {P : Program} {w : World} (eP : X.prog = P) (ew : X.w = w) {pos : Pos} : PE X (.Dict [] [] pos) (tDNewX P w) := by
  subst eP ew
  exact fun pins s σ H Q I h =>
  wpAny_Dict_empty ⟨.ref s.heap.objs.size, _, I.laid (a := s.heap.objs.size) (o := dX X.prog X.w s.heap.objs.size []) (t' := s.toks) (fun _ _ q => Heap.get?_push_of_some _ q) (Nat.le_refl _)
    (dx_obj ⟨beq_eq_false_iff_ne.mpr (Ne.symm (Nat.ne_of_lt I.big)), Nat.zero_le _, _, #[], 0, Heap.get?_push_size _ rfl, ⟨rfl, rfl, rfl⟩, rfl, rfl, List.nodup_nil⟩), rfl, h _ (I.hok.fresh (Nat.le_refl _))⟩
def sDPutX (P : Program) (w : World) (K : PySem.W.Frag) (td ty tv : TE) : TS := fun D σ H => tv σ H fun v H1 => td σ H1 fun x H2 => ty σ H2 fun y H3 => ∃ (a b : Addr) (k : KX) (xs : List (KX × Addr)) (G : Hp), v = .bl true ∧ x = .ref a ∧ y = .ref b ∧ H3 a = some (dX P w a xs) ∧ Same G H3 ∧ Dat K G (.ref b) (kdat k) ∧ (∀ z ∈ xs, Dat K G (.ref z.2) (kdat z.1)) ∧ xs.length < sizeLine ∧ D.nx σ (upd H3 a (dX P w a (putX xs k b)))
theorem atKey_map {P : Program} {w : World} : ∀ (xs : List (KX × Addr)) (k : KX), (atKey (xs.map fun x => (x.1, x.2, Value.bool true)) k = none ↔ k ∉ xs.map (·.1))
  | [], k => by simp [atKey]
  | x :: r, k => by
    have ih := atKey_map (P := P) (w := w) r k
    unfold atKey at ih ⊢
    by_cases h : x.1 = k
    · simp [List.find?_cons, h]
    · have h' : ¬ k = x.1 := fun e => h e.symm
      simp only [List.map_cons, List.find?_cons, h, decide_false, List.mem_cons, h', false_or]
      exact ih
theorem stored_put {P : Program} {w : World} (xs : List (KX × Addr)) (k : KX) (b : Addr) : storedH (xs.map fun x => (x.1, x.2, Value.bool true)) k b (.bool true) = (putX xs k b).map fun x => (x.1, x.2, Value.bool true) := by
  by_cases h : k ∈ xs.map (·.1)
  · have hn : atKey (xs.map fun x => (x.1, x.2, Value.bool true)) k ≠ none := fun e => ((atKey_map (P := P) (w := w) xs k).mp e) h
    obtain ⟨p, hp⟩ := Option.ne_none_iff_exists'.mp hn
    rw [storedH_old hp, putX, if_pos (hasX_iff.mpr h), List.map_map]
    refine List.map_congr_left fun x _ => ?_
    show putAt k (.bool true) (x.1, x.2, .bool true) = _
    unfold putAt
    split <;> rfl
  · rw [storedH_new ((atKey_map (P := P) (w := w) xs k).mpr h), putX, if_neg (fun z => h (hasX_iff.mp z)), List.map_append]; rfl
theorem ps_dputX {P : Program} {w : World} {K : PySem.W.Frag} (eP : X.prog = P) (ew : X.w = w) (eK : X.K = K) {o i value : Expr} {pos pos' : Pos} {td ty tv : TE} (hu : X.A.units + 64 < cLine) (ho : PE X o td) (hi : PE X i ty) (hv : PE X value tv) (hs : swapsWith value (some (.Subscript o i pos')) pos.line X.env = pure false) :
    PS X (.Assign [.Subscript o i pos'] value pos) (sDPutX P w K td ty tv) := by
  subst eP ew eK
  intro pins s σ H D I h
  refine wpAny_Assign_Subscript (thn (hv pins s σ H _ I h) fun r s1 ⟨v, H1, I1, rv, q1⟩ => thn (ho pins s1 σ H1 _ I1 q1) fun u s2 ⟨x, H2, I2, rx, q2⟩ => thn (hi pins s2 σ H2 _ I2 q2) fun iv s3 ⟨y, H3, I3, ry, a, b, k, xs, G, ev, ex, ey, ha, sg, hb, hxs, hl, q3⟩ => ?_) hs
  subst ev ex ey
  obtain rfl : r = Value.bool true := rv
  obtain rfl : u = Value.ref a := rx
  obtain rfl : iv = Value.ref b := ry
  obtain ⟨⟨hsm, _, o', es, ep, h1, h2, h3, h4, h5⟩, _⟩ := (show ObjOk X.prog X.w H3 s3.heap a (dX X.prog X.w a xs) from I3.hok a _ ha)
  have dd : s3.heap.DictOfH (kind2 (mixKind X.prog X.w)) a (xs.map fun x => (x.1, x.2, Value.bool true)) := ⟨o', es, ep, h1, h2, h3, by rw [h4, List.map_map]; rfl, fun z hz => by
    obtain ⟨x, hx, rfl⟩ := List.mem_map.mp hz
    exact is2_of I3 sg (hxs x hx), by rw [List.map_map]; exact h5⟩
  refine wpAny_setItem_heap (hsz := by rw [List.length_map]; omega) (show X.A.units + 1 + 1 < cLine by omega) (is2_of I3 sg hb) dd fun h' dd' hs => ?_
  rw [stored_put (P := X.prog) (w := X.w)] at dd'
  obtain ⟨q, es', ep', hq, g2, g3, g4, _, g5⟩ := dd'
  have hlen : (putX xs k b).length ≤ sizeLine := by
    unfold putX
    split
    · omega
    · rw [List.length_append]; show xs.length + 1 ≤ sizeLine; omega
  exact ⟨σ, _, d_write I3 (by rw [ha]; exact True.intro) hs ⟨q, hq⟩ (dx_obj ⟨hsm, hlen, q, es', ep', hq, g2, g3, by rw [g4, List.map_map]; rfl, by rw [List.map_map] at g5; exact g5⟩), q3⟩
def rLstX (P : Program) (w : World) : List V → Hp → VK → Prop := fun vs H Q => ∃ (a : Addr) (xs : List (KX × Addr)), vs = [.ref a] ∧ H a = some (dX P w a xs) ∧ ∀ l, H l = none → Q (.ref l) (upd H l (.lst (xs.map fun x => V.ref x.2)))
theorem call_listX {P : Program} {w : World} (eP : X.prog = P) (ew : X.w = w) (hc : X.calm = true) : CallR X (.type "list") (rLstX P w) := by
  subst eP ew
  intro pins s σ H xs us Q I r h
  obtain ⟨a, ks, rfl, ha, q⟩ := h
  obtain ⟨u, rfl, rx⟩ := vals1 r
  cases rx
  obtain ⟨⟨hsm, hl, o', es, ep, h1, h2, h3, h4, h5⟩, _⟩ := (show ObjOk X.prog X.w H s.heap a (dX X.prog X.w a ks) from I.hok a _ ha)
  have hsz : es.size = ks.length := by rw [← Array.length_toList, h4, List.length_map]
  refine call_list_dict (I.ok.hd hc) hsm ⟨o', h1, h2, h3⟩ (by omega) fun s' acc c' hk hs' hS hacc => ?_
  have hv : Vals (ks.map fun x => V.ref x.2) acc.toList := by
    have e : acc.toList = ks.map fun x => Value.ref x.2 := by
      refine List.ext_getElem? fun j => ?_
      rw [List.getElem?_map, Array.getElem?_toList]
      cases ev : acc[j]? with
      | none =>
        have hj : acc.size ≤ j := by simpa using ev
        rw [List.getElem?_eq_none (by rw [← hsz, ← hacc.1]; exact hj)]; rfl
      | some v =>
        obtain ⟨en, he, rfl⟩ := hacc.2 j v ev
        rw [← Array.getElem?_toList, h4, List.getElem?_map] at he
        cases ek : ks[j]? with
        | none => rw [ek] at he; cases he
        | some x => rw [ek] at he; cases he; rfl
    rw [e]
    have key : ∀ l : List (KX × Addr), Vals (l.map fun x => V.ref x.2) (l.map fun x => Value.ref x.2) := fun l => by
      induction l with
      | nil => exact .nil
      | cons x r ih => exact .cons rfl ih
    exact key ks
  rw [hs']
  exact ⟨.ref s.heap.objs.size, _, I.laid (t' := s'.toks) hk (Nat.le_refl _) (show ObjOk X.prog X.w _ s'.heap _ (.lst (ks.map fun x => V.ref x.2)) from ⟨by rw [List.length_map]; exact hl, acc.toList, c', hv, by rw [hS]⟩), rfl, q _ (I.hok.fresh (Nat.le_refl _))⟩
end
end L2
set_option maxHeartbeats 4000000
namespace Look
open PySem Ord Rdo
abbrev Fs := List (Int × Int)
def lookA (book : List Str) (ws : List Wd) (f g : Fs) : An := match ev (enOf book f g) ws [] with
  | .an a :: _ => a
  | _ => .like
theorem lookA_ev {fld : Str → Prop} {num : Int → Int → Prop} {book : List Str} {ws : List Wd} (f g : Fs) (hf : ∀ z, fld z → wordT z = none) (h : IsOrd fld num ws) : ∀ R, ev (enOf book f g) ws R = .an (lookA book ws f g) :: R := by
  obtain ⟨a, ha⟩ := ev_order (enOf book f g) hf h
  have e : lookA book ws f g = a := by unfold lookA; rw [ha []]
  rw [e]; exact ha
theorem lookA_of {book : List Str} {ws : List Wd} {f g : Fs} {a : An} (h : ∀ R, ev (enOf book f g) ws R = .an a :: R) : lookA book ws f g = a := by unfold lookA; rw [h []]
def cmpN (i j : Nat) : An := if i < j then .ahead else if i > j then .behind else .like
def rk (L : Fs → Fs → An) (gs : List Fs) (f : Fs) : Nat := gs.countP fun g => decide (L f g = .behind)
def agree (L : Fs → Fs → An) (gs : List Fs) : Bool := gs.all fun f => gs.all fun g => decide (L f g = cmpN (rk L gs f) (rk L gs g))
structure Wk (L : Fs → Fs → An) (D : Fs → Prop) : Prop where
  anti : ∀ f g, D f → D g → L g f = (L f g).turn
  trans : ∀ f g h, D f → D g → D h → L f g ≠ .behind → L g h ≠ .behind → L f h ≠ .behind
theorem turn_behind {a : An} (h : a.turn = .behind) : a = .ahead := by cases a <;> first | rfl | cases h
theorem Wk.self {L : Fs → Fs → An} {D : Fs → Prop} (w : Wk L D) {f : Fs} (hf : D f) : L f f = .like := by
  have := w.anti f f hf hf
  cases e : L f f with
  | like => rfl
  | ahead => rw [e] at this; cases this
  | behind => rw [e] at this; cases this
theorem Wk.sub {L : Fs → Fs → An} {D D' : Fs → Prop} (w : Wk L D) (h : ∀ f, D' f → D f) : Wk L D' := ⟨fun f g a b => w.anti f g (h f a) (h g b), fun f g k a b c => w.trans f g k (h f a) (h g b) (h k c)⟩
theorem Wk.lt_le {L : Fs → Fs → An} {D : Fs → Prop} (w : Wk L D) {f g h : Fs} (hf : D f) (hg : D g) (hh : D h) (a : L f g = .ahead) (b : L g h ≠ .behind) : L f h = .ahead := by
  have n1 : L f h ≠ .behind := w.trans f g h hf hg hh (by rw [a]; decide) b
  cases e : L f h with
  | ahead => rfl
  | behind => exact absurd e n1
  | like =>
    have e2 : L h f = .like := by rw [w.anti f h hf hh, e]; rfl
    have := w.trans g h f hg hh hf b (by rw [e2]; decide)
    have e3 : L g f = .behind := by rw [w.anti f g hf hg, a]; rfl
    exact absurd e3 this
theorem Wk.le_lt {L : Fs → Fs → An} {D : Fs → Prop} (w : Wk L D) {f g h : Fs} (hf : D f) (hg : D g) (hh : D h) (a : L f g ≠ .behind) (b : L g h = .ahead) : L f h = .ahead := by
  have n1 : L f h ≠ .behind := w.trans f g h hf hg hh a (by rw [b]; decide)
  cases e : L f h with
  | ahead => rfl
  | behind => exact absurd e n1
  | like =>
    have e2 : L h f = .like := by rw [w.anti f h hf hh, e]; rfl
    have := w.trans h f g hh hf hg (by rw [e2]; decide) a
    have e3 : L h g = .behind := by rw [w.anti g h hg hh, b]; rfl
    exact absurd e3 this
theorem countP_le' {α : Type} {p q : α → Bool} : ∀ {l : List α}, (∀ x ∈ l, p x = true → q x = true) → l.countP p ≤ l.countP q
  | [], _ => Nat.le_refl _
  | x :: r, h => by
    have ih := countP_le' (p := p) (q := q) (l := r) fun y hy => h y (List.mem_cons_of_mem _ hy)
    rw [List.countP_cons, List.countP_cons]
    have := h x List.mem_cons_self
    cases e : p x with
    | false => simp; omega
    | true => rw [this e]; simp; omega
theorem countP_lt' {α : Type} {p q : α → Bool} : ∀ {l : List α}, (∀ x ∈ l, p x = true → q x = true) → (∃ x ∈ l, p x = false ∧ q x = true) → l.countP p < l.countP q
  | [], _, ⟨x, hx, _⟩ => by cases hx
  | x :: r, h, ⟨y, hy, e1, e2⟩ => by
    rw [List.countP_cons, List.countP_cons]
    have le := countP_le' (p := p) (q := q) (l := r) fun z hz => h z (List.mem_cons_of_mem _ hz)
    rcases List.mem_cons.mp hy with rfl | hy
    · rw [e1, e2]; simp; omega
    · have ih := countP_lt' (p := p) (q := q) (l := r) (fun z hz => h z (List.mem_cons_of_mem _ hz)) ⟨y, hy, e1, e2⟩
      have := h x List.mem_cons_self
      cases e : p x with
      | false => simp; omega
      | true => rw [this e]; simp; omega
theorem rk_lt {L : Fs → Fs → An} {gs : List Fs} (w : Wk L (· ∈ gs)) {f g : Fs} (hf : f ∈ gs) (hg : g ∈ gs) (a : L f g = .ahead) : rk L gs f < rk L gs g := by
  refine countP_lt' (fun h hh e => ?_) ⟨f, hf, ?_, ?_⟩
  · have e' : L f h = .behind := of_decide_eq_true e
    have e2 : L h f = .ahead := by rw [w.anti f h hf hh, e']; rfl
    have e3 := w.lt_le hh hf hg e2 (by rw [a]; decide)
    exact decide_eq_true (by rw [w.anti h g hh hg, e3]; rfl)
  · rw [w.self hf]; decide
  · exact decide_eq_true (by rw [w.anti f g hf hg, a]; rfl)
theorem rk_le {L : Fs → Fs → An} {gs : List Fs} (w : Wk L (· ∈ gs)) {f g : Fs} (hf : f ∈ gs) (hg : g ∈ gs) (a : L f g ≠ .behind) : rk L gs f ≤ rk L gs g := by
  refine countP_le' fun h hh e => ?_
  have e' : L f h = .behind := of_decide_eq_true e
  have e2 : L h f = .ahead := by rw [w.anti f h hf hh, e']; rfl
  have e3 := w.lt_le hh hf hg e2 a
  exact decide_eq_true (by rw [w.anti h g hh hg, e3]; rfl)
theorem agree_iff (L : Fs → Fs → An) (gs : List Fs) : agree L gs = true ↔ Wk L (· ∈ gs) := by
  constructor
  · intro h
    have key : ∀ f g, f ∈ gs → g ∈ gs → L f g = cmpN (rk L gs f) (rk L gs g) := fun f g hf hg => by
      unfold agree at h
      exact of_decide_eq_true (List.all_eq_true.mp (List.all_eq_true.mp h f hf) g hg)
    refine ⟨fun f g hf hg => ?_, fun f g k hf hg hk a b => ?_⟩
    · rw [key f g hf hg, key g f hg hf]
      unfold cmpN
      generalize rk L gs f = i
      generalize rk L gs g = j
      by_cases h1 : i < j
      · have : ¬ j < i := by omega
        simp only [h1, this, if_true, if_false, gt_iff_lt]; rfl
      · by_cases h2 : j < i
        · simp only [h1, h2, if_true, if_false, gt_iff_lt]; rfl
        · simp only [h1, h2, if_false, gt_iff_lt]; rfl
    · rw [key f g hf hg] at a
      rw [key g k hg hk] at b
      rw [key f k hf hk]
      revert a b
      unfold cmpN
      generalize rk L gs f = i
      generalize rk L gs g = j
      generalize rk L gs k = m
      intro a b
      have h1 : ¬ i > j := fun z => a (by rw [if_neg (by omega), if_pos z])
      have h2 : ¬ j > m := fun z => b (by rw [if_neg (by omega), if_pos z])
      by_cases h3 : i < m
      · rw [if_pos h3]; decide
      · rw [if_neg h3, if_neg (by omega)]; decide
  · intro w
    unfold agree
    refine List.all_eq_true.mpr fun f hf => List.all_eq_true.mpr fun g hg => decide_eq_true ?_
    unfold cmpN
    cases e : L f g with
    | ahead => rw [if_pos (rk_lt w hf hg e)]
    | behind =>
      have e2 : L g f = .ahead := by rw [w.anti f g hf hg, e]; rfl
      have := rk_lt w hg hf e2
      rw [if_neg (by omega), if_pos this]
    | like =>
      have e2 : L g f = .like := by rw [w.anti f g hf hg, e]; rfl
      have h1 := rk_le w hf hg (by rw [e]; decide)
      have h2 := rk_le w hg hf (by rw [e2]; decide)
      rw [if_neg (by omega), if_neg (by omega)]
def uniq (fs : List Fs) : List Fs := fs.foldl (fun acc f => if (acc.any fun g => decide (g = f)) = true then acc else acc ++ [f]) []
theorem uniq_mem (fs : List Fs) : ∀ f, f ∈ uniq fs ↔ f ∈ fs := by
  have key : ∀ (l acc : List Fs) (f : Fs), f ∈ l.foldl (fun acc f => if (acc.any fun g => decide (g = f)) = true then acc else acc ++ [f]) acc ↔ f ∈ acc ∨ f ∈ l := by
    intro l
    induction l with
    | nil => intro acc f; simp
    | cons x r ih =>
      intro acc f
      rw [List.foldl_cons, ih]
      by_cases h : (acc.any fun g => decide (g = x)) = true
      · rw [if_pos h]
        obtain ⟨y, hy, e⟩ := List.any_eq_true.mp h
        have e' : y = x := of_decide_eq_true e
        subst e'
        constructor
        · rintro (q | q)
          · exact .inl q
          · exact .inr (List.mem_cons_of_mem _ q)
        · rintro (q | q)
          · exact .inl q
          · rcases List.mem_cons.mp q with rfl | q
            · exact .inl hy
            · exact .inr q
      · rw [if_neg h]
        simp only [List.mem_append, List.mem_cons, List.not_mem_nil, or_false]
        constructor
        · rintro ((q | q) | q)
          · exact .inl q
          · exact .inr (.inl q)
          · exact .inr (.inr q)
        · rintro (q | q | q)
          · exact .inl (.inl q)
          · exact .inl (.inr q)
          · exact .inr q
  intro f
  have := key fs [] f
  unfold uniq
  rw [this]; simp
def isOrd (L : Fs → Fs → An) (fs : List Fs) : Bool := agree L (uniq fs)
theorem isOrd_iff (L : Fs → Fs → An) (fs : List Fs) : isOrd L fs = true ↔ Wk L (· ∈ fs) := by
  unfold isOrd
  rw [agree_iff]
  exact ⟨fun w => w.sub fun f h => (uniq_mem fs f).mpr h, fun w => w.sub fun f h => (uniq_mem fs f).mp h⟩
theorem Wk.turn {L : Fs → Fs → An} {D : Fs → Prop} (w : Wk L D) : Wk (fun f g => (L f g).turn) D := by
  refine ⟨fun f g hf hg => by rw [w.anti f g hf hg], fun f g h hf hg hh a b => ?_⟩
  have a' : L g f ≠ .behind := fun z => a (by rw [w.anti g f hg hf, z]; rfl)
  have b' : L h g ≠ .behind := fun z => b (by rw [w.anti h g hh hg, z]; rfl)
  have := w.trans h g f hh hg hf b' a'
  intro z
  have z' : L f h = .ahead := turn_behind z
  exact this (by rw [w.anti f h hf hh, z']; rfl)
theorem Wk.then_ {L M : Fs → Fs → An} {D : Fs → Prop} (w : Wk L D) (v : Wk M D) : Wk (fun f g => if L f g = .like then M f g else L f g) D := by
  refine ⟨fun f g hf hg => ?_, fun f g h hf hg hh a b => ?_⟩
  · show (if L g f = .like then M g f else L g f) = (if L f g = .like then M f g else L f g).turn
    rw [w.anti f g hf hg, v.anti f g hf hg]
    cases L f g <;> rfl
  · skip
    have a1 : L f g ≠ .behind := fun z => a (by rw [z]; rfl)
    have b1 : L g h ≠ .behind := fun z => b (by rw [z]; rfl)
    cases e1 : L f g with
    | behind => exact absurd e1 a1
    | ahead => rw [w.lt_le hf hg hh e1 b1]; exact fun z => by cases z
    | like =>
      cases e2 : L g h with
      | behind => exact absurd e2 b1
      | ahead => rw [w.le_lt hf hg hh a1 e2]; exact fun z => by cases z
      | like =>
        have n1 : L f h ≠ .behind := w.trans f g h hf hg hh a1 b1
        have n2 : L h f ≠ .behind := w.trans h g f hh hg hf (by rw [w.anti g h hg hh, e2]; decide) (by rw [w.anti f g hf hg, e1]; decide)
        have e3 : L f h = .like := by
          cases e : L f h with
          | like => rfl
          | behind => exact absurd e n1
          | ahead => exact absurd (by rw [w.anti f h hf hh, e]; rfl) n2
        rw [e3, if_pos rfl]
        rw [if_pos e1] at a
        rw [if_pos e2] at b
        exact v.trans f g h hf hg hh a b
theorem wk_like {D : Fs → Prop} : Wk (fun _ _ => .like) D := ⟨fun _ _ _ _ => rfl, fun _ _ _ _ _ _ a _ => a⟩
theorem mul_le_of {a b c d : Int} (hb : 1 ≤ b) (h : a * d ≤ c * d) (hd : 1 ≤ d) : a ≤ c := by
  rcases Int.lt_or_le c a with z | z
  · have : c * d < a * d := Int.mul_lt_mul_of_pos_right z (by omega)
    omega
  · exact z
theorem cross_trans {a b c : Int × Int} (ha : 1 ≤ a.2) (hb : 1 ≤ b.2) (hc : 1 ≤ c.2) (h1 : a.1 * b.2 ≤ b.1 * a.2) (h2 : b.1 * c.2 ≤ c.1 * b.2) : a.1 * c.2 ≤ c.1 * a.2 := by
  have q1 : a.1 * b.2 * c.2 ≤ b.1 * a.2 * c.2 := Int.mul_le_mul_of_nonneg_right h1 (by omega)
  have q2 : b.1 * c.2 * a.2 ≤ c.1 * b.2 * a.2 := Int.mul_le_mul_of_nonneg_right h2 (by omega)
  have e1 : a.1 * b.2 * c.2 = (a.1 * c.2) * b.2 := by rw [Int.mul_assoc, Int.mul_comm b.2 c.2, ← Int.mul_assoc]
  have e2 : b.1 * a.2 * c.2 = b.1 * c.2 * a.2 := by rw [Int.mul_assoc, Int.mul_comm a.2 c.2, ← Int.mul_assoc]
  have e3 : c.1 * b.2 * a.2 = (c.1 * a.2) * b.2 := by rw [Int.mul_assoc, Int.mul_comm b.2 a.2, ← Int.mul_assoc]
  exact mul_le_of hb (by omega) hb
def FPos (n : Nat) (f : Fs) : Prop := f.length = n ∧ ∀ p ∈ f, 1 ≤ p.2
theorem FPos.get {n : Nat} {f : Fs} (h : FPos n f) (i : Nat) : 1 ≤ (f.getD i (0, 1)).2 := by
  rw [List.getD_eq_getElem?_getD]
  cases e : f[i]? with
  | none => decide
  | some p => exact h.2 p (List.mem_of_getElem? e)
theorem hsA_le {a b : Int × Int} : hsA a b ≠ .behind ↔ a.1 * b.2 ≤ b.1 * a.2 := by
  unfold hsA
  by_cases h1 : a.1 * b.2 < b.1 * a.2
  · rw [if_pos h1]; exact ⟨fun _ => by omega, fun _ => by decide⟩
  · rw [if_neg h1]
    by_cases h2 : a.1 * b.2 > b.1 * a.2
    · rw [if_pos h2]; exact ⟨fun z => absurd rfl z, fun z => by omega⟩
    · rw [if_neg h2]; exact ⟨fun _ => by omega, fun _ => by decide⟩
theorem wk_field (i n : Nat) : Wk (fun f g => hsA (f.getD i (0, 1)) (g.getD i (0, 1))) (FPos n) :=
  ⟨fun f g _ _ => hsA_turn _ _, fun f g h hf hg hh a b => hsA_le.mpr (cross_trans (hf.get i) (hg.get i) (hh.get i) (hsA_le.mp a) (hsA_le.mp b))⟩
end Look
set_option maxHeartbeats 4000000
namespace L2
open PySem PySem.Spec PyProof.Rows Lw Nm Frac
def offP (p : Addr) (G : Hp) : Hp := fun b => if b = p then none else G b
theorem offP_ne {p b : Addr} {G : Hp} (h : b ≠ p) : offP p G b = G b := by unfold offP; rw [if_neg h]
theorem sqT_off {K : PySem.W.Frag} {G : Hp} {p q : Addr} {us xs : List V} (hp : G p = some (.lst us)) (h : SqT K G q xs) : SqT K (offP p G) q xs := by
  rcases h with h | h
  · refine .inl ?_
    have hq : q ≠ p := by
      rintro rfl
      rcases h with h | ⟨o, h⟩
      · rw [hp] at h; cases h
      · rw [hp] at h; cases h
    unfold Rd at h ⊢
    rw [offP_ne hq]; exact h
  · exact .inr h
mutual
theorem dat_off {K : PySem.W.Frag} {G : Hp} {p : Addr} {us : List V} (hp : G p = some (.lst us)) : ∀ (d : PyData) (v : V), noL d = true → Dat K G v d → Dat K (offP p G) v d
  | .none, v, _, h => by rw [h.non]; exact dat_non
  | .bool b, v, _, h => by rw [h.bl]; exact dat_bl b
  | .int i, v, _, h => by rw [h.int]; exact dat_int i
  | .str x, v, _, h => by rw [h.str]; exact dat_str x
  | .tuple ds, v, n, h => by
    obtain ⟨q, xs, rfl, hq, hx⟩ := h.tup
    exact dat_tup (sqT_off hp hq) (dats_off hp ds xs (by unfold noL at n; exact n) hx)
  | .list _, v, n, _ => by unfold noL at n; cases n
  | .dict _, v, n, _ => by unfold noL at n; cases n
theorem dats_off {K : PySem.W.Frag} {G : Hp} {p : Addr} {us : List V} (hp : G p = some (.lst us)) : ∀ (ds : List PyData) (xs : List V), noLs ds = true → Dats K G xs ds → Dats K (offP p G) xs ds
  | [], xs, _, h => by rw [h.nil]; exact dats_nil
  | d :: r, xs, n, h => by
    obtain ⟨y, ys, rfl, hy, hr⟩ := h.cons
    unfold noLs at n
    rw [Bool.and_eq_true] at n
    exact dats_cons (dat_off hp d y n.1 hy) (dats_off hp r ys n.2 hr)
end
section
variable {K : PySem.W.Frag} {d c : Addr} {σ : St} {G H : Hp}
theorem if_dv {te : TE} {t u : TS} {Ed : Ends} (h : Dv K d c te σ G fun x => ∃ b, x = .bool b) (s : Same G H) (gd : G d = none) (gc : G c = none) (D : DeckAt H d c) (k1 : ∀ G' H', Dk d c G H G' H' → t Ed σ H') (k2 : ∀ G' H', Dk d c G H G' H' → u Ed σ H') : tIfS (tTest te) t u Ed σ H :=
  h.use s gd gc D fun v x G' H' hx k hv => by
    obtain ⟨b, rfl⟩ := hx
    refine ⟨b, hv.bl, ?_⟩
    cases b with
    | true => rw [if_pos rfl]; exact k1 G' H' k
    | false => rw [if_neg Bool.false_ne_true]; exact k2 G' H' k
end
end L2
set_option maxHeartbeats 4000000
namespace L2
open PySem PySem.Spec PyProof.Rows
theorem countIn_strs (z : Str) : ∀ ss : List Str, countIn (.str z) (ss.map PyData.str) = ((ss.countP fun s => decide (s = z) : Nat) : Int)
  | [] => rfl
  | s :: r => by
    have ih := countIn_strs z r
    rw [List.map_cons, countIn, List.countP_cons, ih]
    by_cases h : s = z
    · subst h; simp [same]; omega
    · have h' : ¬ z = s := fun e => h e.symm
      simp [same, h, h']
section
variable {X : Cx}
def rCount (K : PySem.W.Frag) : V → List V → Hp → VK → Prop := fun x vs H Q => ∃ (p : Addr) (ss : List Str) (z : Str), x = .ref p ∧ vs = [.str z] ∧ SqL K H p (ss.map V.str) ∧ Q (.int ((ss.countP fun s => decide (s = z) : Nat) : Int)) H
theorem mt_count {K : PySem.W.Frag} (eK : X.K = K) : MtM X "list.count" (rCount K) := by
  subst eK
  intro pins s σ H x vs v us Q I rx rv h
  obtain ⟨p, ss, z, rfl, rfl, hp, q⟩ := h
  cases rx
  obtain ⟨u, rfl, ru⟩ := vals1 rv
  obtain ⟨t, rfl⟩ := ru
  obtain ⟨its, r, pl, hl⟩ := I.list hp
  exact count_list_strs pl.isList (strsAre_of r) ⟨.int _, H, I.tok _, ⟨_, by rw [countIn_strs]⟩, q⟩
theorem pe_bmK {K : PySem.W.Frag} (eK : X.K = K) {o e : Expr} {es : List Expr} {to : TE} {t : TA} {name : Str} {apos cpos : Pos} {T id : String} {r : V → List V → Hp → VK → Prop} (pa : PlainAttrs T) (slot : Slot T name id) (hty : typeOf (.builtin id) = pure (.type "method_descriptor")) (hm : MtR X id r) (ho : PE X o to) (ha : PA X (e :: es) t) (h1 : attributeBase o name X.env (eval o X.env) = eval o X.env := by rfl) (h2 : ((backTo cpos (starEach (e :: es) X.env)).all (fun x => !x.1) && (backToKw cpos (keywordEach [] X.env)).all (fun x => x.1.isSome) && decide ((e :: es).length + ([] : List Keyword).length + (if ([] : List Keyword).isEmpty then 0 else 1) < 30)) = true := by rfl) (h3 : (apos.endLine == cpos.line) = true := by rfl) (h4 : starEach (e :: es) X.env = (false, eval e X.env) :: starEach es X.env := by rfl) (h5 : (backTo cpos (starEach es X.env)).any (·.1) = false := by rfl) : PE X (.Call (.Attribute o name apos) (e :: es) [] cpos) (tBM K T r to t) := by
  subst eK
  exact pe_bm pa slot hty hm ho ha h1 h2 h3 h4 h5
theorem for_enumL {K : PySem.W.Frag} {a : Addr} {xs : List V} {g : TG} {tb : TS} {D : Ends} {σ : St} {H : Hp} (Pv : Nat → St → Hp → Prop) (h0 : Pv 0 σ H) (hl : ∀ i σ H, i ≤ xs.length → Pv i σ H → SqL K H a xs)
    (hs : ∀ i x σ H p, xs[i]? = some x → Pv i σ H → H p = none → g (.ref p) σ (upd H p (.tup [.int i, x])) fun σ2 H2 => tb { D with nx := Pv (i + 1), ct := Pv (i + 1), bk := D.nx } σ2 H2) (hd : ∀ σ H, Pv xs.length σ H → D.nx σ H) :
    ∃ W : Nat → Nat → St → Hp → Prop, (∃ m, W 0 m σ H) ∧ ∀ i m σ H, W i m σ H →
      ((IteL K a).stop i H ∧ D.nx σ H) ∨ ((IteL K a).go i H ∧ ∃ N : St → Hp → Prop, (∀ σ' H', N σ' H' → ∃ m', m' < m ∧ W (i + 1) m' σ' H') ∧ ∀ x H', (IteL K a).yld i H x H' → g x σ H' fun σ2 H2 => tb { D with nx := N, ct := N, bk := D.nx } σ2 H2) := by
  refine ⟨fun i m σ H => m = xs.length - i ∧ i ≤ xs.length ∧ Pv i σ H, ⟨xs.length, by simp, Nat.zero_le _, h0⟩, ?_⟩
  rintro i m σ H ⟨rfl, hi, p⟩
  have q := hl i σ H hi p
  by_cases hlt : i < xs.length
  · refine .inr ⟨⟨xs, _, q, List.getElem?_eq_getElem hlt⟩, Pv (i + 1), fun σ' H' p' => ⟨xs.length - (i + 1), by omega, rfl, hlt, p'⟩, fun x H' y => ?_⟩
    obtain ⟨p', x', hp', rfl, rfl, hx⟩ := y
    exact hs i x' σ H p' (hx xs q) p hp'
  · have e : i = xs.length := by omega
    subst e
    exact .inl ⟨⟨xs, q, Nat.le_refl _⟩, hd σ H p⟩
end
end L2
set_option maxHeartbeats 4000000
namespace K12
open PySem L2 Frac Lw Dig PySem.NumText Nm
open Ord Num Look Rdo
abbrev dT (f : Fs) : PyData := .tuple (f.map dF)
def OC (book : List Str) (num : Int → Int → Prop) (ws : List Wd) : Prop := IsOrd (· ∈ book) num ws ∧ (∀ a b, num a b → Sz (a, b)) ∧ (∀ z ∈ book, wordT z = none) ∧ ws.length ≤ 900
def FZ (n : Nat) (f : Fs) : Prop := f.length = n ∧ ∀ p ∈ f, Sz p
def spB (K : PySem.W.Frag) (Pt : Addr) (cr : Nat → Nat → Option Str) (R : List Str → List PyData → PyData → Prop) : Sp := fun vs H Q _ => ∃ (G : Hp) (book : List Str) (vo : V) (pb : Addr) (us : List V) (ds : List PyData) (d : PyData), vs = vo :: .ref pb :: us ∧ G Pt = some (.tbl cr) ∧ Same G H ∧ G pb = some (.tup (book.map V.str)) ∧ Dats K G (vo :: us) ds ∧ R book ds d ∧
  ∀ v G' H', Grow G H G' H' → Dat K G' v d → Q v H'
def RLooks (book : List Str) : List PyData → PyData → Prop := fun ds d => ∃ (ws : List Wd) (num : Int → Int → Prop) (f : Fs) (gs : List Fs), ds = [dOs ws, dT f, .list (gs.map dT)] ∧ OC book num ws ∧ FZ book.length f ∧ (∀ g ∈ gs, FZ book.length g) ∧ gs.length ≤ 1000 ∧ d = .list (gs.map fun g => .str (lookA book ws f g).t)
def dTab (L : Fs → Fs → An) (gs : List Fs) : PyData := .list (gs.map fun f => .list (gs.map fun g => .str (L f g).t))
def RTab (book : List Str) : List PyData → PyData → Prop := fun ds d => ∃ (ws : List Wd) (num : Int → Int → Prop) (gs : List Fs), ds = [dOs ws, .list (gs.map dT)] ∧ OC book num ws ∧ (∀ g ∈ gs, FZ book.length g) ∧ gs.length ≤ 1000 ∧ d = dTab (lookA book ws) gs
def RIs (book : List Str) : List PyData → PyData → Prop := fun ds d => ∃ (ws : List Wd) (num : Int → Int → Prop) (gs : List Fs), ds = [dOs ws, .list (gs.map dT)] ∧ OC book num ws ∧ (∀ g ∈ gs, FZ book.length g) ∧ gs.length ≤ 1000 ∧ d = .bool (isOrd (lookA book ws) gs)
def REach : List PyData → PyData → Prop := fun ds d => ∃ gs : List Fs, ds = [.list (gs.map dT)] ∧ gs.length ≤ 1000 ∧ d = .list ((uniq gs).map dT)
def RRanks : List PyData → PyData → Prop := fun ds d => ∃ (L : Fs → Fs → An) (gs : List Fs), ds = [dTab L gs] ∧ gs.length ≤ 1000 ∧ d = .list (gs.map fun f => .int (rk L gs f : Nat))
def RSize : List PyData → PyData → Prop := fun ds d => ∃ i j : Nat, ds = [.int (i : Nat), .int (j : Nat)] ∧ d = .str (cmpN i j).t
def RAgree : List PyData → PyData → Prop := fun ds d => ∃ (L : Fs → Fs → An) (gs : List Fs), ds = [dTab L gs] ∧ gs.length ≤ 1000 ∧ d = .bool (agree L gs)
def spAgainst (K : PySem.W.Frag) : Sp := fun vs H Q _ => ∃ (G : Hp) (v1 : V) (L : Fs → Fs → An) (gs : List Fs), vs = [v1] ∧ Same G H ∧ Dat K G v1 (dTab L gs) ∧ gs.length ≤ 1000 ∧ (∀ G' H', Grow G H G' H' → agree L gs = true → Q .non H') ∧ ∀ p G' H', Grow G H G' H' → agree L gs = false → Q (.ref p) H'
def keyF (f : Fs) : KX := f.map fun p => [.inl p.1, .inl p.2]
theorem kdat_key (f : Fs) : kdat (keyF f) = dT f := by
  unfold kdat keyF
  rw [List.map_map]; rfl
theorem keyF_inj {f g : Fs} (h : keyF f = keyF g) : f = g := by
  unfold keyF at h
  refine (List.map_inj_right fun p q z => ?_).mp h
  injection z with z1 z2
  injection z1 with z1
  injection z2 with z2 _
  injection z2 with z2
  exact Prod.ext z1 z2
theorem uniq_len (gs : List Fs) : (uniq gs).length ≤ gs.length := by
  have key : ∀ (l acc : List Fs), (l.foldl (fun acc f => if (acc.any fun g => decide (g = f)) = true then acc else acc ++ [f]) acc).length ≤ acc.length + l.length := by
    intro l
    induction l with
    | nil => intro acc; simp
    | cons x r ih =>
      intro acc
      rw [List.foldl_cons]
      refine Nat.le_trans (ih _) ?_
      split
      · rw [List.length_cons]; omega
      · simp only [List.length_append, List.length_cons, List.length_nil]; omega
  have := key gs []
  unfold uniq
  simpa using this
theorem uniq_snoc (gs : List Fs) (f : Fs) : uniq (gs ++ [f]) = if ((uniq gs).any fun g => decide (g = f)) = true then uniq gs else uniq gs ++ [f] := by
  unfold uniq
  rw [List.foldl_append]; rfl
section
variable {P : Program} {w : World} {K : PySem.W.Frag} {mg : Str → Option Value} {base : Heap}
theorem ev_callB {σ : St} {G : Hp} {ta : TE} {t : TA} {i : Nat} {pb Pt : Addr} {cr : Nat → Nat → Option Str} {book : List Str} {d0 d : PyData} {ds : List PyData} {R : List Str → List PyData → PyData → Prop} (hT : G Pt = some (.tbl cr)) (hpb : G pb = some (.tup (book.map V.str))) (hi : σ[i]? = some (some (.ref pb))) (ha : Ev K ta σ G d0) (h : EvA K t σ G ds) (hR : R book (d0 :: ds) d) :
    Ev K (tCall (spB K Pt cr R) [] E0 (tCons ta (tCons (tVar i) t))) σ G d := fun G1 H s1 s2 Q k => ha G1 H s1 s2 _ fun v1 G2 H2 g2 h1 => ⟨_, hi, h G2 H2 (s1.trans g2.gg) g2.gh _ fun vs G3 H3 g3 h3 => by
    have g23 := g2.trans g3
    have sG := s1.trans g23.gg
    refine ⟨G3, book, v1, pb, vs, d0 :: ds, d, by simp, sG _ _ hT, g3.gh, sG _ _ hpb, dats_cons (h1.same g3.gg) h3, hR, fun v G' H' g' hv => k v G' H' (g23.trans g') hv⟩⟩
theorem ok_looksof (T : Top K mg) (M : Bs K mg base) (W : Wds K w.params mg) (W1 : Txs K w.params mg "AHEAD" aheadT) (W2 : Txs K w.params mg "OTHER_WAY" otherT) : FnOk P w K mg base CX0 7 T.f_looks_of T.fd_looks_of ["order", "book", "one", "things"] (spB K T.P_looked cr_looked RLooks) := by
  have G_looked : FnOk P w K mg base CX0 6 T.f_looked T.fd_looked ["order", "book", "first", "second"] (spLook K T.P_looked cr_looked) := ok_looked T M W W1 W2
  refine T.F_looks_of.ok sc_looks_of (fun vs H Q E h => ?_) (fun cdv A outer s H vs Q E hr h => ?_)
  · obtain ⟨G, book, vo, pb, us, ds, d, rfl, _, _, _, hd, ⟨ws, num, f, gs, rfl, _⟩, _⟩ := h
    have := hd.length
    simp only [List.length_cons, List.length_nil] at this ⊢
    omega
  · obtain ⟨G, book, vo, pb, us, ds, d, rfl, hT, sg, hpb, hd, ⟨ws, num, f, gs, rfl, ⟨o1, o2, o3, o4⟩, hf, hgs, hl, rfl⟩, k⟩ := h
    obtain ⟨v0, r0, e0, h0, hd⟩ := hd.cons
    cases e0
    rename Dats K G us _ => hd
    obtain ⟨v1, r1, rfl, h1, hd⟩ := hd.cons
    obtain ⟨v2, r2, rfl, h2, hd⟩ := hd.cons
    cases hd.nil
    have zl : (2000 : Nat) ≤ sizeLine := by decide
    refine ⟨_, (pss_one (ps_ret (pe_lc (x := "other") (cap := ["order", "book", "one"]) (js := [0, 1, 2]) ⟨rfl, by decide +kernel, by decide +kernel, rfl, (by show ∀ p ∈ (_ : List (Str × NameKind)), p.2 = NameKind.free → List.lookup p.1 (defScope s_looks_of).names = some NameKind.cell; decide +kernel), by decide +kernel, by decide +kernel, by decide +kernel⟩ rfl rfl (fun _ _ h => h) (pi_list (pv 3)) (fun _ _ _ _ => ⟨pif_nil, (pe_call G_looked hr (by rfl) T.m_looked T.F_looked.kp T.b_looked .nil pass0 (pa_cons (pv 1) (pa_cons (pv 2) (pa_cons (pv 3) (pa_cons (pv 0) pa_nil st_Name) st_Name) st_Name) st_Name))⟩)))) , ?_⟩
    refine ret_ev (K := K) (ev_lcL (js := [0, 1, 2]) gs dT (fun g => some (.str (lookA book ws f g).t)) (ev_var rfl h2) (by omega) fun G2 i g x s3 hg hx => lc1 evt_noif (ev_look (s3 _ _ hT) (s3 _ _ hpb) ⟨⟨hf.1, (hgs g (List.mem_of_getElem? hg)).1, hf.2, (hgs g (List.mem_of_getElem? hg)).2⟩, o2, o3⟩ rfl (ev_var rfl (h0.same s3)) (ev_var rfl (h1.same s3)) (ev_var rfl hx) o1 o4 (lookA_ev f g o3 o1))) sg fun v G' H' g' hv => k v G' H' g' ?_
    rw [fm_some] at hv; exact hv
theorem ok_table (T : Top K mg) (M : Bs K mg base) (W : Wds K w.params mg) (W1 : Txs K w.params mg "AHEAD" aheadT) (W2 : Txs K w.params mg "OTHER_WAY" otherT) : FnOk P w K mg base CX0 8 T.f_table_of T.fd_table_of ["order", "book", "things"] (spB K T.P_looked cr_looked RTab) := by
  have G_looks_of : FnOk P w K mg base CX0 7 T.f_looks_of T.fd_looks_of ["order", "book", "one", "things"] (spB K T.P_looked cr_looked RLooks) := ok_looksof T M W W1 W2
  refine T.F_table_of.ok sc_table_of (fun vs H Q E h => ?_) (fun cdv A outer s H vs Q E hr h => ?_)
  · obtain ⟨G, book, vo, pb, us, ds, d, rfl, _, _, _, hd, ⟨ws, num, gs, rfl, _⟩, _⟩ := h
    have := hd.length
    simp only [List.length_cons, List.length_nil] at this ⊢
    omega
  · obtain ⟨G, book, vo, pb, us, ds, d, rfl, hT, sg, hpb, hd, ⟨ws, num, gs, rfl, oc, hgs, hl, rfl⟩, k⟩ := h
    obtain ⟨v0, r0, e0, h0, hd⟩ := hd.cons
    cases e0
    rename Dats K G us _ => hd
    obtain ⟨v2, r2, rfl, h2, hd⟩ := hd.cons
    cases hd.nil
    have zl : (2000 : Nat) ≤ sizeLine := by decide
    refine ⟨_, (pss_one (ps_ret (pe_lc (x := "one") (cap := ["order", "book", "things"]) (js := [0, 1, 2]) ⟨rfl, by decide +kernel, by decide +kernel, rfl, (by show ∀ p ∈ (_ : List (Str × NameKind)), p.2 = NameKind.free → List.lookup p.1 (defScope s_table_of).names = some NameKind.cell; decide +kernel), by decide +kernel, by decide +kernel, by decide +kernel⟩ rfl rfl (fun _ _ h => h) (pi_list (pv 2)) (fun _ _ _ _ => ⟨pif_nil, (pe_call G_looks_of hr (by rfl) T.m_looks_of T.F_looks_of.kp T.b_looks_of .nil pass0 (pa_cons (pv 1) (pa_cons (pv 2) (pa_cons (pv 0) (pa_cons (pv 3) pa_nil st_Name) st_Name) st_Name) st_Name))⟩)))) , ?_⟩
    refine ret_ev (K := K) (ev_lcL (js := [0, 1, 2]) gs dT (fun f => some (.list (gs.map fun g => .str (lookA book ws f g).t))) (ev_var rfl h2) (by omega) fun G2 i f x s3 hf hx => lc1 evt_noif (ev_callB (s3 _ _ hT) (s3 _ _ hpb) rfl (ev_var rfl (h0.same s3)) (eva_cons (ev_var rfl hx) (eva_cons (ev_var rfl (h2.same s3)) eva_nil)) ⟨ws, num, f, gs, rfl, oc, hgs f (List.mem_of_getElem? hf), hgs, hl, rfl⟩)) sg fun v G' H' g' hv => k v G' H' g' ?_
    rw [fm_some] at hv; exact hv
theorem ok_each (T : Top K mg) : FnOk P w K mg base CX0 2 T.f_each_once T.fd_each_once ["things"] (spP K REach) := by
  refine T.F_each_once.ok sc_each_once (fun vs H Q E h => ?_) (fun cdv A outer s H vs Q E hr h => ?_)
  · obtain ⟨G, as, d, sg, hv, ⟨gs, rfl, _⟩, _⟩ := h
    rw [hv.length]; rfl
  · obtain ⟨G, as, d, sg, hv, ⟨gs, rfl, hl, rfl⟩, k⟩ := h
    obtain ⟨v1, r1, rfl, h1, hv⟩ := hv.cons
    cases hv.nil
    have hu := hr.units
    have zl : (2000 : Nat) ≤ sizeLine := by decide
    obtain ⟨pt, vs, rfl, hpt, hvs⟩ := h1.lst
    have hvl : vs.length = gs.length := by rw [hvs.length, List.length_map]
    refine ⟨_, (pss_cons (ps_set (i := 1) sc_each_once.nd rfl (Or.inl rfl) (pe_dnewX (P := P) (w := w) rfl rfl))
      (pss_cons (ps_for PassesOwn.never rfl (pi_list (pv 0)) (pg_name (i := 2) sc_each_once.nd rfl (Or.inl rfl)) (pss_one (ps_dputX (P := P) (w := w) (K := K) rfl rfl rfl hu (pv 1) (pv 2) pe_bl (by rfl))))
      (pss_one (ps_ret (pe_callTy (call_listX (P := P) (w := w) rfl rfl rfl) (by rfl) T.list_ boot_lst (pa_cons (pv 1) pa_nil st_Name)))))) , ?_⟩
    refine fun pk hpk => ?_
    have gpk : G pk = none := sg.free hpk
    have npt : pt ≠ pk := ne_of_none hpt gpk
    refine ⟨_, rfl, pt, rfl, ⟨vs, SqL.of (by rw [upd_ne npt]; exact sg _ _ hpt)⟩, for_list (xs := vs) (fun i σ H' => ∃ (v : Option V) (xs : List (KX × Addr)), σ = [some (.ref pt), some (.ref pk), v] ∧ (∀ b o, b ≠ pk → H b = some o → H' b = some o) ∧ H' pk = some (dX P w pk xs) ∧ xs.map (·.1) = (uniq (gs.take i)).map keyF ∧ (∀ z ∈ xs, Dat K G (.ref z.2) (kdat z.1)) ∧ ∀ b, H b = none → b ≠ pk → H' b = none)
      ⟨_, [], rfl, fun b o n e => by rw [upd_ne n]; exact e, upd_same, rfl, (fun z hz => (by cases hz)), fun b e n => by rw [upd_ne n]; exact e⟩ ?_ ?_ ?_⟩
    · rintro i σ H' _ ⟨v, xs, rfl, kp, _⟩
      exact SqL.of (kp _ _ npt (sg _ _ hpt))
    · rintro i x σ H' hx ⟨v, xs, rfl, kp, hk, hkeys, hdat, hfr⟩
      have hi : i < gs.length := by have := (List.getElem?_eq_some_iff.mp hx).1; omega
      obtain ⟨dd, hdd, hxd⟩ := hvs.get' hx
      rw [List.getElem?_map, List.getElem?_eq_getElem hi] at hdd
      have hdd : some (dT gs[i]) = some dd := hdd
      injection hdd with hdd
      subst hdd
      obtain ⟨px, ys, rfl, hpx, hys⟩ := hxd.tup
      have sG' : Same G H' := fun b o e => kp b o (ne_of_none e gpk) (sg b o e)
      have hlx : xs.length ≤ gs.length := by
        have e1 : xs.length = (uniq (gs.take i)).length := by have := congrArg List.length hkeys; simpa using this
        have := uniq_len (gs.take i)
        rw [List.length_take] at this
        omega
      have hxk : Dat K G (.ref px) (kdat (keyF gs[i])) := by rw [kdat_key]; exact hxd
      refine ⟨_, rfl, _, rfl, pk, px, keyF gs[i], xs, G, rfl, rfl, rfl, hk, sG', hxk, hdat, by omega, ?_⟩
      refine ⟨_, putX xs (keyF gs[i]) px, rfl, fun b o n e => by rw [upd_ne n]; exact kp b o n e, upd_same, ?_, fun z hz => ?_, fun b e n => by rw [upd_ne n]; exact hfr b e n⟩
      · have ht : gs.take (i + 1) = gs.take i ++ [gs[i]] := by rw [List.take_succ, List.getElem?_eq_getElem hi]; rfl
        rw [ht, uniq_snoc]
        have hiff : hasX xs (keyF gs[i]) = true ↔ ((uniq (gs.take i)).any fun g => decide (g = gs[i])) = true := by
          rw [hasX_iff, hkeys, List.any_eq_true]
          constructor
          · intro h
            obtain ⟨g, hg, e⟩ := List.mem_map.mp h
            exact ⟨g, hg, decide_eq_true (keyF_inj e)⟩
          · rintro ⟨g, hg, e⟩
            exact List.mem_map.mpr ⟨g, hg, by rw [of_decide_eq_true e]⟩
        unfold putX
        by_cases h : hasX xs (keyF gs[i]) = true
        · rw [if_pos h, if_pos (hiff.mp h)]; exact hkeys
        · rw [if_neg h, if_neg (fun z => h (hiff.mpr z)), List.map_append, List.map_append, hkeys]; rfl
      · unfold putX at hz
        split at hz
        · exact hdat z hz
        · rcases List.mem_append.mp hz with hz | hz
          · exact hdat z hz
          · rw [List.mem_singleton.mp hz]; exact hxk
    · rintro σ H' ⟨v, xs, rfl, kp, hk, hkeys, hdat, hfr⟩
      refine ⟨_, rfl, pk, xs, rfl, hk, fun l hlf => ?_⟩
      have sG' : Same G H' := fun b o e => kp b o (ne_of_none e gpk) (sg b o e)
      have sH' : Same H H' := fun b o e => kp b o (ne_of_none e hpk) e
      have g1 := grow_new (o := .lst (xs.map fun x => V.ref x.2)) sG' hlf
      refine k _ _ _ ((grow_h sg sH').trans g1) (dat_lst upd_same ?_)
      have ht : gs.take vs.length = gs := by rw [hvl]; exact List.take_length
      rw [ht] at hkeys
      have key : ∀ (xs : List (KX × Addr)) (us : List Fs), xs.map (·.1) = us.map keyF → (∀ z ∈ xs, Dat K G (.ref z.2) (kdat z.1)) → Dats K G (xs.map fun x => V.ref x.2) (us.map dT) := by
        intro xs
        induction xs with
        | nil =>
          intro us e _
          cases us with
          | nil => exact dats_nil
          | cons u r => cases e
        | cons x r ih =>
          intro us e hd
          cases us with
          | nil => cases e
          | cons u q =>
            simp only [List.map_cons, List.cons.injEq] at e
            have := hd x List.mem_cons_self
            rw [e.1, kdat_key] at this
            exact dats_cons this (ih q e.2 fun z hz => hd z (List.mem_cons_of_mem _ hz))
      exact (key xs _ hkeys hdat).same g1.gg
theorem ok_ranks (T : Top K mg) : FnOk P w K mg base CX0 1 T.f_ranks_in T.fd_ranks_in ["table"] (spP K RRanks) := by
  refine T.F_ranks_in.ok sc_ranks_in (fun vs H Q E h => ?_) (fun cdv A outer s H vs Q E hr h => ?_)
  · obtain ⟨G, as, d, sg, hv, ⟨L, gs, rfl, _⟩, _⟩ := h
    rw [hv.length]; rfl
  · obtain ⟨G, as, d, sg, hv, ⟨L, gs, rfl, hl, rfl⟩, k⟩ := h
    obtain ⟨v1, r1, rfl, h1, hv⟩ := hv.cons
    cases hv.nil
    have zl : (2000 : Nat) ≤ sizeLine := by decide
    refine ⟨_, (pss_one (ps_ret (pe_lc (x := "row") (cap := []) (js := []) ⟨rfl, by decide +kernel, by decide +kernel, rfl, (by show ∀ p ∈ (_ : List (Str × NameKind)), p.2 = NameKind.free → List.lookup p.1 (defScope s_ranks_in).names = some NameKind.cell; decide +kernel), by decide +kernel, by decide +kernel, by decide +kernel⟩ rfl rfl (fun _ _ h => h) (pi_list (pv 0)) (fun _ _ _ _ => ⟨pif_nil, (pe_bmK (K := K) rfl PySem.F.plainAttrs_list PySem.F.slot_list_count PySem.F.type_list_count (mt_count (K := K) rfl) (pv 0) (pa_cons pe_str pa_nil st_Constant))⟩)))) , ?_⟩
    refine ret_ev (K := K) (ev_lcL (js := []) gs (fun f => .list (gs.map fun g => .str (L f g).t)) (fun f => some (.int (rk L gs f : Nat))) (ev_var rfl h1) (by omega) fun G2 i f x s3 hf hx => lc1 evt_noif ?_) sg fun v G' H' g' hv => k v G' H' g' (by rw [fm_some] at hv; exact hv)
    refine fun G1 H1 s1 s2 Q' k' => ?_
    have hx' := hx.same s1
    obtain ⟨p, ys, rfl, hp, hys⟩ := hx'.lst
    have e : ys = (gs.map fun g => (L f g).t).map V.str := datStrs (ws := gs.map fun g => (L f g).t) (by rw [List.map_map]; exact hys)
    subst e
    have hp' := s2 _ _ hp
    refine ⟨_, rfl, .inl ⟨rfl, _, SqL.of hp'⟩, p, gs.map fun g => (L f g).t, S "behind", rfl, rfl, SqL.of hp', k' _ G1 H1 (Grow.refl s2) ?_⟩
    have ec : (gs.map fun g => (L f g).t).countP (fun s => decide (s = S "behind")) = rk L gs f := by
      rw [List.countP_map]
      unfold rk
      congr 1
      funext g
      show decide ((L f g).t = An.behind.t) = decide (L f g = .behind)
      exact decide_eq_decide.mpr t_inj
    rw [ec]
    exact dat_int _
theorem ok_size (T : Top K mg) : FnOk P w K mg base CX0 1 T.f_by_size T.fd_by_size ["one", "other"] (spP K RSize) := by
  refine T.F_by_size.ok sc_by_size (fun vs H Q E h => ?_) (fun cdv A outer s H vs Q E hr h => ?_)
  · obtain ⟨G, as, d, sg, hv, ⟨i, j, rfl, _⟩, _⟩ := h
    rw [hv.length]; rfl
  · obtain ⟨G, as, d, sg, hv, ⟨i, j, rfl, rfl⟩, k⟩ := h
    obtain ⟨v1, r1, rfl, h1, hv⟩ := hv.cons
    obtain ⟨v2, r2, rfl, h2, hv⟩ := hv.cons
    cases hv.nil
    refine ⟨_, (pss_cons (ps_if (pt_cmpR op_lt (pv 0) (pv 1) (nomark _)) (pss_one (ps_ret pe_str)) pss_nil)
      (pss_one (ps_ret (pe_ifExp (pt_cmpR op_gt (pv 0) (pv 1) (nomark _)) pe_str pe_str)))) , ?_⟩
    refine if_ev (evt_test (K := K) (ev_i0 (ev_var rfl h1) (ev_var rfl h2) (dat_bl _))) sg (fun e G1 H1 g1 => ?_) (fun e G1 H1 g1 => ?_)
    · have e' : (i : Int) < j := of_decide_eq_true e
      have : cmpN i j = .ahead := by unfold cmpN; rw [if_pos (by omega)]
      exact k _ G1 H1 g1 (by rw [this]; exact dat_str _)
    · have e' : ¬ (i : Int) < j := of_decide_eq_false e
      refine ret_ev (K := K) (d := .str (cmpN i j).t) (ev_ite (evt_test (K := K) (ev_i0 (ev_var rfl (h1.same g1.gg)) (ev_var rfl (h2.same g1.gg)) (dat_bl _))) (fun z => ?_) (fun z => ?_)) g1.gh fun v G2 H2 g2 hv => k v G2 H2 (g1.trans g2) hv
      · have z' : (i : Int) > j := of_decide_eq_true z
        have : cmpN i j = .behind := by unfold cmpN; rw [if_neg (by omega), if_pos (by omega)]
        rw [this]; exact ev_str
      · have z' : ¬ (i : Int) > j := of_decide_eq_false z
        have : cmpN i j = .like := by unfold cmpN; rw [if_neg (by omega), if_neg (by omega)]
        rw [this]; exact ev_str
end
end K12
set_option maxHeartbeats 4000000
namespace K12
open PySem L2 Frac Lw Dig PySem.NumText Nm
open Ord Num Look Rdo
section
variable {P : Program} {w : World} {K : PySem.W.Frag} {mg : Str → Option Value} {base : Heap}
theorem take_step {α : Type} {l : List α} {i : Nat} {x : α} (h : l[i]? = some x) {p : α → Prop} (h1 : ∀ y ∈ l.take i, p y) (h2 : p x) : ∀ y ∈ l.take (i + 1), p y := fun y hy => by
  rw [List.take_succ, h] at hy
  rcases List.mem_append.mp hy with hy | hy
  · exact h1 y hy
  · have : y = x := by simpa using hy
    rw [this]; exact h2
theorem ok_against (T : Top K mg) : FnOk P w K mg base CX0 2 T.f_against_ranks T.fd_against_ranks ["table"] (spAgainst K) := by
  have G_ranks_in : FnOk P w K mg base CX0 1 T.f_ranks_in T.fd_ranks_in ["table"] (spP K RRanks) := ok_ranks T
  have G_by_size : FnOk P w K mg base CX0 1 T.f_by_size T.fd_by_size ["one", "other"] (spP K RSize) := ok_size T
  refine T.F_against_ranks.ok sc_against_ranks (fun vs H Q E h => ?_) (fun cdv A outer s H vs Q E hr h => ?_)
  · obtain ⟨G, v1, L, gs, rfl, _⟩ := h
    rfl
  · obtain ⟨G, v1, L, gs, rfl, sg, h1, hl, k1, k2⟩ := h
    have zl : (2000 : Nat) ≤ sizeLine := by decide
    refine ⟨_, (pss_cons (ps_set (i := 1) sc_against_ranks.nd rfl (Or.inl rfl) (pe_call G_ranks_in hr (by rfl) T.m_ranks_in T.F_ranks_in.kp T.b_ranks_in .nil pass0 (pa_cons (pv 0) pa_nil st_Name)))
      (pss_cons (ps_for PassesOwn.never rfl (pi_enumL (by rfl) T.enumerate_ (pa_cons (pv 0) pa_nil st_Name)) (pg_tup (n := 2) rfl (pgs_cons (pg_name (i := 2) sc_against_ranks.nd rfl (Or.inl rfl)) (pgs_cons (pg_name (i := 3) sc_against_ranks.nd rfl (Or.inl rfl)) pgs_nil)) (by rfl)) (pss_one (ps_for PassesOwn.never rfl (pi_enumL (by rfl) T.enumerate_ (pa_cons (pv 3) pa_nil st_Name)) (pg_tup (n := 2) rfl (pgs_cons (pg_name (i := 4) sc_against_ranks.nd rfl (Or.inl rfl)) (pgs_cons (pg_name (i := 5) sc_against_ranks.nd rfl (Or.inl rfl)) pgs_nil)) (by rfl)) (pss_one (ps_if (pt_cmpR op_ne (pv 5) (pe_call G_by_size hr (by rfl) T.m_by_size T.F_by_size.kp T.b_by_size .nil pass0 (pa_cons (pe_ix (ix_listK (K := K) rfl) (pv 1) (pv 2) (fun _ _ => rfl)) (pa_cons (pe_ix (ix_listK (K := K) rfl) (pv 1) (pv 4) (fun _ _ => rfl)) pa_nil st_Subscript) st_Subscript)) (nomark _)) (pss_one (ps_ret (pe_tup (pa_cons (pv 2) (pa_cons (pv 4) pa_nil st_Name) st_Name)))) pss_nil)))))
      (pss_one (ps_ret pe_non)))) , ?_⟩
    refine asg_ev (K := K) (ev_call (E := E0) (R := RRanks) (eva_cons (ev_var rfl h1) eva_nil) ⟨L, gs, rfl, hl, rfl⟩) sg fun v2 G1 H1 g1 h2 => ?_
    have h11 := h1.same g1.gg
    obtain ⟨pt, rows, rfl, hpt, hrows⟩ := h11.lst
    have hrl : rows.length = gs.length := by rw [hrows.length, List.length_map]
    have RKx : ∀ {σ' : St} {G' : Hp} {j i : Nat}, Same G1 G' → σ'[1]? = some (some v2) → σ'[j]? = some (some (.int (i : Nat))) → ∀ f, gs[i]? = some f → Ev K (tOp (rIxL K) (tVar 1) (tVar j)) σ' G' (.int (rk L gs f : Nat)) := fun {σ' G' j i} s e1 e2 f hf => by
      have hi : i < gs.length := (List.getElem?_eq_some_iff.mp hf).1
      exact ev_ixL (n := i) (ev_var e1 (h2.same s)) (ev_var e2 (dat_int _)) (by rw [List.length_map]; exact ixN_nat hi) (by rw [List.getElem?_map, hf]; rfl)
    refine ⟨_, rfl, pt, rfl, ⟨rows, SqL.of (g1.gh _ _ hpt)⟩, for_enumL (xs := rows) (fun i σ H' => ∃ (v2' v3 v4 v5 : Option V) (G' : Hp), σ = [some (.ref pt), some v2, v2', v3, v4, v5] ∧ Grow G1 H1 G' H' ∧ ∀ f ∈ gs.take i, ∀ g ∈ gs, L f g = cmpN (rk L gs f) (rk L gs g)) ⟨_, _, _, _, G1, rfl, Grow.refl g1.gh, fun f hf => by simp at hf⟩ ?_ ?_ ?_⟩
    · rintro i σ H' _ ⟨v2', v3, v4, v5, G', rfl, g, _⟩
      exact SqL.of (g.hh _ _ (g1.gh _ _ hpt))
    · rintro i x σ H' p hx ⟨v2', v3, v4, v5, G', rfl, g, hok⟩ hp
      have hi : i < gs.length := by have := (List.getElem?_eq_some_iff.mp hx).1; omega
      have hgi : gs[i]? = some gs[i] := List.getElem?_eq_getElem hi
      obtain ⟨dd, hdd, hxd⟩ := hrows.get' hx
      rw [List.getElem?_map, hgi] at hdd
      have hdd : some (PyData.list (gs.map fun g => .str (L gs[i] g).t)) = some dd := hdd
      injection hdd with hdd
      subst hdd
      generalize gs[i] = f at hgi hxd
      have gp := grow_new (o := .tup [.int (i : Nat), x]) g.gh hp
      have gA := g.trans gp
      refine ⟨p, _, rfl, SqT.of upd_same, rfl, _, _, rfl, _, _, rfl, rfl, ?_⟩
      obtain ⟨px, ys, rfl, hpx, hys⟩ := hxd.lst
      have hyl : ys.length = gs.length := by rw [hys.length, List.length_map]
      have hpx' := gA.hh _ _ (g1.gh _ _ hpx)
      refine ⟨_, rfl, px, rfl, ⟨ys, SqL.of hpx'⟩, for_enumL (xs := ys) (fun j σ H' => ∃ (v4 v5 : Option V) (G' : Hp), σ = [some (.ref pt), some v2, some (.int (i : Nat)), some (.ref px), v4, v5] ∧ Grow G1 H1 G' H' ∧ ∀ g ∈ gs.take j, L f g = cmpN (rk L gs f) (rk L gs g)) ⟨_, _, _, rfl, gA, fun g hg => by simp at hg⟩ ?_ ?_ ?_⟩
      · rintro j σ H' _ ⟨v4, v5, G', rfl, g, _⟩
        exact SqL.of (g.hh _ _ (g1.gh _ _ hpx))
      · rintro j y σ H2 q hy ⟨v4, v5, G2, rfl, gB, hok2⟩ hq
        have hj : j < gs.length := by have := (List.getElem?_eq_some_iff.mp hy).1; omega
        have hgj : gs[j]? = some gs[j] := List.getElem?_eq_getElem hj
        obtain ⟨dd, hdd, hyd⟩ := hys.get' hy
        rw [List.getElem?_map, hgj] at hdd
        have hdd : some (PyData.str (L f gs[j]).t) = some dd := hdd
        injection hdd with hdd
        subst hdd
        generalize gs[j] = g' at hgj hyd
        have gq := grow_new (o := .tup [.int (j : Nat), y]) gB.gh hq
        have gC := gB.trans gq
        refine ⟨q, _, rfl, SqT.of upd_same, rfl, _, _, rfl, _, _, rfl, rfl, ?_⟩
        refine if_ev (evt_test (K := K) (ev_neS (ev_var rfl (hyd.same gC.gg)) (ev_call (E := E0) (R := RSize) (eva_cons (RKx gC.gg rfl rfl f hgi) (eva_cons (RKx gC.gg rfl rfl g' hgj) eva_nil)) ⟨_, _, rfl, rfl⟩))) gC.gh (fun e G3 H3 g3 => ?_) (fun e G3 H3 g3 => ?_)
        · refine ⟨_, rfl, _, rfl, (by show 2 ≤ sizeLine; decide), fun t ht => ?_⟩
          have gD := gC.trans g3
          have gt := grow_new (o := .tup [V.int (i : Nat), V.int (j : Nat)]) gD.gh ht
          refine k2 t _ _ (g1.trans (gD.trans gt)) ?_
          cases ea : agree L gs with
          | false => rfl
          | true =>
            unfold agree at ea
            have := of_decide_eq_true (List.all_eq_true.mp (List.all_eq_true.mp ea f (List.mem_of_getElem? hgi)) g' (List.mem_of_getElem? hgj))
            rw [this, decide_eq_true rfl] at e
            cases e
        · have e' : L f g' = cmpN (rk L gs f) (rk L gs g') := by
            by_cases z : (L f g').t = (cmpN (rk L gs f) (rk L gs g')).t
            · exact t_inj.mp z
            · rw [decide_eq_false z] at e; cases e
          exact ⟨_, _, G3, rfl, gC.trans g3, take_step hgj hok2 e'⟩
      · rintro σ H2 ⟨v4, v5, G2, rfl, gB, hok2⟩
        have ht : gs.take ys.length = gs := by rw [hyl]; exact List.take_length
        rw [ht] at hok2
        exact ⟨_, _, _, _, G2, rfl, gB, take_step hgi hok hok2⟩
    · rintro σ H' ⟨v2', v3, v4, v5, G', rfl, g, hok⟩
      have ht : gs.take rows.length = gs := by rw [hrl]; exact List.take_length
      rw [ht] at hok
      refine k1 G' H' (g1.trans g) ?_
      unfold agree
      exact List.all_eq_true.mpr fun f hf => List.all_eq_true.mpr fun g hg => decide_eq_true (hok f hf g hg)
theorem ok_agree (T : Top K mg) : FnOk P w K mg base CX0 3 T.f_looks_agree T.fd_looks_agree ["table"] (spP K RAgree) := by
  have G_against_ranks : FnOk P w K mg base CX0 2 T.f_against_ranks T.fd_against_ranks ["table"] (spAgainst K) := ok_against T
  refine T.F_looks_agree.ok sc_looks_agree (fun vs H Q E h => ?_) (fun cdv A outer s H vs Q E hr h => ?_)
  · obtain ⟨G, as, d, sg, hv, ⟨L, gs, rfl, _⟩, _⟩ := h
    rw [hv.length]; rfl
  · obtain ⟨G, as, d, sg, hv, ⟨L, gs, rfl, hl, rfl⟩, k⟩ := h
    obtain ⟨v1, r1, rfl, h1, hv⟩ := hv.cons
    cases hv.nil
    refine ⟨_, (pss_one (ps_ret (pe_cmpR op_isN (pe_call G_against_ranks hr (by rfl) T.m_against_ranks T.F_against_ranks.kp T.b_against_ranks .nil pass0 (pa_cons (pv 0) pa_nil st_Name)) pe_non (nomark _)))) , ?_⟩
    refine ⟨_, rfl, G, v1, L, gs, rfl, sg, h1, hl, fun G' H' g ha => ?_, fun p G' H' g ha => ?_⟩
    · refine ⟨rfl, ?_⟩
      rw [ha] at k
      exact k _ G' H' g (dat_bl _)
    · refine ⟨rfl, ?_⟩
      rw [ha] at k
      exact k _ G' H' g (dat_bl _)
theorem ok_isord (T : Top K mg) (M : Bs K mg base) (W : Wds K w.params mg) (W1 : Txs K w.params mg "AHEAD" aheadT) (W2 : Txs K w.params mg "OTHER_WAY" otherT) : FnOk P w K mg base CX0 9 T.f_is_order T.fd_is_order ["order", "book", "things"] (spB K T.P_looked cr_looked RIs) := by
  have G_table_of : FnOk P w K mg base CX0 8 T.f_table_of T.fd_table_of ["order", "book", "things"] (spB K T.P_looked cr_looked RTab) := ok_table T M W W1 W2
  have G_looks_agree : FnOk P w K mg base CX0 8 T.f_looks_agree T.fd_looks_agree ["table"] (spP K RAgree) := (ok_agree T).mono (by decide)
  have G_each_once : FnOk P w K mg base CX0 8 T.f_each_once T.fd_each_once ["things"] (spP K REach) := (ok_each T).mono (by decide)
  refine T.F_is_order.ok sc_is_order (fun vs H Q E h => ?_) (fun cdv A outer s H vs Q E hr h => ?_)
  · obtain ⟨G, book, vo, pb, us, ds, d, rfl, _, _, _, hd, ⟨ws, num, gs, rfl, _⟩, _⟩ := h
    have := hd.length
    simp only [List.length_cons, List.length_nil] at this ⊢
    omega
  · obtain ⟨G, book, vo, pb, us, ds, d, rfl, hT, sg, hpb, hd, ⟨ws, num, gs, rfl, oc, hgs, hl, rfl⟩, k⟩ := h
    obtain ⟨v0, r0, e0, h0, hd⟩ := hd.cons
    cases e0
    rename Dats K G us _ => hd
    obtain ⟨v2, r2, rfl, h2, hd⟩ := hd.cons
    cases hd.nil
    have hul := uniq_len gs
    refine ⟨_, (pss_one (ps_ret (pe_call G_looks_agree hr (by rfl) T.m_looks_agree T.F_looks_agree.kp T.b_looks_agree .nil pass0 (pa_cons (pe_call G_table_of hr (by rfl) T.m_table_of T.F_table_of.kp T.b_table_of .nil pass0 (pa_cons (pv 0) (pa_cons (pv 1) (pa_cons (pe_call G_each_once hr (by rfl) T.m_each_once T.F_each_once.kp T.b_each_once .nil pass0 (pa_cons (pv 2) pa_nil st_Name)) pa_nil st_Call) st_Name) st_Name)) pa_nil st_Call)))) , ?_⟩
    exact ret_ev (K := K) (ev_call (E := E0) (R := RAgree) (eva_cons (ev_callB (R := RTab) (d := dTab (lookA book ws) (uniq gs)) hT hpb rfl (ev_var rfl h0) (eva_cons (ev_call (E := E0) (R := REach) (eva_cons (ev_var rfl h2) eva_nil) ⟨gs, rfl, hl, rfl⟩) eva_nil) ⟨ws, num, uniq gs, rfl, oc, fun g hg => hgs g ((uniq_mem gs g).mp hg), by omega, rfl⟩) eva_nil) ⟨lookA book ws, uniq gs, rfl, by omega, rfl⟩) sg fun v G' H' g hv => k v G' H' g hv
end
end K12
set_option maxHeartbeats 4000000
namespace K12
open PySem L2 Frac Lw Dig PySem.NumText Nm
open Ord Num Look Rdo
def Gw (book : List Str) (nums : List (Int × Int)) (n : Nat) (ws : List Wd) : Prop := IsOrd (· ∈ book) (fun a b => (a, b) ∈ nums) ws ∧ ws.length ≤ n ∧ Wk (lookA book ws) (FPos book.length)
section
variable {book : List Str} {nums : List (Int × Int)} (hb : ∀ z ∈ book, wordT z = none)
include hb
theorem wk_eq {L M : Fs → Fs → An} {D : Fs → Prop} (w : Wk L D) (e : ∀ f g, M f g = L f g) : Wk M D := by
  have : M = L := funext fun f => funext fun g => e f g
  rw [this]; exact w
theorem g_like {n : Nat} (hn : 1 ≤ n) : Gw book nums n [.t (S "like")] := ⟨o_like, hn, wk_eq hb wk_like fun f g => lookA_of ev_like⟩
theorem g_turn {n : Nat} {ws : List Wd} (h : Gw book nums n ws) : Gw book nums (n + 1) (.t (S "turn") :: ws) := ⟨o_turn h.1, by rw [List.length_cons]; have := h.2.1; omega, wk_eq hb h.2.2.turn fun f g => lookA_of (ev_turn (lookA_ev f g hb h.1))⟩
theorem g_then {n m k : Nat} {a b : List Wd} (ha : Gw book nums n a) (hb' : Gw book nums m b) (hk : n + m + 1 ≤ k) : Gw book nums k (.t (S "then") :: (a ++ b)) :=
  ⟨o_then ha.1 hb'.1, by rw [List.length_cons, List.length_append]; have := ha.2.1; have := hb'.2.1; omega, wk_eq hb (ha.2.2.then_ hb'.2.2) fun f g => lookA_of (ev_then (lookA_ev f g hb ha.1) (lookA_ev f g hb hb'.1))⟩
theorem g_up {z : Str} (hz : z ∈ book) : Gw book nums 2 [.t (S "up"), .t z] := ⟨o_up hz, Nat.le_refl _, wk_eq hb (wk_field (book.idxOf z) book.length) fun f g => lookA_of (ev_up (hb z hz))⟩
theorem g_down {z : Str} (hz : z ∈ book) : Gw book nums 2 [.t (S "down"), .t z] := ⟨o_down hz, Nat.le_refl _, wk_eq hb (wk_field (book.idxOf z) book.length).turn fun f g => lookA_of (ev_down (hb z hz))⟩
theorem g_pick {n : Nat} {z : Str} {p q : Int} {x : List Wd} (hz : z ∈ book) (hp : (p, q) ∈ nums) (h : Gw book nums n x) : Gw book nums (5 + (n + n)) (.t (S "pick") :: ([.t (S "both"), .t (S "under"), .t z, .n p q] ++ (x ++ x))) := by
  have hc : IsCase (· ∈ book) (fun a b => (a, b) ∈ nums) [.t (S "both"), .t (S "under"), .t z, .n p q] := c_both (m_two (.inl rfl) hz hp)
  refine ⟨o_pickC hc h.1 h.1, by simp only [List.length_cons, List.length_append, List.length_nil]; have := h.2.1; omega, wk_eq hb h.2.2 fun f g => ?_⟩
  obtain ⟨c, ec⟩ := ev_case (enOf book f g) hb hc
  have e := lookA_of (ev_pick ec (lookA_ev f g hb h.1) (lookA_ev f g hb h.1))
  rw [e]
  cases c <;> rfl
theorem lookA_swap {num : Int → Int → Prop} {ws : List Wd} (h : IsOrd (· ∈ book) num ws) (f g : Fs) : lookA book ws g f = (lookA book ws f g).turn :=
  order_swap hb h (lookA_ev f g hb h) (by rw [enOf_swap]; exact lookA_ev g f hb h)
end
def RGood : List PyData → PyData → Prop := fun as d => ∃ (book : List Str) (nums : List (Int × Int)) (ws : List Wd), as = [.tuple (book.map PyData.str), .list (nums.map dF)] ∧ (1 ≤ book.length ∧ book.length ≤ 4 ∧ 1 ≤ nums.length ∧ nums.length ≤ 4) ∧ (∀ z ∈ book, wordT z = none) ∧ d = dO ws ∧ Gw book nums 60 ws
def RAb : List PyData → PyData → Prop := fun as d => ∃ a : An, as = [.str a.t] ∧ d = .str a.turn.t
def RTa (book : List Str) : List PyData → PyData → Prop := fun ds d => ∃ (ws : List Wd) (num : Int → Int → Prop) (gs : List Fs), ds = [dOs ws, .list (gs.map dT)] ∧ OC book num ws ∧ (∀ g ∈ gs, FZ book.length g) ∧ gs.length ≤ 1000 ∧ d = .bool true
theorem ab_key (a : An) : (([(.inr (S "ahead"), PyData.str (S "behind")), (.inr (S "like"), .str (S "like")), (.inr (S "behind"), .str (S "ahead"))] : List (Key × PyData)).find? fun kv => decide (kv.1 = Sum.inr a.t)).map (·.2) = some (.str a.turn.t) := by cases a <;> kernel_rfl
section
variable {P : Program} {w : World} {K : PySem.W.Frag} {mg : Str → Option Value} {base : Heap}
theorem if_evdv {d c : Addr} {σ : St} {G H : Hp} {t1 : TT} {te : TE} {t u : TS} {Ed : Ends} {c1 : Bool} (h1 : EvT t1 σ G c1) (h : Dv K d c te σ G fun x => ∃ b, x = .bool b) (s : Same G H) (gd : G d = none) (gc : G c = none) (D : DeckAt H d c) (k1 : ∀ G' H', Dk d c G H G' H' → t Ed σ H') (k2 : ∀ G' H', Dk d c G H G' H' → u Ed σ H') : tIfS (tAnd t1 (tTest te)) t u Ed σ H :=
  h1.use s fun G1 H1 g1 => by
    have k := g1.dk D
    cases c1 with
    | false =>
      rw [if_neg Bool.false_ne_true]
      show (if (false : Bool) = true then t Ed σ H1 else u Ed σ H1)
      rw [if_neg Bool.false_ne_true]; exact k2 G1 H1 k
    | true =>
      rw [if_pos rfl]
      exact if_dv (h.mono g1.gg) k.gh (k.gd D gd) (k.gc D gc) k.D (fun G' H' k' => k1 G' H' (k.trans k')) (fun G' H' k' => k2 G' H' (k.trans k'))
theorem dv_eq1 {d c : Addr} {σ : St} {G : Hp} {m : Int} (hi : σ[0]? = some (some (.ref d))) (h1 : 1 ≤ m) (h2 : m.natAbs < 10 ^ 100) : Dv K d c (tOp rEq (tCall spTake [] E0 (tCons (tVar 0) (tCons (tC (.int m)) tNil))) (tC (.int 1))) σ G fun x => ∃ b, x = .bool b :=
  dv_op (dv_take hi ev_int h1 h2) (dv_ev ev_int) fun x y vx vy G2 hx hy s2 q1 q2 => by
    obtain ⟨r, rfl, _, _⟩ := hx
    subst hy
    exact ⟨_, ⟨_, rfl⟩, ev_eqI (ev_c q1) (ev_c q2)⟩
theorem ok_about (T : Top K mg) : FnOk P w K mg base CX0 1 T.f__law_about T.fd__law_about ["side"] (spP K RAb) := by
  refine T.F__law_about.ok sc__law_about (fun vs H Q E h => ?_) (fun cdv A outer s H vs Q E hr h => ?_)
  · obtain ⟨G, as, d, sg, hv, ⟨a, rfl, _⟩, _⟩ := h
    rw [hv.length]; rfl
  · obtain ⟨G, as, d, sg, hv, ⟨a, rfl, rfl⟩, k⟩ := h
    obtain ⟨v1, r1, rfl, h1, hv⟩ := hv.cons
    cases hv.nil
    have hu1 := Nat.lt_of_le_of_lt (Nat.add_le_add_left (show 1 ≤ 64 by decide) _) hr.units
    refine ⟨_, (pss_one (ps_ret (pe_dget hu1 (pe_disp (pps_cons pe_str pe_str (pps_cons pe_str pe_str (pps_cons pe_str pe_str pps_nil))) rfl rfl (by simp) (by decide)) (pv 0) (fun _ _ => rfl)))) , ?_⟩
    exact ret_ev (K := K) (ev_disp (trs := [(tC (.str (S "ahead")), tC (.str (S "behind"))), (tC (.str (S "like")), tC (.str (S "like"))), (tC (.str (S "behind")), tC (.str (S "ahead")))]) (kds := [(.inr (S "ahead"), .str (S "behind")), (.inr (S "like"), .str (S "like")), (.inr (S "behind"), .str (S "ahead"))]) (k := .inr a.t) ⟨ev_str, ev_str, ev_str, ev_str, ev_str, ev_str, trivial⟩ (by show 3 ≤ 15; decide) (by show ([.inr (S "ahead"), .inr (S "like"), .inr (S "behind")] : List Key).Nodup; decide +kernel) (ev_var rfl h1) (ab_key a)) sg fun v G' H' g hv => k v G' H' g hv
theorem ok_turnabout (T : Top K mg) (M : Bs K mg base) (W : Wds K w.params mg) (W1 : Txs K w.params mg "AHEAD" aheadT) (W2 : Txs K w.params mg "OTHER_WAY" otherT) : FnOk P w K mg base CX0 7 T.f__law_turn_about T.fd__law_turn_about ["order", "book", "things"] (spB K T.P_looked cr_looked RTa) := by
  have G_looked : FnOk P w K mg base CX0 6 T.f_looked T.fd_looked ["order", "book", "first", "second"] (spLook K T.P_looked cr_looked) := ok_looked T M W W1 W2
  have G__law_about : FnOk P w K mg base CX0 6 T.f__law_about T.fd__law_about ["side"] (spP K RAb) := (ok_about T).mono (by decide)
  refine T.F__law_turn_about.ok sc__law_turn_about (fun vs H Q E h => ?_) (fun cdv A outer s H vs Q E hr h => ?_)
  · obtain ⟨G, book, vo, pb, us, ds, d, rfl, _, _, _, hd, ⟨ws, num, gs, rfl, _⟩, _⟩ := h
    have := hd.length
    simp only [List.length_cons, List.length_nil] at this ⊢
    omega
  · obtain ⟨G, book, vo, pb, us, ds, d, rfl, hT, sg, hpb, hd, ⟨ws, num, gs, rfl, ⟨o1, o2, o3, o4⟩, hgs, hl, rfl⟩, k⟩ := h
    obtain ⟨v0, r0, e0, h0, hd⟩ := hd.cons
    cases e0
    rename Dats K G us _ => hd
    obtain ⟨v2, r2, rfl, h2, hd⟩ := hd.cons
    cases hd.nil
    obtain ⟨pt, ys, rfl, hpt, hys⟩ := h2.lst
    have item : ∀ (j : Nat) (x : V), ys[j]? = some x → ∃ f, FZ book.length f ∧ Dat K G x (dT f) := fun j x hx => by
      obtain ⟨dd, hdd, hxd⟩ := hys.get' hx
      rw [List.getElem?_map] at hdd
      cases ef : gs[j]? with
      | none => rw [ef] at hdd; cases hdd
      | some f => rw [ef] at hdd; cases hdd; exact ⟨f, hgs f (List.mem_of_getElem? ef), hxd⟩
    refine ⟨_, (pss_cons (ps_for PassesOwn.never rfl (pi_list (pv 2)) (pg_name (i := 3) sc__law_turn_about.nd rfl (Or.inl rfl)) (pss_one (ps_for PassesOwn.never rfl (pi_list (pv 2)) (pg_name (i := 4) sc__law_turn_about.nd rfl (Or.inl rfl)) (pss_cons (ps_set (i := 5) sc__law_turn_about.nd rfl (Or.inl rfl) (pe_call G__law_about hr (by rfl) T.m__law_about T.F__law_about.kp T.b__law_about .nil pass0 (pa_cons (pe_call G_looked hr (by rfl) T.m_looked T.F_looked.kp T.b_looked .nil pass0 (pa_cons (pv 0) (pa_cons (pv 1) (pa_cons (pv 4) (pa_cons (pv 3) pa_nil st_Name) st_Name) st_Name) st_Name)) pa_nil st_Call)))
      (pss_one (ps_if (pt_cmpR op_ne (pe_call G_looked hr (by rfl) T.m_looked T.F_looked.kp T.b_looked .nil pass0 (pa_cons (pv 0) (pa_cons (pv 1) (pa_cons (pv 3) (pa_cons (pv 4) pa_nil st_Name) st_Name) st_Name) st_Name)) (pv 5) (nomark _)) (pss_one (ps_ret pe_bl)) pss_nil))))))
      (pss_one (ps_ret pe_bl))) , ?_⟩
    refine ⟨_, rfl, pt, rfl, ⟨ys, SqL.of (sg _ _ hpt)⟩, for_list (xs := ys) (fun j σ H' => ∃ (v3 v4 v5 : Option V) (G' : Hp), σ = [some vo, some (.ref pb), some (.ref pt), v3, v4, v5] ∧ Grow G H G' H') ⟨_, _, _, G, rfl, Grow.refl sg⟩ ?_ ?_ ?_⟩
    · rintro j σ H' _ ⟨v3, v4, v5, G', rfl, g⟩
      exact SqL.of (g.hh _ _ (sg _ _ hpt))
    · rintro j x σ H' hx ⟨v3, v4, v5, G', rfl, gA⟩
      obtain ⟨f, hf, hxd⟩ := item j x hx
      refine ⟨_, rfl, pt, rfl, ⟨ys, SqL.of (gA.hh _ _ (sg _ _ hpt))⟩, for_list (xs := ys) (fun j σ H' => ∃ (v4 v5 : Option V) (G' : Hp), σ = [some vo, some (.ref pb), some (.ref pt), some x, v4, v5] ∧ Grow G H G' H') ⟨_, _, G', rfl, gA⟩ ?_ ?_ ?_⟩
      · rintro j σ H' _ ⟨v4, v5, G', rfl, g⟩
        exact SqL.of (g.hh _ _ (sg _ _ hpt))
      · rintro j' y σ H' hy ⟨v4, v5, G', rfl, gB⟩
        obtain ⟨g, hg, hyd⟩ := item j' y hy
        have sB := gB.gg
        refine asg_ev (K := K) (ev_call (E := E0) (R := RAb) (eva_cons (ev_look (sB _ _ hT) (sB _ _ hpb) ⟨⟨hg.1, hf.1, hg.2, hf.2⟩, o2, o3⟩ rfl (ev_var rfl (h0.same sB)) (ev_var rfl (hyd.same sB)) (ev_var rfl (hxd.same sB)) o1 o4 (lookA_ev g f o3 o1)) eva_nil) ⟨_, rfl, rfl⟩) gB.gh fun v5' G2 H2 g2 h5 => ?_
        have gC := gB.trans g2
        have sC := gC.gg
        refine if_no (evt_neq (ev_look (sC _ _ hT) (sC _ _ hpb) ⟨⟨hf.1, hg.1, hf.2, hg.2⟩, o2, o3⟩ rfl (ev_var rfl (h0.same sC)) (ev_var rfl (hxd.same sC)) (ev_var rfl (hyd.same sC)) o1 o4 (lookA_ev f g o3 o1)) (ev_var rfl h5) (by rw [lookA_swap o3 o1 f g, An.turn_turn])) g2.gh fun G3 H3 g3 => ?_
        exact ⟨_, _, G3, rfl, gC.trans g3⟩
      · rintro σ H' ⟨v4, v5, G', rfl, g⟩
        exact ⟨_, _, _, G', rfl, g⟩
    · rintro σ H' ⟨v3, v4, v5, G', rfl, g⟩
      exact k _ G' H' g (dat_bl _)
end
end K12
set_option maxHeartbeats 4000000
namespace K12
open PySem L2 Frac Lw Dig PySem.NumText Nm
open Ord Num Look Rdo
section
variable {P : Program} {w : World} {K : PySem.W.Frag} {mg : Str → Option Value} {base : Heap}
theorem ok_good (T : Top K mg) : FnOk P w K mg base CX0 2 T.f__law_good_order T.fd__law_good_order ["deck", "book", "numbers"] (spDv K RGood) := by
  have G__law_take : FnOk P w K mg base CX0 1 T.f__law_take T.fd__law_take ["deck", "many"] spTake := ok_take T.F__law_take T.len_
  refine T.F__law_good_order.ok sc__law_good_order (fun vs H Q E h => ?_) (fun cdv A outer s H vs Q E hr h => ?_)
  · obtain ⟨d, c, G, us, ds, rfl, _, _, _, _, hv, ⟨x, book, nums, f, rfl, _⟩, _⟩ := h
    rw [List.length_cons, hv.length]; rfl
  · obtain ⟨d, c, G, us, ds, rfl, sg, gd, gc, D, hv, ⟨x, book, nums, f, rfl, ⟨b1, b2, n1, n2⟩, hwd, _⟩, k⟩ := h
    obtain ⟨vb, r1, rfl, hb, hv⟩ := hv.cons
    obtain ⟨vn, r2, rfl, hn, hv⟩ := hv.cons
    cases hv.nil
    have zl : (20000 : Nat) ≤ sizeLine := by decide
    have hbk : ∀ {σ' : St} {G' : Hp}, Same G G' → σ'[0]? = some (some (.ref d)) → σ'[1]? = some (some vb) →
        Dv K d c (tOp (rIxT K) (tVar 1) (tCall spTake [] E0 (tCons (tVar 0) (tCons (tCB (fun xs H Q => ∃ p ys, xs = [.ref p] ∧ (SqL K H p ys ∨ SqT K H p ys) ∧ Q (.int ys.length) H) (tCons (tVar 1) tNil)) tNil)))) σ' G' (fun x => ∃ z ∈ book, x = .str z) := fun s e0 e1 =>
      dv_pickT (n := ((book.length : Nat) : Int)) (dv_of (ev_var e1 (hb.same s)) ⟨_, rfl, by rw [List.length_map], fun e he => by
        obtain ⟨z, hz, rfl⟩ := List.mem_map.mp he
        exact ⟨z, hz, rfl⟩⟩) (dv_take e0 (lenT_book e1 (hb.same s)) (by omega) (by omega))
    obtain ⟨n0, hn0⟩ : ∃ n0, nums[0]? = some n0 := ⟨nums[0], List.getElem?_eq_getElem (by omega)⟩
    have hn0m : n0 ∈ nums := List.mem_of_getElem? hn0
    have CT : ∀ {σ' : St} {G' : Hp} {ta tb : TE} {x y : List Wd}, Ev K ta σ' G' (dO x) → Ev K tb σ' G' (dO y) → x ≠ [] → x.length + y.length ≤ 900 → Ev K (tOp (rCatT K) ta tb) σ' G' (dO (x ++ y)) := fun ha hb hne hl => ev_d (ev_catT ha hb (by simpa using hne) (by rw [List.length_map, List.length_map]; omega)) (by show PyData.tuple _ = PyData.tuple _; rw [List.map_append])
    have T1 : ∀ {σ' : St} {G' : Hp} {x : Str}, Ev K (tTup (tCons (tC (.str x)) tNil)) σ' G' (dO [.t x]) := ev_tup (eva_cons ev_str eva_nil) (by show 1 ≤ sizeLine; decide)
    refine ⟨_, (pss_cons (ps_set (i := 3) sc__law_good_order.nd rfl (Or.inl rfl) (pe_tup (pa_cons pe_str pa_nil st_Constant)))
      (pss_cons (ps_for PassesOwn.never rfl (pi_range1 (by rfl) T.range_ (pa_cons (pe_call G__law_take hr (by rfl) T.m__law_take T.F__law_take.kp T.b__law_take .nil pass0 (pa_cons (pv 0) (pa_cons pe_int pa_nil st_Constant) st_Name)) pa_nil st_Call)) (pg_name (i := 4) sc__law_good_order.nd rfl (Or.inl rfl)) (pss_cons (ps_set (i := 5) sc__law_good_order.nd rfl (Or.inl rfl) (pe_tup (pa_cons (pe_ix (ix_listK (K := K) rfl) (pe_lst (pa_cons pe_str (pa_cons pe_str pa_nil st_Constant) st_Constant)) (pe_call G__law_take hr (by rfl) T.m__law_take T.F__law_take.kp T.b__law_take .nil pass0 (pa_cons (pv 0) (pa_cons pe_int pa_nil st_Constant) st_Name)) (fun _ _ => rfl)) (pa_cons (pe_ix (ix_tupK (K := K) rfl) (pv 1) (pe_call G__law_take hr (by rfl) T.m__law_take T.F__law_take.kp T.b__law_take .nil pass0 (pa_cons (pv 0) (pa_cons (pe_callB (call_lenK (K := K) rfl) (by rfl) T.len_ PySem.boot_len (pa_cons (pv 1) pa_nil st_Name)) pa_nil st_Call) st_Name)) (fun _ _ => rfl)) pa_nil st_Subscript) st_Subscript)))
      (pss_cons (ps_if (pt_cmpR op_eq (pe_call G__law_take hr (by rfl) T.m__law_take T.F__law_take.kp T.b__law_take .nil pass0 (pa_cons (pv 0) (pa_cons pe_int pa_nil st_Constant) st_Name)) pe_int (nomark _)) (pss_one (ps_set (i := 5) sc__law_good_order.nd rfl (Or.inl rfl) (pe_op (op_catTK (K := K) rfl) (pe_tup (pa_cons pe_str pa_nil st_Constant)) (pv 5)))) pss_nil)
      (pss_one (ps_set (i := 3) sc__law_good_order.nd rfl (Or.inl rfl) (pe_ix (ix_listK (K := K) rfl) (pe_lst (pa_cons (pe_op (op_catTK (K := K) rfl) (pe_op (op_catTK (K := K) rfl) (pe_tup (pa_cons pe_str pa_nil st_Constant)) (pv 5)) (pv 3)) (pa_cons (pe_op (op_catTK (K := K) rfl) (pe_op (op_catTK (K := K) rfl) (pe_tup (pa_cons pe_str pa_nil st_Constant)) (pv 3)) (pv 5)) pa_nil st_BinOp) st_BinOp)) (pe_call G__law_take hr (by rfl) T.m__law_take T.F__law_take.kp T.b__law_take .nil pass0 (pa_cons (pv 0) (pa_cons pe_int pa_nil st_Constant) st_Name)) (fun _ _ => rfl)))))))
      (pss_cons (ps_set (i := 6) sc__law_good_order.nd rfl (Or.inl rfl) (pe_ix (ix_tupK (K := K) rfl) (pv 1) (pe_call G__law_take hr (by rfl) T.m__law_take T.F__law_take.kp T.b__law_take .nil pass0 (pa_cons (pv 0) (pa_cons (pe_callB (call_lenK (K := K) rfl) (by rfl) T.len_ PySem.boot_len (pa_cons (pv 1) pa_nil st_Name)) pa_nil st_Call) st_Name)) (fun _ _ => rfl)))
      (pss_cons (ps_if ((pw_and (pt_cmpR op_lt (pe_callB (call_lenK (K := K) rfl) (by rfl) T.len_ PySem.boot_len (pa_cons (pv 3) pa_nil st_Name)) pe_int (nomark _)) (pw_and1 (pt_cmpR op_eq (pe_call G__law_take hr (by rfl) T.m__law_take T.F__law_take.kp T.b__law_take .nil pass0 (pa_cons (pv 0) (pa_cons pe_int pa_nil st_Constant) st_Name)) pe_int (nomark _))))).pt (pss_cons (ps_set (i := 7) sc__law_good_order.nd rfl (Or.inl rfl) (pe_tup (pa_cons pe_str (pa_cons pe_str (pa_cons (pv 6) pa_nil st_Name) st_Constant) st_Constant)))
      (pss_one (ps_set (i := 3) sc__law_good_order.nd rfl (Or.inl rfl) (pe_op (op_catTK (K := K) rfl) (pe_op (op_catTK (K := K) rfl) (pe_op (op_catTK (K := K) rfl) (pe_op (op_catTK (K := K) rfl) (pe_tup (pa_cons pe_str (pa_cons pe_str (pa_cons pe_str (pa_cons (pv 6) (pa_cons (pe_ix (ix_listK (K := K) rfl) (pv 2) pe_int (fun _ _ => rfl)) pa_nil st_Subscript) st_Name) st_Constant) st_Constant) st_Constant)) (pv 7)) (pv 3)) (pv 7)) (pv 3))))) pss_nil)
      (pss_one (ps_ret (pv 3))))))) , ?_⟩
    refine asg_ev (K := K) (T1 (x := S "like")) sg fun v3 G1 H1 g1 h3 => ?_
    have k1 := g1.dk D
    refine (dv_take (K := K) (d := d) (c := c) (E := E0) (G := G1) (m := 4) (tm := tC (.int 4)) (i := 0) rfl ev_int (by decide) (by decide)).use k1.gh (k1.gd D gd) (k1.gc D gc) k1.D fun vr xr G2 H2 hxr k2 hvr => ?_
    obtain ⟨r, rfl, r0, r1⟩ := hxr
    have evr := hvr.int
    subst evr
    have k12 := k1.trans k2
    have h32 := h3.same k2.gg
    refine ⟨r, rfl, by omega, by omega, for_range (n := r.toNat) (fun i σ H' => ∃ (v3 : V) (v4 v5 v6 v7 : Option V) (G' : Hp) (ws : List Wd), σ = [some (.ref d), some vb, some vn, some v3, v4, v5, v6, v7] ∧ Dk d c G H G' H' ∧ Dat K G' v3 (dO ws) ∧ Gw book nums (1 + 4 * i) ws) ⟨_, _, _, _, _, G2, _, rfl, k12, h32, g_like hwd (by decide)⟩ ?_ ?_⟩
    · rintro i σ H3 hi ⟨v3, v4, v5, v6, v7, G3, ws, rfl, k3, hv3, gw⟩
      have hl := gw.2.1
      refine asg_dv (K := K) (d := d) (c := c) (R := fun x => ∃ st, x = dO st ∧ Gw book nums 2 st ∧ st ≠ []) (dv_tup (dva_cons (dv_pickL (n := 2) (R := fun e => ∃ m, (m = S "up" ∨ m = S "down") ∧ e = .str m) (dv_of (ev_lst (eva_cons ev_str (eva_cons ev_str eva_nil)) (by show 2 ≤ sizeLine; decide)) ⟨_, rfl, rfl, fun e he => by
          rcases List.mem_cons.mp he with rfl | he
          · exact ⟨_, .inl rfl, rfl⟩
          · rw [List.mem_singleton.mp he]; exact ⟨_, .inr rfl, rfl⟩⟩) (dv_take rfl ev_int (by decide) (by decide))) (dva_cons (hbk k3.gg rfl rfl) dva_nil)) ?_) k3.gh (k3.gd D gd) (k3.gc D gc) k3.D fun v5' x5 G4 H4 h5 k4 hv5 => ?_
      · rintro xs ⟨x, r, rfl, ⟨m, hm, rfl⟩, y, r2, rfl, ⟨z, hz, rfl⟩, rfl⟩
        refine ⟨by show 2 ≤ sizeLine; decide, [.t m, .t z], rfl, ?_, by simp⟩
        rcases hm with rfl | rfl
        · exact g_up (nums := nums) hwd hz
        · exact g_down (nums := nums) hwd hz
      obtain ⟨st, rfl, gst, hst0⟩ := h5
      have hst2 : st.length ≤ 2 := gst.2.1
      have k34 := k3.trans k4
      (try dsimp only)
      refine seq_if (fun σ' H' => ∃ (v5 : V) (st : List Wd) (G' : Hp), σ' = [some (.ref d), some vb, some vn, some v3, some (.int (0 + (i : Int))), some v5, v6, v7] ∧ Dk d c G4 H4 G' H' ∧ Dat K G' v5 (dO st) ∧ Gw book nums 3 st ∧ st ≠ []) ?_ ?_
      · rintro σ' H5 ⟨v5, st, G5, rfl, k5, hv5, gst, hst0⟩
        have k35 := k34.trans k5
        have hsl := gst.2.1
        have h3' := (hv3.same k4.gg).same k5.gg
        have hw0 : ws ≠ [] := run_ne gw.1
        refine asg_dv (K := K) (d := d) (c := c) (dv_pickL (n := 2) (R := fun e => ∃ ws', e = dO ws' ∧ Gw book nums (1 + 4 * (i + 1)) ws') (dv_of (ev_lst (eva_cons (CT (CT T1 (ev_var rfl hv5) (by simp) (by show 1 + st.length ≤ 900; omega)) (ev_var rfl h3') (by simp) (by rw [List.length_append]; show 1 + st.length + ws.length ≤ 900; omega)) (eva_cons (CT (CT T1 (ev_var rfl h3') (by simp) (by show 1 + ws.length ≤ 900; omega)) (ev_var rfl hv5) (by simp) (by rw [List.length_append]; show 1 + ws.length + st.length ≤ 900; omega)) eva_nil)) (by show 2 ≤ sizeLine; decide)) ⟨_, rfl, rfl, fun e he => ?_⟩) (dv_take rfl ev_int (by decide) (by decide))) k5.gh (k35.gd D gd) (k35.gc D gc) k5.D fun v3' x3 G6 H6 hx3 k6 hv3' => ?_
        · rcases List.mem_cons.mp he with rfl | he
          · exact ⟨_, rfl, g_then hwd gst gw (by omega)⟩
          · rw [List.mem_singleton.mp he]
            exact ⟨_, rfl, g_then hwd gw gst (by omega)⟩
        obtain ⟨ws', rfl, gw'⟩ := hx3
        exact ⟨_, _, _, _, _, G6, ws', rfl, k35.trans k6, hv3', gw'⟩
      · intro nx hnx
        refine if_dv (K := K) (d := d) (c := c) (dv_eq1 rfl (by decide) (by decide)) k4.gh (k34.gd D gd) (k34.gc D gc) k4.D (fun G5 H5 k5 => ?_) (fun G5 H5 k5 => ?_)
        · refine asg_ev (K := K) (CT T1 (ev_var rfl (hv5.same k5.gg)) (by simp) (by show 1 + st.length ≤ 900; omega)) k5.gh fun v G6 H6 g6 hv => ?_
          exact hnx _ _ ⟨v, _, G6, rfl, k5.trans (g6.dk k5.D), hv, g_turn hwd gst, by simp⟩
        · exact hnx _ _ ⟨v5', st, G5, rfl, k5, hv5.same k5.gg, ⟨gst.1, by omega, gst.2.2⟩, hst0⟩
    · rintro σ H3 ⟨v3, v4, v5, v6, v7, G3, ws, rfl, k3, hv3, gw⟩
      have hl : ws.length ≤ 13 := by have := gw.2.1; omega
      have hw0 : ws ≠ [] := run_ne gw.1
      refine asg_dv (K := K) (d := d) (c := c) (hbk k3.gg rfl rfl) k3.gh (k3.gd D gd) (k3.gc D gc) k3.D fun v6' x6 G4 H4 h6 k4 hv6 => ?_
      obtain ⟨z, hz, rfl⟩ := h6
      have k34 := k3.trans k4
      have h34 := hv3.same k4.gg
      (try dsimp only)
      refine seq_if (fun σ' H' => ∃ (v3 : V) (v7 : Option V) (ws : List Wd) (G' : Hp), σ' = [some (.ref d), some vb, some vn, some v3, v4, v5, some v6', v7] ∧ Dk d c G H G' H' ∧ Dat K G' v3 (dO ws) ∧ Gw book nums 60 ws) ?_ ?_
      · rintro σ' H5 ⟨v3, v7, ws, G5, rfl, k5, hv, gw'⟩
        exact ⟨_, rfl, k v3 _ G5 H5 ⟨book, nums, ws, rfl, ⟨b1, b2, n1, n2⟩, hwd, rfl, gw'⟩ k5 hv⟩
      · intro nx hnx
        refine if_evdv (K := K) (d := d) (c := c) (evt_test (K := K) (ev_i0 (ev_lenT (eva_cons (ev_var rfl h34) eva_nil)) ev_int (dat_bl _))) (dv_eq1 rfl (by decide) (by decide)) k4.gh (k34.gd D gd) (k34.gc D gc) k4.D (fun G5 H5 k5 => ?_) (fun G5 H5 k5 => ?_)
        · have k35 := k34.trans k5
          have h65 := hv6.same k5.gg
          refine asg_ev (K := K) (d := dO [.t (S "then"), .t (S "up"), .t z]) (ev_tup (eva_cons ev_str (eva_cons ev_str (eva_cons (ev_var rfl h65) eva_nil))) (by show 3 ≤ sizeLine; decide)) k5.gh fun v7' G6 H6 g6 hv7 => ?_
          have h36 := (h34.same k5.gg).same g6.gg
          have k36 := k35.trans (g6.dk k5.D)
          have EA : ∀ σ' : St, σ'[2]? = some (some vn) → σ'[6]? = some (some v6') → Ev K (tTup (tCons (tC (.str (S "pick"))) (tCons (tC (.str (S "both"))) (tCons (tC (.str (S "under"))) (tCons (tVar 6) (tCons (tOp (rIxL K) (tVar 2) (tC (.int 0))) tNil)))))) σ' G6 (dO [.t (S "pick"), .t (S "both"), .t (S "under"), .t z, .n n0.1 n0.2]) := fun σ' e2 e6 =>
            ev_tup (eva_cons ev_str (eva_cons ev_str (eva_cons ev_str (eva_cons (ev_var e6 (h65.same g6.gg)) (eva_cons (ev_ixL (n := 0) (d := dF n0) (ev_var e2 (hn.same k36.gg)) ev_int (by rw [List.length_map]; exact ixN_nat (i := 0) (by omega)) (by rw [List.getElem?_map, hn0]; rfl)) eva_nil))))) (by show 5 ≤ sizeLine; decide)
          refine asg_ev (K := K) (CT (CT (CT (CT (EA _ rfl rfl) (ev_var rfl hv7) (by simp) (by show 5 + 3 ≤ 900; decide)) (ev_var rfl h36) (by simp) (by show 8 + ws.length ≤ 900; omega)) (ev_var rfl hv7) (by simp) (by rw [List.length_append]; show 8 + ws.length + 3 ≤ 900; omega)) (ev_var rfl h36) (by simp) (by rw [List.length_append, List.length_append]; show 8 + ws.length + 3 + ws.length ≤ 900; omega)) g6.gh fun v3' G7 H7 g7 hv3' => ?_
          have gx : Gw book nums 20 (.t (S "then") :: ([.t (S "up"), .t z] ++ ws)) := g_then hwd (g_up hwd hz) (n := 2) (m := 13) ⟨gw.1, hl, gw.2.2⟩ (by decide)
          have gp := g_pick hwd hz hn0m gx
          refine hnx _ _ ⟨v3', _, _, G7, rfl, k36.trans (g7.dk (k36.D)), hv3', ⟨?_, ?_, ?_⟩⟩
          · have e : ((([Wd.t (S "pick"), .t (S "both"), .t (S "under"), .t z, .n n0.1 n0.2] ++ [.t (S "then"), .t (S "up"), .t z]) ++ ws) ++ [.t (S "then"), .t (S "up"), .t z]) ++ ws = .t (S "pick") :: ([.t (S "both"), .t (S "under"), .t z, .n n0.1 n0.2] ++ ((.t (S "then") :: ([.t (S "up"), .t z] ++ ws)) ++ (.t (S "then") :: ([.t (S "up"), .t z] ++ ws)))) := by simp
            rw [e]; exact gp.1
          · simp only [List.length_append, List.length_cons, List.length_nil]; omega
          · have e : ((([Wd.t (S "pick"), .t (S "both"), .t (S "under"), .t z, .n n0.1 n0.2] ++ [.t (S "then"), .t (S "up"), .t z]) ++ ws) ++ [.t (S "then"), .t (S "up"), .t z]) ++ ws = .t (S "pick") :: ([.t (S "both"), .t (S "under"), .t z, .n n0.1 n0.2] ++ ((.t (S "then") :: ([.t (S "up"), .t z] ++ ws)) ++ (.t (S "then") :: ([.t (S "up"), .t z] ++ ws)))) := by simp
            rw [e]; exact gp.2.2
        · exact hnx _ _ ⟨v3, _, ws, G5, rfl, k34.trans k5, h34.same k5.gg, ⟨gw.1, by omega, gw.2.2⟩⟩
end
end K12
set_option maxHeartbeats 4000000
namespace K12
open PySem L2 Frac Lw Dig PySem.NumText Nm
open Ord Num Look Rdo
def offD (d c : Addr) (H : Hp) : Hp := fun b => if b = d ∨ b = c then none else H b
theorem offD_same (d c : Addr) (H : Hp) : Same (offD d c H) H := fun b o e => by
  unfold offD at e
  split at e
  · cases e
  · exact e
theorem offD_at {d c b : Addr} {H : Hp} {o : HO} (h : H b = some o) (h1 : b ≠ d) (h2 : b ≠ c) : offD d c H b = some o := by
  unfold offD; rw [if_neg (by rintro (z | z); exact h1 z; exact h2 z)]; exact h
theorem offD_d (d c : Addr) (H : Hp) : offD d c H d = none := by unfold offD; rw [if_pos (.inl rfl)]
theorem offD_c (d c : Addr) (H : Hp) : offD d c H c = none := by unfold offD; rw [if_pos (.inr rfl)]
theorem nums_at {K : PySem.W.Frag} {d c : Addr} {H : Hp} (D : DeckAt H d c) : ∀ ps : List Addr, (∀ p ∈ ps, ∃ b, NumAt H p b) → ∃ nums : List (Int × Int), nums.length = ps.length ∧ Dats K (offD d c H) (ps.map V.ref) (nums.map dF) ∧ ∀ n ∈ nums, Gd n
  | [], _ => ⟨[], rfl, dats_nil, fun _ h => by cases h⟩
  | p :: ps, h => by
    obtain ⟨nums, e1, e2, e3⟩ := nums_at D ps fun q hq => h q (List.mem_cons_of_mem _ hq)
    obtain ⟨b, nb⟩ := h p List.mem_cons_self
    obtain ⟨k, ns, hd, hc, _⟩ := id D.ex
    have n1 : p ≠ d := ne_of nb.tup hd (by intro z; cases z)
    have n2 : p ≠ c := ne_of nb.tup hc (by intro z; cases z)
    refine ⟨b :: nums, by rw [List.length_cons, List.length_cons, e1], dats_cons (dat_tup (SqT.of (offD_at nb.tup n1 n2)) (dats_cons (dat_int _) (dats_cons (dat_int _) dats_nil))) e2, fun n hn => ?_⟩
    rcases List.mem_cons.mp hn with rfl | hn
    · exact ⟨⟨nb.pos, nb.gcd⟩, nb.s1, nb.s2⟩
    · exact e3 n hn
theorem gd_sz {n : Int × Int} (h : Gd n) : Sz n := ⟨Nat.lt_of_lt_of_le h.2.1 (by decide), Nat.lt_of_le_of_lt h.2.2 (by decide)⟩
def FOk (n : Nat) (f : Fs) : Prop := f.length = n ∧ ∀ p ∈ f, SzP p
theorem FOk.fz {n : Nat} {f : Fs} (h : FOk n f) : FZ n f := ⟨h.1, fun p hp => (h.2 p hp).1⟩
theorem FOk.pos {n : Nat} {f : Fs} (h : FOk n f) : FPos n f := ⟨h.1, fun p hp => (h.2 p hp).2⟩
theorem fs_of {n : Nat} : ∀ ds : List PyData, (∀ e ∈ ds, ∃ f, e = dT f ∧ FOk n f) → ∃ fs : List Fs, ds = fs.map dT ∧ ∀ f ∈ fs, FOk n f
  | [], _ => ⟨[], rfl, fun f hf => by cases hf⟩
  | x :: r, h => by
    obtain ⟨fs, e, h'⟩ := fs_of r fun e he => h e (List.mem_cons_of_mem _ he)
    obtain ⟨f, ef, hf⟩ := h x List.mem_cons_self
    exact ⟨f :: fs, by rw [e, ef]; rfl, fun g hg => by
      rcases List.mem_cons.mp hg with rfl | hg
      · exact hf
      · exact h' g hg⟩
theorem six {α : Type} (l : List α) (h : l.length = 6) : ∃ a b c d e f, l = [a, b, c, d, e, f] := by
  match l, h with
  | [a, b, c, d, e, f], _ => exact ⟨a, b, c, d, e, f, rfl⟩
section
variable {P : Program} {w : World} {K : PySem.W.Frag} {mg : Str → Option Value} {base : Heap}
theorem ev_sl3 {σ : St} {G : Hp} {te : TE} {tl th ts : TO} {ds es : List PyData} {lo hi st : Option Int} (h : Ev K te σ G (.list ds)) (hl : ∀ H (Q : Option Int → Hp → Prop), Q lo H → tl σ H Q) (hh : ∀ H (Q : Option Int → Hp → Prop), Q hi H → th σ H Q) (hst : ∀ H (Q : Option Int → Hp → Prop), Q st H → ts σ H Q) (h0 : st ≠ some 0)
    (hp : ∀ (G' : Hp) (xs : List V), Dats K G' xs ds → Dats K G' (pickV xs lo hi st) es) (hz : es.length ≤ sizeLine) : Ev K (tSl3 K te tl th ts) σ G (.list es) := fun G1 H s1 s2 Q k => h G1 H s1 s2 _ fun v G2 H2 g2 hv => hl _ _ (hh _ _ (hst _ _ (by
    obtain ⟨p, xs, rfl, hq, hx⟩ := hv.lst
    have hd := hp G2 xs hx
    refine ⟨p, xs, rfl, SqL.of (g2.gh _ _ hq), h0, by rw [hd.length]; exact hz, fun l hlf => ?_⟩
    have g := grow_new (o := .lst (pickV xs lo hi st)) g2.gh hlf
    exact k _ _ _ (g2.trans g) (dat_lst upd_same (hd.same g.gg)))))
theorem ev_true5 {σ : St} {G : Hp} : Ev K (tOp rRep (tLst (tCons (tC (.bl true)) tNil)) (tC (.int 5))) σ G (.list [.bool true, .bool true, .bool true, .bool true, .bool true]) :=
  ev_op (ev_lst (eva_cons ev_bl eva_nil) (by show 1 ≤ sizeLine; decide)) ev_int fun G1 H x y Q s1 s2 hx hy k => by
    obtain ⟨p, xs, rfl, hp, hxs⟩ := hx.lst
    obtain ⟨u, r, rfl, hu, hr⟩ := hxs.cons
    cases hr.nil
    have e := hu.bl
    subst e
    rw [hy.int]
    refine ⟨p, 5, _, rfl, rfl, s2 _ _ hp, by decide, by decide, by decide, fun l hl => ?_⟩
    have g := grow_new (o := .lst (List.replicate (5 : Int).toNat [V.bl true]).flatten) s2 hl
    exact k _ _ _ g (dat_lst upd_same (dats_cons (dat_bl _) (dats_cons (dat_bl _) (dats_cons (dat_bl _) (dats_cons (dat_bl _) (dats_cons (dat_bl _) dats_nil))))))
theorem ev_neB {σ : St} {G : Hp} {ta tb : TE} {x y : Bool} (ha : Ev K ta σ G (.bool x)) (hb : Ev K tb σ G (.bool y)) : Ev K (tOp rNe ta tb) σ G (.bool (!decide (x = y))) :=
  ev_op ha hb fun G1 H u v Q s1 s2 hu hv k => by
    rw [hu.bl, hv.bl]
    refine ⟨rfl, ?_⟩
    have e : decide (V.bl x = V.bl y) = decide (x = y) := decide_eq_decide.mpr ⟨fun z => by injection z, fun z => by rw [z]⟩
    rw [e]
    exact k _ G1 H (Grow.refl s2) (dat_bl _)
theorem ok_law {f : Addr} {fd : FuncData} (F : Fun K "law" "law" s_law f fd) (T : Top K mg) (W : Wds K w.params mg) (W1 : Txs K w.params mg "AHEAD" aheadT) (W2 : Txs K w.params mg "OTHER_WAY" otherT) (M : Bs K mg base) : FnOk P w K mg base CX0 10 f fd ["script"] (spLawT K [(T.P_looked, cr_looked)]) := by
  have G__law_deck : FnOk P w K mg base CX0 9 T.f__law_deck T.fd__law_deck ["script"] (spDeck K) := (ok_deck T.F__law_deck T.len_ T.sum_ T.range_).mono (by decide)
  have G__law_book : FnOk P w K mg base CX0 9 T.f__law_book T.fd__law_book ["deck"] spBook := (ok_book T.F__law_book T.len_ T.range_ T.tuple_ T.F__law_take T.b__law_take T.m__law_take).mono (by decide)
  have G__law_numbers : FnOk P w K mg base CX0 9 T.f__law_numbers T.fd__law_numbers ["deck"] spNumbers := (ok_numbers T.F__law_numbers T.len_ T.max_ T.range_ T.F__law_take T.b__law_take T.m__law_take T.F__law_common T.b__law_common T.m__law_common T.F__law_least T.b__law_least T.m__law_least T.F__law_whole_number T.b__law_whole_number T.m__law_whole_number T.F__law_number T.b__law_number T.m__law_number).mono (by decide)
  have G__law_order : FnOk P w K mg base CX0 9 T.f__law_order T.fd__law_order ["deck", "book", "numbers", "most"] (spOrder K) := (ok_order T).mono (by decide)
  have G__law_tame : FnOk P w K mg base CX0 9 T.f__law_tame T.fd__law_tame ["number"] (spP K RTame) := (ok_tame T).mono (by decide)
  have G__law_thing : FnOk P w K mg base CX0 9 T.f__law_thing T.fd__law_thing ["deck", "book", "numbers"] (spDv K RThing) := (ok_thing T).mono (by decide)
  have G__law_take : FnOk P w K mg base CX0 9 T.f__law_take T.fd__law_take ["deck", "many"] spTake := (ok_take T.F__law_take T.len_).mono (by decide)
  have G_looked : FnOk P w K mg base CX0 9 T.f_looked T.fd_looked ["order", "book", "first", "second"] (spLook K T.P_looked cr_looked) := (ok_looked T M W W1 W2).mono (by decide)
  have G_is_order : FnOk P w K mg base CX0 9 T.f_is_order T.fd_is_order ["order", "book", "things"] (spB K T.P_looked cr_looked RIs) := ok_isord T M W W1 W2
  have G__law_good_order : FnOk P w K mg base CX0 9 T.f__law_good_order T.fd__law_good_order ["deck", "book", "numbers"] (spDv K RGood) := (ok_good T).mono (by decide)
  have G__law_turn_about : FnOk P w K mg base CX0 9 T.f__law_turn_about T.fd__law_turn_about ["order", "book", "things"] (spB K T.P_looked cr_looked RTa) := (ok_turnabout T M W W1 W2).mono (by decide)
  refine F.ok sc_law (fun vs H Q E h => ?_) (fun cdv A outer s H vs Q E hr h => ?_)
  · obtain ⟨a, ns, rfl, _⟩ := h
    rfl
  · obtain ⟨a, ns, rfl, hS, hlen, hTs, fin⟩ := h
    have hT0 : H T.P_looked = some (.tbl cr_looked) := hTs _ List.mem_cons_self
    have zl : (2000 : Nat) ≤ sizeLine := by decide
    have hu := hr.units
    have hu1 := Nat.lt_of_le_of_lt (Nat.add_le_add_left (show 1 ≤ 64 by decide) _) hr.units
    refine ⟨_, (pss_cons (ps_set (i := 1) sc_law.nd rfl (Or.inr rfl) (pe_call G__law_deck hr (by rfl) T.m__law_deck T.F__law_deck.kp T.b__law_deck .nil pass0 (pa_cons (pv 0) pa_nil st_Name)))
      (pss_cons (ps_set (i := 2) sc_law.nd rfl (Or.inr rfl) (pe_call G__law_book hr (by rfl) T.m__law_book T.F__law_book.kp T.b__law_book .nil pass0 (pa_cons (pv 1) pa_nil st_Name)))
      (pss_cons (ps_set (i := 3) sc_law.nd rfl (Or.inr rfl) (pe_lc (x := "number") (cap := []) (js := []) ⟨rfl, by decide +kernel, by decide +kernel, rfl, (by show ∀ p ∈ (_ : List (Str × NameKind)), p.2 = NameKind.free → List.lookup p.1 (defScope s_law).names = some NameKind.cell; decide +kernel), by decide +kernel, by decide +kernel, by decide +kernel⟩ rfl rfl (fun _ _ h => h) (pi_list (pe_call G__law_numbers hr (by rfl) T.m__law_numbers T.F__law_numbers.kp T.b__law_numbers .nil pass0 (pa_cons (pv 1) pa_nil st_Name))) (fun _ _ _ _ => ⟨pif_nil, (pe_call G__law_tame hr (by rfl) T.m__law_tame T.F__law_tame.kp T.b__law_tame .nil pass0 (pa_cons (pv 0) pa_nil st_Name))⟩)))
      (pss_cons (ps_lc (x := "j") (cap := ["deck", "book", "numbers"]) (js := [1, 2, 3]) (i := 4) (y := "things") ⟨rfl, by decide +kernel, by decide +kernel, rfl, (by show ∀ p ∈ (_ : List (Str × NameKind)), p.2 = NameKind.free → List.lookup p.1 (defScope s_law).names = some NameKind.cell; decide +kernel), by decide +kernel, by decide +kernel, by decide +kernel⟩ rfl rfl (fun _ _ h => h) sc_law.nd rfl rfl (pi_range1 (by rfl) T.range_ (pa_cons pe_int pa_nil st_Constant)) (fun _ _ _ _ => ⟨pif_nil, (pe_call G__law_thing hr (by rfl) T.m__law_thing T.F__law_thing.kp T.b__law_thing .nil pass0 (pa_cons (pv 1) (pa_cons (pv 2) (pa_cons (pv 3) pa_nil st_Name) st_Name) st_Name))⟩))
      (pss_cons (ps_set (i := 5) sc_law.nd rfl (Or.inl rfl) (pe_call G__law_good_order hr (by rfl) T.m__law_good_order T.F__law_good_order.kp T.b__law_good_order .nil pass0 (pa_cons (pv 1) (pa_cons (pv 2) (pa_cons (pv 3) pa_nil st_Name) st_Name) st_Name)))
      (pss_cons (ps_if (pt_cmpR op_notB (pe_call G_is_order hr (by rfl) T.m_is_order T.F_is_order.kp T.b_is_order .nil pass0 (pa_cons (pv 5) (pa_cons (pv 2) (pa_cons (pv 4) pa_nil st_Name) st_Name) st_Name)) pe_bl (nomark _)) (pss_one (ps_ret pe_bl)) pss_nil)
      (pss_cons (ps_for PassesOwn.never rfl (pi_range1 (by rfl) T.range_ (pa_cons pe_int pa_nil st_Constant)) (pg_name (i := 6) sc_law.nd rfl (Or.inl rfl)) (pss_cons (ps_set (i := 7) sc_law.nd rfl (Or.inr rfl) (pe_call G__law_order hr (by rfl) T.m__law_order T.F__law_order.kp T.b__law_order .nil pass0 (pa_cons (pv 1) (pa_cons (pv 2) (pa_cons (pv 3) (pa_cons (pe_ix (ix_listK (K := K) rfl) (pe_lst (pa_cons pe_int (pa_cons pe_int (pa_cons pe_int pa_nil st_Constant) st_Constant) st_Constant)) (pv 6) (fun _ _ => rfl)) pa_nil st_Subscript) st_Name) st_Name) st_Name)))
      (pss_cons (ps_set (i := 8) sc_law.nd rfl (Or.inl rfl) (pe_call G_is_order hr (by rfl) T.m_is_order T.F_is_order.kp T.b_is_order .nil pass0 (pa_cons (pv 7) (pa_cons (pv 2) (pa_cons (pv 4) pa_nil st_Name) st_Name) st_Name)))
      (pss_cons (ps_set (i := 9) sc_law.nd rfl (Or.inl rfl) (pe_lst (pa_cons (pe_slice (sl_listK (K := K) rfl) (pv 4) po_none (po_some pe_int)) (pa_cons (pe_slice (sl_listK (K := K) rfl) (pv 4) (po_some pe_int) po_none) (pa_cons (pe_slice3 (pv 4) po_none po_none (po_some pe_int)) (pa_cons (pe_slice (sl_listK (K := K) rfl) (pv 4) (po_some pe_int) po_none) (pa_cons (pe_slice (sl_listK (K := K) rfl) (pe_slice3 (pv 4) po_none po_none (po_some (pe_un un_neg pe_int))) po_none (po_some pe_int)) pa_nil st_Subscript) st_Subscript) st_Subscript) st_Subscript) st_Subscript)))
      (pss_cons (ps_lc (x := "part") (cap := ["order", "book"]) (js := [7, 2]) (i := 10) (y := "told") ⟨rfl, by decide +kernel, by decide +kernel, rfl, (by show ∀ p ∈ (_ : List (Str × NameKind)), p.2 = NameKind.free → List.lookup p.1 (defScope s_law).names = some NameKind.cell; decide +kernel), by decide +kernel, by decide +kernel, by decide +kernel⟩ rfl rfl (fun _ _ h => h) sc_law.nd rfl rfl (pi_list (pv 9)) (fun _ _ _ _ => ⟨pif_nil, (pe_call G_is_order hr (by rfl) T.m_is_order T.F_is_order.kp T.b_is_order .nil pass0 (pa_cons (pv 1) (pa_cons (pv 2) (pa_cons (pv 0) pa_nil st_Name) st_Name) st_Name))⟩))
      (pss_cons (ps_if ((pw_and (pt_val (pv 8)) (pw_and1 (pt_cmpR (op_neDK (K := K) rfl hu) (pv 10) (pe_op op_rep (pe_lst (pa_cons pe_bl pa_nil st_Constant)) pe_int) (nomark _))))).pt (pss_one (ps_ret pe_bl)) pss_nil)
      (pss_cons (ps_if (pt_cmpR op_ne (pe_call G_is_order hr (by rfl) T.m_is_order T.F_is_order.kp T.b_is_order .nil pass0 (pa_cons (pe_op (op_catTK (K := K) rfl) (pe_tup (pa_cons pe_str pa_nil st_Constant)) (pv 7)) (pa_cons (pv 2) (pa_cons (pv 4) pa_nil st_Name) st_Name) st_BinOp)) (pv 8) (nomark _)) (pss_one (ps_ret pe_bl)) pss_nil)
      (pss_cons (ps_if ((pw_and (pt_val (pv 8)) (pw_and1 (pt_not (pt_val (pe_call G_is_order hr (by rfl) T.m_is_order T.F_is_order.kp T.b_is_order .nil pass0 (pa_cons (pe_op (op_catTK (K := K) rfl) (pe_tup (pa_cons pe_str (pa_cons pe_str (pa_cons (pe_ix (ix_tupK (K := K) rfl) (pv 2) pe_int (fun _ _ => rfl)) pa_nil st_Subscript) st_Constant) st_Constant)) (pv 7)) (pa_cons (pv 2) (pa_cons (pv 4) pa_nil st_Name) st_Name) st_BinOp))))))).pt (pss_one (ps_ret pe_bl)) pss_nil)
      (pss_one (ps_if ((pw_and (pt_val (pv 8)) (pw_and1 (pt_not (pt_val (pe_call G__law_turn_about hr (by rfl) T.m__law_turn_about T.F__law_turn_about.kp T.b__law_turn_about .nil pass0 (pa_cons (pv 7) (pa_cons (pv 2) (pa_cons (pv 4) pa_nil st_Name) st_Name) st_Name))))))).pt (pss_one (ps_ret pe_bl)) pss_nil))))))))))
      (pss_one (ps_ret pe_bl))))))))) , ?_⟩
    refine ⟨_, rfl, a, ns, rfl, hS, hlen, fun d c H1 D1 hd hc s1 => ?_⟩
    refine ⟨_, rfl, d, c, rfl, D1, fun book pb H2 b1 b2 bn hpb hpb2 D2 K2 => ?_⟩
    refine ⟨_, rfl, d, c, rfl, D2, fun ps pn H3 l1 l2 hnum hpn hpn3 D3 K3 => ?_⟩
    obtain ⟨nums0, e1, hnums, hall0⟩ := nums_at (K := K) D3 ps hnum
    obtain ⟨dk2, dns2, hd2, hc2, _⟩ := id D2.ex
    have nb1 : pb ≠ d := ne_of hpb2 hd2 (by intro z; cases z)
    have nb2 : pb ≠ c := ne_of hpb2 hc2 (by intro z; cases z)
    have hpb3 := K3 _ _ hpb2 nb1 nb2
    have nn1 : pn ≠ d := Ne.symm (ne_of_none hd2 hpn)
    have nn2 : pn ≠ c := Ne.symm (ne_of_none hc2 hpn)
    have hbb : offD d c H3 pb = some (.tup (book.map V.str)) := offD_at hpb3 nb1 nb2
    have hn0 : Dat K (offD d c H3) (.ref pn) (.list (nums0.map dF)) := dat_lst (offD_at hpn3 nn1 nn2) hnums
    have nT1 : T.P_looked ≠ d := ne_of_none hT0 hd
    have nT2 : T.P_looked ≠ c := ne_of_none hT0 hc
    have hT3 : offD d c H3 T.P_looked = some (.tbl cr_looked) := offD_at (K3 _ _ (K2 _ _ (s1 _ _ hT0) nT1 nT2) nT1 nT2) nT1 nT2
    have sg := offD_same d c H3
    have gd := offD_d d c H3
    have gc := offD_c d c H3
    generalize offD d c H3 = G3 at hbb hn0 sg gd gc hnums hT3
    have hwd : ∀ z ∈ book, wordT z = none := fun z hz => wordT_none (by have := (bn z hz).now; rw [wordsL_eq] at this; exact this)
    refine (ev_lcL (K := K) (σ := [some (.ref a), some (.ref d), some (.ref pb), none, none, none, none, none, none, none, none]) (js := []) (tl := tC (.ref pn)) nums0 dF (fun n => some (dF (tame n))) (ev_c hn0) (by omega) fun G2 i n x s3 hn hx => lc1 evt_noif (ev_call (eva_cons (ev_var rfl hx) eva_nil) ⟨n, hall0 n (List.mem_of_getElem? hn), rfl, rfl⟩)).use sg fun vn G4 H4 g4 hvn => ?_
    rw [fm_some] at hvn
    obtain ⟨nums, enums⟩ : ∃ nums, nums0.map tame = nums := ⟨_, rfl⟩
    have hvn' : Dat K G4 vn (.list (nums.map dF)) := by rw [← enums, List.map_map]; exact hvn
    have hlen2 : nums.length = nums0.length := by rw [← enums, List.length_map]
    have hall : ∀ n ∈ nums, Gd n := fun n hn => by
      rw [← enums] at hn
      obtain ⟨m, hm, rfl⟩ := List.mem_map.mp hn
      exact tame_ok (hall0 m hm)
    have n1 : 1 ≤ nums.length := by omega
    have n2 : nums.length ≤ 4 := by omega
    have k4 := g4.dk D3
    have gd4 := k4.gd D3 gd
    have gc4 := k4.gc D3 gc
    have D4 := k4.D
    have hb4 : Dat K G4 (.ref pb) (.tuple (book.map PyData.str)) := dat_tup (SqT.of (g4.gg _ _ hbb)) (dats_strs book)
    have hT4 := g4.gg _ _ hT3
    have hbb4 := g4.gg _ _ hbb
    have hSz : ∀ a b : Int, (a, b) ∈ nums → Sz (a, b) := fun a b h => gd_sz (hall _ h)
    refine (dv_lcR (K := K) (d := d) (c := c) (n := 6) (R := fun x => ∃ f, x = dT f ∧ FOk book.length f) (eva_cons (ev_int (i := 6)) eva_nil) (by decide) fun G2 i s2 hi => (dv_call (R := RThing) rfl (eva_cons (ev_var rfl (hb4.same s2)) (eva_cons (ev_var rfl (hvn'.same s2)) eva_nil)) ⟨.tuple ((book.map fun _ => ((0 : Int), (1 : Int))).map dF), book, nums, _, rfl, ⟨b2, n1, n2⟩, hall, rfl, by rw [List.length_map], fun p hp => by
        obtain ⟨_, _, rfl⟩ := List.mem_map.mp hp
        exact ⟨⟨by decide, by decide⟩, by decide⟩⟩).imp fun x hx => by
        obtain ⟨bk, nm, f, ea, _, _, rfl, hl, hz⟩ := hx
        have el : bk.length = book.length := by
          injection ea with e1 _
          injection e1 with e1
          have := congrArg List.length e1
          simpa using this.symm
        exact ⟨f, rfl, hl.trans el, hz⟩).use g4.gh gd4 gc4 D4 fun v4 x4 G5 H5 h4 k5 hv4 => ?_
    obtain ⟨ds, rfl, hdl, hds⟩ := h4
    obtain ⟨fs, rfl, hfs⟩ := fs_of ds hds
    rw [List.length_map] at hdl
    have gd5 := k5.gd D4 gd4
    have gc5 := k5.gc D4 gc4
    refine asg_dv (K := K) (d := d) (c := c) (dv_call (R := RGood) rfl (eva_cons (ev_var rfl (hb4.same k5.gg)) (eva_cons (ev_var rfl (hvn'.same k5.gg)) eva_nil)) ⟨dO [.t (S "like")], book, nums, _, rfl, ⟨b1, b2, n1, n2⟩, hwd, rfl, g_like hwd (by decide)⟩) k5.gh gd5 gc5 k5.D fun v5 x5 G6 H6 h5 k6 hv5 => ?_
    obtain ⟨book', nums', gws, ea, _, hwd', rfl, gg⟩ := h5
    have eb : book' = book := by
      injection ea with e1 e2
      injection e1 with e1
      have key : ∀ x y : List Str, x.map PyData.str = y.map PyData.str → x = y := fun x y h => (List.map_inj_right (fun _ _ z => by injection z)).mp h
      exact (key _ _ e1).symm
    have en : nums' = nums := by
      injection ea with e1 e2
      injection e2 with e2 _
      injection e2 with e2
      have key : ∀ x y : List (Int × Int), x.map dF = y.map dF → x = y := fun x y h => (List.map_inj_right (fun p q z => by
        injection z with z; injection z with z1 z2; injection z2 with z2 _; injection z1 with z1; injection z2 with z2; exact Prod.ext z1 z2)).mp h
      exact (key _ _ e2).symm
    subst eb en
    have k56 := k5.trans k6
    have hth6 := hv4.same k6.gg
    have hfz : ∀ f ∈ fs, FZ book'.length f := fun f hf => (hfs f hf).fz
    have IS : ∀ {σ' : St} {G' : Hp} {ta tt : TE} {ws : List Wd} {gs : List Fs} {i : Nat}, Same G4 G' → σ'[i]? = some (some (.ref pb)) → Ev K ta σ' G' (dOs ws) → Ev K tt σ' G' (.list (gs.map dT)) → IsOrd (· ∈ book') (fun a b => (a, b) ∈ nums') ws → ws.length ≤ 900 → (∀ f ∈ gs, f ∈ fs) → gs.length ≤ 1000 →
        Ev K (tCall (spB K T.P_looked cr_looked RIs) [] E0 (tCons ta (tCons (tVar i) (tCons tt tNil)))) σ' G' (.bool (isOrd (lookA book' ws) gs)) := fun s hi ha ht ho hl hs hg => ev_callB (R := RIs) (s _ _ hT4) (s _ _ hbb4) hi ha (eva_cons ht eva_nil) ⟨_, _, _, rfl, ⟨ho, hSz, hwd, hl⟩, fun f hf => hfz f (hs f hf), hg, rfl⟩
    have s46 : Same G4 G6 := k56.gg
    have hgood : isOrd (lookA book' gws) fs = true := (isOrd_iff _ _).mpr (gg.2.2.sub fun f hf => (hfs f hf).pos)
    refine if_no (evt_c (evt_test (K := K) (ev_isB (g := fun b => !b) (t := true) (IS (gs := fs) s46 rfl (ev_var rfl hv5) (ev_var rfl hth6) gg.1 (by have := gg.2.1; omega) (fun f hf => hf) (by omega)))) (by rw [hgood]; rfl)) k6.gh fun G7 H7 g7 => ?_
    have k57 := k56.trans (g7.dk k6.D)
    have hth7 := hth6.same g7.gg
    refine ⟨3, rfl, by decide, by decide, for_range (n := 3) (fun i σ H' => ∃ (v6 v7 v8 v9 v10 : Option V) (G' : Hp), σ = [some (.ref a), some (.ref d), some (.ref pb), some vn, some v4, some v5, v6, v7, v8, v9, v10] ∧ Same G7 G' ∧ Same G' H' ∧ G' d = none ∧ G' c = none ∧ DeckAt H' d c) ⟨_, _, _, _, _, G7, rfl, Same.refl _, g7.gh, k57.gd D4 gd4, k57.gc D4 gc4, k57.D⟩ ?_ ?_⟩
    · rintro i σ H8 hi ⟨v6, v7, v8, v9, v10, G8, rfl, s78, s8, gd8, gc8, D8⟩
      have s48 : Same G4 G8 := k57.gg.trans s78
      refine ⟨_, rfl, _, rfl, _, rfl, (by show 3 ≤ sizeLine; decide), fun q hq => ?_⟩
      obtain ⟨mst, hm, hat⟩ : ∃ mst : Int, (1 ≤ mst ∧ mst ≤ 100) ∧ atI [V.int 30, V.int 9, V.int 20] (0 + (i : Int)) = some (V.int mst) := by
        have : i = 0 ∨ i = 1 ∨ i = 2 := by omega
        rcases this with rfl | rfl | rfl
        · exact ⟨30, by decide, rfl⟩
        · exact ⟨9, by decide, rfl⟩
        · exact ⟨20, by decide, rfl⟩
      have sq := same_new (o := .lst [V.int 30, V.int 9, V.int 20]) hq
      refine ⟨_, rfl, q, _, _, _, rfl, rfl, SqL.of upd_same, hat, d, c, .ref pb, vn, mst, G8, book', nums', rfl, D8.same sq, ⟨s8.trans sq, gd8, gc8⟩, hb4.same s48, hvn'.same s48, ⟨b1, b2, n1, by omega, hm.1, hm.2⟩, fun ws vo G9 H9 ord wl s89 s9 gd9 gc9 hvo D9 K9 => ?_⟩
      have s49 := s48.trans s89
      have hwl : ws.length ≤ 100 := by have := hm.2; omega
      have hth9 := hth7.same (s78.trans s89)
      refine asg_ev (K := K) (IS (gs := fs) s49 rfl (ev_var rfl hvo) (ev_var rfl hth9) ord (by omega) (fun f hf => hf) (by omega)) s9 fun v8' Ga Ha ga hv8 => ?_
      have s4a := s49.trans ga.gg
      obtain ⟨f0, f1, f2, f3, f4, f5, efs⟩ := six fs hdl
      have htha := hth9.same ga.gg
      rw [efs] at htha
      refine asg_ev (K := K) (d := .list ([[f0, f1, f2], [f3, f4, f5], [f0, f2, f4], [f1, f2, f3, f4, f5], [f5, f4, f3, f2]].map fun p => PyData.list (p.map dT))) (ev_lst (eva_cons (ev_d (ev_slL (lo := none) (hi := some 3) (ev_var rfl htha) (fun H Q q => q) (fun H Q q => ⟨3, rfl, q⟩)) (by rfl)) (eva_cons (ev_d (ev_slL (lo := some 3) (hi := none) (ev_var rfl htha) (fun H Q q => ⟨3, rfl, q⟩) (fun H Q q => q)) (by rfl)) (eva_cons (ev_sl3 (lo := none) (hi := none) (st := some 2) (ev_var rfl htha) (fun H Q q => q) (fun H Q q => q) (fun H Q q => ⟨2, rfl, q⟩) (by decide) (fun G' xs hx => ?_) (by show 3 ≤ sizeLine; decide)) (eva_cons (ev_d (ev_slL (lo := some 1) (hi := none) (ev_var rfl htha) (fun H Q q => ⟨1, rfl, q⟩) (fun H Q q => q)) (by rfl)) (eva_cons (ev_d (ev_slL (lo := none) (hi := some 4) (ev_sl3 (es := [dT f5, dT f4, dT f3, dT f2, dT f1, dT f0]) (lo := none) (hi := none) (st := some (-1)) (ev_var rfl htha) (fun H Q q => q) (fun H Q q => q) (fun H Q q => ⟨1, rfl, -1, rfl, q⟩) (by decide) (fun G' xs hx => ?_) (by show 6 ≤ sizeLine; decide)) (fun H Q q => q) (fun H Q q => ⟨4, rfl, q⟩)) (by rfl)) eva_nil))))) (by show 5 ≤ sizeLine; decide)) ga.gh fun v9' Gb Hb gb hv9 => ?_
      · obtain ⟨x0, r, rfl, d0, hx⟩ := hx.cons
        obtain ⟨x1, r, rfl, d1, hx⟩ := hx.cons
        obtain ⟨x2, r, rfl, d2, hx⟩ := hx.cons
        obtain ⟨x3, r, rfl, d3, hx⟩ := hx.cons
        obtain ⟨x4, r, rfl, d4, hx⟩ := hx.cons
        obtain ⟨x5, r, rfl, d5, hx⟩ := hx.cons
        cases hx.nil
        have e : pickV [x0, x1, x2, x3, x4, x5] none none (some 2) = [x0, x2, x4] := by kernel_rfl
        rw [e]
        exact dats_cons d0 (dats_cons d2 (dats_cons d4 dats_nil))
      · obtain ⟨x0, r, rfl, d0, hx⟩ := hx.cons
        obtain ⟨x1, r, rfl, d1, hx⟩ := hx.cons
        obtain ⟨x2, r, rfl, d2, hx⟩ := hx.cons
        obtain ⟨x3, r, rfl, d3, hx⟩ := hx.cons
        obtain ⟨x4, r, rfl, d4, hx⟩ := hx.cons
        obtain ⟨x5, r, rfl, d5, hx⟩ := hx.cons
        cases hx.nil
        have e : pickV [x0, x1, x2, x3, x4, x5] none none (some (-1)) = [x5, x4, x3, x2, x1, x0] := by kernel_rfl
        rw [e]
        exact dats_cons d5 (dats_cons d4 (dats_cons d3 (dats_cons d2 (dats_cons d1 (dats_cons d0 dats_nil)))))
      have s4b := s4a.trans gb.gg
      have hsub : ∀ p ∈ [[f0, f1, f2], [f3, f4, f5], [f0, f2, f4], [f1, f2, f3, f4, f5], [f5, f4, f3, f2]], (∀ f ∈ p, f ∈ fs) ∧ p.length ≤ 1000 := fun p hp => by
        rw [efs]
        simp only [List.mem_cons, List.not_mem_nil, or_false] at hp
        rcases hp with rfl | rfl | rfl | rfl | rfl <;> exact ⟨fun f hf => by simp only [List.mem_cons, List.not_mem_nil, or_false] at hf ⊢; first | (rcases hf with h | h | h <;> simp [h]) | (rcases hf with h | h | h | h <;> simp [h]) | (rcases hf with h | h | h | h | h <;> simp [h]), by simp⟩
      refine (ev_lcL (K := K) (js := [7, 2]) [[f0, f1, f2], [f3, f4, f5], [f0, f2, f4], [f1, f2, f3, f4, f5], [f5, f4, f3, f2]] (fun p => PyData.list (p.map dT)) (fun p => some (.bool (isOrd (lookA book' ws) p))) (ev_var rfl hv9) (by show 5 < sizeLine; decide) fun G2 j p x s3 hp hx => lc1 evt_noif (IS (gs := p) (s4b.trans s3) rfl (ev_var rfl (((hvo.same ga.gg).same gb.gg).same s3)) (ev_var rfl hx) ord (by omega) (hsub p (List.mem_of_getElem? hp)).1 (hsub p (List.mem_of_getElem? hp)).2)).use gb.gh fun v10' Gc Hc gc' hv10 => ?_
      rw [fm_some] at hv10
      have s4c := s4b.trans gc'.gg
      have hv8c := (hv8.same gb.gg).same gc'.gg
      have hvoc := ((hvo.same ga.gg).same gb.gg).same gc'.gg
      have hthc := ((hth9.same ga.gg).same gb.gg).same gc'.gg
      have gac := (ga.trans gb).trans gc'
      have wkw : isOrd (lookA book' ws) fs = true → Wk (lookA book' ws) (· ∈ fs) := fun h => (isOrd_iff _ _).mp h
      generalize hB : isOrd (lookA book' ws) fs = B at hv8c wkw
      (try dsimp only)
      refine if_no (evt_c (e := false) (evt_and (e := false) (evt_b (K := K) (ev_var rfl hv8c)) fun hb => ?_) (by rw [Bool.and_false])) gc'.gh fun Gd Hd gd' => ?_
      · have hp : ∀ p ∈ [[f0, f1, f2], [f3, f4, f5], [f0, f2, f4], [f1, f2, f3, f4, f5], [f5, f4, f3, f2]], isOrd (lookA book' ws) p = true := fun p hp => (isOrd_iff _ _).mpr ((wkw hb).sub (hsub p hp).1)
        have ev10 : Dat K Gc v10' (.list [.bool true, .bool true, .bool true, .bool true, .bool true]) := by
          have e : [[f0, f1, f2], [f3, f4, f5], [f0, f2, f4], [f1, f2, f3, f4, f5], [f5, f4, f3, f2]].map (fun p => PyData.bool (isOrd (lookA book' ws) p)) = [.bool true, .bool true, .bool true, .bool true, .bool true] := by
            simp only [List.map_cons, List.map_nil, hp _ (List.mem_cons_self ..), hp [f3, f4, f5] (by simp), hp [f0, f2, f4] (by simp), hp [f1, f2, f3, f4, f5] (by simp), hp [f5, f4, f3, f2] (by simp)]
          rw [← e]; exact hv10
        exact evt_c (evt_test (K := K) (ev_eqS' (g := fun b => !b) (ev_var rfl ev10) ev_true5 (by decide +kernel))) (by decide +kernel)
      have s4d := s4c.trans gd'.gg
      have CT : ∀ {σ' : St} {G' : Hp} {ta tb : TE} {x y : List Wd}, Ev K ta σ' G' (dOs x) → Ev K tb σ' G' (dOs y) → x ≠ [] → x.length + y.length ≤ 900 → Ev K (tOp (rCatT K) ta tb) σ' G' (dOs (x ++ y)) := fun ha hb hne hl => ev_d (ev_catT ha hb (by simpa using hne) (by rw [List.length_map, List.length_map]; omega)) (by show PyData.tuple _ = PyData.tuple _; rw [List.map_append])
      have hturn : isOrd (lookA book' (.t (S "turn") :: ws)) fs = B := by
        have e : lookA book' (.t (S "turn") :: ws) = fun f g => (lookA book' ws f g).turn := funext fun f => funext fun g => lookA_of (ev_turn (lookA_ev f g hwd ord))
        rw [e]
        cases hB' : B with
        | true => exact (isOrd_iff _ _).mpr (wkw (by rw [hB'])).turn
        | false =>
          cases h2 : isOrd (fun f g => (lookA book' ws f g).turn) fs with
          | false => rfl
          | true =>
            have w2 := ((isOrd_iff _ _).mp h2).turn
            have w3 : Wk (lookA book' ws) (· ∈ fs) := wk_eq hwd w2 fun f g => by rw [An.turn_turn]
            have := (isOrd_iff _ _).mpr w3
            rw [hB, hB'] at this; cases this
      refine if_no (evt_c (evt_test (K := K) (ev_neB (IS (gs := fs) s4d rfl (CT (x := [.t (S "turn")]) (ev_tup (eva_cons ev_str eva_nil) (by show 1 ≤ sizeLine; decide)) (ev_var rfl (hvoc.same gd'.gg)) (by simp) (by show 1 + ws.length ≤ 900; omega)) (ev_var rfl (hthc.same gd'.gg)) (o_turn ord) (by show ws.length + 1 ≤ 900; omega) (fun f hf => hf) (by omega)) (ev_var rfl (hv8c.same gd'.gg)))) (by
          show (!decide (isOrd (lookA book' (.t (S "turn") :: ws)) fs = B)) = false
          rw [hturn, decide_eq_true rfl]; rfl)) gd'.gh fun Ge He ge' => ?_
      have gce := gd'.trans ge'
      have s4e := s4c.trans gce.gg
      obtain ⟨z, hz⟩ : ∃ z, book'[0]? = some z := ⟨book'[0], List.getElem?_eq_getElem (by omega)⟩
      have hzm : z ∈ book' := List.mem_of_getElem? hz
      have EB : ∀ {σ' : St} {G' : Hp}, Same G4 G' → σ'[2]? = some (some (.ref pb)) → Ev K (tOp (rIxT K) (tVar 2) (tC (.int 0))) σ' G' (.str z) := fun s e => ev_ixT (n := 0) (ev_var e (hb4.same s)) ev_int (by rw [List.length_map]; exact ixN_nat (i := 0) (by omega)) (by rw [List.getElem?_map, hz]; rfl)
      refine if_no (evt_c (e := false) (evt_and (e := false) (evt_b (K := K) (ev_var rfl (hv8c.same gce.gg))) fun hb => evt_c (evt_not (evt_b (K := K) (IS (gs := fs) s4e rfl (CT (x := [.t (S "then"), .t (S "up"), .t z]) (ev_tup (eva_cons ev_str (eva_cons ev_str (eva_cons (EB s4e rfl) eva_nil))) (by show 3 ≤ sizeLine; decide)) (ev_var rfl (hvoc.same gce.gg)) (by simp) (by show 3 + ws.length ≤ 900; omega)) (ev_var rfl (hthc.same gce.gg)) (o_then (o_up hzm) ord) (by show ws.length + 1 + 1 + 1 ≤ 900; omega) (fun f hf => hf) (by omega)))) ?_) (by rw [Bool.and_false])) ge'.gh fun Gf Hf gf' => ?_
      · have w1 := ((g_up (nums := nums') hwd hzm).2.2.sub (D' := (· ∈ fs)) fun f hf => (hfs f hf).pos).then_ (wkw hb)
        have w2 : Wk (lookA book' (.t (S "then") :: ([.t (S "up"), .t z] ++ ws))) (· ∈ fs) := wk_eq hwd w1 fun f g => lookA_of (ev_then (lookA_ev f g hwd (o_up (num := fun a b => (a, b) ∈ nums') hzm)) (lookA_ev f g hwd ord))
        have := (isOrd_iff _ _).mpr w2
        show (!isOrd (lookA book' (.t (S "then") :: ([.t (S "up"), .t z] ++ ws))) fs) = false
        rw [this]; rfl
      have gcf := gce.trans gf'
      have s4f := s4c.trans gcf.gg
      refine if_no (evt_c (e := false) (evt_and (e := false) (evt_b (K := K) (ev_var rfl (hv8c.same gcf.gg))) fun hb => evt_c (evt_not (evt_b (K := K) (ev_callB (R := RTa) (d := .bool true) (s4f _ _ hT4) (s4f _ _ hbb4) rfl (ev_var rfl (hvoc.same gcf.gg)) (eva_cons (ev_var rfl (hthc.same gcf.gg)) eva_nil) ⟨_, _, fs, rfl, ⟨ord, hSz, hwd, by omega⟩, hfz, by omega, rfl⟩))) rfl) (by rw [Bool.and_false])) gf'.gh fun Gg Hg gg' => ?_
      have gall := gac.trans (gcf.trans gg')
      obtain ⟨⟨o1, q1⟩, o2, q2⟩ := deck_some D9
      exact ⟨_, _, _, _, _, Gg, rfl, (s78.trans s89).trans gall.gg, gall.gh, gall.out q1 gd9, gall.out q2 gc9, D9.same gall.hh⟩
    · rintro σ H8 ⟨v6, v7, v8, v9, v10, G8, rfl, _⟩
      exact fin H8
end
end K12
set_option maxHeartbeats 4000000
namespace K12
open PySem L2 Frac Lw Dig PySem.NumText Nm
open Ord Look Rdo
abbrev tabs : Tabs := [(129, cr_looked)]
theorem all_mk {l : PySem.W.OpenLaw} {w : World} {K : PySem.W.Frag} {h : Heap} {mg : Str → Option Value} {fa : Addr} {f_telling f_taken f_word_told f_put_together f_is_open f_answer f_one_then_other f_turned_about f_picked f_settled_by f_compared f_how_stands f_looked f_is_order f_each_once f_table_of f_looks_of f_looks_agree f_against_ranks f_ranks_in f_by_size f__law_deck f__law_take f__law_common f__law_least f__law_whole_number f__law_number f__law_book f__law_options f__law_room f__law_order f__law_numbers f__law_thing f__law_good_order f__law_about f__law_turn_about f__law_tame f_law : Addr} (X : K.In h) (G : h.Ns mainGlobals mg) (hfa : mg "law" = some (.ref fa))
    {od_telling an_telling od_taken an_taken od_word_told an_word_told od_put_together an_put_together od_is_open an_is_open od_answer an_answer od_one_then_other an_one_then_other od_turned_about an_turned_about od_picked an_picked od_settled_by an_settled_by od_compared an_compared od_how_stands an_how_stands od_looked an_looked od_is_order an_is_order od_each_once an_each_once od_table_of an_table_of od_looks_of an_looks_of od_looks_agree an_looks_agree od_against_ranks an_against_ranks od_ranks_in an_ranks_in od_by_size an_by_size od__law_deck an__law_deck od__law_take an__law_take od__law_common an__law_common od__law_least an__law_least od__law_whole_number an__law_whole_number od__law_number an__law_number od__law_book an__law_book od__law_options an__law_options od__law_room an__law_room od__law_order an__law_order od__law_numbers an__law_numbers od__law_thing an__law_thing od__law_good_order an__law_good_order od__law_about an__law_about od__law_turn_about an__law_turn_about od__law_tame an__law_tame od_law an_law : Option Addr} {sl_telling sl_taken sl_word_told sl_put_together sl_is_open sl_answer sl_one_then_other sl_turned_about sl_picked sl_settled_by sl_compared sl_how_stands sl_looked sl_is_order sl_each_once sl_table_of sl_looks_of sl_looks_agree sl_against_ranks sl_ranks_in sl_by_size sl__law_deck sl__law_take sl__law_common sl__law_least sl__law_whole_number sl__law_number sl__law_book sl__law_options sl__law_room sl__law_order sl__law_numbers sl__law_thing sl__law_good_order sl__law_about sl__law_turn_about sl__law_tame sl_law : Array (Option Value)} {oc_telling kV_telling dc_telling pm_telling cd_telling ct_telling oc_taken kV_taken dc_taken pm_taken cd_taken ct_taken oc_word_told kV_word_told dc_word_told pm_word_told cd_word_told ct_word_told oc_put_together kV_put_together dc_put_together pm_put_together cd_put_together ct_put_together oc_is_open kV_is_open dc_is_open pm_is_open cd_is_open ct_is_open oc_answer kV_answer dc_answer pm_answer cd_answer ct_answer oc_one_then_other kV_one_then_other dc_one_then_other pm_one_then_other cd_one_then_other ct_one_then_other oc_turned_about kV_turned_about dc_turned_about pm_turned_about cd_turned_about ct_turned_about oc_picked kV_picked dc_picked pm_picked cd_picked ct_picked oc_settled_by kV_settled_by dc_settled_by pm_settled_by cd_settled_by ct_settled_by oc_compared kV_compared dc_compared pm_compared cd_compared ct_compared oc_how_stands kV_how_stands dc_how_stands pm_how_stands cd_how_stands ct_how_stands oc_looked kV_looked dc_looked pm_looked cd_looked ct_looked oc_is_order kV_is_order dc_is_order pm_is_order cd_is_order ct_is_order oc_each_once kV_each_once dc_each_once pm_each_once cd_each_once ct_each_once oc_table_of kV_table_of dc_table_of pm_table_of cd_table_of ct_table_of oc_looks_of kV_looks_of dc_looks_of pm_looks_of cd_looks_of ct_looks_of oc_looks_agree kV_looks_agree dc_looks_agree pm_looks_agree cd_looks_agree ct_looks_agree oc_against_ranks kV_against_ranks dc_against_ranks pm_against_ranks cd_against_ranks ct_against_ranks oc_ranks_in kV_ranks_in dc_ranks_in pm_ranks_in cd_ranks_in ct_ranks_in oc_by_size kV_by_size dc_by_size pm_by_size cd_by_size ct_by_size oc__law_deck kV__law_deck dc__law_deck pm__law_deck cd__law_deck ct__law_deck oc__law_take kV__law_take dc__law_take pm__law_take cd__law_take ct__law_take oc__law_common kV__law_common dc__law_common pm__law_common cd__law_common ct__law_common oc__law_least kV__law_least dc__law_least pm__law_least cd__law_least ct__law_least oc__law_whole_number kV__law_whole_number dc__law_whole_number pm__law_whole_number cd__law_whole_number ct__law_whole_number oc__law_number kV__law_number dc__law_number pm__law_number cd__law_number ct__law_number oc__law_book kV__law_book dc__law_book pm__law_book cd__law_book ct__law_book oc__law_options kV__law_options dc__law_options pm__law_options cd__law_options ct__law_options oc__law_room kV__law_room dc__law_room pm__law_room cd__law_room ct__law_room oc__law_order kV__law_order dc__law_order pm__law_order cd__law_order ct__law_order oc__law_numbers kV__law_numbers dc__law_numbers pm__law_numbers cd__law_numbers ct__law_numbers oc__law_thing kV__law_thing dc__law_thing pm__law_thing cd__law_thing ct__law_thing oc__law_good_order kV__law_good_order dc__law_good_order pm__law_good_order cd__law_good_order ct__law_good_order oc__law_about kV__law_about dc__law_about pm__law_about cd__law_about ct__law_about oc__law_turn_about kV__law_turn_about dc__law_turn_about pm__law_turn_about cd__law_turn_about ct__law_turn_about oc__law_tame kV__law_tame dc__law_tame pm__law_tame cd__law_tame ct__law_tame oc_law kV_law dc_law pm_law cd_law ct_law : Value}
    (a_telling : PySem.W.nsIn K mainGlobals "telling" = some (some (.ref f_telling))) (l_telling : K.lookup f_telling = some ⟨oc_telling, od_telling, .func (PySem.W.fnOf "telling" "telling" (defArgs s_telling) (defBody s_telling) (defScope s_telling) .none kV_telling dc_telling pm_telling an_telling cd_telling ct_telling), sl_telling⟩) (c_telling : PySem.W.codeIn K cd_telling "telling" = true) (k_telling : PySem.W.keepIn K (.ref f_telling) = true)
    (a_taken : PySem.W.nsIn K mainGlobals "taken" = some (some (.ref f_taken))) (l_taken : K.lookup f_taken = some ⟨oc_taken, od_taken, .func (PySem.W.fnOf "taken" "taken" (defArgs s_taken) (defBody s_taken) (defScope s_taken) .none kV_taken dc_taken pm_taken an_taken cd_taken ct_taken), sl_taken⟩) (c_taken : PySem.W.codeIn K cd_taken "taken" = true) (k_taken : PySem.W.keepIn K (.ref f_taken) = true)
    (a_word_told : PySem.W.nsIn K mainGlobals "word_told" = some (some (.ref f_word_told))) (l_word_told : K.lookup f_word_told = some ⟨oc_word_told, od_word_told, .func (PySem.W.fnOf "word_told" "word_told" (defArgs s_word_told) (defBody s_word_told) (defScope s_word_told) .none kV_word_told dc_word_told pm_word_told an_word_told cd_word_told ct_word_told), sl_word_told⟩) (c_word_told : PySem.W.codeIn K cd_word_told "word_told" = true) (k_word_told : PySem.W.keepIn K (.ref f_word_told) = true)
    (a_put_together : PySem.W.nsIn K mainGlobals "put_together" = some (some (.ref f_put_together))) (l_put_together : K.lookup f_put_together = some ⟨oc_put_together, od_put_together, .func (PySem.W.fnOf "put_together" "put_together" (defArgs s_put_together) (defBody s_put_together) (defScope s_put_together) .none kV_put_together dc_put_together pm_put_together an_put_together cd_put_together ct_put_together), sl_put_together⟩) (c_put_together : PySem.W.codeIn K cd_put_together "put_together" = true) (k_put_together : PySem.W.keepIn K (.ref f_put_together) = true)
    (a_is_open : PySem.W.nsIn K mainGlobals "is_open" = some (some (.ref f_is_open))) (l_is_open : K.lookup f_is_open = some ⟨oc_is_open, od_is_open, .func (PySem.W.fnOf "is_open" "is_open" (defArgs s_is_open) (defBody s_is_open) (defScope s_is_open) .none kV_is_open dc_is_open pm_is_open an_is_open cd_is_open ct_is_open), sl_is_open⟩) (c_is_open : PySem.W.codeIn K cd_is_open "is_open" = true) (k_is_open : PySem.W.keepIn K (.ref f_is_open) = true)
    (a_answer : PySem.W.nsIn K mainGlobals "answer" = some (some (.ref f_answer))) (l_answer : K.lookup f_answer = some ⟨oc_answer, od_answer, .func (PySem.W.fnOf "answer" "answer" (defArgs s_answer) (defBody s_answer) (defScope s_answer) .none kV_answer dc_answer pm_answer an_answer cd_answer ct_answer), sl_answer⟩) (c_answer : PySem.W.codeIn K cd_answer "answer" = true) (k_answer : PySem.W.keepIn K (.ref f_answer) = true)
    (a_one_then_other : PySem.W.nsIn K mainGlobals "one_then_other" = some (some (.ref f_one_then_other))) (l_one_then_other : K.lookup f_one_then_other = some ⟨oc_one_then_other, od_one_then_other, .func (PySem.W.fnOf "one_then_other" "one_then_other" (defArgs s_one_then_other) (defBody s_one_then_other) (defScope s_one_then_other) .none kV_one_then_other dc_one_then_other pm_one_then_other an_one_then_other cd_one_then_other ct_one_then_other), sl_one_then_other⟩) (c_one_then_other : PySem.W.codeIn K cd_one_then_other "one_then_other" = true) (k_one_then_other : PySem.W.keepIn K (.ref f_one_then_other) = true)
    (a_turned_about : PySem.W.nsIn K mainGlobals "turned_about" = some (some (.ref f_turned_about))) (l_turned_about : K.lookup f_turned_about = some ⟨oc_turned_about, od_turned_about, .func (PySem.W.fnOf "turned_about" "turned_about" (defArgs s_turned_about) (defBody s_turned_about) (defScope s_turned_about) .none kV_turned_about dc_turned_about pm_turned_about an_turned_about cd_turned_about ct_turned_about), sl_turned_about⟩) (c_turned_about : PySem.W.codeIn K cd_turned_about "turned_about" = true) (k_turned_about : PySem.W.keepIn K (.ref f_turned_about) = true)
    (a_picked : PySem.W.nsIn K mainGlobals "picked" = some (some (.ref f_picked))) (l_picked : K.lookup f_picked = some ⟨oc_picked, od_picked, .func (PySem.W.fnOf "picked" "picked" (defArgs s_picked) (defBody s_picked) (defScope s_picked) .none kV_picked dc_picked pm_picked an_picked cd_picked ct_picked), sl_picked⟩) (c_picked : PySem.W.codeIn K cd_picked "picked" = true) (k_picked : PySem.W.keepIn K (.ref f_picked) = true)
    (a_settled_by : PySem.W.nsIn K mainGlobals "settled_by" = some (some (.ref f_settled_by))) (l_settled_by : K.lookup f_settled_by = some ⟨oc_settled_by, od_settled_by, .func (PySem.W.fnOf "settled_by" "settled_by" (defArgs s_settled_by) (defBody s_settled_by) (defScope s_settled_by) .none kV_settled_by dc_settled_by pm_settled_by an_settled_by cd_settled_by ct_settled_by), sl_settled_by⟩) (c_settled_by : PySem.W.codeIn K cd_settled_by "settled_by" = true) (k_settled_by : PySem.W.keepIn K (.ref f_settled_by) = true)
    (a_compared : PySem.W.nsIn K mainGlobals "compared" = some (some (.ref f_compared))) (l_compared : K.lookup f_compared = some ⟨oc_compared, od_compared, .func (PySem.W.fnOf "compared" "compared" (defArgs s_compared) (defBody s_compared) (defScope s_compared) .none kV_compared dc_compared pm_compared an_compared cd_compared ct_compared), sl_compared⟩) (c_compared : PySem.W.codeIn K cd_compared "compared" = true) (k_compared : PySem.W.keepIn K (.ref f_compared) = true)
    (a_how_stands : PySem.W.nsIn K mainGlobals "how_stands" = some (some (.ref f_how_stands))) (l_how_stands : K.lookup f_how_stands = some ⟨oc_how_stands, od_how_stands, .func (PySem.W.fnOf "how_stands" "how_stands" (defArgs s_how_stands) (defBody s_how_stands) (defScope s_how_stands) .none kV_how_stands dc_how_stands pm_how_stands an_how_stands cd_how_stands ct_how_stands), sl_how_stands⟩) (c_how_stands : PySem.W.codeIn K cd_how_stands "how_stands" = true) (k_how_stands : PySem.W.keepIn K (.ref f_how_stands) = true)
    (a_looked : PySem.W.nsIn K mainGlobals "looked" = some (some (.ref f_looked))) (l_looked : K.lookup f_looked = some ⟨oc_looked, od_looked, .func (PySem.W.fnOf "looked" "looked" (defArgs s_looked) (defBody s_looked) (defScope s_looked) .none kV_looked dc_looked pm_looked an_looked cd_looked ct_looked), sl_looked⟩) (c_looked : PySem.W.codeIn K cd_looked "looked" = true) (k_looked : PySem.W.keepIn K (.ref f_looked) = true)
    (a_is_order : PySem.W.nsIn K mainGlobals "is_order" = some (some (.ref f_is_order))) (l_is_order : K.lookup f_is_order = some ⟨oc_is_order, od_is_order, .func (PySem.W.fnOf "is_order" "is_order" (defArgs s_is_order) (defBody s_is_order) (defScope s_is_order) .none kV_is_order dc_is_order pm_is_order an_is_order cd_is_order ct_is_order), sl_is_order⟩) (c_is_order : PySem.W.codeIn K cd_is_order "is_order" = true) (k_is_order : PySem.W.keepIn K (.ref f_is_order) = true)
    (a_each_once : PySem.W.nsIn K mainGlobals "each_once" = some (some (.ref f_each_once))) (l_each_once : K.lookup f_each_once = some ⟨oc_each_once, od_each_once, .func (PySem.W.fnOf "each_once" "each_once" (defArgs s_each_once) (defBody s_each_once) (defScope s_each_once) .none kV_each_once dc_each_once pm_each_once an_each_once cd_each_once ct_each_once), sl_each_once⟩) (c_each_once : PySem.W.codeIn K cd_each_once "each_once" = true) (k_each_once : PySem.W.keepIn K (.ref f_each_once) = true)
    (a_table_of : PySem.W.nsIn K mainGlobals "table_of" = some (some (.ref f_table_of))) (l_table_of : K.lookup f_table_of = some ⟨oc_table_of, od_table_of, .func (PySem.W.fnOf "table_of" "table_of" (defArgs s_table_of) (defBody s_table_of) (defScope s_table_of) .none kV_table_of dc_table_of pm_table_of an_table_of cd_table_of ct_table_of), sl_table_of⟩) (c_table_of : PySem.W.codeIn K cd_table_of "table_of" = true) (k_table_of : PySem.W.keepIn K (.ref f_table_of) = true)
    (a_looks_of : PySem.W.nsIn K mainGlobals "looks_of" = some (some (.ref f_looks_of))) (l_looks_of : K.lookup f_looks_of = some ⟨oc_looks_of, od_looks_of, .func (PySem.W.fnOf "looks_of" "looks_of" (defArgs s_looks_of) (defBody s_looks_of) (defScope s_looks_of) .none kV_looks_of dc_looks_of pm_looks_of an_looks_of cd_looks_of ct_looks_of), sl_looks_of⟩) (c_looks_of : PySem.W.codeIn K cd_looks_of "looks_of" = true) (k_looks_of : PySem.W.keepIn K (.ref f_looks_of) = true)
    (a_looks_agree : PySem.W.nsIn K mainGlobals "looks_agree" = some (some (.ref f_looks_agree))) (l_looks_agree : K.lookup f_looks_agree = some ⟨oc_looks_agree, od_looks_agree, .func (PySem.W.fnOf "looks_agree" "looks_agree" (defArgs s_looks_agree) (defBody s_looks_agree) (defScope s_looks_agree) .none kV_looks_agree dc_looks_agree pm_looks_agree an_looks_agree cd_looks_agree ct_looks_agree), sl_looks_agree⟩) (c_looks_agree : PySem.W.codeIn K cd_looks_agree "looks_agree" = true) (k_looks_agree : PySem.W.keepIn K (.ref f_looks_agree) = true)
    (a_against_ranks : PySem.W.nsIn K mainGlobals "against_ranks" = some (some (.ref f_against_ranks))) (l_against_ranks : K.lookup f_against_ranks = some ⟨oc_against_ranks, od_against_ranks, .func (PySem.W.fnOf "against_ranks" "against_ranks" (defArgs s_against_ranks) (defBody s_against_ranks) (defScope s_against_ranks) .none kV_against_ranks dc_against_ranks pm_against_ranks an_against_ranks cd_against_ranks ct_against_ranks), sl_against_ranks⟩) (c_against_ranks : PySem.W.codeIn K cd_against_ranks "against_ranks" = true) (k_against_ranks : PySem.W.keepIn K (.ref f_against_ranks) = true)
    (a_ranks_in : PySem.W.nsIn K mainGlobals "ranks_in" = some (some (.ref f_ranks_in))) (l_ranks_in : K.lookup f_ranks_in = some ⟨oc_ranks_in, od_ranks_in, .func (PySem.W.fnOf "ranks_in" "ranks_in" (defArgs s_ranks_in) (defBody s_ranks_in) (defScope s_ranks_in) .none kV_ranks_in dc_ranks_in pm_ranks_in an_ranks_in cd_ranks_in ct_ranks_in), sl_ranks_in⟩) (c_ranks_in : PySem.W.codeIn K cd_ranks_in "ranks_in" = true) (k_ranks_in : PySem.W.keepIn K (.ref f_ranks_in) = true)
    (a_by_size : PySem.W.nsIn K mainGlobals "by_size" = some (some (.ref f_by_size))) (l_by_size : K.lookup f_by_size = some ⟨oc_by_size, od_by_size, .func (PySem.W.fnOf "by_size" "by_size" (defArgs s_by_size) (defBody s_by_size) (defScope s_by_size) .none kV_by_size dc_by_size pm_by_size an_by_size cd_by_size ct_by_size), sl_by_size⟩) (c_by_size : PySem.W.codeIn K cd_by_size "by_size" = true) (k_by_size : PySem.W.keepIn K (.ref f_by_size) = true)
    (a__law_deck : PySem.W.nsIn K mainGlobals "_law_deck" = some (some (.ref f__law_deck))) (l__law_deck : K.lookup f__law_deck = some ⟨oc__law_deck, od__law_deck, .func (PySem.W.fnOf "_law_deck" "_law_deck" (defArgs s__law_deck) (defBody s__law_deck) (defScope s__law_deck) .none kV__law_deck dc__law_deck pm__law_deck an__law_deck cd__law_deck ct__law_deck), sl__law_deck⟩) (c__law_deck : PySem.W.codeIn K cd__law_deck "_law_deck" = true) (k__law_deck : PySem.W.keepIn K (.ref f__law_deck) = true)
    (a__law_take : PySem.W.nsIn K mainGlobals "_law_take" = some (some (.ref f__law_take))) (l__law_take : K.lookup f__law_take = some ⟨oc__law_take, od__law_take, .func (PySem.W.fnOf "_law_take" "_law_take" (defArgs s__law_take) (defBody s__law_take) (defScope s__law_take) .none kV__law_take dc__law_take pm__law_take an__law_take cd__law_take ct__law_take), sl__law_take⟩) (c__law_take : PySem.W.codeIn K cd__law_take "_law_take" = true) (k__law_take : PySem.W.keepIn K (.ref f__law_take) = true)
    (a__law_common : PySem.W.nsIn K mainGlobals "_law_common" = some (some (.ref f__law_common))) (l__law_common : K.lookup f__law_common = some ⟨oc__law_common, od__law_common, .func (PySem.W.fnOf "_law_common" "_law_common" (defArgs s__law_common) (defBody s__law_common) (defScope s__law_common) .none kV__law_common dc__law_common pm__law_common an__law_common cd__law_common ct__law_common), sl__law_common⟩) (c__law_common : PySem.W.codeIn K cd__law_common "_law_common" = true) (k__law_common : PySem.W.keepIn K (.ref f__law_common) = true)
    (a__law_least : PySem.W.nsIn K mainGlobals "_law_least" = some (some (.ref f__law_least))) (l__law_least : K.lookup f__law_least = some ⟨oc__law_least, od__law_least, .func (PySem.W.fnOf "_law_least" "_law_least" (defArgs s__law_least) (defBody s__law_least) (defScope s__law_least) .none kV__law_least dc__law_least pm__law_least an__law_least cd__law_least ct__law_least), sl__law_least⟩) (c__law_least : PySem.W.codeIn K cd__law_least "_law_least" = true) (k__law_least : PySem.W.keepIn K (.ref f__law_least) = true)
    (a__law_whole_number : PySem.W.nsIn K mainGlobals "_law_whole_number" = some (some (.ref f__law_whole_number))) (l__law_whole_number : K.lookup f__law_whole_number = some ⟨oc__law_whole_number, od__law_whole_number, .func (PySem.W.fnOf "_law_whole_number" "_law_whole_number" (defArgs s__law_whole_number) (defBody s__law_whole_number) (defScope s__law_whole_number) .none kV__law_whole_number dc__law_whole_number pm__law_whole_number an__law_whole_number cd__law_whole_number ct__law_whole_number), sl__law_whole_number⟩) (c__law_whole_number : PySem.W.codeIn K cd__law_whole_number "_law_whole_number" = true) (k__law_whole_number : PySem.W.keepIn K (.ref f__law_whole_number) = true)
    (a__law_number : PySem.W.nsIn K mainGlobals "_law_number" = some (some (.ref f__law_number))) (l__law_number : K.lookup f__law_number = some ⟨oc__law_number, od__law_number, .func (PySem.W.fnOf "_law_number" "_law_number" (defArgs s__law_number) (defBody s__law_number) (defScope s__law_number) .none kV__law_number dc__law_number pm__law_number an__law_number cd__law_number ct__law_number), sl__law_number⟩) (c__law_number : PySem.W.codeIn K cd__law_number "_law_number" = true) (k__law_number : PySem.W.keepIn K (.ref f__law_number) = true)
    (a__law_book : PySem.W.nsIn K mainGlobals "_law_book" = some (some (.ref f__law_book))) (l__law_book : K.lookup f__law_book = some ⟨oc__law_book, od__law_book, .func (PySem.W.fnOf "_law_book" "_law_book" (defArgs s__law_book) (defBody s__law_book) (defScope s__law_book) .none kV__law_book dc__law_book pm__law_book an__law_book cd__law_book ct__law_book), sl__law_book⟩) (c__law_book : PySem.W.codeIn K cd__law_book "_law_book" = true) (k__law_book : PySem.W.keepIn K (.ref f__law_book) = true)
    (a__law_options : PySem.W.nsIn K mainGlobals "_law_options" = some (some (.ref f__law_options))) (l__law_options : K.lookup f__law_options = some ⟨oc__law_options, od__law_options, .func (PySem.W.fnOf "_law_options" "_law_options" (defArgs s__law_options) (defBody s__law_options) (defScope s__law_options) .none kV__law_options dc__law_options pm__law_options an__law_options cd__law_options ct__law_options), sl__law_options⟩) (c__law_options : PySem.W.codeIn K cd__law_options "_law_options" = true) (k__law_options : PySem.W.keepIn K (.ref f__law_options) = true)
    (a__law_room : PySem.W.nsIn K mainGlobals "_law_room" = some (some (.ref f__law_room))) (l__law_room : K.lookup f__law_room = some ⟨oc__law_room, od__law_room, .func (PySem.W.fnOf "_law_room" "_law_room" (defArgs s__law_room) (defBody s__law_room) (defScope s__law_room) .none kV__law_room dc__law_room pm__law_room an__law_room cd__law_room ct__law_room), sl__law_room⟩) (c__law_room : PySem.W.codeIn K cd__law_room "_law_room" = true) (k__law_room : PySem.W.keepIn K (.ref f__law_room) = true)
    (a__law_order : PySem.W.nsIn K mainGlobals "_law_order" = some (some (.ref f__law_order))) (l__law_order : K.lookup f__law_order = some ⟨oc__law_order, od__law_order, .func (PySem.W.fnOf "_law_order" "_law_order" (defArgs s__law_order) (defBody s__law_order) (defScope s__law_order) .none kV__law_order dc__law_order pm__law_order an__law_order cd__law_order ct__law_order), sl__law_order⟩) (c__law_order : PySem.W.codeIn K cd__law_order "_law_order" = true) (k__law_order : PySem.W.keepIn K (.ref f__law_order) = true)
    (a__law_numbers : PySem.W.nsIn K mainGlobals "_law_numbers" = some (some (.ref f__law_numbers))) (l__law_numbers : K.lookup f__law_numbers = some ⟨oc__law_numbers, od__law_numbers, .func (PySem.W.fnOf "_law_numbers" "_law_numbers" (defArgs s__law_numbers) (defBody s__law_numbers) (defScope s__law_numbers) .none kV__law_numbers dc__law_numbers pm__law_numbers an__law_numbers cd__law_numbers ct__law_numbers), sl__law_numbers⟩) (c__law_numbers : PySem.W.codeIn K cd__law_numbers "_law_numbers" = true) (k__law_numbers : PySem.W.keepIn K (.ref f__law_numbers) = true)
    (a__law_thing : PySem.W.nsIn K mainGlobals "_law_thing" = some (some (.ref f__law_thing))) (l__law_thing : K.lookup f__law_thing = some ⟨oc__law_thing, od__law_thing, .func (PySem.W.fnOf "_law_thing" "_law_thing" (defArgs s__law_thing) (defBody s__law_thing) (defScope s__law_thing) .none kV__law_thing dc__law_thing pm__law_thing an__law_thing cd__law_thing ct__law_thing), sl__law_thing⟩) (c__law_thing : PySem.W.codeIn K cd__law_thing "_law_thing" = true) (k__law_thing : PySem.W.keepIn K (.ref f__law_thing) = true)
    (a__law_good_order : PySem.W.nsIn K mainGlobals "_law_good_order" = some (some (.ref f__law_good_order))) (l__law_good_order : K.lookup f__law_good_order = some ⟨oc__law_good_order, od__law_good_order, .func (PySem.W.fnOf "_law_good_order" "_law_good_order" (defArgs s__law_good_order) (defBody s__law_good_order) (defScope s__law_good_order) .none kV__law_good_order dc__law_good_order pm__law_good_order an__law_good_order cd__law_good_order ct__law_good_order), sl__law_good_order⟩) (c__law_good_order : PySem.W.codeIn K cd__law_good_order "_law_good_order" = true) (k__law_good_order : PySem.W.keepIn K (.ref f__law_good_order) = true)
    (a__law_about : PySem.W.nsIn K mainGlobals "_law_about" = some (some (.ref f__law_about))) (l__law_about : K.lookup f__law_about = some ⟨oc__law_about, od__law_about, .func (PySem.W.fnOf "_law_about" "_law_about" (defArgs s__law_about) (defBody s__law_about) (defScope s__law_about) .none kV__law_about dc__law_about pm__law_about an__law_about cd__law_about ct__law_about), sl__law_about⟩) (c__law_about : PySem.W.codeIn K cd__law_about "_law_about" = true) (k__law_about : PySem.W.keepIn K (.ref f__law_about) = true)
    (a__law_turn_about : PySem.W.nsIn K mainGlobals "_law_turn_about" = some (some (.ref f__law_turn_about))) (l__law_turn_about : K.lookup f__law_turn_about = some ⟨oc__law_turn_about, od__law_turn_about, .func (PySem.W.fnOf "_law_turn_about" "_law_turn_about" (defArgs s__law_turn_about) (defBody s__law_turn_about) (defScope s__law_turn_about) .none kV__law_turn_about dc__law_turn_about pm__law_turn_about an__law_turn_about cd__law_turn_about ct__law_turn_about), sl__law_turn_about⟩) (c__law_turn_about : PySem.W.codeIn K cd__law_turn_about "_law_turn_about" = true) (k__law_turn_about : PySem.W.keepIn K (.ref f__law_turn_about) = true)
    (a__law_tame : PySem.W.nsIn K mainGlobals "_law_tame" = some (some (.ref f__law_tame))) (l__law_tame : K.lookup f__law_tame = some ⟨oc__law_tame, od__law_tame, .func (PySem.W.fnOf "_law_tame" "_law_tame" (defArgs s__law_tame) (defBody s__law_tame) (defScope s__law_tame) .none kV__law_tame dc__law_tame pm__law_tame an__law_tame cd__law_tame ct__law_tame), sl__law_tame⟩) (c__law_tame : PySem.W.codeIn K cd__law_tame "_law_tame" = true) (k__law_tame : PySem.W.keepIn K (.ref f__law_tame) = true)
    (a_law : PySem.W.nsIn K mainGlobals "law" = some (some (.ref f_law))) (l_law : K.lookup f_law = some ⟨oc_law, od_law, .func (PySem.W.fnOf "law" "law" (defArgs s_law) (defBody s_law) (defScope s_law) .none kV_law dc_law pm_law an_law cd_law ct_law), sl_law⟩) (c_law : PySem.W.codeIn K cd_law "law" = true) (k_law : PySem.W.keepIn K (.ref f_law) = true)
    (q_looked : cd_looked = .ref 133) (h_looked : PySem.W.codeHdIn K 133 129 = true) (n_looked : K.lookup 129 = none)
    (z_len : PySem.W.nsIn K mainGlobals "len" = some none)
    (z_range : PySem.W.nsIn K mainGlobals "range" = some none)
    (z_tuple : PySem.W.nsIn K mainGlobals "tuple" = some none)
    (z_isinstance : PySem.W.nsIn K mainGlobals "isinstance" = some none)
    (z_list : PySem.W.nsIn K mainGlobals "list" = some none)
    (z_sum : PySem.W.nsIn K mainGlobals "sum" = some none)
    (z_max : PySem.W.nsIn K mainGlobals "max" = some none)
    (z_str : PySem.W.nsIn K mainGlobals "str" = some none)
    (z_int : PySem.W.nsIn K mainGlobals "int" = some none)
    (z_reversed : PySem.W.nsIn K mainGlobals "reversed" = some none)
    (z_enumerate : PySem.W.nsIn K mainGlobals "enumerate" = some none)
    {aW : Addr} {esW : Array DictEntry} {nW : Nat}
    (aWo : PySem.W.nsIn K mainGlobals "WORDS" = some (some (.ref aW))) (lWo : K.lookup aW = some ⟨.type "dict", none, .dict esW nW, #[]⟩) (kWo : PySem.W.KeysLit w.params esW.toList) (oWo : (aW == sysModules) = false) (vWo : wdsOk K esW.toList Ord.wordsT = true)
    {aA : Addr} {esA : Array DictEntry} {nA : Nat}
    (aAo : PySem.W.nsIn K mainGlobals "AHEAD" = some (some (.ref aA))) (lAo : K.lookup aA = some ⟨.type "dict", none, .dict esA nA, #[]⟩) (kAo : PySem.W.KeysLit w.params esA.toList) (oAo : (aA == sysModules) = false) (vAo : tdsOk esA.toList aheadT = true)
    {aO : Addr} {esO : Array DictEntry} {nO : Nat}
    (aOo : PySem.W.nsIn K mainGlobals "OTHER_WAY" = some (some (.ref aO))) (lOo : K.lookup aO = some ⟨.type "dict", none, .dict esO nO, #[]⟩) (kOo : PySem.W.KeysLit w.params esO.toList) (oOo : (aO == sysModules) = false) (vOo : tdsOk esO.toList otherT = true)
    (tt : PySem.W.kitOne K (.type "tuple") (.type "tuple") = some true)
    (st : PySem.W.kitOne K (.type "str") (.type "tuple") = some false)
    (bt : PySem.W.kitOne K (.type "bool") (.type "tuple") = some false) :
    ∃ fd : FuncData, (∀ (s : Shared) (v : Value), BindsTo s fd ⟨[v], []⟩ [("script", v)]) ∧ ((∀ p ∈ tabs, K.lookup p.1 = none) ∧ (∀ p ∈ tabs, isCodeTable h p.1) ∧ (tabs.map (·.1)).Nodup) ∧ ∀ base : Heap, K.In base → base.Ns mainGlobals mg → Bs K mg base → FnOk l.prog w K mg base CX0 10 fa fd ["script"] (spLawT K tabs) := by
  have e := hfa.symm.trans (PySem.W.mg_of X G a_law)
  cases e
  obtain ⟨W⟩ := Ord.wds_of (P := w.params) (PySem.W.mg_of X G aWo) lWo kWo oWo vWo
  obtain ⟨W1⟩ := txs_of (P := w.params) (PySem.W.mg_of X G aAo) lAo kAo oAo vAo
  obtain ⟨W2⟩ := txs_of (P := w.params) (PySem.W.mg_of X G aOo) lOo kOo oOo vOo
  exact ⟨PySem.W.fnOf "law" "law" (defArgs s_law) (defBody s_law) (defScope s_law) .none kV_law dc_law pm_law an_law cd_law ct_law, fun s v => .of_eq rfl, ⟨(List.forall_mem_cons.mpr ⟨n_looked, (fun _ h => nomatch h)⟩), (List.forall_mem_cons.mpr ⟨isTab_of X h_looked, (fun _ h => nomatch h)⟩), by decide⟩, fun base _ _ M => ok_law (fun_mk (st := s_law) l_law c_law k_law)
    ⟨f_telling, _, (fun_mk (st := s_telling) l_telling c_telling k_telling), (fun_mk (st := s_telling) l_telling c_telling k_telling).binds (ps := ["order", "by_field", "by_mark"]) fun _ _ _ _ _ _ us hl => match us, hl with | [_, _, _], _ => rfl, PySem.W.mg_of X G a_telling,
      f_taken, _, (fun_mk (st := s_taken) l_taken c_taken k_taken), (fun_mk (st := s_taken) l_taken c_taken k_taken).binds (ps := ["told", "many"]) fun _ _ _ _ _ _ us hl => match us, hl with | [_, _], _ => rfl, PySem.W.mg_of X G a_taken,
      f_word_told, _, (fun_mk (st := s_word_told) l_word_told c_word_told k_word_told), (fun_mk (st := s_word_told) l_word_told c_word_told k_word_told).binds (ps := ["word", "parts", "by_field", "by_mark"]) fun _ _ _ _ _ _ us hl => match us, hl with | [_, _, _, _], _ => rfl, PySem.W.mg_of X G a_word_told,
      f_put_together, _, (fun_mk (st := s_put_together) l_put_together c_put_together k_put_together), (fun_mk (st := s_put_together) l_put_together c_put_together k_put_together).binds (ps := ["word", "parts"]) fun _ _ _ _ _ _ us hl => match us, hl with | [_, _], _ => rfl, PySem.W.mg_of X G a_put_together,
      f_is_open, _, (fun_mk (st := s_is_open) l_is_open c_is_open k_is_open), (fun_mk (st := s_is_open) l_is_open c_is_open k_is_open).binds (ps := ["part"]) fun _ _ _ _ _ _ us hl => match us, hl with | [_], _ => rfl, PySem.W.mg_of X G a_is_open,
      f_answer, _, (fun_mk (st := s_answer) l_answer c_answer k_answer), (fun_mk (st := s_answer) l_answer c_answer k_answer).binds (ps := ["word", "how"]) fun _ _ _ _ _ _ us hl => match us, hl with | [_, _], _ => rfl, PySem.W.mg_of X G a_answer,
      f_one_then_other, _, (fun_mk (st := s_one_then_other) l_one_then_other c_one_then_other k_one_then_other), (fun_mk (st := s_one_then_other) l_one_then_other c_one_then_other k_one_then_other).binds (ps := ["one", "other"]) fun _ _ _ _ _ _ us hl => match us, hl with | [_, _], _ => rfl, PySem.W.mg_of X G a_one_then_other,
      f_turned_about, _, (fun_mk (st := s_turned_about) l_turned_about c_turned_about k_turned_about), (fun_mk (st := s_turned_about) l_turned_about c_turned_about k_turned_about).binds (ps := ["part"]) fun _ _ _ _ _ _ us hl => match us, hl with | [_], _ => rfl, PySem.W.mg_of X G a_turned_about,
      f_picked, _, (fun_mk (st := s_picked) l_picked c_picked k_picked), (fun_mk (st := s_picked) l_picked c_picked k_picked).binds (ps := ["case", "one", "other"]) fun _ _ _ _ _ _ us hl => match us, hl with | [_, _, _], _ => rfl, PySem.W.mg_of X G a_picked,
      f_settled_by, _, (fun_mk (st := s_settled_by) l_settled_by c_settled_by k_settled_by), (fun_mk (st := s_settled_by) l_settled_by c_settled_by k_settled_by).binds (ps := ["truth", "word", "parts"]) fun _ _ _ _ _ _ us hl => match us, hl with | [_, _, _], _ => rfl, PySem.W.mg_of X G a_settled_by,
      f_compared, _, (fun_mk (st := s_compared) l_compared c_compared k_compared), (fun_mk (st := s_compared) l_compared c_compared k_compared).binds (ps := ["one", "other"]) fun _ _ _ _ _ _ us hl => match us, hl with | [_, _], _ => rfl, PySem.W.mg_of X G a_compared,
      f_how_stands, _, (fun_mk (st := s_how_stands) l_how_stands c_how_stands k_how_stands), (fun_mk (st := s_how_stands) l_how_stands c_how_stands k_how_stands).binds (ps := ["one", "other"]) fun _ _ _ _ _ _ us hl => match us, hl with | [_, _], _ => rfl, PySem.W.mg_of X G a_how_stands,
      f_looked, _, (fun_mk (st := s_looked) l_looked c_looked k_looked), (fun_mk (st := s_looked) l_looked c_looked k_looked).binds (ps := ["order", "book", "first", "second"]) fun _ _ _ _ _ _ us hl => match us, hl with | [_, _, _, _], _ => rfl, PySem.W.mg_of X G a_looked,
      f_is_order, _, (fun_mk (st := s_is_order) l_is_order c_is_order k_is_order), (fun_mk (st := s_is_order) l_is_order c_is_order k_is_order).binds (ps := ["order", "book", "things"]) fun _ _ _ _ _ _ us hl => match us, hl with | [_, _, _], _ => rfl, PySem.W.mg_of X G a_is_order,
      f_each_once, _, (fun_mk (st := s_each_once) l_each_once c_each_once k_each_once), (fun_mk (st := s_each_once) l_each_once c_each_once k_each_once).binds (ps := ["things"]) fun _ _ _ _ _ _ us hl => match us, hl with | [_], _ => rfl, PySem.W.mg_of X G a_each_once,
      f_table_of, _, (fun_mk (st := s_table_of) l_table_of c_table_of k_table_of), (fun_mk (st := s_table_of) l_table_of c_table_of k_table_of).binds (ps := ["order", "book", "things"]) fun _ _ _ _ _ _ us hl => match us, hl with | [_, _, _], _ => rfl, PySem.W.mg_of X G a_table_of,
      f_looks_of, _, (fun_mk (st := s_looks_of) l_looks_of c_looks_of k_looks_of), (fun_mk (st := s_looks_of) l_looks_of c_looks_of k_looks_of).binds (ps := ["order", "book", "one", "things"]) fun _ _ _ _ _ _ us hl => match us, hl with | [_, _, _, _], _ => rfl, PySem.W.mg_of X G a_looks_of,
      f_looks_agree, _, (fun_mk (st := s_looks_agree) l_looks_agree c_looks_agree k_looks_agree), (fun_mk (st := s_looks_agree) l_looks_agree c_looks_agree k_looks_agree).binds (ps := ["table"]) fun _ _ _ _ _ _ us hl => match us, hl with | [_], _ => rfl, PySem.W.mg_of X G a_looks_agree,
      f_against_ranks, _, (fun_mk (st := s_against_ranks) l_against_ranks c_against_ranks k_against_ranks), (fun_mk (st := s_against_ranks) l_against_ranks c_against_ranks k_against_ranks).binds (ps := ["table"]) fun _ _ _ _ _ _ us hl => match us, hl with | [_], _ => rfl, PySem.W.mg_of X G a_against_ranks,
      f_ranks_in, _, (fun_mk (st := s_ranks_in) l_ranks_in c_ranks_in k_ranks_in), (fun_mk (st := s_ranks_in) l_ranks_in c_ranks_in k_ranks_in).binds (ps := ["table"]) fun _ _ _ _ _ _ us hl => match us, hl with | [_], _ => rfl, PySem.W.mg_of X G a_ranks_in,
      f_by_size, _, (fun_mk (st := s_by_size) l_by_size c_by_size k_by_size), (fun_mk (st := s_by_size) l_by_size c_by_size k_by_size).binds (ps := ["one", "other"]) fun _ _ _ _ _ _ us hl => match us, hl with | [_, _], _ => rfl, PySem.W.mg_of X G a_by_size,
      f__law_deck, _, (fun_mk (st := s__law_deck) l__law_deck c__law_deck k__law_deck), (fun_mk (st := s__law_deck) l__law_deck c__law_deck k__law_deck).binds (ps := ["script"]) fun _ _ _ _ _ _ us hl => match us, hl with | [_], _ => rfl, PySem.W.mg_of X G a__law_deck,
      f__law_take, _, (fun_mk (st := s__law_take) l__law_take c__law_take k__law_take), (fun_mk (st := s__law_take) l__law_take c__law_take k__law_take).binds (ps := ["deck", "many"]) fun _ _ _ _ _ _ us hl => match us, hl with | [_, _], _ => rfl, PySem.W.mg_of X G a__law_take,
      f__law_common, _, (fun_mk (st := s__law_common) l__law_common c__law_common k__law_common), (fun_mk (st := s__law_common) l__law_common c__law_common k__law_common).binds (ps := ["one", "other"]) fun _ _ _ _ _ _ us hl => match us, hl with | [_, _], _ => rfl, PySem.W.mg_of X G a__law_common,
      f__law_least, _, (fun_mk (st := s__law_least) l__law_least c__law_least k__law_least), (fun_mk (st := s__law_least) l__law_least c__law_least k__law_least).binds (ps := ["top", "below"]) fun _ _ _ _ _ _ us hl => match us, hl with | [_, _], _ => rfl, PySem.W.mg_of X G a__law_least,
      f__law_whole_number, _, (fun_mk (st := s__law_whole_number) l__law_whole_number c__law_whole_number k__law_whole_number), (fun_mk (st := s__law_whole_number) l__law_whole_number c__law_whole_number k__law_whole_number).binds (ps := ["deck"]) fun _ _ _ _ _ _ us hl => match us, hl with | [_], _ => rfl, PySem.W.mg_of X G a__law_whole_number,
      f__law_number, _, (fun_mk (st := s__law_number) l__law_number c__law_number k__law_number), (fun_mk (st := s__law_number) l__law_number c__law_number k__law_number).binds (ps := ["deck"]) fun _ _ _ _ _ _ us hl => match us, hl with | [_], _ => rfl, PySem.W.mg_of X G a__law_number,
      f__law_book, _, (fun_mk (st := s__law_book) l__law_book c__law_book k__law_book), (fun_mk (st := s__law_book) l__law_book c__law_book k__law_book).binds (ps := ["deck"]) fun _ _ _ _ _ _ us hl => match us, hl with | [_], _ => rfl, PySem.W.mg_of X G a__law_book,
      f__law_options, _, (fun_mk (st := s__law_options) l__law_options c__law_options k__law_options), (fun_mk (st := s__law_options) l__law_options c__law_options k__law_options).binds (ps := ["want"]) fun _ _ _ _ _ _ us hl => match us, hl with | [_], _ => rfl, PySem.W.mg_of X G a__law_options,
      f__law_room, _, (fun_mk (st := s__law_room) l__law_room c__law_room k__law_room), (fun_mk (st := s__law_room) l__law_room c__law_room k__law_room).binds (ps := ["due"]) fun _ _ _ _ _ _ us hl => match us, hl with | [_], _ => rfl, PySem.W.mg_of X G a__law_room,
      f__law_order, _, (fun_mk (st := s__law_order) l__law_order c__law_order k__law_order), (fun_mk (st := s__law_order) l__law_order c__law_order k__law_order).binds (ps := ["deck", "book", "numbers", "most"]) fun _ _ _ _ _ _ us hl => match us, hl with | [_, _, _, _], _ => rfl, PySem.W.mg_of X G a__law_order,
      f__law_numbers, _, (fun_mk (st := s__law_numbers) l__law_numbers c__law_numbers k__law_numbers), (fun_mk (st := s__law_numbers) l__law_numbers c__law_numbers k__law_numbers).binds (ps := ["deck"]) fun _ _ _ _ _ _ us hl => match us, hl with | [_], _ => rfl, PySem.W.mg_of X G a__law_numbers,
      f__law_thing, _, (fun_mk (st := s__law_thing) l__law_thing c__law_thing k__law_thing), (fun_mk (st := s__law_thing) l__law_thing c__law_thing k__law_thing).binds (ps := ["deck", "book", "numbers"]) fun _ _ _ _ _ _ us hl => match us, hl with | [_, _, _], _ => rfl, PySem.W.mg_of X G a__law_thing,
      f__law_good_order, _, (fun_mk (st := s__law_good_order) l__law_good_order c__law_good_order k__law_good_order), (fun_mk (st := s__law_good_order) l__law_good_order c__law_good_order k__law_good_order).binds (ps := ["deck", "book", "numbers"]) fun _ _ _ _ _ _ us hl => match us, hl with | [_, _, _], _ => rfl, PySem.W.mg_of X G a__law_good_order,
      f__law_about, _, (fun_mk (st := s__law_about) l__law_about c__law_about k__law_about), (fun_mk (st := s__law_about) l__law_about c__law_about k__law_about).binds (ps := ["side"]) fun _ _ _ _ _ _ us hl => match us, hl with | [_], _ => rfl, PySem.W.mg_of X G a__law_about,
      f__law_turn_about, _, (fun_mk (st := s__law_turn_about) l__law_turn_about c__law_turn_about k__law_turn_about), (fun_mk (st := s__law_turn_about) l__law_turn_about c__law_turn_about k__law_turn_about).binds (ps := ["order", "book", "things"]) fun _ _ _ _ _ _ us hl => match us, hl with | [_, _, _], _ => rfl, PySem.W.mg_of X G a__law_turn_about,
      f__law_tame, _, (fun_mk (st := s__law_tame) l__law_tame c__law_tame k__law_tame), (fun_mk (st := s__law_tame) l__law_tame c__law_tame k__law_tame).binds (ps := ["number"]) fun _ _ _ _ _ _ us hl => match us, hl with | [_], _ => rfl, PySem.W.mg_of X G a__law_tame,
      133, 129, q_looked, h_looked,
      PySem.W.mg_none_of X G z_len,
      PySem.W.mg_none_of X G z_range,
      PySem.W.mg_none_of X G z_tuple,
      PySem.W.mg_none_of X G z_isinstance,
      PySem.W.mg_none_of X G z_list,
      PySem.W.mg_none_of X G z_sum,
      PySem.W.mg_none_of X G z_max,
      PySem.W.mg_none_of X G z_str,
      PySem.W.mg_none_of X G z_int,
      PySem.W.mg_none_of X G z_reversed,
      PySem.W.mg_none_of X G z_enumerate,
      tt,
      st,
      bt⟩ W W1 W2 M⟩
theorem walk {l : PySem.W.OpenLaw} {q : Program} {loose : List Str} {XP : (Str → Option Value) → Heap → Prop} {YP : World → Heap → Prop} {d : DefRec} {K : Params → PySem.W.Frag} (hn : l.most = some 63) (hdf : d.params.defaults = [])
    (hY : ∀ (w : World) (h : Heap), YP w h → (K w.params).In h ∧ ∀ p ∈ tabs, h.get? p.1 = some { cls := .none, data := .fields #[] })
    (F : ∀ (w : World) (mg : Str → Option Value) (fa : Addr) (h : Heap), (K w.params).In h → h.Ns mainGlobals mg → mg d.name = some (.ref fa) →
      ∃ fd : FuncData, (∀ (s : Shared) (u : Value), BindsTo s fd ⟨[u], []⟩ [("script", u)]) ∧ ((∀ p ∈ tabs, (K w.params).lookup p.1 = none) ∧ (∀ p ∈ tabs, isCodeTable h p.1) ∧ (tabs.map (·.1)).Nodup) ∧ ∀ base : Heap, (K w.params).In base → base.Ns mainGlobals mg → Bs (K w.params) mg base → FnOk l.prog w (K w.params) mg base CX0 10 fa fd ["script"] (spLawT (K w.params) tabs)) :
    PySem.W.WalkO q loose XP YP l.row.toRowW d [] (fun f vs => PySem.call f vs) :=
  L2.walk_ofT (n := 63) (k := 10) (x := "script") (sp := fun w => spLawT (K w.params) tabs) (fun _ => tabs) hn (by decide) hdf ⟨rfl, by decide, by decide⟩ hY F (fun _ _ a ns hl hT hS => ⟨a, ns, rfl, hS, hl, hT, fun _ => rfl⟩)
end K12
def PySem.W.Fast.tw17782630302360302689 : Nat := 0
def PySem.W.Fast.tw10644045257248657446 : Nat := 0
def PySem.W.Fast.tw12724080573023829929 : Nat := 0
def PySem.W.Fast.tw4903657980639097711 : Nat := 0
def PySem.W.Fast.tw4197275755570036504 : Nat := 0
def PySem.W.Fast.tw13368190675458027292 : Nat := 0
open PySem PySem.W PyProof.Rows
set_option maxRecDepth 100000 in
set_option maxHeartbeats 0 in
theorem PySem.Challenge.cw_ordertext_k12_whole_orders_of_things_holds : PySem.Challenge.rw_ordertext_k12_whole_orders_of_things.Holds := by
  w_on; o_law; k_head; (case hw => w_witness2)
  k_fill
  refine K12.walk (l := PySem.Challenge.rw_ordertext_k12_whole_orders_of_things) rfl rfl (fun w h Y => ⟨PySem.W.km_in_of Y, (List.forall_mem_cons.mpr ⟨PySem.W.km_tabs_of Y _ (by first | k_mem | simp), (fun _ h => nomatch h)⟩)⟩) ?F
  case F =>
    intro w mg fa h KX G hmg
    refine' K12.all_mk KX G hmg ?a_telling ?l_telling ?c_telling ?k_telling ?a_taken ?l_taken ?c_taken ?k_taken ?a_word_told ?l_word_told ?c_word_told ?k_word_told ?a_put_together ?l_put_together ?c_put_together ?k_put_together ?a_is_open ?l_is_open ?c_is_open ?k_is_open ?a_answer ?l_answer ?c_answer ?k_answer ?a_one_then_other ?l_one_then_other ?c_one_then_other ?k_one_then_other ?a_turned_about ?l_turned_about ?c_turned_about ?k_turned_about ?a_picked ?l_picked ?c_picked ?k_picked ?a_settled_by ?l_settled_by ?c_settled_by ?k_settled_by ?a_compared ?l_compared ?c_compared ?k_compared ?a_how_stands ?l_how_stands ?c_how_stands ?k_how_stands ?a_looked ?l_looked ?c_looked ?k_looked ?a_is_order ?l_is_order ?c_is_order ?k_is_order ?a_each_once ?l_each_once ?c_each_once ?k_each_once ?a_table_of ?l_table_of ?c_table_of ?k_table_of ?a_looks_of ?l_looks_of ?c_looks_of ?k_looks_of ?a_looks_agree ?l_looks_agree ?c_looks_agree ?k_looks_agree ?a_against_ranks ?l_against_ranks ?c_against_ranks ?k_against_ranks ?a_ranks_in ?l_ranks_in ?c_ranks_in ?k_ranks_in ?a_by_size ?l_by_size ?c_by_size ?k_by_size ?a__law_deck ?l__law_deck ?c__law_deck ?k__law_deck ?a__law_take ?l__law_take ?c__law_take ?k__law_take ?a__law_common ?l__law_common ?c__law_common ?k__law_common ?a__law_least ?l__law_least ?c__law_least ?k__law_least ?a__law_whole_number ?l__law_whole_number ?c__law_whole_number ?k__law_whole_number ?a__law_number ?l__law_number ?c__law_number ?k__law_number ?a__law_book ?l__law_book ?c__law_book ?k__law_book ?a__law_options ?l__law_options ?c__law_options ?k__law_options ?a__law_room ?l__law_room ?c__law_room ?k__law_room ?a__law_order ?l__law_order ?c__law_order ?k__law_order ?a__law_numbers ?l__law_numbers ?c__law_numbers ?k__law_numbers ?a__law_thing ?l__law_thing ?c__law_thing ?k__law_thing ?a__law_good_order ?l__law_good_order ?c__law_good_order ?k__law_good_order ?a__law_about ?l__law_about ?c__law_about ?k__law_about ?a__law_turn_about ?l__law_turn_about ?c__law_turn_about ?k__law_turn_about ?a__law_tame ?l__law_tame ?c__law_tame ?k__law_tame ?a_law ?l_law ?c_law ?k_law ?q_looked ?h_looked ?n_looked ?z_len ?z_range ?z_tuple ?z_isinstance ?z_list ?z_sum ?z_max ?z_str ?z_int ?z_reversed ?z_enumerate ?aWo ?lWo ?kWo ?oWo ?vWo ?aAo ?lAo ?kAo ?oAo ?vAo ?aOo ?lOo ?kOo ?oOo ?vOo ?tt ?st ?bt
    (case a_telling => k_is)
    (case l_telling => k_is)
    (case c_telling => k_is)
    (case k_telling => k_is)
    (case a_taken => k_is)
    (case l_taken => k_is)
    (case c_taken => k_is)
    (case k_taken => k_is)
    (case a_word_told => k_is)
    (case l_word_told => k_is)
    (case c_word_told => k_is)
    (case k_word_told => k_is)
    (case a_put_together => k_is)
    (case l_put_together => k_is)
    (case c_put_together => k_is)
    (case k_put_together => k_is)
    (case a_is_open => k_is)
    (case l_is_open => k_is)
    (case c_is_open => k_is)
    (case k_is_open => k_is)
    (case a_answer => k_is)
    (case l_answer => k_is)
    (case c_answer => k_is)
    (case k_answer => k_is)
    (case a_one_then_other => k_is)
    (case l_one_then_other => k_is)
    (case c_one_then_other => k_is)
    (case k_one_then_other => k_is)
    (case a_turned_about => k_is)
    (case l_turned_about => k_is)
    (case c_turned_about => k_is)
    (case k_turned_about => k_is)
    (case a_picked => k_is)
    (case l_picked => k_is)
    (case c_picked => k_is)
    (case k_picked => k_is)
    (case a_settled_by => k_is)
    (case l_settled_by => k_is)
    (case c_settled_by => k_is)
    (case k_settled_by => k_is)
    (case a_compared => k_is)
    (case l_compared => k_is)
    (case c_compared => k_is)
    (case k_compared => k_is)
    (case a_how_stands => k_is)
    (case l_how_stands => k_is)
    (case c_how_stands => k_is)
    (case k_how_stands => k_is)
    (case a_looked => k_is)
    (case l_looked => k_is)
    (case c_looked => k_is)
    (case k_looked => k_is)
    (case a_is_order => k_is)
    (case l_is_order => k_is)
    (case c_is_order => k_is)
    (case k_is_order => k_is)
    (case a_each_once => k_is)
    (case l_each_once => k_is)
    (case c_each_once => k_is)
    (case k_each_once => k_is)
    (case a_table_of => k_is)
    (case l_table_of => k_is)
    (case c_table_of => k_is)
    (case k_table_of => k_is)
    (case a_looks_of => k_is)
    (case l_looks_of => k_is)
    (case c_looks_of => k_is)
    (case k_looks_of => k_is)
    (case a_looks_agree => k_is)
    (case l_looks_agree => k_is)
    (case c_looks_agree => k_is)
    (case k_looks_agree => k_is)
    (case a_against_ranks => k_is)
    (case l_against_ranks => k_is)
    (case c_against_ranks => k_is)
    (case k_against_ranks => k_is)
    (case a_ranks_in => k_is)
    (case l_ranks_in => k_is)
    (case c_ranks_in => k_is)
    (case k_ranks_in => k_is)
    (case a_by_size => k_is)
    (case l_by_size => k_is)
    (case c_by_size => k_is)
    (case k_by_size => k_is)
    (case a__law_deck => k_is)
    (case l__law_deck => k_is)
    (case c__law_deck => k_is)
    (case k__law_deck => k_is)
    (case a__law_take => k_is)
    (case l__law_take => k_is)
    (case c__law_take => k_is)
    (case k__law_take => k_is)
    (case a__law_common => k_is)
    (case l__law_common => k_is)
    (case c__law_common => k_is)
    (case k__law_common => k_is)
    (case a__law_least => k_is)
    (case l__law_least => k_is)
    (case c__law_least => k_is)
    (case k__law_least => k_is)
    (case a__law_whole_number => k_is)
    (case l__law_whole_number => k_is)
    (case c__law_whole_number => k_is)
    (case k__law_whole_number => k_is)
    (case a__law_number => k_is)
    (case l__law_number => k_is)
    (case c__law_number => k_is)
    (case k__law_number => k_is)
    (case a__law_book => k_is)
    (case l__law_book => k_is)
    (case c__law_book => k_is)
    (case k__law_book => k_is)
    (case a__law_options => k_is)
    (case l__law_options => k_is)
    (case c__law_options => k_is)
    (case k__law_options => k_is)
    (case a__law_room => k_is)
    (case l__law_room => k_is)
    (case c__law_room => k_is)
    (case k__law_room => k_is)
    (case a__law_order => k_is)
    (case l__law_order => k_is)
    (case c__law_order => k_is)
    (case k__law_order => k_is)
    (case a__law_numbers => k_is)
    (case l__law_numbers => k_is)
    (case c__law_numbers => k_is)
    (case k__law_numbers => k_is)
    (case a__law_thing => k_is)
    (case l__law_thing => k_is)
    (case c__law_thing => k_is)
    (case k__law_thing => k_is)
    (case a__law_good_order => k_is)
    (case l__law_good_order => k_is)
    (case c__law_good_order => k_is)
    (case k__law_good_order => k_is)
    (case a__law_about => k_is)
    (case l__law_about => k_is)
    (case c__law_about => k_is)
    (case k__law_about => k_is)
    (case a__law_turn_about => k_is)
    (case l__law_turn_about => k_is)
    (case c__law_turn_about => k_is)
    (case k__law_turn_about => k_is)
    (case a__law_tame => k_is)
    (case l__law_tame => k_is)
    (case c__law_tame => k_is)
    (case k__law_tame => k_is)
    (case a_law => k_is)
    (case l_law => k_is)
    (case c_law => k_is)
    (case k_law => k_is)
    (case q_looked => first | rfl | kernel_rfl | k_is)
    (case h_looked => first | rfl | kernel_rfl | k_is)
    (case n_looked => first | rfl | kernel_rfl | k_is)
    (case z_len => k_is)
    (case z_range => k_is)
    (case z_tuple => k_is)
    (case z_isinstance => k_is)
    (case z_list => k_is)
    (case z_sum => k_is)
    (case z_max => k_is)
    (case z_str => k_is)
    (case z_int => k_is)
    (case z_reversed => k_is)
    (case z_enumerate => k_is)
    (case aWo => k_is)
    (case lWo => k_is)
    (case kWo => k_keys)
    (case oWo => decide)
    (case vWo => kernel_rfl)
    (case aAo => k_is)
    (case lAo => k_is)
    (case kAo => k_keys)
    (case oAo => decide)
    (case vAo => kernel_rfl)
    (case aOo => k_is)
    (case lOo => k_is)
    (case kOo => k_keys)
    (case oOo => decide)
    (case vOo => kernel_rfl)
    (case tt => first | kit_is | k_is | rfl)
    (case st => first | kit_is | k_is | rfl)
    (case bt => first | kit_is | k_is | rfl)
