import PyProof.Rows.All
import Wide.All
import OpenK.AllK
import Wide.FinOn
import Lean
import PyProof.EqAt
import PyProof.EqKinds
import PyProof.TupleCall
import PySem.Challenge.RW_ordertext_k08_whole_shown_and_read
set_option Elab.async false
set_option linter.all false
set_option maxRecDepth 100000
namespace L2
open PySem PySem.Spec PyProof.Rows
abbrev Key := Sum Int Str
def keyIs : Key → Value → Bool
  | .inl k, v => Value.isInt k v
  | .inr x, v => Value.isStrOf x v
def keyH (w : World) : Key → Int
  | .inl k => hashInt k
  | .inr x => hashStr w x
theorem keyIs_shape : ∀ {k : Key} {v : Value}, keyIs k v = true → (∃ i t, k = Sum.inl i ∧ v = Value.int i t) ∨ (∃ x t, k = Sum.inr x ∧ v = Value.str x t)
  | .inl i, v, h => by
    obtain ⟨t, e⟩ := Value.isInt_shape (k := i) (v := v) h
    exact .inl ⟨i, t, rfl, e⟩
  | .inr x, v, h => by
    obtain ⟨t, e⟩ := Value.isStrOf_shape (x := x) (v := v) h
    exact .inr ⟨x, t, rfl, e⟩
theorem keyIs_int (i : Int) (t : Tok) : keyIs (.inl i) (.int i t) = true := by simp [keyIs, Value.isInt]
theorem keyIs_str (x : Str) (t : Tok) : keyIs (.inr x) (.str x t) = true := by simp [keyIs, Value.isStrOf]
theorem key_ll (a b : Int) : decide ((Sum.inl a : Key) = Sum.inl b) = (a == b) := by
  by_cases e : a = b
  · subst e; simp
  · have h : ¬ (Sum.inl a : Key) = Sum.inl b := fun q => e (Sum.inl.inj q)
    rw [decide_eq_false h]
    exact (beq_eq_false_iff_ne.mpr e).symm
theorem key_rr (a b : Str) : decide ((Sum.inr a : Key) = Sum.inr b) = decide (a = b) := by
  by_cases e : a = b
  · subst e; simp
  · have h : ¬ (Sum.inr a : Key) = Sum.inr b := fun q => e (Sum.inr.inj q)
    rw [decide_eq_false h, decide_eq_false e]
theorem key_lr (a : Int) (b : Str) : decide ((Sum.inl a : Key) = Sum.inr b) = false := decide_eq_false (fun q => nomatch q)
theorem key_rl (a : Str) (b : Int) : decide ((Sum.inr a : Key) = Sum.inl b) = false := decide_eq_false (fun q => nomatch q)
def mixKind (prog : Program) (w : World) : PySem.KeyKind prog w Key where
  is := keyIs
  hash := keyH w
  inj := fun v a b ha hb => by
    rcases keyIs_shape ha with ⟨i, t, rfl, rfl⟩ | ⟨x, t, rfl, rfl⟩
    · rcases keyIs_shape hb with ⟨j, u, rfl, e⟩ | ⟨y, u, rfl, e⟩
      · injection e with e1 _; rw [e1]
      · exact nomatch e
    · rcases keyIs_shape hb with ⟨j, u, rfl, e⟩ | ⟨y, u, rfl, e⟩
      · exact nomatch e
      · injection e with e1 _; rw [e1]
  byValue := fun k v h => by
    rcases keyIs_shape h with ⟨i, t, rfl, rfl⟩ | ⟨x, t, rfl, rfl⟩ <;> rfl
  pyHash := fun hv h => by
    rcases keyIs_shape hv with ⟨i, t, rfl, rfl⟩ | ⟨x, t, rfl, rfl⟩
    · exact wpAny_pyHash_int h
    · exact wpAny_pyHash_str h
  eqBool := fun hu hv h => by
    rcases keyIs_shape hu with ⟨i, t, rfl, rfl⟩ | ⟨x, t, rfl, rfl⟩
    · rcases keyIs_shape hv with ⟨j, u, rfl, rfl⟩ | ⟨y, u, rfl, rfl⟩
      · rw [key_ll] at h; exact wpAny_eqBool_int h
      · rw [key_lr] at h; exact SeqAt.EqAt.int_str i t y u _ _ _ _ h
    · rcases keyIs_shape hv with ⟨j, u, rfl, rfl⟩ | ⟨y, u, rfl, rfl⟩
      · rw [key_rl] at h; exact SeqAt.EqAt.str_int x t j u _ _ _ _ h
      · rw [key_rr] at h; exact wpAny_eqBool_str h
  «strs» := fun k x t v h => by
    rcases keyIs_shape h with ⟨i, u, rfl, e⟩ | ⟨y, u, rfl, e⟩
    · exact nomatch e
    · injection e with e1 _
      subst e1
      cases v <;> rfl
theorem mixKind_int (prog : Program) (w : World) (i : Int) (t : Tok) : (mixKind prog w).is (.inl i) (.int i t) = true := keyIs_int i t
theorem mixKind_str (prog : Program) (w : World) (x : Str) (t : Tok) : (mixKind prog w).is (.inr x) (.str x t) = true := keyIs_str x t
end L2
namespace L2
open PySem PySem.Spec PyProof.Rows
inductive V where
  | non | bl (b : Bool) | int (i : Int) | str (x : Str) | byt (b : Array UInt8) | flt (b : UInt64) | ref (a : Addr) | ty (n : String)
  deriving DecidableEq
def RelV : V → Value → Prop
  | .non, u => u = Value.none
  | .bl b, u => u = Value.bool b
  | .int i, u => ∃ t, u = Value.int i t
  | .str x, u => ∃ t, u = Value.str x t
  | .byt b, u => ∃ t, u = Value.bytes b t
  | .flt b, u => ∃ t, u = Value.float b t
  | .ref a, u => u = Value.ref a
  | .ty n, u => u = Value.type n
abbrev Vals : List V → List Value → Prop := Paired RelV
theorem Vals.length {xs : List V} {us : List Value} (r : Vals xs us) : xs.length = us.length := Paired.length r
theorem Vals.get : ∀ {xs : List V} {us : List Value} {i : Nat} {x : V}, Vals xs us → xs[i]? = some x → ∃ u, us[i]? = some u ∧ RelV x u
  | _, _, _, _, .nil, e => by simp at e
  | _, _, 0, _, .cons r _, e => by simp at e; subst e; exact ⟨_, rfl, r⟩
  | _, _, i + 1, x, .cons _ t, e => by
    obtain ⟨u, h1, h2⟩ := Vals.get (i := i) (x := x) t (by simpa using e)
    exact ⟨u, by simpa using h1, h2⟩
theorem Vals.set {x : V} {u : Value} (r : RelV x u) : ∀ {xs : List V} {us : List Value} (i : Nat), Vals xs us → Vals (xs.set i x) (us.set i u)
  | _, _, _, .nil => .nil
  | _, _, 0, .cons _ t => .cons r t
  | _, _, i + 1, .cons q t => .cons q (Vals.set r i t)
theorem Vals.append : ∀ {xs ys : List V} {us ws : List Value}, Vals xs us → Vals ys ws → Vals (xs ++ ys) (us ++ ws)
  | _, _, _, _, .nil, s => s
  | _, _, _, _, .cons r t, s => .cons r (Vals.append t s)
theorem Vals.take : ∀ {xs : List V} {us : List Value} (n : Nat), Vals xs us → Vals (xs.take n) (us.take n)
  | _, _, 0, _ => .nil
  | _, _, _ + 1, .nil => .nil
  | _, _, n + 1, .cons r t => .cons r (Vals.take n t)
theorem Vals.drop : ∀ {xs : List V} {us : List Value} (n : Nat), Vals xs us → Vals (xs.drop n) (us.drop n)
  | _, _, 0, r => r
  | _, _, _ + 1, .nil => .nil
  | _, _, n + 1, .cons _ t => Vals.drop n t
theorem Vals.none_of : ∀ {xs : List V} {us : List Value} {i : Nat}, Vals xs us → xs[i]? = none → us[i]? = none := fun {xs us i} r e => by
  have h1 := r.length
  have h2 : xs.length ≤ i := List.getElem?_eq_none_iff.mp e
  exact List.getElem?_eq_none_iff.mpr (by omega)
def RelO : Option V → Option Value → Prop
  | some v, some u => RelV v u
  | none, none => True
  | _, _ => False
def KV {κ : Type} : List (κ × V) → List (κ × Value) → Prop := Paired fun (p : κ × V) (q : κ × Value) => p.1 = q.1 ∧ RelV p.2 q.2
def kV : Key → V
  | .inl i => .int i
  | .inr x => .str x
inductive HO where
  
  | lst (xs : List V)
  
  | tup (xs : List V)
  
  | dK (kvs : List (Key × V)) | dT (kvs : List (List Key × V))
  
  | set (S : Int → Bool) (n : Nat)
  
  | ins (C dx : Addr) (fs : List (Str × V))
  
  | own (x : Addr)
  
  | xd (fs : List (Str × V))
  
  | met (f x : Addr)
  
  | rng (lo hi : Int)
  
  | frz (o : Obj) (u : HO)
  
  | tbl (cr : Nat → Nat → Option Str)
  
  | ext (φ : Heap → Prop)
abbrev Hp := Addr → Option HO
def upd (H : Hp) (a : Addr) (o : HO) : Hp := fun b => if b = a then some o else H b
theorem upd_same {H : Hp} {a : Addr} {o : HO} : upd H a o a = some o := by unfold upd; rw [if_pos rfl]
theorem upd_ne {H : Hp} {a b : Addr} {o : HO} (h : b ≠ a) : upd H a o b = H b := by unfold upd; rw [if_neg h]
theorem ne_of {H : Hp} {a b : Addr} {o u : HO} (h : H a = some o) (h' : H b = some u) (d : o ≠ u) : a ≠ b := by
  intro e; subst e; rw [h] at h'; exact d (Option.some.inj h')
theorem ne_of_none {H : Hp} {a b : Addr} {o : HO} (h : H a = some o) (h' : H b = none) : a ≠ b := by
  intro e; subst e; rw [h] at h'; cases h'
def CodeOf (oc : Obj) (q : Str) : Prop := ∃ (vs : Array Value) (t : Tok), oc.data = .fields vs ∧ vs[1]? = some (.str q t)
section
variable (P : Program) (w : World)
def ObjOk (H : Hp) (h : Heap) (a : Addr) : HO → Prop
  | .lst xs => xs.length ≤ sizeLine ∧ ∃ (its : List Value) (n : Nat), Vals xs its ∧ h.get? a = some { cls := .type "list", data := .seq its.toArray n }
  | .tup xs => xs.length ≤ sizeLine ∧ ∃ its : List Value, Vals xs its ∧ IsTup h a its.toArray
  | .dK kvs => kvs.length ≤ sizeLine ∧ (a == sysModules) = false ∧ ∃ vs, KV kvs vs ∧ h.DictOf (mixKind P w) a vs
  | .dT kvs => kvs.length ≤ sizeLine ∧ (a == sysModules) = false ∧ ∃ xs : List (List Key × Addr × Value),
      Paired (fun (p : List Key × V) (q : List Key × Addr × Value) => p.1 = q.1 ∧ H q.2.1 = some (.tup (p.1.map kV)) ∧ RelV p.2 q.2.2) kvs xs ∧
      ∃ o es ep, h.get? a = some o ∧ o.ExactDict ∧ o.data = .dict es ep ∧ es.toList = xs.map (entryOfKey (tupleKind (mixKind P w))) ∧ (xs.map (·.1)).Nodup
  | .set S n => h.SetOf (intKind P w) a S n
  | .ins C dx fs => H dx = some (.own a) ∧ fs.length ≤ 1000 ∧ dx ≠ a ∧ h.get? a = some (PySem.W.instObj C dx) ∧
      ∃ mA, h.Ns1 dx mA ∧ (∀ f, RelO (fs.lookup f) (mA f)) ∧ PySem.Within mA (fs.map (·.1))
  | .own _ => ∃ o, h.get? a = some o
  | .xd fs => ∃ mA, h.Ns1 a mA ∧ ∀ f, RelO (fs.lookup f) (mA f)
  | .rng lo hi => ∃ t u v, h.get? a = some { cls := .type "range", data := .fields #[.int lo t, .int hi u, .int 1 v] }
  | .frz o u => h.get? a = some o ∧ ObjOk H h a u
  | .tbl cr => ∃ ps : Array Value, h.get? a = some { cls := .none, data := .fields ps } ∧ TriplesOk ps.toList ∧ ∀ (pos : Pos) (v : Value), codeAmong pos ps.toList = some v →
      ∃ (c : Addr) (oc : Obj) (q : Str), v = .ref c ∧ cr pos.line pos.col = some q ∧ H c = some (.frz oc (.own c)) ∧ CodeOf oc q
  | .met f x => h.get? a = some (PySem.W.methodObj (.ref f) (.ref x))
  | .ext φ => φ h ∧ (∃ o, h.get? a = some o) ∧ ∀ h1 h2 : Heap, φ h1 → (∀ o, h1.get? a = some o → h2.get? a = some o) → φ h2
def HOk (H : Hp) (h : Heap) : Prop := ∀ a o, H a = some o → ObjOk P w H h a o
end
section
variable {P : Program} {w : World} {H H' : Hp} {h h' : Heap} {a : Addr} {o : HO}
theorem ObjOk.lt (x : ObjOk P w H h a o) : a < h.objs.size := by
  cases o with
  | lst xs => obtain ⟨_, _, _, _, e⟩ := x; exact Heap.lt_size e
  | tup xs => obtain ⟨_, _, _, p⟩ := x; exact p.lt
  | dK kvs => obtain ⟨_, _, _, _, o, _, _, e, _⟩ := x; exact Heap.lt_size e
  | dT kvs => obtain ⟨_, _, _, _, o, _, _, e, _⟩ := x; exact Heap.lt_size e
  | set S n => obtain ⟨o, _, _, _, e, _⟩ := x; exact Heap.lt_size e
  | ins C dx fs => obtain ⟨_, _, _, e, _⟩ := x; exact Heap.lt_size e
  | own y => obtain ⟨_, e⟩ := x; exact Heap.lt_size e
  | xd fs => obtain ⟨_, ⟨_, _, _, e, _⟩, _⟩ := x; exact Heap.lt_size e
  | rng lo hi => obtain ⟨_, _, _, e⟩ := x; exact Heap.lt_size e
  | frz ob u => obtain ⟨e, _⟩ := x; exact Heap.lt_size e
  | tbl cr => obtain ⟨_, e, _⟩ := x; exact Heap.lt_size e
  | met f y => exact Heap.lt_size (show h.get? a = some _ from x)
  | ext φ => obtain ⟨_, ⟨_, e⟩, _⟩ := x; exact Heap.lt_size e
theorem Paired.mapP {α β : Type} {F G : α → β → Prop} : ∀ {l₁ : List α} {l₂ : List β}, Paired F l₁ l₂ → (∀ a b, F a b → G a b) → Paired G l₁ l₂
  | _, _, .nil, _ => .nil
  | _, _, .cons r t, f => .cons (f _ _ r) (Paired.mapP t f)
theorem ObjOk.stay (x : ObjOk P w H h a o) (k : ∀ b u, (b = a ∨ H b = some (.own a)) → h.get? b = some u → h'.get? b = some u)
    (ho : ∀ b, H b = some (.own a) → H' b = some (.own a)) (ht : ∀ b xs, H b = some (.tup xs) → H' b = some (.tup xs)) (hz : ∀ b o u, H b = some (.frz o u) → H' b = some (.frz o u)) : ObjOk P w H' h' a o := by
  induction o with
  | lst xs => obtain ⟨z, its, n, r, e⟩ := x; exact ⟨z, its, n, r, k _ _ (.inl rfl) e⟩
  | tup xs => obtain ⟨z, its, r, ob, e, c⟩ := x; exact ⟨z, its, r, ob, k _ _ (.inl rfl) e, c⟩
  | dK kvs => obtain ⟨z, y, vs, r, ob, es, ep, e, c⟩ := x; exact ⟨z, y, vs, r, ob, es, ep, k _ _ (.inl rfl) e, c⟩
  | dT kvs =>
    obtain ⟨z, y, xs, r, ob, es, ep, e, c⟩ := x
    exact ⟨z, y, xs, Paired.mapP r fun p q z => ⟨z.1, ht _ _ z.2.1, z.2.2⟩, ob, es, ep, k _ _ (.inl rfl) e, c⟩
  | set S n => obtain ⟨ob, es, ep, t, e, c⟩ := x; exact ⟨ob, es, ep, t, k _ _ (.inl rfl) e, c⟩
  | ins C dx fs =>
    obtain ⟨d, z, ne, e, mA, ⟨od, es, ep, e2, c⟩, r⟩ := x
    exact ⟨ho _ d, z, ne, k _ _ (.inl rfl) e, mA, ⟨od, es, ep, k _ _ (.inr d) e2, c⟩, r⟩
  | own y => obtain ⟨ob, e⟩ := x; exact ⟨ob, k _ _ (.inl rfl) e⟩
  | xd fs => obtain ⟨mA, ⟨od, es, ep, e, c⟩, r⟩ := x; exact ⟨mA, ⟨od, es, ep, k _ _ (.inl rfl) e, c⟩, r⟩
  | rng lo hi => obtain ⟨t, u, v, e⟩ := x; exact ⟨t, u, v, k _ _ (.inl rfl) e⟩
  | frz ob u ih => obtain ⟨e, q⟩ := x; exact ⟨k _ _ (.inl rfl) e, ih q⟩
  | tbl cr =>
    obtain ⟨ps, e, ht3, hc⟩ := x
    exact ⟨ps, k a _ (.inl rfl) e, ht3, fun pos v q => let ⟨c, oc, z, h1, h2, h3, h4⟩ := hc pos v q; ⟨c, oc, z, h1, h2, hz _ _ _ h3, h4⟩⟩
  | met f y =>
    have e : h.get? a = some (PySem.W.methodObj (.ref f) (.ref y)) := x
    show h'.get? a = some (PySem.W.methodObj (.ref f) (.ref y))
    exact k a _ (.inl rfl) e
  | ext φ => obtain ⟨p, ⟨o, e⟩, st⟩ := x; exact ⟨st _ _ p fun o q => k _ _ (.inl rfl) q, ⟨o, k _ _ (.inl rfl) e⟩, st⟩
theorem HOk.lt (x : HOk P w H h) (e : H a = some o) : a < h.objs.size := (x a o e).lt
theorem HOk.fresh (x : HOk P w H h) (e : h.objs.size ≤ a) : H a = none := by
  cases q : H a with
  | none => rfl
  | some u => exact absurd (Nat.lt_of_lt_of_le (x.lt q) e) (Nat.lt_irrefl _)
theorem HOk.kept (x : HOk P w H h) (k : ∀ b u, h.get? b = some u → h'.get? b = some u) : HOk P w H h' := fun a o e =>
  (x a o e).stay (fun b u _ q => k b u q) (fun _ q => q) (fun _ _ q => q) fun _ _ _ q => q
theorem HOk.laid (x : HOk P w H h) (k : ∀ b u, h.get? b = some u → h'.get? b = some u) (hp : h.objs.size ≤ a) (new : ObjOk P w (upd H a o) h' a o) : HOk P w (upd H a o) h' := fun b u e => by
  have hn := x.fresh hp
  by_cases hb : b = a
  · subst hb; rw [upd_same] at e; cases e; exact new
  · rw [upd_ne hb] at e
    exact (x b u e).stay (fun c v _ q => k c v q) (fun c q => by rw [upd_ne (ne_of_none q hn)]; exact q) (fun c xs q => by rw [upd_ne (ne_of_none q hn)]; exact q) fun c o u q => by rw [upd_ne (ne_of_none q hn)]; exact q
end
def Rd (H : Hp) (a : Addr) (u : HO) : Prop := H a = some u ∨ ∃ o, H a = some (.frz o u)
theorem Rd.of {H : Hp} {a : Addr} {u : HO} (h : H a = some u) : Rd H a u := .inl h
theorem Rd.ok {P : Program} {w : World} {H : Hp} {h : Heap} {a : Addr} {u : HO} (r : Rd H a u) (x : HOk P w H h) : ObjOk P w H h a u := by
  rcases r with r | ⟨o, r⟩
  · exact x a u r
  · obtain ⟨_, q⟩ := x a _ r
    exact q
def Mut : Option HO → Prop
  | some (.lst _) => True
  | some (.dK _) => True
  | some (.dT _) => True
  | some (.set _ _) => True
  | some (.ins _ _ _) => True
  | some (.ext _) => True
  | _ => False
section
variable {P : Program} {w : World} {H : Hp} {h h' : Heap} {x e : Addr} {o' : HO}
theorem HOk.write (ok : HOk P w H h) (mu : Mut (H x)) (he : e = x ∨ H e = some (.own x)) (k : ∀ b u, b ≠ e → h.get? b = some u → h'.get? b = some u) (heo : ∃ u, h'.get? e = some u)
    (new : ObjOk P w (upd H x o') h' x o') : HOk P w (upd H x o') h' := fun b u q => by
  have nown : ∀ c y, H c = some (.own y) → c ≠ x := fun c y r z => by subst z; rw [r] at mu; exact mu
  have ntup : ∀ c xs, H c = some (.tup xs) → c ≠ x := fun c xs r z => by subst z; rw [r] at mu; exact mu
  have nfrz : ∀ c o u, H c = some (.frz o u) → c ≠ x := fun c o u r z => by subst z; rw [r] at mu; exact mu
  by_cases hb : b = x
  · subst hb; rw [upd_same] at q; cases q; exact new
  · rw [upd_ne hb] at q
    by_cases hbe : b = e
    · have q' : H b = some (.own x) := by
        rcases he with z | z
        · exact absurd (hbe.trans z) hb
        · rw [hbe]; exact z
      rw [q] at q'; cases q'
      obtain ⟨v, hv⟩ := heo
      exact ⟨v, by rw [hbe]; exact hv⟩
    · refine (ok b u q).stay (fun c v hc r => k c v ?_ r) (fun c r => by rw [upd_ne (nown c b r)]; exact r) (fun c xs r => by rw [upd_ne (ntup c xs r)]; exact r) fun c o u r => by rw [upd_ne (nfrz c o u r)]; exact r
      rcases hc with rfl | hc
      · exact hbe
      · rintro rfl
        rcases he with z | z
        · exact nown c b hc z
        · rw [hc] at z; cases z; exact hb rfl
end
structure Un (fs ex : List Addr) (H H' : Hp) (h h' : Heap) : Prop where
  keep : ∀ b o, h.get? b = some o → H b = none → b ∉ fs → b ∉ ex → h'.get? b = some o
  slot : ∀ b o, h.get? b = some o → H b = none → b ∈ fs → b ∉ ex → ∃ sl, h'.get? b = some { o with slots := sl }
  free : ∀ b o, h.get? b = some o → H b = none → b ∉ ex → H' b = none
  there : ∀ b o, h.get? b = some o → b ∉ ex → ∃ o', h'.get? b = some o'
  tups : ∀ b xs, H b = some (.tup xs) → H' b = some (.tup xs)
  frzs : ∀ b o u, H b = some (.frz o u) → H' b = some (.frz o u)
  tbls : ∀ b cr, H b = some (.tbl cr) → H' b = some (.tbl cr)
section
variable {fs fs' ex ex' : List Addr} {H H1 H2 : Hp} {h h1 h2 h' : Heap} {a x e : Addr} {o : HO}
theorem Un.any (u : Un fs ex H H1 h h1) {b : Addr} {ob : Obj} (q : h.get? b = some ob) (n : H b = none) (hx : b ∉ ex) : ∃ sl, h1.get? b = some { ob with slots := sl } := by
  by_cases hb : b ∈ fs
  · exact u.slot b ob q n hb hx
  · exact ⟨ob.slots, u.keep b ob q n hb hx⟩
theorem Un.trans (a : Un fs ex H H1 h h1) (b : Un fs ex H1 H2 h1 h2) : Un fs ex H H2 h h2 where
  keep := fun c ob q n hc hx => b.keep c ob (a.keep c ob q n hc hx) (a.free c ob q n hx) hc hx
  slot := fun c ob q n hc hx => by
    obtain ⟨sl, e1⟩ := a.slot c ob q n hc hx
    obtain ⟨sl', e2⟩ := b.slot c _ e1 (a.free c ob q n hx) hc hx
    exact ⟨sl', e2⟩
  free := fun c ob q n hx => by
    obtain ⟨o', e1⟩ := a.there c ob q hx
    exact b.free c o' e1 (a.free c ob q n hx) hx
  there := fun c ob q hx => by
    obtain ⟨o', e1⟩ := a.there c ob q hx
    exact b.there c o' e1 hx
  tups := fun c xs q => b.tups c xs (a.tups c xs q)
  frzs := fun c ob xs q => b.frzs c ob xs (a.frzs c ob xs q)
  tbls := fun c cr q => b.tbls c cr (a.tbls c cr q)
theorem Un.kept (k : ∀ b u, h.get? b = some u → h'.get? b = some u) : Un fs ex H H h h' :=
  ⟨fun b ob q _ _ _ => k b ob q, fun b ob q _ _ _ => ⟨ob.slots, k b ob q⟩, fun _ _ _ n _ => n, fun b ob q _ => ⟨ob, k b ob q⟩, fun _ _ q => q, fun _ _ _ q => q, fun _ _ q => q⟩
theorem Un.refl : Un fs ex H H h h := Un.kept fun _ _ q => q
theorem Un.laid (k : ∀ b u, h.get? b = some u → h'.get? b = some u) (hp : h.objs.size ≤ a) (hn : H a = none) : Un fs ex H (upd H a o) h h' where
  keep := fun b u q _ _ _ => k b u q
  slot := fun b u q _ _ _ => ⟨u.slots, k b u q⟩
  free := fun b u q n _ => by rw [upd_ne (Nat.ne_of_lt (Nat.lt_of_lt_of_le (Heap.lt_size q) hp))]; exact n
  there := fun b u q _ => ⟨u, k b u q⟩
  tups := fun b xs q => by rw [upd_ne (ne_of_none q hn)]; exact q
  frzs := fun b u xs q => by rw [upd_ne (ne_of_none q hn)]; exact q
  tbls := fun b cr q => by rw [upd_ne (ne_of_none q hn)]; exact q
theorem Un.write (mu : Mut (H x)) (he : e = x ∨ H e = some (.own x)) (k : ∀ b u, b ≠ e → h.get? b = some u → h'.get? b = some u) (heo : ∃ u, h'.get? e = some u) : Un fs ex H (upd H x o) h h' := by
  have hx : ∀ b, H b = none → b ≠ x := fun b n z => by subst z; rw [n] at mu; exact mu
  have hb : ∀ b, H b = none → b ≠ e := fun b n z => by
    subst z
    rcases he with r | r
    · exact hx b n r
    · rw [n] at r; cases r
  have hm : ∀ b u, H b = some u → ¬ Mut (some u) → b ≠ x := fun b u q nm z => by subst z; rw [q] at mu; exact nm mu
  refine ⟨fun b u q n _ _ => k b u (hb b n) q, fun b u q n _ _ => ⟨u.slots, k b u (hb b n) q⟩, fun b u q n _ => by rw [upd_ne (hx b n)]; exact n, fun b u q _ => ?_,
    fun b xs q => by rw [upd_ne (hm b _ q fun z => z)]; exact q, fun b u xs q => by rw [upd_ne (hm b _ q fun z => z)]; exact q, fun b cr q => by rw [upd_ne (hm b _ q fun z => z)]; exact q⟩
  by_cases hbe : b = e
  · subst hbe; exact heo
  · exact ⟨u, k b u hbe q⟩
theorem Un.mono (u : Un fs ex H H1 h h1) (hs : ∀ b ∈ fs, b ∈ fs') (hx : ∀ b ∈ ex, b ∈ ex') : Un fs' ex' H H1 h h1 :=
  ⟨fun b ob q n hb he => u.keep b ob q n (fun z => hb (hs b z)) fun z => he (hx b z), fun _ _ q n _ he => u.any q n fun z => he (hx _ z), fun b ob q n he => u.free b ob q n fun z => he (hx b z), fun b ob q he => u.there b ob q fun z => he (hx b z), u.tups, u.frzs, u.tbls⟩
end
def trk (h : Heap) (H : Hp) : List Addr := (List.range h.objs.size).filter fun a => (H a).isSome
def hidT (h : Heap) (H : Hp) : Heap := PySem.W.hideAll h (trk h H)
theorem hidT_size (h : Heap) (H : Hp) : (hidT h H).objs.size = h.objs.size := PySem.W.hideAll_size _ _
theorem hidT_get {h : Heap} {H : Hp} {b : Addr} {o : Obj} (e : h.get? b = some o) (n : H b = none) : (hidT h H).get? b = some o :=
  PySem.W.hideAll_get _ e fun hm => by
    have q : (H b).isSome = true := (List.mem_filter.mp hm).2
    rw [n] at q; simp at q
theorem of_hidT {h : Heap} {H : Hp} {b : Addr} {o : Obj} (e : (hidT h H).get? b = some o) : h.get? b = some o ∧ H b = none := by
  have e' : h.get? b = some o := PySem.W.of_hideAll (trk h H) e
  refine ⟨e', ?_⟩
  cases q : H b with
  | none => rfl
  | some x =>
    have hm : b ∈ trk h H := List.mem_filter.mpr ⟨List.mem_range.mpr (Heap.lt_size e'), by simp [q]⟩
    have z : (hidT h H).get? b = none := PySem.W.hideAll_none (trk h H) hm
    rw [z] at e; cases e
def allNews (g h : Heap) (L : Addr) : List (Addr × Obj) := (List.range h.objs.size).filterMap fun a => if a = L ∨ (g.get? a).isSome = true then none else (h.get? a).map fun o => (a, o)
def rest (g h : Heap) (L d : Addr) : List (Addr × Obj) := (allNews g h L).filter fun p => decide (p.1 ≠ d)
end L2
namespace L2
open PySem PySem.Spec PyProof.Rows
structure Mod (K : PySem.W.Frag) (mg : Str → Option Value) (base : Heap) : Prop where
  kin : K.In base
  glob : base.Ns mainGlobals mg
  blt : ∃ mb, base.Ns builtinsNs mb ∧ ∀ x : Str, x ≠ "__name__" → mb x = bootBuiltins x
  nolimit : base.NoLimit
structure Cx where
  prog : Program
  w : World
  K : PySem.W.Frag
  mg : Str → Option Value
  base : Heap
  A : Around
  N : List Str
  s₀ : Shared
  H₀ : Hp
  env : Env
  outer : List Env
  stack : List Env
  ex : List Addr
  fn : Str → Bool
  calm : Bool
  pn : List (Addr × Obj)
  xe : Value → Shared → Prop
def frs (l : List Env) : List Addr := l.filterMap (·.frame)
abbrev Cx.fs (X : Cx) : List Addr := frs X.outer
def Vis (sc : Scope) (x : Str) : Prop := sc.names.lookup x = some .local ∨ sc.names.lookup x = some .cell ∨ sc.names.lookup x = some .free
def Loc (sc : Scope) (x : Str) : Prop := sc.names.lookup x = some .local ∨ sc.names.lookup x = some .cell
def Look (env : Env) (h : Heap) (m : Str → Option Value) (x : Str) (u : Value) : Prop :=
  (env.kindOf x = some .local ∧ m x = some u) ∨ ((env.kindOf x = some .cell ∨ env.kindOf x = some .free) ∧ ∃ c, env.cells.lookup x = some c ∧ h.IsCell c (some u))
structure Cx.Ok (X : Cx) : Prop where
  mod : Mod X.K X.mg X.base
  kind : X.env.scope.kind = .function
  glob : X.env.globals = mainGlobals
  blt : X.env.builtins = builtinsNs
  above : X.s₀.heap.objs.size ≤ X.env.locals
  inj : ∀ x y c, X.env.cells.lookup x = some c → X.env.cells.lookup y = some c → x = y
  has : ∀ x, (X.env.kindOf x = some .cell ∨ X.env.kindOf x = some .free) → ∃ c, X.env.cells.lookup x = some c
  cab : ∀ x c, X.fn x = true → X.env.cells.lookup x = some c → X.s₀.heap.objs.size ≤ c
  hd : X.calm = true → X.A.handled = none
  frames : X.A.frames = some X.stack
  stk : X.stack = X.outer ∨ (X.stack = X.env :: X.outer ∧ X.env.frame = some X.env.locals)
  exf : ∀ b ∈ X.ex, b ≠ X.env.locals ∧ ∀ x c, X.env.cells.lookup x = some c → c ≠ b
  bs : ∀ b o, X.base.get? b = some o → X.s₀.heap.get? b = some o ∧ X.H₀ b = none
  bsz : X.base.objs.size ≤ X.s₀.heap.objs.size
  noex : ∀ b o, X.base.get? b = some o → b ∉ X.ex
  exfs : ∀ b ∈ X.ex, b ∉ X.fs
  funs : X.s₀.heap.FunFrames X.base X.outer
  frf : ∀ b ∈ X.fs, X.H₀ b = none
structure Inv (X : Cx) (pins : List (Addr × Obj)) (σ : List (Option V)) (H : Hp) (s : Shared) : Prop where
  ok : X.Ok
  os : s.os = X.s₀.os
  bare : AllBare s.gens
  base : Un X.fs X.ex X.H₀ H X.s₀.heap s.heap
  loc : ∃ m, s.heap.Ns X.env.locals m ∧ ∀ (i : Nat) (x : Str) (v : V), X.N[i]? = some x → σ[i]? = some (some v) → Vis X.env.scope x → ∃ u, RelV v u ∧ Look X.env s.heap m x u
  cell : ∀ x c, X.env.cells.lookup x = some c → ∃ v, s.heap.IsCell c v
  free : H X.env.locals = none
  freeC : ∀ x c, X.env.cells.lookup x = some c → H c = none
  pin : ∀ p ∈ X.pn ++ pins, s.heap.get? p.1 = some p.2 ∧ H p.1 = none ∧ p.1 ≠ X.env.locals ∧ p.1 ∉ X.fs ∧ ∀ v, p.2.data ≠ .cell v
  hok : HOk X.prog X.w H s.heap
  len : σ.length = X.N.length
section
variable {X : Cx} {pins : List (Addr × Obj)} {σ : List (Option V)} {H H' : Hp} {s : Shared} {h' : Heap}
theorem Cx.Ok.nofr (ok : X.Ok) {b : Addr} {o : Obj} (e : X.base.get? b = some o) : b ∉ X.fs := fun hb => by
  have := (ok.funs.mem hb).1
  rw [e] at this; cases this
theorem Inv.bs (I : Inv X pins σ H s) : ∀ b o, X.base.get? b = some o → s.heap.get? b = some o ∧ H b = none := fun b o e =>
  ⟨I.base.keep b o (I.ok.bs b o e).1 (I.ok.bs b o e).2 (I.ok.nofr e) (I.ok.noex b o e), I.base.free b o (I.ok.bs b o e).1 (I.ok.bs b o e).2 (I.ok.noex b o e)⟩
theorem Inv.bk (I : Inv X pins σ H s) : ∀ b o, X.base.get? b = some o → s.heap.get? b = some o := fun b o e => (I.bs b o e).1
theorem Inv.mod (I : Inv X pins σ H s) : Mod X.K X.mg X.base := I.ok.mod
theorem Inv.kIn (I : Inv X pins σ H s) : X.K.In s.heap := I.ok.mod.kin.keeps I.bk
theorem Inv.nolimit (I : Inv X pins σ H s) : s.heap.NoLimit := I.ok.mod.nolimit.keeps I.bk
theorem Inv.fr (I : Inv X pins σ H s) : ∃ m, Fr X.base X.env.locals s.heap m :=
  let ⟨m, hn, _⟩ := I.loc
  ⟨m, hn, I.bk, Nat.le_trans I.ok.bsz I.ok.above⟩
theorem Inv.lt (I : Inv X pins σ H s) : X.env.locals < s.heap.objs.size := let ⟨_, hn, _⟩ := I.loc; hn.lt
theorem Inv.sz (I : Inv X pins σ H s) : X.s₀.heap.objs.size ≤ s.heap.objs.size := Nat.le_trans I.ok.above (Nat.le_of_lt I.lt)
theorem Inv.nofs (I : Inv X pins σ H s) {a : Addr} (h : s.heap.objs.size ≤ a) : a ∉ X.fs := fun hb => by
  obtain ⟨_, o, ho, _⟩ := I.ok.funs.mem hb
  exact absurd (Nat.lt_of_lt_of_le (Heap.lt_size ho) (Nat.le_trans I.sz h)) (Nat.lt_irrefl _)
theorem Inv.cne (I : Inv X pins σ H s) : ∀ x c, X.env.cells.lookup x = some c → c ≠ X.env.locals := fun x c e z => by
  obtain ⟨v, o, ho, hd⟩ := I.cell x c e
  obtain ⟨m, ⟨o', es, ep, ho', hd', _⟩, _⟩ := I.loc
  rw [z, ho'] at ho; cases ho; rw [hd'] at hd; cases hd
theorem Inv.funs (I : Inv X pins σ H s) : s.heap.FunFrames X.base X.outer := by
  have all : ∀ (l : List Env), (∀ b ∈ frs l, b ∈ X.fs) → X.s₀.heap.FunFrames X.base l → s.heap.FunFrames X.base l := by
    intro l
    induction l with
    | nil => intro _ _; trivial
    | cons env r ih =>
      intro hs hl
      obtain ⟨hk, ⟨L, o, hf, hn, ho, hd⟩, hr⟩ := hl
      have hL : L ∈ X.fs := hs L (by unfold frs; rw [List.filterMap_cons, hf]; exact List.mem_cons_self)
      obtain ⟨sl, e⟩ := I.base.slot L o ho (I.ok.frf L hL) hL fun z => I.ok.exfs L z hL
      exact ⟨hk, ⟨L, _, hf, hn, e, hd⟩, ih (fun b hb => hs b (by unfold frs; rw [List.filterMap_cons, hf]; exact List.mem_cons_of_mem _ hb)) hr⟩
  exact all X.outer (fun _ hb => hb) I.ok.funs
theorem Inv.stack (I : Inv X pins σ H s) : s.heap.FunFrames X.base X.stack := by
  rcases I.ok.stk with e | ⟨e, hf⟩
  · rw [e]; exact I.funs
  · rw [e]
    obtain ⟨m, hn, _⟩ := I.loc
    refine .cons (by rw [I.ok.kind]; decide) hf hn ?_ I.funs
    exact Heap.get?_none_of_le (Nat.le_trans I.ok.bsz I.ok.above)
theorem Inv.stkSub (I : Inv X pins σ H s) : ∀ b ∈ frs X.stack, b ∈ X.env.locals :: X.fs := fun b hb => by
  rcases I.ok.stk with e | ⟨e, hf⟩
  · rw [e] at hb; exact List.mem_cons_of_mem _ hb
  · rw [e] at hb
    unfold frs at hb
    rw [List.filterMap_cons, hf] at hb
    exact hb
theorem Inv.stkFree (I : Inv X pins σ H s) : ∀ b ∈ frs X.stack, H b = none := fun b hb => by
  rcases List.mem_cons.mp (I.stkSub b hb) with e | hb
  · rw [e]; exact I.free
  · obtain ⟨_, o, ho, _⟩ := I.ok.funs.mem hb
    exact I.base.free b o ho (I.ok.frf b hb) fun z => I.ok.exfs b z hb
theorem Inv.step {g' : Array GenState} {t' : Nat} {d' : Drawn} {ch : List Addr} (I : Inv X pins σ H s)
    (hch : ∀ b ∈ ch, (b ∈ X.ex ∨ X.s₀.heap.objs.size ≤ b) ∧ b ≠ X.env.locals ∧ (∀ x c, X.env.cells.lookup x = some c → c ≠ b) ∧ ∀ p ∈ X.pn ++ pins, p.1 ≠ b)
    (keep : ∀ b o, b ≠ X.env.locals → b ∉ X.fs → b ∉ ch → s.heap.get? b = some o → H b = none → h'.get? b = some o)
    (slot : ∀ b o, b ≠ X.env.locals → b ∈ X.fs → b ∉ ch → s.heap.get? b = some o → H b = none → ∃ sl, h'.get? b = some { o with slots := sl }) (free : ∀ b o, b ∉ ch → s.heap.get? b = some o → H b = none → H' b = none)
    (there : ∀ b o, b ∉ ch → s.heap.get? b = some o → ∃ o', h'.get? b = some o')
    (tups : ∀ b xs, H b = some (.tup xs) → H' b = some (.tup xs)) (frzs : ∀ b o u, H b = some (.frz o u) → H' b = some (.frz o u)) (tbls : ∀ b cr, H b = some (.tbl cr) → H' b = some (.tbl cr))
    (ns : ∀ m, s.heap.Ns X.env.locals m → h'.Ns X.env.locals m) (hok : HOk X.prog X.w H' h') (hg : AllBare g') :
    Inv X pins σ H' { s with heap := h', gens := g', drawn := d', toks := t' } := by
  have neL : ∀ b o, X.s₀.heap.get? b = some o → b ≠ X.env.locals := fun b o e => Nat.ne_of_lt (Nat.lt_of_lt_of_le (Heap.lt_size e) I.ok.above)
  have neC : ∀ b o, X.s₀.heap.get? b = some o → b ∉ X.ex → b ∉ ch := fun b o e hx hb => by
    rcases (hch b hb).1 with z | z
    · exact hx z
    · exact absurd (Nat.lt_of_lt_of_le (Heap.lt_size e) z) (Nat.lt_irrefl _)
  have cellK : ∀ x c, X.env.cells.lookup x = some c → ∀ v, s.heap.IsCell c v → h'.IsCell c v := fun x c e v ⟨o, ho, hd⟩ => by
    have nch : c ∉ ch := fun z => (hch c z).2.2.1 x c e rfl
    by_cases hc : c ∈ X.fs
    · obtain ⟨sl, q⟩ := slot c o (I.cne x c e) hc nch ho (I.freeC x c e)
      exact ⟨_, q, hd⟩
    · exact ⟨o, keep c o (I.cne x c e) hc nch ho (I.freeC x c e), hd⟩
  refine ⟨I.ok, I.os, hg, ⟨fun b o e n hb hx => ?_, fun b o e n hb hx => ?_, fun b o e n hx => ?_, fun b o e hx => ?_, fun b xs e => tups b xs (I.base.tups b xs e), fun b o xs e => frzs b o xs (I.base.frzs b o xs e), fun b ps e => ?_⟩, ?_, fun x c e => ?_, ?_, fun x c e => ?_, fun p hp => ?_, hok, I.len⟩
  · exact keep b o (neL b o e) hb (neC b o e hx) (I.base.keep b o e n hb hx) (I.base.free b o e n hx)
  · obtain ⟨sl, e1⟩ := I.base.slot b o e n hb hx
    obtain ⟨sl', e2⟩ := slot b _ (neL b o e) hb (neC b o e hx) e1 (I.base.free b o e n hx)
    exact ⟨sl', e2⟩
  · obtain ⟨o', e1⟩ := I.base.there b o e hx
    exact free b o' (neC b o e hx) e1 (I.base.free b o e n hx)
  · obtain ⟨o', e1⟩ := I.base.there b o e hx
    exact there b o' (neC b o e hx) e1
  · exact tbls b ps (I.base.tbls b ps e)
  · obtain ⟨m, hn, hl⟩ := I.loc
    refine ⟨m, ns m hn, fun i x v e1 e2 e3 => ?_⟩
    obtain ⟨u, r, l⟩ := hl i x v e1 e2 e3
    refine ⟨u, r, ?_⟩
    rcases l with l | ⟨k, c, e, z⟩
    · exact .inl l
    · exact .inr ⟨k, c, e, cellK x c e _ z⟩
  · obtain ⟨v, z⟩ := I.cell x c e
    exact ⟨v, cellK x c e v z⟩
  · obtain ⟨m, ⟨o, _, _, ho, _⟩, _⟩ := I.loc
    exact free _ o (fun z => (hch _ z).2.1 rfl) ho I.free
  · obtain ⟨v, o, ho, hd⟩ := I.cell x c e
    exact free c o (fun z => (hch c z).2.2.1 x c e rfl) ho (I.freeC x c e)
  · obtain ⟨e, n, ne, nf, d⟩ := I.pin p hp
    have nch : p.1 ∉ ch := fun z => (hch p.1 z).2.2.2 p hp rfl
    exact ⟨keep p.1 p.2 ne nf nch e n, free p.1 p.2 nch e n, ne, nf, d⟩
theorem Inv.un {t' : Nat} (I : Inv X pins σ H s) (u : Un X.fs [] H H' s.heap h') (hok : HOk X.prog X.w H' h') : Inv X pins σ H' { s with heap := h', toks := t' } := by
  obtain ⟨m, ⟨o, es, ep, ho, r⟩, _⟩ := id I.loc
  obtain ⟨sl, hL⟩ := u.any ho I.free (by simp)
  exact I.step (g' := s.gens) (d' := s.drawn) (ch := []) (fun _ z => nomatch z) (fun b o _ hb _ e n => u.keep b o e n hb (by simp)) (fun b o _ hb _ e n => u.slot b o e n hb (by simp)) (fun b o _ e n => u.free b o e n (by simp)) (fun b o _ e => u.there b o e (by simp)) u.tups u.frzs u.tbls (fun m' hm => by
    obtain ⟨o', es', ep', ho', r'⟩ := hm
    rw [ho] at ho'; cases ho'
    exact ⟨_, es', ep', hL, r'⟩) hok I.bare
theorem Inv.call {g' : Array GenState} {t' : Nat} {d' : Drawn} {ch : List Addr} (I : Inv X pins σ H s) (u : Un (frs X.stack) ch H H' s.heap h') (hok : HOk X.prog X.w H' h') (hg : AllBare g')
    (hch : ∀ b ∈ ch, (b ∈ X.ex ∨ X.s₀.heap.objs.size ≤ b) ∧ b ≠ X.env.locals ∧ (∀ x c, X.env.cells.lookup x = some c → c ≠ b) ∧ ∀ p ∈ X.pn ++ pins, p.1 ≠ b) :
    Inv X pins σ H' { s with heap := h', gens := g', drawn := d', toks := t' } := by
  obtain ⟨m, ⟨o, es, ep, ho, r⟩, _⟩ := id I.loc
  obtain ⟨sl, hL⟩ := u.any ho I.free fun z => (hch _ z).2.1 rfl
  exact I.step (ch := ch) hch (fun b o hL hb hc e n => u.keep b o e n (fun z => (List.mem_cons.mp (I.stkSub b z)).elim hL hb) hc) (fun b o _ _ hc e n => u.any e n hc) (fun b o hc e n => u.free b o e n hc) (fun b o hc e => u.there b o e hc) u.tups u.frzs u.tbls (fun m' hm => by
    obtain ⟨o', es', ep', ho', r'⟩ := hm
    rw [ho] at ho'; cases ho'
    exact ⟨_, es', ep', hL, r'⟩) hok hg
theorem Inv.turned {t' : Nat} {it : Addr} (I : Inv X pins σ H s) (k : ∀ b o, b ≠ it → s.heap.get? b = some o → h'.get? b = some o) (hn : H it = none) (hL : it ≠ X.env.locals)
    (h1 : it ∈ X.ex ∨ X.s₀.heap.objs.size ≤ it) (h2 : ∀ x c, X.env.cells.lookup x = some c → c ≠ it) (h3 : ∀ p ∈ X.pn ++ pins, p.1 ≠ it) : Inv X pins σ H { s with heap := h', toks := t' } := by
  have nit : ∀ b u, H b = some u → b ≠ it := fun b u e z => by rw [z, hn] at e; cases e
  refine I.step (g' := s.gens) (d' := s.drawn) (ch := [it]) (fun b hb => ?_) (fun b o _ _ hc e _ => k b o (fun z => hc (by simp [z])) e) (fun b o _ _ hc e _ => ⟨o.slots, k b o (fun z => hc (by simp [z])) e⟩) (fun _ _ _ _ n => n)
    (fun b o hc e => ⟨o, k b o (fun z => hc (by simp [z])) e⟩) (fun _ _ e => e) (fun _ _ _ e => e) (fun _ _ e => e) (fun m hm => ?_) (fun b u e => ?_) I.bare
  · have e : b = it := by simpa using hb
    subst e
    exact ⟨h1, hL, h2, h3⟩
  · obtain ⟨o, es, ep, ho, r⟩ := hm
    exact ⟨o, es, ep, k _ o (Ne.symm hL) ho, r⟩
  · refine (I.hok b u e).stay (fun c v hc q => k c v ?_ q) (fun _ q => q) (fun _ _ q => q) fun _ _ _ q => q
    rcases hc with z | z
    · rw [z]; exact nit b u e
    · exact nit c _ z
theorem Inv.tok (I : Inv X pins σ H s) (t : Nat) : Inv X pins σ H { s with toks := t } := I.un (h' := s.heap) (t' := t) Un.refl I.hok
theorem Inv.kept {t' : Nat} (I : Inv X pins σ H s) (k : ∀ b u, s.heap.get? b = some u → h'.get? b = some u) : Inv X pins σ H { s with heap := h', toks := t' } := I.un (Un.kept k) (I.hok.kept k)
theorem Inv.laid {a : Addr} {o : HO} {t' : Nat} (I : Inv X pins σ H s) (k : ∀ b u, s.heap.get? b = some u → h'.get? b = some u) (hp : s.heap.objs.size ≤ a) (new : ObjOk X.prog X.w (upd H a o) h' a o) :
    Inv X pins σ (upd H a o) { s with heap := h', toks := t' } := I.un (Un.laid k hp (I.hok.fresh hp)) (I.hok.laid k hp new)
theorem Inv.write {x e : Addr} {o : HO} {t' : Nat} (I : Inv X pins σ H s) (mu : Mut (H x)) (he : e = x ∨ H e = some (.own x)) (k : ∀ b u, b ≠ e → s.heap.get? b = some u → h'.get? b = some u) (heo : ∃ u, h'.get? e = some u)
    (new : ObjOk X.prog X.w (upd H x o) h' x o) : Inv X pins σ (upd H x o) { s with heap := h', toks := t' } := I.un (Un.write mu he k heo) (I.hok.write mu he k heo new)
theorem Inv.pins_of {pins' : List (Addr × Obj)} (I : Inv X pins σ H s) (h : ∀ p ∈ pins', s.heap.get? p.1 = some p.2 ∧ H p.1 = none ∧ p.1 ≠ X.env.locals ∧ p.1 ∉ X.fs ∧ ∀ v, p.2.data ≠ .cell v) : Inv X pins' σ H s :=
  ⟨I.ok, I.os, I.bare, I.base, I.loc, I.cell, I.free, I.freeC, fun p hp => (List.mem_append.mp hp).elim (fun z => I.pin p (List.mem_append_left _ z)) (h p), I.hok, I.len⟩
theorem nodup_ix {N : List Str} (hN : N.Nodup) {i j : Nat} {x : Str} (a : N[i]? = some x) (b : N[j]? = some x) : i = j := by
  obtain ⟨h1, e1⟩ := List.getElem?_eq_some_iff.mp a
  obtain ⟨h2, e2⟩ := List.getElem?_eq_some_iff.mp b
  exact (List.getElem_inj hN).mp (e1.trans e2.symm)
theorem store_ok2 {M : Model} {A : Around} {E : Value → Shared → Prop} {i : Nat} {x : Str} {v : V} {u : Value} {Q : Unit → Shared → Prop} (I : Inv X pins σ H s) (hN : X.N.Nodup) (hi : X.N[i]? = some x) (hx : Loc X.env.scope x) (r : RelV v u)
    (h : ∀ s', Inv X pins (σ.set i (some v)) H s' → (∃ a, Heap.SameBut a s.heap s'.heap ∧ (a = X.env.locals ∨ X.env.cells.lookup x = some a)) → Q () s') (hf : X.fn x = true ∨ X.env.scope.names.lookup x = some .local := by first | exact .inl rfl | exact .inr rfl | assumption) : wpAny M A (storeName X.env x u) Q E s := by
  obtain ⟨m, hn, hl⟩ := id I.loc
  have hcls : (X.env.scope.kind == .class || (X.env.scope.kind == .module && X.env.locals != X.env.globals)) = false := by rw [I.ok.kind]; rfl
  have hiσ : i < σ.length := by rw [I.len]; exact (List.getElem?_eq_some_iff.mp hi).1
  have cne := I.cne
  have tracked : ∀ {a : Addr} {h' : Heap}, (∃ o, s.heap.get? a = some o ∧ H a = none) → Heap.SameBut a s.heap h' → HOk X.prog X.w H h' := fun {a h'} ha hs b ob e => by
    obtain ⟨_, _, hfree⟩ := ha
    refine (I.hok b ob e).stay (fun c w' hc q => (hs.2 c ?_).trans q) (fun _ q => q) (fun _ _ q => q) fun _ _ _ q => q
    rintro rfl
    rcases hc with rfl | hc
    · rw [hfree] at e; cases e
    · rw [hfree] at hc; cases hc
  rcases hx with hk | hk
  · refine wpAny_storeName_local hk hn (fun h' hn' hs => ?_) hcls
    obtain ⟨oL, _, _, hoL, _⟩ := id hn
    refine h _ ⟨I.ok, I.os, I.bare, ⟨fun b o e n hb hx => ?_, fun b o e n hb hx => ?_, I.base.free, fun b o e hx => ?_, I.base.tups, I.base.frzs, I.base.tbls⟩, ⟨_, hn', fun j y v' e1 e2 e3 => ?_⟩, fun y c e => ?_, I.free, I.freeC, fun p hp => ?_, tracked ⟨oL, hoL, I.free⟩ hs, by simpa using I.len⟩ ⟨_, hs, .inl rfl⟩
    · exact (hs.2 b (Nat.ne_of_lt (Nat.lt_of_lt_of_le (Heap.lt_size e) I.ok.above))).trans (I.base.keep b o e n hb hx)
    · obtain ⟨sl, e1⟩ := I.base.slot b o e n hb hx
      exact ⟨sl, (hs.2 b (Nat.ne_of_lt (Nat.lt_of_lt_of_le (Heap.lt_size e) I.ok.above))).trans e1⟩
    · obtain ⟨o', e1⟩ := I.base.there b o e hx
      exact ⟨o', (hs.2 b (Nat.ne_of_lt (Nat.lt_of_lt_of_le (Heap.lt_size e) I.ok.above))).trans e1⟩
    · by_cases hj : j = i
      · subst hj
        rw [hi] at e1; cases e1
        rw [List.getElem?_set_self hiσ] at e2
        cases e2
        exact ⟨u, r, .inl ⟨hk, by simp⟩⟩
      · rw [List.getElem?_set_ne (Ne.symm hj)] at e2
        obtain ⟨u', r', q⟩ := hl j y v' e1 e2 e3
        refine ⟨u', r', ?_⟩
        rcases q with ⟨k, e⟩ | ⟨k, c, e, z⟩
        · refine .inl ⟨k, ?_⟩
          have : y ≠ x := fun e => hj (nodup_ix hN e1 (e ▸ hi))
          simp [this, e]
        · exact .inr ⟨k, c, e, z.sameBut hs (cne y c e)⟩
    · obtain ⟨w', z⟩ := I.cell y c e
      exact ⟨w', z.sameBut hs (cne y c e)⟩
    · obtain ⟨e, n, ne, nf, d⟩ := I.pin p hp
      exact ⟨(hs.2 p.1 ne).trans e, n, ne, nf, d⟩
  · have hfn : X.fn x = true := by
      rcases hf with z | z
      · exact z
      · rw [z] at hk; cases hk
    obtain ⟨c, hc⟩ := I.ok.has x (.inl hk)
    obtain ⟨w', z⟩ := I.cell x c hc
    refine wpAny_storeName_cell I.ok.kind hk hc z (fun h' hc' hs => ?_)
    obtain ⟨oc, hoc, hocd⟩ := id z
    refine h { s with heap := h' } ⟨I.ok, I.os, I.bare, ⟨fun b o e n hb hx => ?_, fun b o e n hb hx => ?_, I.base.free, fun b o e hx => ?_, I.base.tups, I.base.frzs, I.base.tbls⟩, ⟨m, hn.sameBut hs (Ne.symm (cne x c hc)), fun j y v' e1 e2 e3 => ?_⟩, fun y c' e => ?_, I.free, I.freeC, fun p hp => ?_, tracked ⟨oc, hoc, I.freeC x c hc⟩ hs, by simpa using I.len⟩ ⟨c, hs, .inr hc⟩
    · exact (hs.2 b (Nat.ne_of_lt (Nat.lt_of_lt_of_le (Heap.lt_size e) (I.ok.cab x c hfn hc)))).trans (I.base.keep b o e n hb hx)
    · obtain ⟨sl, e1⟩ := I.base.slot b o e n hb hx
      exact ⟨sl, (hs.2 b (Nat.ne_of_lt (Nat.lt_of_lt_of_le (Heap.lt_size e) (I.ok.cab x c hfn hc)))).trans e1⟩
    · obtain ⟨o', e1⟩ := I.base.there b o e hx
      exact ⟨o', (hs.2 b (Nat.ne_of_lt (Nat.lt_of_lt_of_le (Heap.lt_size e) (I.ok.cab x c hfn hc)))).trans e1⟩
    · by_cases hj : j = i
      · subst hj
        rw [hi] at e1; cases e1
        rw [List.getElem?_set_self hiσ] at e2
        cases e2
        exact ⟨u, r, .inr ⟨.inl hk, c, hc, hc'⟩⟩
      · rw [List.getElem?_set_ne (Ne.symm hj)] at e2
        obtain ⟨u', r', q⟩ := hl j y v' e1 e2 e3
        refine ⟨u', r', ?_⟩
        rcases q with q | ⟨k, c', e, z'⟩
        · exact .inl q
        · refine .inr ⟨k, c', e, z'.sameBut hs ?_⟩
          rintro rfl
          exact hj (nodup_ix hN e1 (I.ok.inj _ _ _ e hc ▸ hi))
    · by_cases hcc : c' = c
      · subst hcc; exact ⟨_, hc'⟩
      · obtain ⟨w2, z2⟩ := I.cell y c' e
        exact ⟨w2, z2.sameBut hs hcc⟩
    · obtain ⟨e, n, ne, nf, d⟩ := I.pin p hp
      refine ⟨(hs.2 p.1 ?_).trans e, n, ne, nf, d⟩
      intro q
      rw [q, hoc] at e
      have q' : oc = p.2 := Option.some.inj e
      exact d w' (by rw [← q']; exact hocd)
theorem store_ok {M : Model} {A : Around} {E : Value → Shared → Prop} {i : Nat} {x : Str} {v : V} {u : Value} {Q : Unit → Shared → Prop} (I : Inv X pins σ H s) (hN : X.N.Nodup) (hi : X.N[i]? = some x) (hx : Loc X.env.scope x) (r : RelV v u)
    (h : ∀ s', Inv X pins (σ.set i (some v)) H s' → Q () s') (hf : X.fn x = true ∨ X.env.scope.names.lookup x = some .local := by first | exact .inl rfl | exact .inr rfl | assumption) : wpAny M A (storeName X.env x u) Q E s :=
  store_ok2 I hN hi hx r (fun s' I' _ => h s' I') hf
theorem Inv.call' {s' : Shared} {ch : List Addr} (I : Inv X pins σ H s) (ho : s'.os = s.os) (u : Un (frs X.stack) ch H H' s.heap s'.heap) (hok : HOk X.prog X.w H' s'.heap) (hg : AllBare s'.gens)
    (hch : ∀ b ∈ ch, (b ∈ X.ex ∨ X.s₀.heap.objs.size ≤ b) ∧ b ≠ X.env.locals ∧ (∀ x c, X.env.cells.lookup x = some c → c ≠ b) ∧ ∀ p ∈ X.pn ++ pins, p.1 ≠ b) : Inv X pins σ H' s' := by
  obtain ⟨h', g', d', t', o'⟩ := s'
  have e : o' = s.os := ho
  subst e
  exact I.call (g' := g') (t' := t') (d' := d') u hok hg hch
end
abbrev XK := Value → Option Addr → Hp → Prop
abbrev St := List (Option V)
abbrev VK := V → Hp → Prop
abbrev TE := St → Hp → VK → Prop
abbrev TT := St → Hp → (Bool → Hp → Prop) → Prop
abbrev TA := St → Hp → (List V → Hp → Prop) → Prop
structure Ends where
  nx : St → Hp → Prop
  rt : VK
  bk : St → Hp → Prop := fun _ _ => False
  ct : St → Hp → Prop := fun _ _ => False
abbrev TS := Ends → St → Hp → Prop
def EP (X : Cx) (pins : List (Addr × Obj)) (σ : St) (Q : VK) (u : Value) (s' : Shared) : Prop := ∃ v H', Inv X pins σ H' s' ∧ RelV v u ∧ Q v H'
def TP (X : Cx) (pins : List (Addr × Obj)) (σ : St) (Q : Bool → Hp → Prop) (b : Bool) (s' : Shared) : Prop := ∃ H', Inv X pins σ H' s' ∧ Q b H'
def AP (X : Cx) (pins : List (Addr × Obj)) (σ : St) (Q : List V → Hp → Prop) (us : List Value) (s' : Shared) : Prop := ∃ vs H', Inv X pins σ H' s' ∧ Vals vs us ∧ Q vs H'
def SP (X : Cx) (pins : List (Addr × Obj)) (D : Ends) (f : Flow) (s' : Shared) : Prop :=
  match f with
  | .next => ∃ σ' H', Inv X pins σ' H' s' ∧ D.nx σ' H'
  | .brk => ∃ σ' H', Inv X pins σ' H' s' ∧ D.bk σ' H'
  | .cont => ∃ σ' H', Inv X pins σ' H' s' ∧ D.ct σ' H'
  | .ret u => ∃ v σ' H', Inv X pins σ' H' s' ∧ RelV v u ∧ D.rt v H'
def PE (X : Cx) (e : Expr) (t : TE) : Prop :=
  ∀ (pins : List (Addr × Obj)) (s : Shared) (σ : St) (H : Hp) (Q : VK), Inv X pins σ H s → t σ H Q → wpAny (model X.prog X.w) X.A (eval e X.env) (EP X pins σ Q) X.xe s
def PT (X : Cx) (e : Expr) (t : TT) : Prop :=
  ∀ (pins : List (Addr × Obj)) (s : Shared) (σ : St) (H : Hp) (Q : Bool → Hp → Prop), Inv X pins σ H s → t σ H Q → wpAny (model X.prog X.w) X.A (isTrue e X.env (eval e X.env)) (TP X pins σ Q) X.xe s
def PW (X : Cx) (e : Expr) (t : TT) : Prop :=
  ∀ (whole : Sem Value) (pins : List (Addr × Obj)) (s : Shared) (σ : St) (H : Hp) (Q : Bool → Hp → Prop), Inv X pins σ H s → t σ H Q → wpAny (model X.prog X.w) X.A (isTrue e X.env whole) (TP X pins σ Q) X.xe s
theorem PW.pt {X : Cx} {e : Expr} {t : TT} (h : PW X e t) : PT X e t := h _
def PA (X : Cx) (es : List Expr) (t : TA) : Prop :=
  ∀ (pos : Pos) (pins : List (Addr × Obj)) (s : Shared) (σ : St) (H : Hp) (Q : List V → Hp → Prop), Inv X pins σ H s → t σ H Q → wpAny (model X.prog X.w) X.A (spliced (backTo pos (starEach es X.env))) (AP X pins σ Q) X.xe s
def PS (X : Cx) (st : Stmt) (t : TS) : Prop :=
  ∀ (pins : List (Addr × Obj)) (s : Shared) (σ : St) (H : Hp) (D : Ends), Inv X pins σ H s → t D σ H → wpAny (model X.prog X.w) X.A (exec st X.env) (SP X pins D) X.xe s
def PSs (X : Cx) (st : List Stmt) (t : TS) : Prop :=
  ∀ (pins : List (Addr × Obj)) (s : Shared) (σ : St) (H : Hp) (D : Ends), Inv X pins σ H s → t D σ H → wpAny (model X.prog X.w) X.A (execs st X.env) (SP X pins D) X.xe s
theorem thn {α : Type} {t : Sem α} {Q Q' : α → Shared → Prop} {M : Model} {A : Around} {E : Value → Shared → Prop} {s : Shared} (h : wpAny M A t Q E s) (hQ : ∀ a s, Q a s → Q' a s) : wpAny M A t Q' E s := wpAny_mono h hQ fun _ _ x => x
end L2
namespace L2
open PySem PySem.Spec PyProof.Rows
section
variable {X : Cx}
def tVar (i : Nat) : TE := fun σ H Q => ∃ v, σ[i]? = some (some v) ∧ Q v H
def tC (v : V) : TE := fun _ H Q => Q v H
theorem pe_var {i : Nat} {x : Str} {pos : Pos} (hN : X.N[i]? = some x) (hv : Vis X.env.scope x) (hd : (x == ("__debug__" : Str)) = false := by decide) (hcd : (x == ("__classdict__" : Str)) = false := by decide) : PE X (.Name x pos) (tVar i) := by
  intro pins s σ H Q I h
  obtain ⟨v, e, h⟩ := h
  obtain ⟨m, hn, hl⟩ := I.loc
  obtain ⟨u, r, l⟩ := hl i x v hN e hv
  have fin : EP X pins σ Q u s := ⟨v, H, I, r, h⟩
  rcases l with ⟨hk, hm⟩ | ⟨hk, c, hc, hcell⟩
  · exact wpAny_Name (wpAny_loadName_local I.ok.kind hk hn hm fin) hd
  · rcases hk with hk | hk
    · exact wpAny_Name (wpAny_loadName_cell I.ok.kind hk hc hcell fin) hd
    · exact wpAny_Name (wpAny_loadName_free I.ok.kind hk hc hcell fin hcd) hd
theorem pe_int {i j pos} : PE X (.Constant (.int i) j pos) (tC (.int i)) := fun _ _ _ H _ I h => wpAny_Constant_int ⟨.int i, H, I.tok _, ⟨_, rfl⟩, h⟩
theorem pe_bl {b j pos} : PE X (.Constant (.bool b) j pos) (tC (.bl b)) := fun _ _ _ H _ I h => Constant_bool ⟨.bl b, H, I, rfl, h⟩
theorem pe_non {j pos} : PE X (.Constant .none j pos) (tC .non) := fun _ _ _ H _ I h => Constant_none ⟨.non, H, I, rfl, h⟩
theorem pe_str {x j pos} : PE X (.Constant (.str x) j pos) (tC (.str x)) := fun _ _ _ H _ I h => Calls.Constant_str ⟨.str x, H, I.tok _, ⟨_, rfl⟩, h⟩
def Gl (X : Cx) (x : Str) : Prop := X.env.kindOf x = some .globalImplicit
theorem ld_glob {E : Value → Shared → Prop} {pins : List (Addr × Obj)} {s : Shared} {σ : St} {H : Hp} {x : Str} {u : Value} {pos : Pos} {Q : Value → Shared → Prop} (I : Inv X pins σ H s) (hg : Gl X x) (hm : X.mg x = some u) (h : Q u s)
    (hd : (x == ("__debug__" : Str)) = false := by decide) : wpAny (model X.prog X.w) X.A (eval (.Name x pos) X.env) Q E s :=
  Calls.Name_function_global I.ok.kind hg (Calls.loadGlobal_global (by rw [I.ok.glob]; exact I.mod.glob.keeps I.bk) hm h) hd
theorem ld_blt {E : Value → Shared → Prop} {pins : List (Addr × Obj)} {s : Shared} {σ : St} {H : Hp} {x : Str} {u : Value} {pos : Pos} {Q : Value → Shared → Prop} (I : Inv X pins σ H s) (hg : Gl X x) (hm : X.mg x = none) (hv : bootBuiltins x = some u) (h : Q u s)
    (hn : x ≠ "__name__" := by decide) (hd : (x == ("__debug__" : Str)) = false := by decide) : wpAny (model X.prog X.w) X.A (eval (.Name x pos) X.env) Q E s := by
  obtain ⟨mb, h1, h2⟩ := I.mod.blt
  exact Calls.Name_function_global I.ok.kind hg (Calls.loadGlobal_builtin (by rw [I.ok.glob]; exact I.mod.glob.keeps I.bk) hm (by rw [I.ok.blt]; exact h1.keeps I.bk) ((h2 x hn).trans hv) h) hd
theorem pe_glob {x : Str} {v : V} {u : Value} {pos : Pos} (hg : Gl X x) (hm : X.mg x = some u) (r : RelV v u) (hd : (x == ("__debug__" : Str)) = false := by decide) : PE X (.Name x pos) (tC v) :=
  fun _ _ _ H _ I h => ld_glob I hg hm ⟨v, H, I, r, h⟩ hd
theorem pe_bltn {x : Str} {v : V} {u : Value} {pos : Pos} (hg : Gl X x) (hm : X.mg x = none) (hv : bootBuiltins x = some u) (r : RelV v u) (hn : x ≠ "__name__" := by decide) (hd : (x == ("__debug__" : Str)) = false := by decide) : PE X (.Name x pos) (tC v) :=
  fun _ _ _ H _ I h => ld_blt I hg hm hv ⟨v, H, I, r, h⟩ hn hd
variable {a b : Expr} {ta tb : TE} {pos : Pos}
def tB (t : TE) : TT := fun σ H Q => t σ H fun x H1 => ∃ c, x = .bl c ∧ Q c H1
theorem pt_val {e : Expr} {t : TE} (h : PE X e t) (he : ∀ whole, isTrue e X.env whole = (do let v ← whole; standAt e.pos; holding [v] (truthy v)) := by intro _; rfl) : PT X e (tB t) := by
  intro pins s σ H Q I hw
  refine isTrue_plain (thn (h pins s σ H _ I hw) fun v s1 ⟨x, H1, I1, r1, q1⟩ => ?_) (he _)
  obtain ⟨d, rfl, q⟩ := q1
  cases r1
  exact wpAny_truthy_bool ⟨H1, I1, q⟩
variable {tA tB' : TT} {rest : List Expr}
def tAnd (t u : TT) : TT := fun σ H Q => t σ H fun c H1 => if c = true then u σ H1 Q else Q false H1
def tOr (t u : TT) : TT := fun σ H Q => t σ H fun c H1 => if c = true then Q true H1 else u σ H1 Q
def tNot (t : TT) : TT := fun σ H Q => t σ H fun c H1 => Q (!c) H1
theorem pw_and1 (ha : PT X a tA) : PW X (.BoolOp .And [a] pos) tA := by
  intro wh pins s σ H Q I h
  refine isTrue_and (thn (ha pins s σ H Q I h) fun c s1 e => ?_)
  cases c with
  | true => exact isTrue_and_nil e
  | false => exact e
theorem pw_or1 (ha : PT X a tA) : PW X (.BoolOp .Or [a] pos) tA := by
  intro wh pins s σ H Q I h
  refine isTrue_or (thn (ha pins s σ H Q I h) fun c s1 e => ?_)
  cases c with
  | false => exact isTrue_or_nil e
  | true => exact e
theorem pw_and (ha : PT X a tA) (hb : PW X (.BoolOp .And (b :: rest) pos) tB') : PW X (.BoolOp .And (a :: b :: rest) pos) (tAnd tA tB') := by
  intro wh pins s σ H Q I h
  refine isTrue_and (thn (ha pins s σ H _ I h) fun c s1 ⟨H1, I1, q1⟩ => ?_)
  cases c with
  | true => exact hb wh pins s1 σ H1 Q I1 q1
  | false => exact ⟨H1, I1, q1⟩
theorem pw_or (ha : PT X a tA) (hb : PW X (.BoolOp .Or (b :: rest) pos) tB') : PW X (.BoolOp .Or (a :: b :: rest) pos) (tOr tA tB') := by
  intro wh pins s σ H Q I h
  refine isTrue_or (thn (ha pins s σ H _ I h) fun c s1 ⟨H1, I1, q1⟩ => ?_)
  cases c with
  | true => exact ⟨H1, I1, q1⟩
  | false => exact hb wh pins s1 σ H1 Q I1 q1
theorem pt_not (ha : PT X a tA) : PT X (.UnaryOp .Not a pos) (tNot tA) := by
  intro pins s σ H Q I h
  exact isTrue_not (ha pins s σ H (fun c H1 => Q (!c) H1) I h)
end
end L2
namespace L2
open PySem PySem.Spec PyProof.Rows
def SqL (K : PySem.W.Frag) (H : Hp) (a : Addr) (xs : List V) : Prop :=
  Rd H a (.lst xs) ∨
    ∃ (o : Obj) (its : Array Value) (n : Nat), K.lookup a = some o ∧ o.cls = .type "list" ∧ o.dict = none ∧ o.data = .seq its n ∧ its.size ≤ sizeLine ∧ Vals xs its.toList
def SqT (K : PySem.W.Frag) (H : Hp) (a : Addr) (xs : List V) : Prop :=
  Rd H a (.tup xs) ∨
    ∃ (o : Obj) (its : Array Value) (n : Nat), K.lookup a = some o ∧ o.cls = .type "tuple" ∧ o.data = .seq its n ∧ its.size ≤ sizeLine ∧ Vals xs its.toList
def absV : Value → Option V
  | .none => some .non
  | .bool b => some (.bl b)
  | .int i _ => some (.int i)
  | .str x _ => some (.str x)
  | .bytes b _ => some (.byt b)
  | .float b _ => some (.flt b)
  | .ref a => some (.ref a)
  | .type n => some (.ty n)
  | _ => none
theorem RelV.abs {x : V} {u : Value} (r : RelV x u) : absV u = some x := by
  cases x with
  | non => cases r; rfl
  | bl _ => cases r; rfl
  | int _ => obtain ⟨t, rfl⟩ := r; rfl
  | str _ => obtain ⟨t, rfl⟩ := r; rfl
  | byt _ => obtain ⟨t, rfl⟩ := r; rfl
  | flt _ => obtain ⟨t, rfl⟩ := r; rfl
  | ref _ => cases r; rfl
  | ty _ => cases r; rfl
theorem RelV.inj {x y : V} {u : Value} (r : RelV x u) (q : RelV y u) : x = y := Option.some.inj (r.abs.symm.trans q.abs)
theorem Vals.inj : ∀ {xs ys : List V} {us : List Value}, Vals xs us → Vals ys us → xs = ys
  | _, _, _, .nil, .nil => rfl
  | _, _, _, .cons r t, .cons r' t' => by rw [r.inj r', Vals.inj t t']
section
variable {X : Cx} {pins : List (Addr × Obj)} {σ : St} {H : Hp} {s : Shared} {a : Addr} {xs ys : List V}
theorem SqL.of {K : PySem.W.Frag} (h : H a = some (.lst xs)) : SqL K H a xs := .inl (.inl h)
theorem SqT.of {K : PySem.W.Frag} (h : H a = some (.tup xs)) : SqT K H a xs := .inl (.inl h)
theorem Inv.list (I : Inv X pins σ H s) (h : SqL X.K H a xs) : ∃ its : List Value, Vals xs its ∧ PlainL s.heap a its.toArray ∧ xs.length ≤ sizeLine := by
  rcases h with h | ⟨o, its, n, hk, hc, hd, hs, hz, r⟩
  · obtain ⟨z, its, n, r, e⟩ := h.ok I.hok
    exact ⟨its, r, ⟨_, n, e, rfl, rfl, rfl⟩, z⟩
  · refine ⟨its.toList, r, ⟨o, n, I.kIn a o hk, hc, hd, by simpa using hs⟩, ?_⟩
    have e := r.length
    simp only [Array.length_toList] at e
    omega
theorem Inv.tuple (I : Inv X pins σ H s) (h : SqT X.K H a xs) : ∃ its : List Value, Vals xs its ∧ IsTup s.heap a its.toArray ∧ xs.length ≤ sizeLine := by
  rcases h with h | ⟨o, its, n, hk, hc, hs, hz, r⟩
  · obtain ⟨z, its, r, p⟩ := h.ok I.hok
    exact ⟨its, r, p, z⟩
  · refine ⟨its.toList, r, ⟨o, I.kIn a o hk, hc, n, by simpa using hs⟩, ?_⟩
    have e := r.length
    simp only [Array.length_toList] at e
    omega
theorem Inv.list_inj (I : Inv X pins σ H s) (h : SqL X.K H a xs) (h' : SqL X.K H a ys) : xs = ys := by
  obtain ⟨its, r, ⟨o, n, e, _, _, d⟩, _⟩ := I.list h
  obtain ⟨its', r', ⟨o', n', e', _, _, d'⟩, _⟩ := I.list h'
  rw [e] at e'; cases e'
  rw [d] at d'
  injection d' with d1 _
  have : its = its' := by simpa using congrArg Array.toList d1
  subst this
  exact r.inj r'
theorem Inv.tuple_inj (I : Inv X pins σ H s) (h : SqT X.K H a xs) (h' : SqT X.K H a ys) : xs = ys := by
  obtain ⟨its, r, ⟨o, e, _, n, d⟩, _⟩ := I.tuple h
  obtain ⟨its', r', ⟨o', e', _, n', d'⟩, _⟩ := I.tuple h'
  rw [e] at e'; cases e'
  rw [d] at d'
  injection d' with d1 _
  have : its = its' := by simpa using congrArg Array.toList d1
  subst this
  exact r.inj r'
end
abbrev Cx.wish (X : Cx) (E : Value → Shared → Prop) : Cx := { X with xe := E }
abbrev Cx.nox (X : Cx) : Cx := X.wish fun _ _ => False
theorem Cx.Ok.wish {X : Cx} (ok : X.Ok) (E : Value → Shared → Prop) : (X.wish E).Ok :=
  ⟨ok.mod, ok.kind, ok.glob, ok.blt, ok.above, ok.inj, ok.has, ok.cab, ok.hd, ok.frames, ok.stk, ok.exf, ok.bs, ok.bsz, ok.noex, ok.exfs, ok.funs, ok.frf⟩
theorem Cx.Ok.unwish {X : Cx} {E : Value → Shared → Prop} (ok : (X.wish E).Ok) : X.Ok :=
  ⟨ok.mod, ok.kind, ok.glob, ok.blt, ok.above, ok.inj, ok.has, ok.cab, ok.hd, ok.frames, ok.stk, ok.exf, ok.bs, ok.bsz, ok.noex, ok.exfs, ok.funs, ok.frf⟩
section
variable {X : Cx} {pins : List (Addr × Obj)} {σ : St} {H : Hp} {s : Shared} {E : Value → Shared → Prop}
theorem Inv.wish (I : Inv X pins σ H s) (E : Value → Shared → Prop) : Inv (X.wish E) pins σ H s := ⟨I.ok.wish E, I.os, I.bare, I.base, I.loc, I.cell, I.free, I.freeC, I.pin, I.hok, I.len⟩
theorem Inv.unwish (I : Inv (X.wish E) pins σ H s) : Inv X pins σ H s := ⟨I.ok.unwish, I.os, I.bare, I.base, I.loc, I.cell, I.free, I.freeC, I.pin, I.hok, I.len⟩
theorem SP.unwish {D : Ends} {f : Flow} {s' : Shared} (h : SP (X.wish E) pins D f s') : SP X pins D f s' := by
  cases f with
  | next => obtain ⟨σ', H', I, q⟩ := h; exact ⟨σ', H', I.unwish, q⟩
  | brk => obtain ⟨σ', H', I, q⟩ := h; exact ⟨σ', H', I.unwish, q⟩
  | cont => obtain ⟨σ', H', I, q⟩ := h; exact ⟨σ', H', I.unwish, q⟩
  | ret u => obtain ⟨v, σ', H', I, r, q⟩ := h; exact ⟨v, σ', H', I.unwish, r, q⟩
theorem PE.nox {e : Expr} {t : TE} (h : PE X.nox e t) : PE X e t := fun pins s σ H Q I hw =>
  wpAny_mono (h pins s σ H Q (I.wish _) hw) (fun _ _ ⟨v, H', I', r, q⟩ => ⟨v, H', I'.unwish, r, q⟩) fun _ _ z => False.elim z
theorem PT.nox {e : Expr} {t : TT} (h : PT X.nox e t) : PT X e t := fun pins s σ H Q I hw =>
  wpAny_mono (h pins s σ H Q (I.wish _) hw) (fun _ _ ⟨H', I', q⟩ => ⟨H', I'.unwish, q⟩) fun _ _ z => False.elim z
theorem PSs.nox {st : List Stmt} {t : TS} (h : PSs X.nox st t) : PSs X st t := fun pins s σ H D I hw =>
  wpAny_mono (h pins s σ H D (I.wish _) hw) (fun _ _ q => q.unwish) fun _ _ z => False.elim z
end
section
variable {X : Cx} {st : Stmt} {rest : List Stmt} {t u : TS} {e : Expr} {te : TE} {pos : Pos}
def tNext : TS := fun D σ H => D.nx σ H
def tSeq (t u : TS) : TS := fun D σ H => t { D with nx := u D } σ H
theorem pss_nil : PSs X [] tNext := fun _ _ σ H _ I h => wpAny_execs_nil ⟨σ, H, I, h⟩
theorem pss_cons (h1 : PS X st t) (h2 : PSs X rest u) : PSs X (st :: rest) (tSeq t u) := by
  intro pins s σ H D I h
  refine wpAny_execs_cons (thn (h1 pins s σ H { D with nx := u D } I h) fun f s1 q => ?_)
  cases f with
  | next =>
    obtain ⟨σ', H', I', q⟩ := q
    exact h2 pins s1 σ' H' D I' q
  | ret v => exact q
  | brk => exact q
  | cont => exact q
theorem pss_one (h1 : PS X st t) : PSs X [st] t := by
  intro pins s σ H D I h
  refine wpAny_execs_cons (thn (h1 pins s σ H D I h) fun f s1 q => ?_)
  cases f with
  | next => exact wpAny_execs_nil q
  | ret v => exact q
  | brk => exact q
  | cont => exact q
theorem Inv.quiet {pins : List (Addr × Obj)} {σ : St} {H : Hp} {s : Shared} (I : Inv X pins σ H s) : interactive X.env = false := by simp [interactive, I.ok.kind]
def tDrop (te : TE) : TS := fun D σ H => te σ H fun _ H1 => D.nx σ H1
theorem ps_expr (he : PE X e te) (hs : swapsWith e none pos.line X.env = pure false := by rfl) : PS X (.Expr e pos) (tDrop te) := by
  intro pins s σ H D I h
  exact wpAny_Expr_any (thn (he pins s σ H _ I h) fun v s1 ⟨x, H1, I1, r1, q1⟩ => ⟨σ, H1, I1, q1⟩) I.quiet hs
def tRet (te : TE) : TS := fun D σ H => te σ H D.rt
theorem ps_ret (he : PE X e te) : PS X (.Return (some e) pos) (tRet te) := by
  intro pins s σ H D I h
  exact wpAny_Return_some (thn (he pins s σ H _ I h) fun v s1 ⟨x, H1, I1, r1, q1⟩ => ⟨x, σ, H1, I1, r1, q1⟩)
def tIfS (c : TT) (t u : TS) : TS := fun D σ H => c σ H fun b H1 => if b = true then t D σ H1 else u D σ H1
theorem ps_if {c : Expr} {a b : List Stmt} {tc : TT} (hc : PT X c tc) (ha : PSs X a t) (hb : PSs X b u) : PS X (.If c a b pos) (tIfS tc t u) := by
  intro pins s σ H D I h
  refine wpAny_If (thn (hc pins s σ H _ I h) fun d s1 ⟨H1, I1, q1⟩ => ?_)
  cases d with
  | true => exact ha pins s1 σ H1 D I1 q1
  | false => exact hb pins s1 σ H1 D I1 q1
def tNever : TS := fun _ _ _ => False
theorem pss_never {sts : List Stmt} : PSs X sts tNever := fun _ _ _ _ _ _ h => h.elim
end
abbrev TG := V → St → Hp → (St → Hp → Prop) → Prop
def PG (X : Cx) (target : Expr) (t : TG) : Prop :=
  ∀ (pins : List (Addr × Obj)) (s : Shared) (σ : St) (H : Hp) (v : V) (u : Value) (Q : St → Hp → Prop), Inv X pins σ H s → RelV v u → t v σ H Q →
    wpAny (model X.prog X.w) X.A (assign target X.env u) (fun _ s' => ∃ σ' H', Inv X pins σ' H' s' ∧ Q σ' H') X.xe s
abbrev TSet := V → V → V → Hp → (Hp → Prop) → Prop
def PSet (X : Cx) (t : TSet) : Prop :=
  ∀ (pins : List (Addr × Obj)) (s : Shared) (σ : St) (H : Hp) (o i v : V) (ov iv u : Value) (Q : Hp → Prop), Inv X pins σ H s → RelV o ov → RelV i iv → RelV v u → t o i v H Q →
    wpAny (model X.prog X.w) X.A (setItem ov iv u) (fun _ s' => ∃ H', Inv X pins σ H' s' ∧ Q H') X.xe s
section
variable {X : Cx} {pos : Pos}
def gName (i : Nat) : TG := fun v σ H Q => Q (σ.set i (some v)) H
theorem pg_name {i : Nat} {x : Str} (hN : X.N.Nodup) (hi : X.N[i]? = some x) (hx : Loc X.env.scope x) (hf : X.fn x = true ∨ X.env.scope.names.lookup x = some .local := by first | exact .inl rfl | exact .inr rfl | assumption) : PG X (.Name x pos) (gName i) := by
  intro pins s σ H v u Q I r h
  exact wpAny_assign_Name (store_ok I hN hi hx r (fun s' I' => ⟨_, H, I', h⟩) hf)
def gSub (to ti : TE) (t : TSet) : TG := fun v σ H Q => to σ H fun o H1 => ti σ H1 fun i H2 => t o i v H2 fun H3 => Q σ H3
theorem pg_sub {o i : Expr} {to ti : TE} {t : TSet} (ho : PE X o to) (hi : PE X i ti) (hs : PSet X t)
    (ha : ∀ v, assign (.Subscript o i pos) X.env v = (do
      let ov ← holding [v] (eval o X.env)
      let iv ← holding [v, ov] (eval i X.env)
      standAt pos
      holding [v, ov, iv] (setItem ov iv v)
      release [v, ov, iv] []) := by intro _; rfl) : PG X (.Subscript o i pos) (gSub to ti t) := by
  intro pins s σ H v u Q I r h
  rw [ha]
  refine wpAny_bind (wpAny_holding (thn (ho pins s σ H _ I h) fun ov s1 ⟨x, H1, I1, r1, q1⟩ => ?_))
  refine wpAny_bind (wpAny_holding (thn (hi pins s1 σ H1 _ I1 q1) fun iv s2 ⟨y, H2, I2, r2, q2⟩ => ?_))
  refine wpAny_bind (wpAny_standAt (wpAny_bind (wpAny_holding (thn (hs pins s2 σ H2 x y v ov iv u _ I2 r1 r2 r q2) fun _ s3 ⟨H3, I3, q3⟩ => ?_))))
  exact wpAny_release ⟨σ, H3, I3, q3⟩
def tAsg (te : TE) (g : TG) : TS := fun D σ H => te σ H fun x H1 => g x σ H1 D.nx
theorem ps_asg {tg e : Expr} {te : TE} {g : TG} (he : PE X e te) (hg : PG X tg g) (hs : swapsWithSole [tg] e pos.line X.env = pure false := by rfl) (hw : swappedStores [tg] e X.env = pure none := by rfl)
    (h1 : (assignEach [tg] X.env).map (·.2) = [assign tg X.env] := by rfl) : PS X (.Assign [tg] e pos) (tAsg te g) := by
  intro pins s σ H D I h
  refine wpAny_Assign_stores (thn (he pins s σ H _ I h) fun v s1 ⟨x, H1, I1, r1, q1⟩ => ?_) hs hw
  rw [h1]
  exact thn (hg pins s1 σ H1 x v _ I1 r1 q1) fun _ s2 q => q
theorem ps_set {i : Nat} {x : Str} {e : Expr} {te : TE} {pos' : Pos} (hN : X.N.Nodup) (hi : X.N[i]? = some x) (hx : Loc X.env.scope x) (he : PE X e te) (hs : swapsWith e (some (.Name x pos')) pos.line X.env = pure false := by rfl) (hf : X.fn x = true ∨ X.env.scope.names.lookup x = some .local := by first | exact .inl rfl | exact .inr rfl | assumption) :
    PS X (.Assign [.Name x pos'] e pos) (tAsg te (gName i)) := by
  intro pins s σ H D I h
  refine wpAny_Assign_Name (thn (he pins s σ H _ I h) fun v s1 ⟨y, H1, I1, r1, q1⟩ => ?_) hs
  exact store_ok I1 hN hi hx r1 (fun s2 I2 => ⟨_, H1, I2, q1⟩) hf
def tPar (i j : Nat) (ta : TA) : TS := fun D σ H => ta σ H fun vs H1 => ∃ v w, vs = [v, w] ∧ D.nx ((σ.set i (some v)).set j (some w)) H1
theorem ps_par {i j : Nat} {x y : Str} {a b : Expr} {ta : TA} {px py pt : Pos} {kt k2 pt2} (hc : X.calm = true) (hN : X.N.Nodup) (hi : X.N[i]? = some x) (hj : X.N[j]? = some y) (hij : i ≠ j)
    (hx : X.env.scope.names.lookup x = some .local) (hy : X.env.scope.names.lookup y = some .local) (ha : PA X [a, b] ta)
    (hw : swappedStores [.Tuple [.Name x px, .Name y py] kt pt] (.Tuple [a, b] k2 pt2) X.env = pure (some [x, y]))
    (hs : swapsWithSole [.Tuple [.Name x px, .Name y py] kt pt] (.Tuple [a, b] k2 pt2) pos.line X.env = pure false := by rfl) :
    PS X (.Assign [.Tuple [.Name x px, .Name y py] kt pt] (.Tuple [a, b] k2 pt2) pos) (tPar i j ta) := by
  intro pins s σ H D I h
  rw [exec_Assign_arm]
  refine wpAny_bind (wpAny_standAt ?_)
  rw [hs]
  refine wpAny_bind (wpAny_pure ?_)
  rw [if_neg (by decide)]
  refine wpAny_bind (Tuple_ (thn (ha _ pins s σ H _ I h) fun us s1 ⟨vs, H1, I1, r1, q1⟩ => ?_))
  obtain ⟨v, w, e1, q1⟩ := q1
  subst e1
  obtain ⟨u1, u2, rfl, rv, rw'⟩ : ∃ u1 u2, us = [u1, u2] ∧ RelV v u1 ∧ RelV w u2 := by
    cases r1 with
    | cons p q =>
      cases q with
      | cons p' q' =>
        cases q'
        exact ⟨_, _, rfl, p, p'⟩
  refine wpAny_newObj_type ?_ (by show 2 ≤ sizeLine; decide)
  have I2 : Inv X pins σ H1 { s1 with heap := s1.heap.push { cls := .type "tuple", data := .seq [u1, u2].toArray } } := I1.kept (t' := s1.toks) fun b o e => Heap.get?_push_of_some _ e
  rw [hw]
  refine wpAny_bind (wpAny_pure ?_)
  show wpAny (model X.prog X.w) X.A (do rule "assign.swapped-stores"; let items ← unpackItems (.ref s1.heap.objs.size) 2 none; assignInOrder [fun v => bindName X.env y v, fun v => bindName X.env x v] items.reverse; pure Flow.next) _ _ _
  refine wpAny_bind (wpAny_rule (wpAny_bind (unpackItems_tuple (items := #[u1, u2]) (I.ok.hd hc) (IsTup.new s1.heap _) fun h' hx' => ?_)))
  have I3 := I2.kept (h' := h') (t' := s1.toks) fun b o e => hx' b o (Nat.ne_of_lt (Heap.lt_size e)) e
  show wpAny _ _ (assignInOrder [fun v => bindName X.env y v, fun v => bindName X.env x v] [u2, u1] >>= fun _ => pure Flow.next) _ _ _
  refine wpAny_bind (assignInOrder_cons (wpAny_bindName (store_ok I3 hN hj (.inl hy) rw' (fun s2 I4 => ?_) (.inr hy))))
  refine assignInOrder_cons (wpAny_bindName (store_ok I4 hN hi (.inl hx) rv (fun s3 I5 => assignInOrder_nil (wpAny_pure ?_)) (.inr hx)))
  rw [List.set_comm _ _ (Ne.symm hij)] at I5
  exact ⟨_, H1, I5, q1⟩
end
section
variable {X : Cx} {pos : Pos}
def tWhile (c : TT) (tb : TS) : TS := fun D σ H => ∃ W : Nat → St → Hp → Prop, (∃ m, W m σ H) ∧ ∀ m σ H, W m σ H →
  c σ H fun b H1 => if b = true then ∃ N : St → Hp → Prop, (∀ σ' H', N σ' H' → ∃ m', m' < m ∧ W m' σ' H') ∧ tb { D with nx := N, ct := N, bk := D.nx } σ H1 else D.nx σ H1
theorem ps_while {c : Expr} {body : List Stmt} {tc : TT} {tb : TS} (hp : PassesOwn (model X.prog X.w) X.A X.env X.xe) (hc : PT X c tc) (hb : PSs X body tb) : PS X (.While c body [] pos) (tWhile tc tb) := by
  intro pins s σ H D I h
  obtain ⟨W, ⟨m0, w0⟩, turn⟩ := h
  refine wpAny_While (codeAny_whileLoop (fun n s' => ∃ σ' H', Inv X pins σ' H' s' ∧ W n σ' H') ?_ m0 ⟨σ, H, I, w0⟩)
  rintro n s1 ⟨σ1, H1, I1, w1⟩
  refine wpAny_passesOwn hp (thn (hc pins s1 σ1 H1 _ I1 (turn n σ1 H1 w1)) fun b s2 ⟨H2, I2, q2⟩ => ?_)
  cases b with
  | true =>
    obtain ⟨N, hN, q2⟩ := q2
    rw [if_pos rfl]
    refine wpAny_passesOwn hp (thn (hb pins s2 σ1 H2 _ I2 q2) fun f s3 q3 => ?_)
    cases f with
    | next =>
      obtain ⟨σ3, H3, I3, n3⟩ := q3
      obtain ⟨m', hm, w3⟩ := hN σ3 H3 n3
      exact ⟨m', hm, σ3, H3, I3, w3⟩
    | cont =>
      obtain ⟨σ3, H3, I3, n3⟩ := q3
      obtain ⟨m', hm, w3⟩ := hN σ3 H3 n3
      exact ⟨m', hm, σ3, H3, I3, w3⟩
    | brk => exact q3
    | ret v => exact q3
  | false =>
    rw [if_neg Bool.false_ne_true]
    exact wpAny_execs_nil ⟨σ1, H2, I2, q2⟩
end
structure It where
  go : Nat → Hp → Prop
  yld : Nat → Hp → V → Hp → Prop
  stop : Nat → Hp → Prop
def FpOk (X : Cx) (pins : List (Addr × Obj)) (H : Hp) (b : Addr) : Prop :=
  H b = none ∧ b ≠ X.env.locals ∧ b ∉ X.fs ∧ (b ∈ X.ex ∨ X.s₀.heap.objs.size ≤ b) ∧ (∀ x c, X.env.cells.lookup x = some c → c ≠ b) ∧ ∀ p ∈ X.pn ++ pins, p.1 ≠ b
theorem Inv.fpOk {X : Cx} {pins : List (Addr × Obj)} {σ : St} {H H' : Hp} {s : Shared} {b : Addr} (I : Inv X pins σ H s) (hb : s.heap.objs.size ≤ b) (hn : H' b = none) : FpOk X pins H' b := by
  refine ⟨hn, Nat.ne_of_gt (Nat.lt_of_lt_of_le I.lt hb), I.nofs hb, .inr (Nat.le_trans I.sz hb), fun x c e z => ?_, fun p hp z => ?_⟩
  · obtain ⟨v, q⟩ := I.cell x c e
    exact absurd (Nat.lt_of_lt_of_le q.lt (by rw [z]; exact hb)) (Nat.lt_irrefl _)
  · exact absurd (Nat.lt_of_lt_of_le (Heap.lt_size (I.pin p hp).1) (by rw [z]; exact hb)) (Nat.lt_irrefl _)
structure Turn (P : Program) (w : World) (K : PySem.W.Frag) (tg : Expr) (J : It) (fp : List Addr) (it : Addr) (tn : Nat → Heap → Prop) : Prop where
  mem : it ∈ fp
  obj : ∀ i h, tn i h → ∀ b ∈ fp, ∃ o, h.get? b = some o ∧ ∀ v, o.data ≠ .cell v
  keep : ∀ i h h', tn i h → (∀ b ∈ fp, ∀ o, h.get? b = some o → h'.get? b = some o) → tn i h'
  item : ∀ (X : Cx), X.prog = P → X.w = w → X.K = K → X.calm = true → ∀ (i : Nat) (pins : List (Addr × Obj)) (s : Shared) (σ : St) (H : Hp) (E : Value → Shared → Prop), Inv X pins σ H s → (∀ b ∈ fp, FpOk X pins H b) → tn i s.heap → J.go i H →
    wpAny (model P w) X.A (pyNext (.ref it)) (fun r s1 => ∃ u, r = some u ∧
      wpAny (model P w) X.A (letOwnedTupleGo tg (.ref it) u) (fun _ s2 => ∃ x H', Inv X pins σ H' s2 ∧ RelV x u ∧ J.yld i H x H' ∧ tn (i + 1) s2.heap ∧ ∀ b ∈ fp, H' b = none) E s1) E s
  done : ∀ (X : Cx), X.prog = P → X.w = w → X.K = K → X.calm = true → ∀ (i : Nat) (pins : List (Addr × Obj)) (s : Shared) (σ : St) (H : Hp) (E : Value → Shared → Prop), Inv X pins σ H s → (∀ b ∈ fp, FpOk X pins H b) → tn i s.heap → J.stop i H →
    wpAny (model P w) X.A (pyNext (.ref it)) (fun r s1 => r = none ∧ Inv X pins σ H s1) E s
  self : ∀ (A : Around) (i : Nat) (s : Shared) (Q : Value → Shared → Prop) (E : Value → Shared → Prop), tn i s.heap → Q (.ref it) s → wpAny (model P w) A (pyIter (.ref it)) Q E s
abbrev TI := St → Hp → (It → Hp → Prop) → Prop
def PIE (X : Cx) (pins : List (Addr × Obj)) (σ : St) (tg : Expr) (R : It → Hp → Prop) (itv : Value) (s2 : Shared) : Prop :=
  ∃ (it : Addr) (fp : List Addr) (tn : Nat → Heap → Prop) (J : It) (H' : Hp), itv = .ref it ∧ Inv X pins σ H' s2 ∧ Turn X.prog X.w X.K tg J fp it tn ∧ tn 0 s2.heap ∧ (∀ b ∈ fp, FpOk X pins H' b) ∧ R J H'
def PI (X : Cx) (tg iter : Expr) (wi : TI) : Prop :=
  ∀ (pins : List (Addr × Obj)) (s : Shared) (σ : St) (H : Hp) (R : It → Hp → Prop), Inv X pins σ H s → wi σ H R →
    wpAny (model X.prog X.w) X.A (eval iter X.env) (fun v s1 => wpAny (model X.prog X.w) X.A (pyIter v) (PIE X pins σ tg R) X.xe s1) X.xe s
theorem go_of {M : Model} {A : Around} {E : Value → Shared → Prop} {s : Shared} {tg : Expr} {it : Addr} {u : Value} {o : Obj} {n : String} {vs : Array Value} {Q : Unit → Shared → Prop} (ho : s.heap.get? it = some o) (hc : o.cls = .type n) (hd : o.data = .fields vs)
    (hn : ["enumerate", "zip", "dict_itemiterator", "dict_reverseitemiterator", "odict_iterator", "itertools.zip_longest", "itertools.pairwise"].contains n = false) (hQ : Q () s) : wpAny M A (letOwnedTupleGo tg (.ref it) u) Q E s := by
  unfold letOwnedTupleGo
  cases tg <;> first
    | exact wpAny_pure hQ
    | (cases u <;> first
        | exact wpAny_pure hQ
        | (refine wpAny_bind (wpAny_load ho ?_)
           rw [hc, hd]
           show wpAny M A (if (["enumerate", "zip", "dict_itemiterator", "dict_reverseitemiterator", "odict_iterator", "itertools.zip_longest", "itertools.pairwise"].contains n && vs[0]? == some (rawInt _)) = true then _ else _) Q E s
           rw [if_neg (by intro h; rw [hn, Bool.false_and] at h; cases h)]
           exact wpAny_pure hQ))
def Itl (K : PySem.W.Frag) (a : Addr) : It :=
  ⟨fun i H => ∃ xs x, SqL K H a xs ∧ xs[i]? = some x, fun i H x H' => H' = H ∧ ∀ xs, SqL K H a xs → xs[i]? = some x, fun i H => ∃ xs, SqL K H a xs ∧ xs.length ≤ i⟩
def Itt (K : PySem.W.Frag) (a : Addr) : It :=
  ⟨fun i H => ∃ xs x, SqT K H a xs ∧ xs[i]? = some x, fun i H x H' => H' = H ∧ ∀ xs, SqT K H a xs → xs[i]? = some x, fun i H => ∃ xs, SqT K H a xs ∧ xs.length ≤ i⟩
def Itr (lo : Int) (n : Nat) : It := ⟨fun i _ => i < n, fun i H x H' => H' = H ∧ x = .int (lo + i), fun i _ => n ≤ i⟩
theorem turn_list {P : Program} {w : World} {K : PySem.W.Frag} {tg : Expr} (a it : Addr) : Turn P w K tg (Itl K a) [it] it (fun i h => h.IsListIter it a i) where
  mem := by simp
  obj := fun i h st b hb => by
    have e : b = it := by simpa using hb
    subst e
    obtain ⟨o, e, c, d⟩ := st
    exact ⟨o, e, fun v z => by rw [d] at z; cases z⟩
  keep := fun i h h' st k => st.at fun o e => k it (by simp) o e
  item := by
    intro X hP hw hK hc i pins s σ H E I hf st hg
    subst hP hw hK
    obtain ⟨xs, x, hq, hx⟩ := hg
    obtain ⟨its, rv, p, hz⟩ := I.list hq
    obtain ⟨u, hu, ru⟩ := rv.get hx
    obtain ⟨f0, f1, f2, f3, f4, f5⟩ := hf it (by simp)
    refine wpAny_pyNext_list_item st p.isList (x := u) (by simpa using hu) fun h' st' sb => ?_
    have I1 : Inv X pins σ H { s with heap := h' } := I.turned (t' := s.toks) (fun b o hb e => (sb.2 b hb).trans e) f0 f1 f3 f4 f5
    obtain ⟨o, e, c, d⟩ := id st'
    exact ⟨u, rfl, go_of (s := { s with heap := h' }) e c d (by decide) ⟨x, H, I1, ru, ⟨rfl, fun ys hy => by rw [I.list_inj hy hq]; exact hx⟩, st', fun b hb => (hf b hb).1⟩⟩
  done := by
    intro X hP hw hK hc i pins s σ H E I hf st hg
    subst hP hw hK
    obtain ⟨xs, hq, hx⟩ := hg
    obtain ⟨its, rv, p, hz⟩ := I.list hq
    obtain ⟨f0, f1, f2, f3, f4, f5⟩ := hf it (by simp)
    have hl := rv.length
    exact wpAny_pyNext_list_end (I.ok.hd hc) st p.isList (by simp; omega) fun h' eb => ⟨rfl, I.turned (t' := s.toks) (fun b o hb e => eb b o hb e) f0 f1 f3 f4 f5⟩
  self := fun _ _ _ _ _ st h => wpAny_pyIter_listiter st h
theorem turn_tuple {P : Program} {w : World} {K : PySem.W.Frag} {tg : Expr} (a it : Addr) : Turn P w K tg (Itt K a) [it] it (fun i h => h.IsTupleIter it a i) where
  mem := by simp
  obj := fun i h st b hb => by
    have e : b = it := by simpa using hb
    subst e
    obtain ⟨o, e, c, d⟩ := st
    exact ⟨o, e, fun v z => by rw [d] at z; cases z⟩
  keep := fun i h h' st k => st.at fun o e => k it (by simp) o e
  item := by
    intro X hP hw hK hc i pins s σ H E I hf st hg
    subst hP hw hK
    obtain ⟨xs, x, hq, hx⟩ := hg
    obtain ⟨its, rv, p, hz⟩ := I.tuple hq
    obtain ⟨u, hu, ru⟩ := rv.get hx
    obtain ⟨f0, f1, f2, f3, f4, f5⟩ := hf it (by simp)
    refine wpAny_pyNext_tuple_item st (show s.heap.IsTuple a its.toArray from p) (x := u) (by simpa using hu) fun h' st' sb => ?_
    have I1 : Inv X pins σ H { s with heap := h' } := I.turned (t' := s.toks) (fun b o hb e => (sb.2 b hb).trans e) f0 f1 f3 f4 f5
    obtain ⟨o, e, c, d⟩ := id st'
    exact ⟨u, rfl, go_of (s := { s with heap := h' }) e c d (by decide) ⟨x, H, I1, ru, ⟨rfl, fun ys hy => by rw [I.tuple_inj hy hq]; exact hx⟩, st', fun b hb => (hf b hb).1⟩⟩
  done := by
    intro X hP hw hK hc i pins s σ H E I hf st hg
    subst hP hw hK
    obtain ⟨xs, hq, hx⟩ := hg
    obtain ⟨its, rv, p, hz⟩ := I.tuple hq
    obtain ⟨f0, f1, f2, f3, f4, f5⟩ := hf it (by simp)
    have hl := rv.length
    exact wpAny_pyNext_tuple_end (I.ok.hd hc) st (show s.heap.IsTuple a its.toArray from p) (by simp; omega) fun h' eb => ⟨rfl, I.turned (t' := s.toks) (fun b o hb e => eb b o hb e) f0 f1 f3 f4 f5⟩
  self := fun _ _ _ _ _ st h => wpAny_pyIter_tupleiter st h
theorem turn_range {P : Program} {w : World} {K : PySem.W.Frag} {tg : Expr} (it : Addr) (lo : Int) (n : Nat) : Turn P w K tg (Itr lo n) [it] it (fun i h => IsRangeIter h it (lo + (i : Nat) * 1) ((n : Int) - (i : Nat)) 1) where
  mem := by simp
  obj := fun i h st b hb => by
    have e : b = it := by simpa using hb
    subst e
    exact ⟨_, st, fun v z => by
      have z' : Data.fields _ = Data.cell v := z
      cases z'⟩
  keep := fun i h h' st k => k it (by simp) _ st
  item := by
    intro X hP hw hK hc i pins s σ H E I hf st hg
    subst hP hw hK
    obtain ⟨f0, f1, f2, f3, f4, f5⟩ := hf it (by simp)
    have W := Walks.range (prog := X.prog) (w := X.w) (I.ok.hd hc) it lo 1 n
    refine W.item i s _ _ hg st fun v h' tk hv st' kk => ?_
    obtain ⟨t, rfl⟩ := hv
    have I1 : Inv X pins σ H { s with heap := h', toks := tk } := I.turned (fun b o hb e => kk b o (by simpa using hb) e) f0 f1 f3 f4 f5
    refine ⟨_, rfl, go_of (s := { s with heap := h', toks := tk }) (n := "range_iterator") st' rfl rfl (by decide) ⟨.int (lo + i), H, I1, ⟨t, ?_⟩, ⟨rfl, rfl⟩, st', fun b hb => (hf b hb).1⟩⟩
    rw [Int.mul_one]
  done := by
    intro X hP hw hK hc i pins s σ H E I hf st hg
    subst hP hw hK
    obtain ⟨f0, f1, f2, f3, f4, f5⟩ := hf it (by simp)
    exact wpAny_pyNext_range_end (I.ok.hd hc) st (by have : n ≤ i := hg; omega) fun h' eb => ⟨rfl, I.turned (t' := s.toks) (fun b o hb e => eb b o hb e) f0 f1 f3 f4 f5⟩
  self := fun _ _ _ _ _ st h => wpAny_pyIter_rangeiter st h
end L2
namespace L2
open PySem PySem.Spec PyProof.Rows
section
variable {X : Cx} {tg : Expr}
def iList (K : PySem.W.Frag) (tl : TE) : TI := fun σ H R => tl σ H fun x H1 => ∃ a, x = .ref a ∧ (∃ xs, SqL K H1 a xs) ∧ R (Itl K a) H1
def iTup (K : PySem.W.Frag) (tl : TE) : TI := fun σ H R => tl σ H fun x H1 => ∃ a, x = .ref a ∧ (∃ xs, SqT K H1 a xs) ∧ R (Itt K a) H1
theorem pi_list {l : Expr} {tl : TE} (hl : PE X l tl) : PI X tg l (iList X.K tl) := by
  intro pins s σ H R I h
  refine thn (hl pins s σ H _ I h) fun v s1 ⟨x, H1, I1, r1, q1⟩ => ?_
  obtain ⟨a, e, ⟨xs, hq⟩, q⟩ := q1
  subst e
  cases r1
  obtain ⟨its, rv, p, hz⟩ := I1.list hq
  refine wpAny_pyIter_list p.isList ?_
  refine ⟨s1.heap.objs.size, [s1.heap.objs.size], _, _, H1, rfl, I1.kept (t' := s1.toks) fun b o e => Heap.get?_push_of_some _ e, turn_list a _, ⟨_, Heap.get?_push_size _ rfl, rfl, rfl⟩, fun b hb => ?_, q⟩
  have e : b = s1.heap.objs.size := by simpa using hb
  subst e
  exact I1.fpOk (Nat.le_refl _) (I1.hok.fresh (Nat.le_refl _))
theorem pi_tup {l : Expr} {tl : TE} (hl : PE X l tl) : PI X tg l (iTup X.K tl) := by
  intro pins s σ H R I h
  refine thn (hl pins s σ H _ I h) fun v s1 ⟨x, H1, I1, r1, q1⟩ => ?_
  obtain ⟨a, e, ⟨xs, hq⟩, q⟩ := q1
  subst e
  cases r1
  obtain ⟨its, rv, p, hz⟩ := I1.tuple hq
  refine wpAny_pyIter_tuple (show s1.heap.IsTuple a its.toArray from p) ?_
  refine ⟨s1.heap.objs.size, [s1.heap.objs.size], _, _, H1, rfl, I1.kept (t' := s1.toks) fun b o e => Heap.get?_push_of_some _ e, turn_tuple a _, ⟨_, Heap.get?_push_size _ rfl, rfl, rfl⟩, fun b hb => ?_, q⟩
  have e : b = s1.heap.objs.size := by simpa using hb
  subst e
  exact I1.fpOk (Nat.le_refl _) (I1.hok.fresh (Nat.le_refl _))
theorem range_it {pins : List (Addr × Obj)} {σ : St} {H : Hp} {s : Shared} {R : It → Hp → Prop} {E : Value → Shared → Prop} {lo hi : Int} {t u v : Tok} {tk : Nat} (I : Inv X pins σ H s) (h1 : -(2 ^ 62) ≤ lo) (h2 : lo < 2 ^ 62) (h3 : -(2 ^ 62) ≤ hi) (h4 : hi < 2 ^ 62)
    (q : R (Itr lo (hi - lo).toNat) H) : wpAny (model X.prog X.w) X.A (pyIter (.ref s.heap.objs.size)) (PIE X pins σ tg R) E { s with heap := s.heap.push { cls := .type "range", data := .fields #[.int lo t, .int hi u, .int 1 v] }, toks := tk } := by
  refine wpAny_pyIter_range (IsRange.new ..) (small_one h1 h2 h3 h4) ?_
  have I1 : Inv X pins σ H { s with heap := s.heap.push { cls := .type "range", data := .fields #[.int lo t, .int hi u, .int 1 v] }, toks := tk } := I.kept fun b o e => Heap.get?_push_of_some _ e
  refine ⟨(s.heap.push { cls := .type "range", data := .fields #[.int lo t, .int hi u, .int 1 v] }).objs.size, [(s.heap.push { cls := .type "range", data := .fields #[.int lo t, .int hi u, .int 1 v] }).objs.size], _, _, H, rfl,
    I1.kept (t' := tk) fun b o e => Heap.get?_push_of_some _ e, turn_range _ lo (hi - lo).toNat, ?_, fun b hb => ?_, q⟩
  · have e1 : lo + ((0 : Nat) : Int) * 1 = lo := by simp
    have e2 : (((hi - lo).toNat : Nat) : Int) - ((0 : Nat) : Int) = Builtin.Range.rangeSize lo hi 1 := by rw [rangeSize_one]; split <;> omega
    show IsRangeIter _ _ (lo + ((0 : Nat) : Int) * 1) ((((hi - lo).toNat : Nat) : Int) - ((0 : Nat) : Int)) 1
    rw [e1, e2]
    exact Heap.get?_push_size _ rfl
  · have e : b = (s.heap.push { cls := .type "range", data := .fields #[.int lo t, .int hi u, .int 1 v] }).objs.size := by simpa using hb
    subst e
    exact I1.fpOk (Nat.le_refl _) (I1.hok.fresh (Nat.le_refl _))
def iRng1 (ta : TA) : TI := fun σ H R => ta σ H fun vs H1 => ∃ j : Int, vs = [.int j] ∧ -(2 ^ 62) ≤ j ∧ j < 2 ^ 62 ∧ R (Itr 0 j.toNat) H1
theorem pi_range1 {a : Expr} {ta : TA} {p pos : Pos} (hg : Gl X "range") (hm : X.mg "range" = none) (ha : PA X [a] ta) (hs : starEach [a] X.env = [(false, eval a X.env)] := by rfl) : PI X tg (.Call (.Name "range" p) [a] [] pos) (iRng1 ta) := by
  intro pins s σ H R I h
  refine Call_ (ld_blt I hg hm boot_range (PyProof.Rows.callWith_type1 (thn (ha pos pins s σ H _ I h) fun us s1 ⟨vs, H1, I1, r1, q1⟩ => ?_) hs rfl))
  obtain ⟨j, e, q1, q2, q⟩ := q1
  subst e
  cases r1 with
  | cons r rr =>
    cases rr
    obtain ⟨t, rfl⟩ := r
    exact call_range_1 (range_it I1 (by omega) (by omega) q1 q2 (by simpa using q))
def tFor (wi : TI) (g : TG) (tb : TS) : TS := fun D σ H => wi σ H fun J H1 => ∃ W : Nat → Nat → St → Hp → Prop, (∃ m, W 0 m σ H1) ∧ ∀ i m σ H, W i m σ H →
  (J.stop i H ∧ D.nx σ H) ∨ (J.go i H ∧ ∃ N : St → Hp → Prop, (∀ σ' H', N σ' H' → ∃ m', m' < m ∧ W (i + 1) m' σ' H') ∧ ∀ x H', J.yld i H x H' → g x σ H' fun σ2 H2 => tb { D with nx := N, ct := N, bk := D.nx } σ2 H2)
def pinsAt (fp : List Addr) (h : Heap) : List (Addr × Obj) := fp.filterMap fun b => (h.get? b).map fun o => (b, o)
theorem mem_pinsAt {fp : List Addr} {h : Heap} {b : Addr} {o : Obj} (hb : b ∈ fp) (e : h.get? b = some o) : (b, o) ∈ pinsAt fp h := List.mem_filterMap.mpr ⟨b, hb, by rw [e]; rfl⟩
theorem of_pinsAt {fp : List Addr} {h : Heap} {p : Addr × Obj} (hp : p ∈ pinsAt fp h) : p.1 ∈ fp ∧ h.get? p.1 = some p.2 := by
  obtain ⟨b, hb, e⟩ := List.mem_filterMap.mp hp
  cases q : h.get? b with
  | none => rw [q] at e; cases e
  | some o =>
    rw [q] at e
    have e' : (b, o) = p := Option.some.inj e
    subst e'
    exact ⟨hb, q⟩
theorem Inv.pinned {pins : List (Addr × Obj)} {σ : St} {H : Hp} {s : Shared} {fp : List Addr} (I : Inv X pins σ H s) (hf : ∀ b ∈ fp, FpOk X pins H b) (ho : ∀ b ∈ fp, ∃ o, s.heap.get? b = some o ∧ ∀ v, o.data ≠ .cell v) : Inv X (pins ++ pinsAt fp s.heap) σ H s :=
  I.pins_of fun p hp => (List.mem_append.mp hp).elim (fun z => I.pin p (List.mem_append_right _ z)) fun z => by
    obtain ⟨hb, e⟩ := of_pinsAt z
    obtain ⟨f0, f1, f2, _⟩ := hf p.1 hb
    obtain ⟨o, e', d⟩ := ho p.1 hb
    rw [e] at e'; cases e'
    exact ⟨e, f0, f1, f2, d⟩
theorem Inv.unpinned {pins pl : List (Addr × Obj)} {σ : St} {H : Hp} {s : Shared} (I : Inv X (pins ++ pl) σ H s) : Inv X pins σ H s := I.pins_of fun p hp => I.pin p (List.mem_append_right _ (List.mem_append_left _ hp))
theorem ps_for {iter : Expr} {body : List Stmt} {wi : TI} {g : TG} {tb : TS} {pos : Pos} (hp : PassesOwn (model X.prog X.w) X.A X.env X.xe) (hc : X.calm = true) (hi : PI X tg iter wi) (hg : PG X tg g) (hb : PSs X body tb)
    (hs : ∀ x, foldedSetIterable iter X.env x = pure x := by intro _; rfl) : PS X (.For tg iter body [] pos) (tFor wi g tb) := by
  intro pins s σ H D I h
  refine wpAny_For (thn (hi pins s σ H _ I h) fun v s1 h1 => thn h1 fun itv s2 h2 => ?_) hs
  obtain ⟨it, fp, tn, J, H2, e, I2, T, st2, f2, W, ⟨m0, w0⟩, turn⟩ := h2
  subst e
  have stat : ∀ {H' : Hp}, (∀ b ∈ fp, H' b = none) → ∀ b ∈ fp, FpOk X pins H' b := fun hn b hb => ⟨hn b hb, (f2 b hb).2⟩
  refine codeAny_forLoop_any (fun n s' => ∃ i σ' H', Inv X pins σ' H' s' ∧ tn i s'.heap ∧ (∀ b ∈ fp, H' b = none) ∧ W i n σ' H') ?_ m0 ⟨0, σ, H2, I2, st2, fun b hb => (f2 b hb).1, w0⟩
  rintro n s3 ⟨i, σ3, H3, I3, st3, fr3, w3⟩
  rcases turn i n σ3 H3 w3 with ⟨stop, qn⟩ | ⟨go, N, hN, step⟩
  · refine wpAny_passesOwn hp (thn (T.done X rfl rfl rfl hc i pins s3 σ3 H3 X.xe I3 (stat fr3) st3 stop) fun r s4 ⟨hr, I4⟩ => ?_)
    subst hr
    exact wpAny_execs_nil ⟨σ3, H3, I4, qn⟩
  · refine wpAny_passesOwn hp (thn (T.item X rfl rfl rfl hc i pins s3 σ3 H3 X.xe I3 (stat fr3) st3 go) fun r s4 ⟨u, hr, h4⟩ => ?_)
    subst hr
    refine wpAny_passesOwn hp (thn h4 fun _ s5 ⟨x, H5, I5, r5, y5, st5, fr5⟩ => ?_)
    have I5' := I5.pinned (stat fr5) (T.obj _ _ st5)
    refine wpAny_passesOwn hp (thn (hg _ s5 σ3 H5 x u _ I5' r5 (step x H5 y5)) fun _ s6 ⟨σ6, H6, I6, q6⟩ => ?_)
    refine wpAny_passesOwn hp (thn (hb _ s6 σ6 H6 _ I6 q6) fun f s7 q7 => ?_)
    have again : ∀ {σ7 : St} {H7 : Hp}, Inv X (pins ++ pinsAt fp s5.heap) σ7 H7 s7 → N σ7 H7 → ∃ m, m < n ∧ ∃ i σ' H', Inv X pins σ' H' s7 ∧ tn i s7.heap ∧ (∀ b ∈ fp, H' b = none) ∧ W i m σ' H' := fun {σ7 H7} I7 n7 => by
      obtain ⟨m', hm, w7⟩ := hN σ7 H7 n7
      refine ⟨m', hm, i + 1, σ7, H7, I7.unpinned, T.keep _ _ _ st5 fun b hb o e => (I7.pin (b, o) (List.mem_append_right _ (List.mem_append_right _ (mem_pinsAt hb e)))).1, fun b hb => ?_, w7⟩
      obtain ⟨o, e, d⟩ := T.obj _ _ st5 b hb
      exact (I7.pin (b, o) (List.mem_append_right _ (List.mem_append_right _ (mem_pinsAt hb e)))).2.1
    cases f with
    | next => obtain ⟨σ7, H7, I7, n7⟩ := q7; exact again I7 n7
    | cont => obtain ⟨σ7, H7, I7, n7⟩ := q7; exact again I7 n7
    | brk => obtain ⟨σ7, H7, I7, q7⟩ := q7; exact ⟨σ7, H7, I7.unpinned, q7⟩
    | ret v => obtain ⟨x7, σ7, H7, I7, r7, q7⟩ := q7; exact ⟨x7, σ7, H7, I7.unpinned, r7, q7⟩
end
theorem for_list {K : PySem.W.Frag} {a : Addr} {xs : List V} {g : TG} {tb : TS} {D : Ends} {σ : St} {H : Hp} (Pv : Nat → St → Hp → Prop) (h0 : Pv 0 σ H) (hl : ∀ i σ H, i ≤ xs.length → Pv i σ H → SqL K H a xs)
    (hs : ∀ i x σ H, xs[i]? = some x → Pv i σ H → g x σ H fun σ2 H2 => tb { D with nx := Pv (i + 1), ct := Pv (i + 1), bk := D.nx } σ2 H2) (hd : ∀ σ H, Pv xs.length σ H → D.nx σ H) :
    ∃ W : Nat → Nat → St → Hp → Prop, (∃ m, W 0 m σ H) ∧ ∀ i m σ H, W i m σ H →
      ((Itl K a).stop i H ∧ D.nx σ H) ∨ ((Itl K a).go i H ∧ ∃ N : St → Hp → Prop, (∀ σ' H', N σ' H' → ∃ m', m' < m ∧ W (i + 1) m' σ' H') ∧ ∀ x H', (Itl K a).yld i H x H' → g x σ H' fun σ2 H2 => tb { D with nx := N, ct := N, bk := D.nx } σ2 H2) := by
  refine ⟨fun i m σ H => m = xs.length - i ∧ i ≤ xs.length ∧ Pv i σ H, ⟨xs.length, by simp, Nat.zero_le _, h0⟩, ?_⟩
  rintro i m σ H ⟨rfl, hi, p⟩
  have q := hl i σ H hi p
  by_cases hlt : i < xs.length
  · refine .inr ⟨⟨xs, xs[i], q, by simp [hlt]⟩, Pv (i + 1), fun σ' H' p' => ⟨xs.length - (i + 1), by omega, rfl, hlt, p'⟩, fun x H' y => ?_⟩
    obtain ⟨e, y⟩ := y
    subst e
    exact hs i x σ _ (y xs q) p
  · have e : i = xs.length := by omega
    subst e
    exact .inl ⟨⟨xs, q, Nat.le_refl _⟩, hd σ H p⟩
theorem for_tup {K : PySem.W.Frag} {a : Addr} {xs : List V} {g : TG} {tb : TS} {D : Ends} {σ : St} {H : Hp} (Pv : Nat → St → Hp → Prop) (h0 : Pv 0 σ H) (hl : ∀ i σ H, i ≤ xs.length → Pv i σ H → SqT K H a xs)
    (hs : ∀ i x σ H, xs[i]? = some x → Pv i σ H → g x σ H fun σ2 H2 => tb { D with nx := Pv (i + 1), ct := Pv (i + 1), bk := D.nx } σ2 H2) (hd : ∀ σ H, Pv xs.length σ H → D.nx σ H) :
    ∃ W : Nat → Nat → St → Hp → Prop, (∃ m, W 0 m σ H) ∧ ∀ i m σ H, W i m σ H →
      ((Itt K a).stop i H ∧ D.nx σ H) ∨ ((Itt K a).go i H ∧ ∃ N : St → Hp → Prop, (∀ σ' H', N σ' H' → ∃ m', m' < m ∧ W (i + 1) m' σ' H') ∧ ∀ x H', (Itt K a).yld i H x H' → g x σ H' fun σ2 H2 => tb { D with nx := N, ct := N, bk := D.nx } σ2 H2) := by
  refine ⟨fun i m σ H => m = xs.length - i ∧ i ≤ xs.length ∧ Pv i σ H, ⟨xs.length, by simp, Nat.zero_le _, h0⟩, ?_⟩
  rintro i m σ H ⟨rfl, hi, p⟩
  have q := hl i σ H hi p
  by_cases hlt : i < xs.length
  · refine .inr ⟨⟨xs, xs[i], q, by simp [hlt]⟩, Pv (i + 1), fun σ' H' p' => ⟨xs.length - (i + 1), by omega, rfl, hlt, p'⟩, fun x H' y => ?_⟩
    obtain ⟨e, y⟩ := y
    subst e
    exact hs i x σ _ (y xs q) p
  · have e : i = xs.length := by omega
    subst e
    exact .inl ⟨⟨xs, q, Nat.le_refl _⟩, hd σ H p⟩
theorem for_range {lo : Int} {n : Nat} {g : TG} {tb : TS} {D : Ends} {σ : St} {H : Hp} (Pv : Nat → St → Hp → Prop) (h0 : Pv 0 σ H)
    (hs : ∀ i σ H, i < n → Pv i σ H → g (.int (lo + i)) σ H fun σ2 H2 => tb { D with nx := Pv (i + 1), ct := Pv (i + 1), bk := D.nx } σ2 H2) (hd : ∀ σ H, Pv n σ H → D.nx σ H) :
    ∃ W : Nat → Nat → St → Hp → Prop, (∃ m, W 0 m σ H) ∧ ∀ i m σ H, W i m σ H →
      ((Itr lo n).stop i H ∧ D.nx σ H) ∨ ((Itr lo n).go i H ∧ ∃ N : St → Hp → Prop, (∀ σ' H', N σ' H' → ∃ m', m' < m ∧ W (i + 1) m' σ' H') ∧ ∀ x H', (Itr lo n).yld i H x H' → g x σ H' fun σ2 H2 => tb { D with nx := N, ct := N, bk := D.nx } σ2 H2) := by
  refine ⟨fun i m σ H => m = n - i ∧ i ≤ n ∧ Pv i σ H, ⟨n, by simp, Nat.zero_le _, h0⟩, ?_⟩
  rintro i m σ H ⟨rfl, hi, p⟩
  by_cases hlt : i < n
  · refine .inr ⟨hlt, Pv (i + 1), fun σ' H' p' => ⟨n - (i + 1), by omega, rfl, hlt, p'⟩, fun x H' y => ?_⟩
    obtain ⟨e, y⟩ := y
    subst e y
    exact hs i σ _ hlt p
  · have e : i = n := by omega
    subst e
    exact .inl ⟨Nat.le_refl _, hd σ H p⟩
theorem while_by {c : TT} {tb : TS} {D : Ends} {σ : St} {H : Hp} (Pv : St → Hp → Prop) (μ : St → Hp → Nat) (h0 : Pv σ H)
    (hs : ∀ σ H, Pv σ H → c σ H fun b H1 => if b = true then tb { D with nx := fun σ' H' => Pv σ' H' ∧ μ σ' H' < μ σ H, ct := fun σ' H' => Pv σ' H' ∧ μ σ' H' < μ σ H, bk := D.nx } σ H1 else D.nx σ H1)
    (mono : ∀ σ H Q Q', (∀ b H1, Q b H1 → Q' b H1) → c σ H Q → c σ H Q') : tWhile c tb D σ H := by
  refine ⟨fun m σ H => m = μ σ H ∧ Pv σ H, ⟨_, rfl, h0⟩, ?_⟩
  rintro m σ H ⟨rfl, p⟩
  refine mono σ H _ _ (fun b H1 q => ?_) (hs σ H p)
  cases b with
  | true => exact ⟨_, fun σ' H' ⟨p', l⟩ => ⟨_, l, rfl, p'⟩, q⟩
  | false => exact q
end L2
namespace L2
open PySem PySem.Spec PyProof.Rows
abbrev R2 := V → V → Hp → VK → Prop
def OpR (X : Cx) (f : Value → Value → Sem Value) (r : R2) : Prop :=
  ∀ (pins : List (Addr × Obj)) (s : Shared) (σ : St) (H : Hp) (x y : V) (v u : Value) (Q : VK), Inv X pins σ H s → RelV x v → RelV y u → r x y H Q →
    wpAny (model X.prog X.w) X.A (f v u) (EP X pins σ Q) X.xe s
def UnR (X : Cx) (f : Value → Sem Value) (r : V → Hp → VK → Prop) : Prop :=
  ∀ (pins : List (Addr × Obj)) (s : Shared) (σ : St) (H : Hp) (x : V) (v : Value) (Q : VK), Inv X pins σ H s → RelV x v → r x H Q →
    wpAny (model X.prog X.w) X.A (f v) (EP X pins σ Q) X.xe s
def CallR (X : Cx) (f : Value) (r : List V → Hp → VK → Prop) : Prop :=
  ∀ (pins : List (Addr × Obj)) (s : Shared) (σ : St) (H : Hp) (xs : List V) (us : List Value) (Q : VK), Inv X pins σ H s → Vals xs us → r xs H Q →
    wpAny (model X.prog X.w) X.A (call f us) (EP X pins σ Q) X.xe s
def tOp (r : R2) (ta tb : TE) : TE := fun σ H Q => ta σ H fun x H1 => tb σ H1 fun y H2 => r x y H2 Q
def tUn (r : V → Hp → VK → Prop) (ta : TE) : TE := fun σ H Q => ta σ H fun x H1 => r x H1 Q
def rI (C : Int → Int → Prop) (g : Int → Int → V) : R2 := fun x y H Q => ∃ i j, x = .int i ∧ y = .int j ∧ C i j ∧ Q (g i j) H
def rI0 (g : Int → Int → V) : R2 := fun x y H Q => ∃ i j, x = .int i ∧ y = .int j ∧ Q (g i j) H
def rU (g : Int → V) : V → Hp → VK → Prop := fun x H Q => ∃ i, x = .int i ∧ Q (g i) H
section
variable {X : Cx} {a b c : Expr} {ta tb tc : TE} {pos : Pos}
theorem binT (ha : PE X a ta) (hb : PE X b tb) {pins : List (Addr × Obj)} {s : Shared} {σ : St} {H : Hp} {R : V → V → Hp → Prop} (I : Inv X pins σ H s)
    (h : ta σ H fun x H1 => tb σ H1 fun y H2 => R x y H2) {Q : Value → Shared → Prop} {f : Value → Value → Sem Value}
    (hf : ∀ v u s2 x y H2, Inv X pins σ H2 s2 → RelV x v → RelV y u → R x y H2 → wpAny (model X.prog X.w) X.A (f v u) Q X.xe s2) :
    wpAny (model X.prog X.w) X.A (eval a X.env) (fun v s₁ => wpAny (model X.prog X.w) X.A (eval b X.env) (fun u s₂ => wpAny (model X.prog X.w) X.A (f v u) Q X.xe s₂) X.xe s₁) X.xe s := by
  refine thn (ha pins s σ H _ I h) fun v s1 ⟨x, H1, I1, r1, q1⟩ => ?_
  refine thn (hb pins s1 σ H1 _ I1 q1) fun u s2 ⟨y, H2, I2, r2, q2⟩ => ?_
  exact hf v u s2 x y H2 I2 r1 r2 q2
theorem pe_op {op : Operator} {r : R2} (ho : OpR X (binaryOp op) r) (ha : PE X a ta) (hb : PE X b tb) : PE X (.BinOp a op b pos) (tOp r ta tb) := by
  intro pins s σ H Q I h
  exact wpAny_BinOp (binT ha hb I h fun v u s2 x y H2 I2 rx ry q => ho pins s2 σ H2 x y v u Q I2 rx ry q)
theorem pe_un {op : UnaryOp} {r : V → Hp → VK → Prop} (ho : UnR X (unaryOp op) r) (ha : PE X a ta) : PE X (.UnaryOp op a pos) (tUn r ta) := by
  intro pins s σ H Q I h
  exact UnaryOp_ (thn (ha pins s σ H _ I h) fun v s1 ⟨x, H1, I1, r1, q1⟩ => ho pins s1 σ H1 x v Q I1 r1 q1)
theorem opI {f : Value → Value → Sem Value} {C : Int → Int → Prop} {g : Int → Int → Int}
    (rule : ∀ (i j : Int) (t u : Tok) (s : Shared) (Q : Value → Shared → Prop) (E : Value → Shared → Prop), C i j → Q (.int (g i j) s.toks) { s with toks := s.toks + 1 } → wpAny (model X.prog X.w) X.A (f (.int i t) (.int j u)) Q E s) :
    OpR X f (rI C fun i j => .int (g i j)) := by
  intro pins s σ H x y v u Q I rx ry h
  obtain ⟨i, j, rfl, rfl, hc, q⟩ := h
  obtain ⟨t, rfl⟩ := rx
  obtain ⟨t', rfl⟩ := ry
  exact rule i j t t' s _ _ hc ⟨.int (g i j), H, I.tok _, ⟨_, rfl⟩, q⟩
theorem opI0 {f : Value → Value → Sem Value} {g : Int → Int → Int}
    (rule : ∀ (i j : Int) (t u : Tok) (s : Shared) (Q : Value → Shared → Prop) (E : Value → Shared → Prop), Q (.int (g i j) s.toks) { s with toks := s.toks + 1 } → wpAny (model X.prog X.w) X.A (f (.int i t) (.int j u)) Q E s) :
    OpR X f (rI0 fun i j => .int (g i j)) := by
  intro pins s σ H x y v u Q I rx ry h
  obtain ⟨i, j, rfl, rfl, q⟩ := h
  obtain ⟨t, rfl⟩ := rx
  obtain ⟨t', rfl⟩ := ry
  exact rule i j t t' s _ _ ⟨.int (g i j), H, I.tok _, ⟨_, rfl⟩, q⟩
theorem opB0 {f : Value → Value → Sem Value} {g : Int → Int → Bool}
    (rule : ∀ (i j : Int) (t u : Tok) (s : Shared) (Q : Value → Shared → Prop) (E : Value → Shared → Prop), Q (.bool (g i j)) s → wpAny (model X.prog X.w) X.A (f (.int i t) (.int j u)) Q E s) :
    OpR X f (rI0 fun i j => .bl (g i j)) := by
  intro pins s σ H x y v u Q I rx ry h
  obtain ⟨i, j, rfl, rfl, q⟩ := h
  obtain ⟨t, rfl⟩ := rx
  obtain ⟨t', rfl⟩ := ry
  exact rule i j t t' s _ _ ⟨.bl (g i j), H, I, rfl, q⟩
def CPow (i j : Int) : Prop := 0 ≤ j ∧ j ≤ 1000000 ∧ i.natAbs < 2 ^ 64
def CMul (i j : Int) : Prop := (-(2 ^ 64) < i ∧ i < 2 ^ 64) ∨ (-(2 ^ 64) < j ∧ j < 2 ^ 64)
theorem CMul.ok {i j : Int} (h : CMul i j) : IntMulOk i j := by
  rcases h with ⟨h1, h2⟩ | ⟨h1, h2⟩
  · exact .of_left (intBits_le_64 h1 h2)
  · exact .of_right (intBits_le_64 h1 h2)
theorem op_add : OpR X (binaryOp .Add) (rI0 fun i j => .int (i + j)) := opI0 fun _ _ _ _ _ _ _ q => add_int q
theorem op_sub : OpR X (binaryOp .Sub) (rI0 fun i j => .int (i - j)) := opI0 fun _ _ _ _ _ _ _ q => sub_int q
theorem op_mod : OpR X (binaryOp .Mod) (rI (fun _ j => 0 < j) fun i j => .int (i % j)) := opI fun i j _ _ _ _ _ hc q => by
  have h1 : (0 : Int) < j := hc
  exact mod_int' (by omega) (by rw [Int.fmod_eq_emod_of_nonneg i (by omega)]; exact q)
theorem op_pow : OpR X (binaryOp .Pow) (rI CPow fun i j => .int (i ^ j.toNat)) := opI fun _ _ _ _ _ _ _ hc q => pow_int_small hc.1 hc.2.1 hc.2.2 q
theorem unI {f : Value → Sem Value} {g : Int → Int}
    (rule : ∀ (i : Int) (t : Tok) (s : Shared) (Q : Value → Shared → Prop) (E : Value → Shared → Prop), Q (.int (g i) s.toks) { s with toks := s.toks + 1 } → wpAny (model X.prog X.w) X.A (f (.int i t)) Q E s) :
    UnR X f (rU fun i => .int (g i)) := by
  intro pins s σ H x v Q I rx h
  obtain ⟨i, rfl, q⟩ := h
  obtain ⟨t, rfl⟩ := rx
  exact rule i t s _ _ ⟨.int (g i), H, I.tok _, ⟨_, rfl⟩, q⟩
theorem un_neg : UnR X (unaryOp .USub) (rU fun i => .int (-i)) := unI fun _ _ _ _ _ q => neg_int q
end
def scal : V → V → Bool
  | .non, .non => true | .non, .int _ => true | .int _, .non => true | .non, .bl _ => true | .bl _, .non => true | .non, .str _ => true | .str _, .non => true
  | .int _, .int _ => true | .bl _, .bl _ => true | .str _, .str _ => true | .byt _, .byt _ => true
  | .int _, .str _ => true | .str _, .int _ => true | .bl _, .str _ => true | .str _, .bl _ => true
  | _, _ => false
def rEq : R2 := fun x y H Q => scal x y = true ∧ Q (.bl (decide (x = y))) H
def rNe : R2 := fun x y H Q => scal x y = true ∧ Q (.bl (!decide (x = y))) H
theorem dec_int {i j : Int} : decide (V.int i = V.int j) = (i == j) := by
  rw [Bool.eq_iff_iff]
  simp
theorem dec_bl {i j : Bool} : decide (V.bl i = V.bl j) = (i == j) := by
  rw [Bool.eq_iff_iff]
  simp
theorem dec_str {i j : Str} : decide (V.str i = V.str j) = (i == j) := by
  rw [Bool.eq_iff_iff]
  simp
theorem dec_byt {i j : Array UInt8} : decide (V.byt i = V.byt j) = (i.toList == j.toList) := by
  rw [Bool.eq_iff_iff]
  cases i
  cases j
  simp
section
variable {X : Cx} {a b c : Expr} {ta tb tc : TE} {pos : Pos}
theorem fin_bl {pins : List (Addr × Obj)} {σ : St} {H : Hp} {s : Shared} {Q : VK} {k k' : Bool} (I : Inv X pins σ H s) (q : Q (.bl k) H) (e : k = k') : EP X pins σ Q (.bool k') s := by
  subst e
  exact ⟨.bl k, H, I, rfl, q⟩
theorem op_eq : OpR X (compareOp .Eq) rEq := by
  intro pins s σ H x y v u Q I rx ry h
  obtain ⟨hs, q⟩ := h
  cases x with
  | non =>
    cases rx
    cases y with
    | non => cases ry; exact PySem.EqNone.eq_none_none (fin_bl I q (by simp))
    | bl j => cases ry; exact PySem.EqNone.eq_none_bool (fin_bl I q (by simp))
    | int j => obtain ⟨t', rfl⟩ := ry; exact PySem.EqNone.eq_none_int (fin_bl I q (by simp))
    | str j => obtain ⟨t', rfl⟩ := ry; exact PySem.EqNone.eq_none_str (fin_bl I q (by simp))
    | _ => exact absurd (show false = true from hs) Bool.false_ne_true
  | bl i =>
    cases rx
    cases y with
    | non => cases ry; exact PySem.EqNone.eq_bool_none (fin_bl I q (by simp))
    | bl j => cases ry; exact eq_bool (fin_bl I q dec_bl)
    | str j => obtain ⟨t', rfl⟩ := ry; exact PySem.EqMixed.eq_bool_str (fin_bl I q (by simp))
    | _ => exact absurd (show false = true from hs) Bool.false_ne_true
  | int i =>
    obtain ⟨t, rfl⟩ := rx
    cases y with
    | non => cases ry; exact PySem.EqNone.eq_int_none (fin_bl I q (by simp))
    | int j => obtain ⟨t', rfl⟩ := ry; exact eq_int (fin_bl I q dec_int)
    | str j => obtain ⟨t', rfl⟩ := ry; exact PySem.EqMixed.eq_int_str (fin_bl I q (by simp))
    | _ => exact absurd (show false = true from hs) Bool.false_ne_true
  | str i =>
    obtain ⟨t, rfl⟩ := rx
    cases y with
    | non => cases ry; exact PySem.EqNone.eq_str_none (fin_bl I q (by simp))
    | bl j => cases ry; exact PySem.EqMixed.eq_str_bool (fin_bl I q (by simp))
    | int j => obtain ⟨t', rfl⟩ := ry; exact PySem.EqMixed.eq_str_int (fin_bl I q (by simp))
    | str j => obtain ⟨t', rfl⟩ := ry; exact eq_str (fin_bl I q dec_str)
    | _ => exact absurd (show false = true from hs) Bool.false_ne_true
  | byt i =>
    obtain ⟨t, rfl⟩ := rx
    cases y with
    | byt j => obtain ⟨t', rfl⟩ := ry; exact PySem.W.eq_bytes (fin_bl I q dec_byt)
    | _ => exact absurd (show false = true from hs) Bool.false_ne_true
  | _ => cases y <;> exact absurd (show false = true from hs) Bool.false_ne_true
theorem op_ne : OpR X (compareOp .NotEq) rNe := by
  intro pins s σ H x y v u Q I rx ry h
  obtain ⟨hs, q⟩ := h
  cases x with
  | non =>
    cases rx
    cases y with
    | non => cases ry; exact PySem.EqNone.ne_none_none (fin_bl I q (by simp))
    | bl j => cases ry; exact PySem.EqNone.ne_none_bool (fin_bl I q (by simp))
    | int j => obtain ⟨t', rfl⟩ := ry; exact PySem.EqNone.ne_none_int (fin_bl I q (by simp))
    | str j => obtain ⟨t', rfl⟩ := ry; exact PySem.EqNone.ne_none_str (fin_bl I q (by simp))
    | _ => exact absurd (show false = true from hs) Bool.false_ne_true
  | bl i =>
    cases rx
    cases y with
    | non => cases ry; exact PySem.EqNone.ne_bool_none (fin_bl I q (by simp))
    | bl j => cases ry; exact ne_bool (fin_bl I q (congrArg not dec_bl))
    | str j => obtain ⟨t', rfl⟩ := ry; exact PySem.EqMixed.ne_bool_str (fin_bl I q (by simp))
    | _ => exact absurd (show false = true from hs) Bool.false_ne_true
  | int i =>
    obtain ⟨t, rfl⟩ := rx
    cases y with
    | non => cases ry; exact PySem.EqNone.ne_int_none (fin_bl I q (by simp))
    | int j => obtain ⟨t', rfl⟩ := ry; exact ne_int (fin_bl I q (congrArg not dec_int))
    | str j => obtain ⟨t', rfl⟩ := ry; exact PySem.EqMixed.ne_int_str (fin_bl I q (by simp))
    | _ => exact absurd (show false = true from hs) Bool.false_ne_true
  | str i =>
    obtain ⟨t, rfl⟩ := rx
    cases y with
    | non => cases ry; exact PySem.EqNone.ne_str_none (fin_bl I q (by simp))
    | bl j => cases ry; exact PySem.EqMixed.ne_str_bool (fin_bl I q (by simp))
    | int j => obtain ⟨t', rfl⟩ := ry; exact PySem.EqMixed.ne_str_int (fin_bl I q (by simp))
    | str j => obtain ⟨t', rfl⟩ := ry; exact ne_str (fin_bl I q (congrArg not dec_str))
    | _ => exact absurd (show false = true from hs) Bool.false_ne_true
  | byt i =>
    obtain ⟨t, rfl⟩ := rx
    cases y with
    | byt j => obtain ⟨t', rfl⟩ := ry; exact PySem.W.ne_bytes (fin_bl I q (congrArg not dec_byt))
    | _ => exact absurd (show false = true from hs) Bool.false_ne_true
  | _ => cases y <;> exact absurd (show false = true from hs) Bool.false_ne_true
theorem op_lt : OpR X (compareOp .Lt) (rI0 fun i j => .bl (decide (i < j))) := opB0 fun _ _ _ _ _ _ _ q => lt_int q
theorem op_le : OpR X (compareOp .LtE) (rI0 fun i j => .bl (decide (i ≤ j))) := opB0 fun _ _ _ _ _ _ _ q => le_int q
theorem op_gt : OpR X (compareOp .Gt) (rI0 fun i j => .bl (decide (j < i))) := opB0 fun _ _ _ _ _ _ _ q => gt_int q
theorem op_ge : OpR X (compareOp .GtE) (rI0 fun i j => .bl (decide (j ≤ i))) := opB0 fun _ _ _ _ _ _ _ q => ge_int q
theorem op_in_str : OpR X (compareOp .In) (fun x y H Q => ∃ i j, x = .str i ∧ y = .str j ∧ Q (.bl (!(Builtin.Str.occurrences j i 0 j.length 1).isEmpty)) H) := by
  intro pins s σ H x y v u Q I rx ry h
  obtain ⟨i, j, rfl, rfl, q⟩ := h
  obtain ⟨t, rfl⟩ := rx
  obtain ⟨t', rfl⟩ := ry
  exact in_str (fin_bl I q rfl)
theorem OpR.or {f : Value → Value → Sem Value} {r r' : R2} (h : OpR X f r) (h' : OpR X f r') : OpR X f (fun x y H Q => r x y H Q ∨ r' x y H Q) := by
  intro pins s σ H x y v u Q I rx ry q
  rcases q with q | q
  · exact h pins s σ H x y v u Q I rx ry q
  · exact h' pins s σ H x y v u Q I rx ry q
theorem nomark (b : Expr) {op : CmpOp} (h : op ≠ .In := by decide) (h2 : op ≠ .NotIn := by decide) : behindInMarks op b = false := by
  have e1 : (op == CmpOp.In) = false := by cases op <;> first | rfl | exact absurd rfl h
  have e2 : (op == CmpOp.NotIn) = false := by cases op <;> first | rfl | exact absurd rfl h2
  cases b <;> simp [behindInMarks, e1, e2]
theorem pe_cmpR {op : CmpOp} {r : R2} (ho : OpR X (compareOp op) r) (ha : PE X a ta) (hb : PE X b tb) (hm : behindInMarks op b = false) : PE X (.Compare a [op] [b] pos) (tOp r ta tb) := by
  intro pins s σ H Q I h
  exact wpAny_Compare1 (binT ha hb I h fun v u s2 x y H2 I2 rx ry q => ho pins s2 σ H2 x y v u Q I2 rx ry q) hm
def tTest (t : TE) : TT := fun σ H Q => t σ H fun x H' => ∃ k, x = .bl k ∧ Q k H'
theorem pt_cmpR {op : CmpOp} {r : R2} (ho : OpR X (compareOp op) r) (ha : PE X a ta) (hb : PE X b tb) (hm : behindInMarks op b = false) : PT X (.Compare a [op] [b] pos) (tTest (tOp r ta tb)) := by
  intro pins s σ H Q I h
  refine wpAny_isTrue_Compare1 (thn (ha pins s σ H _ I h) fun v s1 ⟨x, H1, I1, r1, q1⟩ => thn (hb pins s1 σ H1 _ I1 q1) fun u s2 ⟨y, H2, I2, r2, q2⟩ =>
    thn (ho pins s2 σ H2 x y v u _ I2 r1 r2 q2) fun c s3 ⟨z, H3, I3, r3, k, e, q3⟩ => ?_) hm
  subst e
  cases r3
  exact wpAny_truthy_bool ⟨H3, I3, q3⟩
theorem line63 : (sizeLine : Nat) < 2 ^ 63 := by rw [sizeLine_eq]; decide
theorem op_add_str : OpR X (binaryOp .Add) (fun x y H Q => ∃ i j, x = .str i ∧ y = .str j ∧ i.length + j.length ≤ sizeLine ∧ Q (.str (i ++ j)) H) := by
  intro pins s σ H x y v u Q I rx ry h
  obtain ⟨i, j, rfl, rfl, hz, q⟩ := h
  obtain ⟨t, rfl⟩ := rx
  obtain ⟨t', rfl⟩ := ry
  exact add_str (fun t' tk => ⟨.str (i ++ j), H, I.tok _, ⟨_, rfl⟩, q⟩) hz
theorem vals1 {x : V} {us : List Value} (r : Vals [x] us) : ∃ u, us = [u] ∧ RelV x u := by
  cases r with
  | cons r1 r2 => cases r2; exact ⟨_, rfl, r1⟩
theorem vals2 {x y : V} {us : List Value} (r : Vals [x, y] us) : ∃ u w', us = [u, w'] ∧ RelV x u ∧ RelV y w' := by
  cases r with
  | cons r1 r2 =>
    cases r2 with
    | cons r3 r4 => cases r4; exact ⟨_, _, rfl, r1, r3⟩
theorem call_abs : CallR X (.builtin "abs") (fun xs H Q => ∃ i, xs = [.int i] ∧ Q (.int (if i < 0 then -i else i)) H) := by
  intro pins s σ H xs us Q I r h
  obtain ⟨i, rfl, q⟩ := h
  obtain ⟨u, rfl, t, rfl⟩ := vals1 r
  exact call_abs_int fun u tk => ⟨.int (if i < 0 then -i else i), H, I.tok _, ⟨_, rfl⟩, q⟩
theorem call_max2 (hc : X.calm = true) : CallR X (.builtin "max") (fun xs H Q => ∃ i j, xs = [.int i, .int j] ∧ Q (.int (if j > i then j else i)) H) := by
  intro pins s σ H xs us Q I r h
  obtain ⟨i, j, rfl, q⟩ := h
  obtain ⟨u, w', rfl, ⟨t, rfl⟩, ⟨t', rfl⟩⟩ := vals2 r
  refine max_two_ints (I.ok.hd hc) fun h' tk k => ⟨_, H, I.kept k, ?_, q⟩
  by_cases hj : j > i
  · rw [if_pos hj, if_pos hj]; exact ⟨_, rfl⟩
  · rw [if_neg hj, if_neg hj]; exact ⟨_, rfl⟩
theorem call_int1 : CallR X (.type "int") (fun xs H Q => (∃ i, xs = [.int i] ∧ Q (.int i) H) ∨ ∃ k, xs = [.bl k] ∧ Q (.int (if k then 1 else 0)) H) := by
  intro pins s σ H xs us Q I r h
  rcases h with ⟨i, rfl, q⟩ | ⟨k, rfl, q⟩
  · obtain ⟨u, rfl, t, rfl⟩ := vals1 r
    exact call_int_int ⟨.int i, H, I, ⟨_, rfl⟩, q⟩
  · obtain ⟨u, rfl, r1⟩ := vals1 r
    cases r1
    exact call_int_bool ⟨.int (if k then 1 else 0), H, I.tok _, ⟨_, rfl⟩, q⟩
theorem call_str_int : CallR X (.type "str") (fun xs H Q => ∃ i, xs = [.int i] ∧ i.natAbs.log2 < 1920 ∧ Q (.str (toString i)) H) := by
  intro pins s σ H xs us Q I r h
  obtain ⟨i, rfl, hz, q⟩ := h
  obtain ⟨u, rfl, t, rfl⟩ := vals1 r
  exact PySem.P.str_of_int hz ⟨.str _, H, I.tok _, ⟨_, rfl⟩, q⟩
end
end L2
namespace L2
open PySem PySem.Spec PyProof.Rows
structure ObjM (h : Heap) (x dx C : Addr) (mA : Str → Option Value) : Prop where
  obj : h.get? x = some (PySem.W.instObj C dx)
  ns : h.Ns1 dx mA
  ne : dx ≠ x
theorem lookIn_ns {h : Heap} {dx : Addr} {mA : Str → Option Value} (n : h.Ns1 dx mA) : ∃ od, h.get? dx = some od ∧ ∀ name, PySem.W.lookIn name od = some (mA name) := by
  obtain ⟨o, es, ep, ho, hd, hk, _, hm⟩ := n
  refine ⟨o, ho, fun name => ?_⟩
  have e := hm name
  unfold nsFind findBy at e
  rw [← Array.find?_toList] at e
  unfold PySem.W.lookIn
  rw [hd]
  dsimp only
  split
  · rename_i y q
    rw [q] at e
    exact congrArg some e
  · rename_i q
    rw [q] at e
    have a : es.toList.any (·.refKey) = false := by
      rw [List.any_eq_false]
      intro y hy
      obtain ⟨z, t, hkey⟩ := hk y (Array.mem_toList_iff.mp hy)
      simp [DictEntry.refKey, hkey]
    have a' : ¬ es.toList.any (·.refKey) = true := by rw [a]; exact Bool.false_ne_true
    rw [if_neg a']
    exact congrArg some e
theorem ObjM.look {h : Heap} {x dx C : Addr} {mA : Str → Option Value} (I : ObjM h x dx C mA) : ∃ od, PySem.W.InstAt h x (PySem.W.instObj C dx) C (some od) ∧ ∀ name, PySem.W.lookIn name od = some (mA name) :=
  let ⟨od, ho, hl⟩ := lookIn_ns I.ns
  ⟨od, ⟨I.obj, rfl, rfl, ho⟩, hl⟩
section
variable {prog : Program} {w : World} {A : Around} {E : Value → Shared → Prop} {s : Shared} {K : PySem.W.Frag} {x dx C f : Addr} {mA : Str → Option Value} {name : Str} {v : Value}
end
theorem RelO.none_of {o : Option Value} (r : RelO none o) : o = none := by
  cases o with
  | none => rfl
  | some u => exact (show False from r).elim
section
variable {P : Program} {w : World} {H H' : Hp} {h h' : Heap} {a C dx : Addr} {fs fs' : List (Str × V)}
theorem ins_get (hok : HOk P w H h) (e : H a = some (.ins C dx fs)) : ∃ mA, ObjM h a dx C mA ∧ (∀ f, RelO (fs.lookup f) (mA f)) ∧ PySem.Within mA (fs.map (·.1)) ∧ fs.length ≤ 1000 ∧ H dx = some (.own a) := by
  obtain ⟨d, z, ne, ob, mA, n, r, q⟩ := (show ObjOk P w H h a (.ins C dx fs) from hok a _ e)
  exact ⟨mA, ⟨ob, n, ne⟩, r, q, z, d⟩
end
structure Cls (K : PySem.W.Frag) (C : Addr) : Prop where
  pg : PySem.W.plainGet K C Str.empty = true
  hd : PySem.W.hasDictIn K C = true
  po : PySem.W.plainOver K C = true
  sa : PySem.W.findIn K (.ref C) "__setattr__" = some (some (.builtin "object.__setattr__"))
theorem Cls.get {K : PySem.W.Frag} {C : Addr} (c : Cls K C) (f : Str) : PySem.W.plainGet K C f = true := c.pg
structure Con (K : PySem.W.Frag) (C : Addr) (f : Str) (v : V) (u : Value) : Prop where
  at_ : PySem.W.findIn K (.ref C) f = some (some u)
  rel : RelV v u
  get : PySem.W.specialIn K u "__get__" = some none
  cp : PySem.W.copiedNames.contains f = false
structure Meth (K : PySem.W.Frag) (C : Addr) (m : Str) (f : Addr) : Prop where
  at_ : PySem.W.findIn K (.ref C) m = some (some (.ref f))
  fn : PySem.W.isFn K (.ref f) = true
  kp : PySem.W.keepIn K (.ref f) = true
section
variable {X : Cx} {pins : List (Addr × Obj)} {σ : St} {H : Hp} {s : Shared} {a C dx : Addr} {fs : List (Str × V)} {f : Str} {v : V} {A : Around} {E : Value → Shared → Prop}
end
section
variable {X : Cx} {o e value : Expr} {f : Str} {pos pos' tpos : Pos} {ta tv : TE}
end
section
variable {X : Cx} {pins : List (Addr × Obj)} {σ : St} {H : Hp} {s : Shared} {A : Around} {E : Value → Shared → Prop} {Q : Value → Shared → Prop} {c : Value} {b : Bool}
inductive TyOf (K : PySem.W.Frag) (H : Hp) : V → Value → Prop where
  | non : TyOf K H .non (.type "NoneType")
  | bl (x : Bool) : TyOf K H (.bl x) (.type "bool")
  | int (i : Int) : TyOf K H (.int i) (.type "int")
  | str (x : Str) : TyOf K H (.str x) (.type "str")
  | flt (x : UInt64) : TyOf K H (.flt x) (.type "float")
  | lst {a : Addr} {xs : List V} (e : H a = some (.lst xs)) : TyOf K H (.ref a) (.type "list")
  | frz {a : Addr} {o : Obj} {xs : List V} (e : H a = some (.frz o (.lst xs))) : TyOf K H (.ref a) (.type "list")
  | tup {a : Addr} {xs : List V} (e : H a = some (.tup xs)) : TyOf K H (.ref a) (.type "tuple")
  | dK {a : Addr} {kvs : List (Key × V)} (e : H a = some (.dK kvs)) : TyOf K H (.ref a) (.type "dict")
  | dT {a : Addr} {kvs : List (List Key × V)} (e : H a = some (.dT kvs)) : TyOf K H (.ref a) (.type "dict")
  | ins {a C dx : Addr} {fs : List (Str × V)} (e : H a = some (.ins C dx fs)) (cl : Cls K C) (ha : PySem.W.findIn K (.ref C) "__class__" = some (some (.builtin "object.__class__")))
      (hn : PySem.W.specialIn K (.builtin "object.__class__") "__get__" = some (some (.builtin "getset_descriptor.__get__"))) (htk : PySem.W.takesIn K (.builtin "object.__class__") = some true)
      (hm : PySem.W.mroIn K C (.type "object") = some true) : TyOf K H (.ref a) (.ref C)
theorem isinst_ok {x : V} {u t : Value} (I : Inv X pins σ H s) (rx : RelV x u) (ty : TyOf X.K H x t) (e : PySem.W.kitOne X.K t c = some b) (h : ∀ tk, Q (.bool b) { s with toks := tk }) :
    wpAny (model X.prog X.w) A (call (.builtin "isinstance") [u, c]) Q E s := by
  cases ty with
  | non => cases (show u = Value.none from rx); exact PySem.W.kia_one PySem.W.kitx_none I.kIn True.intro e (fun z => nomatch z) h
  | bl y => cases (show u = Value.bool y from rx); exact PySem.W.kia_one PySem.W.kitx_bool I.kIn True.intro e (fun z => nomatch z) h
  | int i => obtain ⟨t, q⟩ := (show ∃ t, u = Value.int i t from rx); cases q; exact PySem.W.kia_one PySem.W.kitx_int I.kIn True.intro e (fun z => nomatch z) h
  | str y => obtain ⟨t, q⟩ := (show ∃ t, u = Value.str y t from rx); cases q; exact PySem.W.kia_one PySem.W.kitx_str I.kIn True.intro e (fun z => nomatch z) h
  | flt y => obtain ⟨t, q⟩ := (show ∃ t, u = Value.float y t from rx); cases q; exact PySem.W.kia_one PySem.W.kitx_float I.kIn True.intro e (fun z => nomatch z) h
  | @lst a xs ea =>
    cases (show u = Value.ref a from rx)
    obtain ⟨_, _, n, _, h1⟩ := (show ObjOk X.prog X.w H s.heap a (.lst xs) from I.hok a _ ea)
    exact PySem.W.kia_one PySem.W.kitx_list I.kIn ⟨_, h1, rfl⟩ e (fun z => nomatch z) h
  | @frz a ob xs ea =>
    cases (show u = Value.ref a from rx)
    obtain ⟨_, _, _, n, _, h1⟩ := (show ObjOk X.prog X.w H s.heap a (.frz ob (.lst xs)) from I.hok a _ ea)
    exact PySem.W.kia_one PySem.W.kitx_list I.kIn ⟨_, h1, rfl⟩ e (fun z => nomatch z) h
  | @tup a xs ea =>
    cases (show u = Value.ref a from rx)
    obtain ⟨_, _, _, p⟩ := (show ObjOk X.prog X.w H s.heap a (.tup xs) from I.hok a _ ea)
    obtain ⟨o, h1, h2, _⟩ := p
    exact PySem.W.kia_one PySem.W.kitx_tuple I.kIn ⟨o, h1, h2⟩ e (fun z => nomatch z) h
  | @dK a kvs ea =>
    cases (show u = Value.ref a from rx)
    obtain ⟨_, _, vs, _, p⟩ := (show ObjOk X.prog X.w H s.heap a (.dK kvs) from I.hok a _ ea)
    obtain ⟨o, es, ep, h1, h2, _⟩ := p
    exact PySem.W.kia_one PySem.W.kitx_dict I.kIn ⟨o, h1, h2.1⟩ e (fun z => nomatch z) h
  | @dT a kvs ea =>
    cases (show u = Value.ref a from rx)
    obtain ⟨_, _, xs, _, o, es, ep, h1, h2, _⟩ := (show ObjOk X.prog X.w H s.heap a (.dT kvs) from I.hok a _ ea)
    exact PySem.W.kia_one PySem.W.kitx_dict I.kIn ⟨o, h1, h2.1⟩ e (fun z => nomatch z) h
  | @ins a C dx fs ea cl ha hn htk hm =>
    cases (show u = Value.ref a from rx)
    obtain ⟨mA, O, _⟩ := ins_get I.hok ea
    obtain ⟨od, J, _⟩ := O.look
    exact PySem.W.kia_one (PySem.W.kitx_own (cl.get _) cl.hd ha hn htk hm) I.kIn J e (fun z => nomatch z) h
end
end L2
namespace L2
open PySem PySem.Spec PyProof.Rows
structure Room (k : Nat) (A : Around) : Prop where
  hd : A.handled = none
  dp : A.depth + 3 * k + 5 < recursionLimit
  un : A.units + 16 * k + 200 < cLine
theorem Room.mono {j k : Nat} {A : Around} (r : Room k A) (h : j ≤ k) : Room j A := ⟨r.hd, by have := r.dp; omega, by have := r.un; omega⟩
theorem Room.deeper {k : Nat} {A : Around} (r : Room (k + 1) A) (env : Env) : Room k (A.deeper env) :=
  ⟨r.hd, by have := r.dp; show A.depth + 1 + 3 * k + 5 < _; omega, by have := r.un; show A.units + 3 + 16 * k + 200 < _; omega⟩
theorem Room.in1 {k : Nat} {A : Around} (r : Room (k + 1) A) : Room k A.in1 :=
  ⟨r.hd, by have := r.dp; show A.depth + 3 * k + 5 < _; omega, by have := r.un; show A.units + 1 + 16 * k + 200 < _; omega⟩
theorem Room.depth {k : Nat} {A : Around} (r : Room k A) : A.depth < recursionLimit := by have := r.dp; omega
theorem Room.units {k : Nat} {A : Around} (r : Room k A) : A.units + 64 < cLine := by have := r.un; omega
def tNil : TA := fun _ H Q => Q [] H
def tCons (ta : TE) (tr : TA) : TA := fun σ H Q => ta σ H fun x H1 => tr σ H1 fun xs H2 => Q (x :: xs) H2
section
variable {X : Cx} {e : Expr} {es : List Expr} {te : TE} {t : TA} {pos : Pos}
theorem pa_nil : PA X [] tNil := fun _ _ _ _ H Q I h => Calls.spliced_nil ⟨[], H, I, .nil, h⟩
theorem pa_cons (ha : PE X e te) (hr : PA X es t) (hs : starEach (e :: es) X.env = (false, eval e X.env) :: starEach es X.env := by rfl) : PA X (e :: es) (tCons te t) := by
  intro pos pins s σ H Q I h
  rw [hs]
  show wpAny _ _ (spliced ((false, eval e X.env) :: backTo pos (starEach es X.env))) _ _ s
  refine Calls.spliced_cons (thn (ha pins s σ H _ I h) fun u s1 ⟨x, H1, I1, r1, q1⟩ => ?_)
  exact thn (hr pos pins s1 σ H1 _ I1 q1) fun us s2 ⟨xs, H2, I2, r2, q2⟩ => ⟨x :: xs, H2, I2, .cons r1 r2, q2⟩
def tTup (t : TA) : TE := fun σ H Q => t σ H fun xs H1 => xs.length ≤ sizeLine ∧ ∀ p, H1 p = none → Q (.ref p) (upd H1 p (.tup xs))
def tLst (t : TA) : TE := fun σ H Q => t σ H fun xs H1 => xs.length ≤ sizeLine ∧ ∀ p, H1 p = none → Q (.ref p) (upd H1 p (.lst xs))
theorem pe_tup {x1} (h : PA X es t) : PE X (.Tuple es x1 pos) (tTup t) := by
  intro pins s σ H Q I hq
  refine wpAny_Tuple_spliced (thn (h pos pins s σ H _ I hq) fun us s1 ⟨xs, H1, I1, r, z, q⟩ => ⟨by rw [← r.length]; exact z, ?_⟩)
  have hf : H1 s1.heap.objs.size = none := I1.hok.fresh (Nat.le_refl _)
  refine ⟨.ref s1.heap.objs.size, upd H1 s1.heap.objs.size (.tup xs), I1.laid (t' := s1.toks) (fun b u e => Heap.get?_push_of_some _ e) (Nat.le_refl _) ?_, rfl, q _ hf⟩
  exact ⟨z, us, r, ⟨_, Heap.get?_push_size _ rfl, rfl, _, rfl⟩⟩
theorem pe_lst (h : PA X es t) : PE X (.List es pos) (tLst t) := by
  intro pins s σ H Q I hq
  refine wpAny_List_spliced (thn (h pos pins s σ H _ I hq) fun us s1 ⟨xs, H1, I1, r, z, q⟩ => ⟨by rw [← r.length]; exact z, ?_⟩)
  have hf : H1 s1.heap.objs.size = none := I1.hok.fresh (Nat.le_refl _)
  refine ⟨.ref s1.heap.objs.size, upd H1 s1.heap.objs.size (.lst xs), I1.laid (t' := s1.toks) (fun b u e => Heap.get?_push_of_some _ e) (Nat.le_refl _) ?_, rfl, q _ hf⟩
  exact ⟨z, us, 0, r, Heap.get?_push_size _ rfl⟩
end
abbrev Sp := List V → Hp → VK → XK → Prop
abbrev CXT := List Env → Hp → Shared → XK → Value → Shared → Prop
structure Env0 (P : Program) (w : World) (K : PySem.W.Frag) (mg : Str → Option Value) (base : Heap) (A : Around) (outer : List Env) (s : Shared) (H : Hp) : Prop where
  frames : A.frames = some outer
  mod : Mod K mg base
  bs : ∀ b o, base.get? b = some o → s.heap.get? b = some o ∧ H b = none
  bsz : base.objs.size ≤ s.heap.objs.size
  funs : s.heap.FunFrames base outer
  frf : ∀ b ∈ frs outer, H b = none
  hok : HOk P w H s.heap
  bare : AllBare s.gens
def CE (outer : List Env) (P : Program) (w : World) (H : Hp) (s : Shared) (Q : VK) (u : Value) (s' : Shared) : Prop :=
  ∃ v H', s'.os = s.os ∧ AllBare s'.gens ∧ Un (frs outer) [] H H' s.heap s'.heap ∧ HOk P w H' s'.heap ∧ RelV v u ∧ Q v H'
def CR (CX : CXT) (outer : List Env) (P : Program) (w : World) (H : Hp) (s : Shared) (Q : VK) (E : XK) (r : Result) (s' : Shared) : Prop :=
  match r with
  | .ok (.ret u) => CE outer P w H s Q u s'
  | .ok _ => False
  | .error e => CX outer H s E e s'
structure FnOk (P : Program) (w : World) (K : PySem.W.Frag) (mg : Str → Option Value) (base : Heap) (CX : CXT) (k : Nat) (f : Addr) (fd : FuncData) (ps : List Str) (sp : Sp) : Prop where
  len : ∀ vs H Q E, sp vs H Q E → vs.length = ps.length
  run : ∀ (A : Around) (outer : List Env) (s : Shared) (H : Hp) (args : Args) (us : List Value) (vs : List V) (Q : VK) (E : XK), Room k A → Env0 P w K mg base A outer s H → BindsTo s fd args (ps.zip us) → Vals vs us → sp vs H Q E →
    codeAny (model P w) A (.call (.ref f) args) (CR CX outer P w H s Q E) s
theorem FnOk.mono {P : Program} {w : World} {K : PySem.W.Frag} {mg : Str → Option Value} {base : Heap} {CX : CXT} {j k : Nat} {f : Addr} {fd : FuncData} {ps : List Str} {sp : Sp} (F : FnOk P w K mg base CX j f fd ps sp) (h : j ≤ k) :
    FnOk P w K mg base CX k f fd ps sp := ⟨F.len, fun A outer s H args us vs Q E hr => F.run A outer s H args us vs Q E (hr.mono h)⟩
theorem FnOk.imp {P : Program} {w : World} {K : PySem.W.Frag} {mg : Str → Option Value} {base : Heap} {CX : CXT} {k : Nat} {f : Addr} {fd : FuncData} {ps : List Str} {sp sp' : Sp} (F : FnOk P w K mg base CX k f fd ps sp)
    (h : ∀ vs H Q E, sp' vs H Q E → sp vs H Q E) : FnOk P w K mg base CX k f fd ps sp' :=
  ⟨fun vs H Q E q => F.len vs H Q E (h _ _ _ _ q), fun A outer s H args us vs Q E hr he hb hv hs => F.run A outer s H args us vs Q E hr he hb hv (h _ _ _ _ hs)⟩
theorem Env0.in1 {P : Program} {w : World} {K : PySem.W.Frag} {mg : Str → Option Value} {base : Heap} {A : Around} {outer : List Env} {s : Shared} {H : Hp} (e : Env0 P w K mg base A outer s H) :
    Env0 P w K mg base A.in1 outer s H := ⟨e.frames, e.mod, e.bs, e.bsz, e.funs, e.frf, e.hok, e.bare⟩
section
variable {X : Cx} {pins : List (Addr × Obj)} {σ : St} {H : Hp} {s s' : Shared}
theorem Inv.env0 (I : Inv X pins σ H s) : Env0 X.prog X.w X.K X.mg X.base X.A X.stack s H :=
  ⟨I.ok.frames, I.ok.mod, I.bs, Nat.le_trans I.ok.bsz I.sz, I.stack, I.stkFree, I.hok, I.bare⟩
theorem Inv.after {Q : VK} {u : Value} (I : Inv X pins σ H s) (h : CE X.stack X.prog X.w H s Q u s') : EP X pins σ Q u s' := by
  obtain ⟨v, H', os, bare, un, hok, r, q⟩ := h
  obtain ⟨hh, g, d, t, os'⟩ := s'
  obtain rfl : os' = s.os := os
  exact ⟨v, H', I.call (h' := hh) (g' := g) (d' := d) (t' := t) (ch := []) un hok bare (fun b z => absurd z (by simp)), r, q⟩
end
def tCall (sp : Sp) (dvs : List V) (E : XK) (t : TA) : TE := fun σ H Q => t σ H fun vs H1 => sp (vs ++ dvs) H1 Q E
def Binds (K : PySem.W.Frag) (fd : FuncData) (ps : List Str) (ds : List Value) : Prop :=
  ∀ (s : Shared) (us : List Value), K.In s.heap → (us ++ ds).length = ps.length → BindsTo s fd ⟨us, []⟩ (ps.zip (us ++ ds))
theorem Binds.all {K : PySem.W.Frag} {fd : FuncData} {ps : List Str} (h : ∀ us : List Value, us.length = ps.length → bindArgs fd ⟨us, []⟩ = pure (ps.zip us)) : Binds K fd ps [] := fun s us _ hl => by
  rw [List.append_nil] at hl ⊢
  exact .of_eq (h us hl)
def Passes (CX : CXT) (X : Cx) (E : XK) : Prop := ∀ (pins : List (Addr × Obj)) (σ : St) (H : Hp) (s : Shared) (e : Value) (s' : Shared), Inv X pins σ H s → CX X.stack H s E e s' → X.xe e s'
section
variable {X : Cx} {CX : CXT} {k : Nat} {f C : Addr} {fd : FuncData} {ps : List Str} {sp : Sp} {dvs : List V} {ds : List Value} {E : XK} {x m : Str} {p pos apos : Pos} {e o : Expr} {es : List Expr} {ta : TE} {t : TA}
theorem run_fn {pins : List (Addr × Obj)} {σ : St} {H : Hp} {s : Shared} {Q : VK} {us : List Value} {vs : List V} (F : FnOk X.prog X.w X.K X.mg X.base CX k f fd ps sp) (hr : Room k X.A) (hb : Binds X.K fd ps ds) (hd : Vals dvs ds) (hx : Passes CX X E)
    (I : Inv X pins σ H s) (r : Vals vs us) (h : sp (vs ++ dvs) H Q E) : wpAny (model X.prog X.w) X.A (call (.ref f) us) (EP X pins σ Q) X.xe s := by
  have r2 : Vals (vs ++ dvs) (us ++ ds) := r.append hd
  have hl : (us ++ ds).length = ps.length := by rw [← r2.length]; exact F.len _ _ _ _ h
  refine wpAny_call (codeAny_mono (F.run X.A X.stack s H ⟨us, []⟩ (us ++ ds) (vs ++ dvs) Q E hr I.env0 (hb s us I.kIn hl) r2 h) fun r s' hq => ?_)
  cases r with
  | error e => exact hx pins σ H s e s' I hq
  | ok fl =>
    cases fl with
    | ret u => exact I.after hq
    | next => exact False.elim hq
    | brk => exact False.elim hq
    | cont => exact False.elim hq
theorem pe_call (F : FnOk X.prog X.w X.K X.mg X.base CX k f fd ps sp) (hr : Room k X.A) (hg : Gl X x) (hm : X.mg x = some (.ref f)) (hk : PySem.W.keepIn X.K (.ref f) = true) (hb : Binds X.K fd ps ds) (hd : Vals dvs ds) (hx : Passes CX X E)
    (ha : PA X (e :: es) t) (hdb : (x == ("__debug__" : Str)) = false := by decide) (he : starEach (e :: es) X.env = (false, eval e X.env) :: starEach es X.env := by rfl) (hpl : (backTo pos (starEach es X.env)).any (·.1) = false := by rfl) :
    PE X (.Call (.Name x p) (e :: es) [] pos) (tCall sp dvs E t) := by
  intro pins s σ H Q I h
  refine wpAny_Call_Name_kw (ld_glob I hg hm ?_ hdb)
  refine PySem.W.callWith_K (h₀ := X.base) I.ok.mod.kin hk (thn (ha pos pins s σ H _ I h) fun us s1 ⟨vs, H1, I1, r, q⟩ => ⟨I1.kIn, ?_⟩) he hpl
  exact run_fn F hr hb hd hx I1 r q
structure Mk (K : PySem.W.Frag) (C f : Addr) : Prop where
  makes : PySem.W.makesIn K C = true
  init : PySem.W.findIn K (.ref C) "__init__" = some (some (.ref f))
  fn : PySem.W.isFn K (.ref f) = true
  kp : PySem.W.keepIn K (.ref C) = true
end
section
variable {X : Cx} {CX : CXT} {k : Nat} {f C : Addr} {fd : FuncData} {ps ks : List Str} {sp : Sp} {E : XK} {x m : Str} {p pos apos kpos : Pos} {e o : Expr} {es : List Expr} {kws : List Keyword} {te ta : TE} {t tk : TA} {nm : Option Str}
structure KBinds (K : PySem.W.Frag) (fd : FuncData) (ps ks : List Str) (g : List Value → List Value → List Value) (gV : List V → List V → List V) : Prop where
  to : ∀ (s : Shared) (us ws : List Value), K.In s.heap → (g us ws).length = ps.length → BindsTo s fd ⟨us, ks.zip ws⟩ (ps.zip (g us ws))
  rel : ∀ {vs : List V} {us : List Value} {zs : List V} {ws : List Value}, Vals vs us → Vals zs ws → Vals (gV vs zs) (g us ws)
variable {g : List Value → List Value → List Value} {gV : List V → List V → List V}
end
structure FnScope (N P : List Str) (sc : Scope) : Prop where
  kind : sc.kind = .function
  co : sc.isCoroutine = false
  gen : sc.isGenerator = false
  nd : N.Nodup
  pre : N.take P.length = P
  par : ∀ x ∈ P, sc.names.lookup x = some .local ∨ sc.names.lookup x = some .cell
  nofree : ∀ y ∈ sc.names, y.2 ≠ .free
theorem bindL_out {kindOf : Str → Option NameKind} {x : Str} : ∀ {binds : List (Str × Value)} {m : Str → Option Value}, (∀ v, (x, v) ∉ binds) → bindL kindOf binds m x = m x
  | [], _, _ => rfl
  | (n, v) :: r, m, h => by
    unfold bindL
    rw [bindL_out fun w hw => h w (List.mem_cons_of_mem _ hw)]
    split
    · have : x ≠ n := by rintro rfl; exact h v List.mem_cons_self
      simp [this]
    · rfl
theorem bindC_out {kindOf : Str → Option NameKind} {x : Str} : ∀ {binds : List (Str × Value)} {m : Str → Option Value}, (∀ v, (x, v) ∉ binds) → bindC kindOf binds m x = m x
  | [], _, _ => rfl
  | (n, v) :: r, m, h => by
    unfold bindC
    rw [bindC_out fun w hw => h w (List.mem_cons_of_mem _ hw)]
    split
    · rfl
    · have : x ≠ n := by rintro rfl; exact h v List.mem_cons_self
      simp [this]
theorem bindL_get {kindOf : Str → Option NameKind} {x : Str} {v : Value} : ∀ {P : List Str} {vs : List Value} {i : Nat} {m : Str → Option Value}, P.Nodup → P[i]? = some x → vs[i]? = some v → kindOf x = some .local →
    bindL kindOf (P.zip vs) m x = some v
  | [], _, _, _, _, h, _, _ => by simp at h
  | _ :: _, [], _, _, _, _, h, _ => by simp at h
  | p :: P, w :: vs, 0, m, nd, h1, h2, hk => by
    simp at h1 h2; subst h1; subst h2
    show bindL kindOf ((p, w) :: P.zip vs) m p = _
    unfold bindL
    rw [bindL_out fun v hv => (List.nodup_cons.mp nd).1 (List.of_mem_zip hv).1, if_pos hk]
    simp
  | p :: P, w :: vs, i + 1, m, nd, h1, h2, hk => by
    show bindL kindOf ((p, w) :: P.zip vs) m x = _
    unfold bindL
    exact bindL_get (i := i) (List.nodup_cons.mp nd).2 (by simpa using h1) (by simpa using h2) hk
theorem bindC_get {kindOf : Str → Option NameKind} {x : Str} {v : Value} : ∀ {P : List Str} {vs : List Value} {i : Nat} {m : Str → Option Value}, P.Nodup → P[i]? = some x → vs[i]? = some v → kindOf x ≠ some .local →
    bindC kindOf (P.zip vs) m x = some v
  | [], _, _, _, _, h, _, _ => by simp at h
  | _ :: _, [], _, _, _, _, h, _ => by simp at h
  | p :: P, w :: vs, 0, m, nd, h1, h2, hk => by
    simp at h1 h2; subst h1; subst h2
    show bindC kindOf ((p, w) :: P.zip vs) m p = _
    unfold bindC
    rw [bindC_out fun v hv => (List.nodup_cons.mp nd).1 (List.of_mem_zip hv).1, if_neg hk]
    simp
  | p :: P, w :: vs, i + 1, m, nd, h1, h2, hk => by
    show bindC kindOf ((p, w) :: P.zip vs) m x = _
    unfold bindC
    exact bindC_get (i := i) (List.nodup_cons.mp nd).2 (by simpa using h1) (by simpa using h2) hk
def start (N : List Str) (vs : List V) : St := vs.map some ++ List.replicate (N.length - vs.length) none
def cxOf (CX : CXT) (P : Program) (w : World) (K : PySem.W.Frag) (mg : Str → Option Value) (base : Heap) (N : List Str) (qual : Str) (scope : Scope) (f : Addr) (cd : Value) (A : Around) (outer : List Env) (s : Shared) (H : Hp) (E : XK) : Cx where
  prog := P
  w := w
  K := K
  mg := mg
  base := base
  A := A.deeper (envOfC qual scope s.heap.objs.size f cd)
  N := N
  s₀ := s
  H₀ := H
  env := envOfC qual scope s.heap.objs.size f cd
  outer := outer
  stack := envOfC qual scope s.heap.objs.size f cd :: outer
  ex := []
  calm := true
  fn := fun _ => true
  pn := []
  xe := fun e s' => wpAny (model P w) (A.deeper (envOfC qual scope s.heap.objs.size f cd)) (leaving (envOfC qual scope s.heap.objs.size f cd) e) (fun _ s'' => CX outer H s E e s'') (fun e' s'' => CX outer H s E e' s'') s'
theorem cell_has {sc : Scope} {n : Nat} {x : Str} (h : sc.names.lookup x = some .cell) : ∃ c, (cellsFrom n sc.names []).lookup x = some c := by
  have q := PySem.W.cellsFrom_some sc.names n [] (.inl h)
  exact Option.isSome_iff_exists.mp q
theorem inv_start {CX : CXT} {P : Program} {w : World} {K : PySem.W.Frag} {mg : Str → Option Value} {base : Heap} {N ps : List Str} {qual : Str} {scope : Scope} {f : Addr} {cd : Value} {A : Around} {outer : List Env} {s s1 : Shared} {H : Hp} {E : XK} {us : List Value} {vs : List V}
    (S : FnScope N ps scope) (hd : A.handled = none) (e0 : Env0 P w K mg base A outer s H) (hl : vs.length = ps.length) (r : Vals vs us)
    (x : InCallC s s.heap.objs.size (bindL (envOfC qual scope s.heap.objs.size f cd).kindOf (ps.zip us) fun _ => none) (cellsFrom (s.heap.objs.size + 1) scope.names []) (bindC (envOfC qual scope s.heap.objs.size f cd).kindOf (ps.zip us) fun _ => none) s1) :
    Inv (cxOf CX P w K mg base N qual scope f cd A outer s H E) [] (start N vs) H s1 := by
  have hpl : ps.length ≤ N.length := by have := congrArg List.length S.pre; rw [List.length_take] at this; omega
  obtain ⟨h1, tk, rfl, hk⟩ := x.done
  have noA : ∀ b : Addr, b ∉ (cxOf CX P w K mg base N qual scope f cd A outer s H E).ex := fun b z => absurd (show b ∈ ([] : List Addr) from z) (by simp)
  refine ⟨⟨e0.mod, S.kind, rfl, rfl, Nat.le_refl _, fun y z c h1 h2 => ?_, fun y hy => ?_, fun y c _ h => ?_, fun _ => hd, Around.frames_deeper e0.frames, .inr ⟨rfl, rfl⟩, fun b z => absurd z (noA b), e0.bs, e0.bsz, fun b _ _ => noA b, fun b z => absurd z (noA b), e0.funs, e0.frf⟩,
    rfl, e0.bare, Un.kept hk, ⟨_, x.toInCall.ns, fun i y v h1 h2 h3 => ?_⟩, fun y c h => ⟨_, x.cell y c h⟩, e0.hok.fresh (Nat.le_refl _), fun y c h => ?_, fun p hp => absurd (show p ∈ ([] : List (Addr × Obj)) from hp) (by simp), e0.hok.kept hk, ?_⟩
  · exact name_of_addr x.apart (PySem.mem_of_lookup h1) (PySem.mem_of_lookup h2)
  · have hy : scope.names.lookup y = some .cell ∨ scope.names.lookup y = some .free := hy
    rcases hy with hy | hy
    · exact cell_has hy
    · exact absurd rfl (S.nofree _ (PySem.mem_of_lookup hy))
  · exact Nat.le_of_lt (x.above y c (PySem.mem_of_lookup h))
  · have hi : i < vs.length := by
      unfold start at h2
      by_cases hi : i < vs.length
      · exact hi
      · rw [List.getElem?_append_right (by simpa using hi)] at h2
        rw [List.getElem?_replicate] at h2
        split at h2 <;> cases h2
    have ha : vs[i]? = some v := by
      unfold start at h2
      rw [List.getElem?_append_left (by simpa using hi), List.getElem?_map] at h2
      cases e : vs[i]? with
      | none => rw [e] at h2; cases h2
      | some a => rw [e] at h2; cases h2; rfl
    obtain ⟨u, hu, rv⟩ := r.get ha
    have hp : ps[i]? = some y := by
      rw [← S.pre, List.getElem?_take_of_lt (by omega)]; exact h1
    have ndP : ps.Nodup := by rw [← S.pre]; exact S.nd.sublist (List.take_sublist _ _)
    refine ⟨u, rv, ?_⟩
    rcases S.par y (List.mem_of_getElem? hp) with k | k
    · exact .inl ⟨k, bindL_get ndP hp hu k⟩
    · obtain ⟨c, e⟩ := cell_has (n := s.heap.objs.size + 1) k
      refine .inr ⟨.inl k, c, e, ?_⟩
      have q := x.cell y c e
      rw [bindC_get ndP hp hu (by show scope.names.lookup y ≠ _; rw [k]; decide)] at q
      exact q
  · exact e0.hok.fresh (Nat.le_of_lt (x.above y c (PySem.mem_of_lookup h)))
  · unfold start
    show _ = N.length
    rw [List.length_append, List.length_map, List.length_replicate]
    omega
theorem fn_of {CX : CXT} {P : Program} {w : World} {K : PySem.W.Frag} {mg : Str → Option Value} {base : Heap} {k : Nat} {f : Addr} {name qual : Str} {params : Arguments} {body : List Stmt} {scope : Scope} {dV kV doc pm cdv ct oc : Value} {an od : Option Addr}
    {osl : Array (Option Value)} {N ps : List Str} {sp : Sp} (lk : K.lookup f = some ⟨oc, od, .func (PySem.W.fnOf name qual params body scope dV kV doc pm an cdv ct), osl⟩) (hcd : PySem.W.codeIn K cdv qual = true) (S : FnScope N ps scope)
    (len : ∀ vs H Q E, sp vs H Q E → vs.length = ps.length)
    (hbody : ∀ (A : Around) (outer : List Env) (s : Shared) (H : Hp) (vs : List V) (Q : VK) (E : XK), Room k (A.deeper (envOfC qual scope s.heap.objs.size f cdv)) → sp vs H Q E →
      ∃ t, PSs (cxOf CX P w K mg base N qual scope f cdv A outer s H E) body t ∧ t { nx := fun _ H' => Q .non H', rt := Q } (start N vs) H) :
    FnOk P w K mg base CX (k + 1) f (PySem.W.fnOf name qual params body scope dV kV doc pm an cdv ct) ps sp := by
  refine ⟨len, fun A outer s H args us vs Q E hr e0 hb r hsp => ?_⟩
  have hl := len _ _ _ _ hsp
  have KX : K.In s.heap := e0.mod.kin.keeps fun b o e => (e0.bs b o e).1
  have lim : s.heap.NoLimit := e0.mod.nolimit.keeps fun b o e => (e0.bs b o e).1
  have hkind : ∀ y ∈ ps.zip us, scope.names.lookup y.1 = some .local ∨ (scope.names.lookup y.1 = some .cell ∧ ((cellsFrom (s.heap.objs.size + 1) scope.names []).lookup y.1).isSome = true) := fun ⟨n, v⟩ hy => by
    rcases S.par n (List.of_mem_zip hy).1 with q | q
    · exact .inl q
    · exact .inr ⟨q, PySem.W.cellsFrom_some _ _ _ (.inl q)⟩
  refine codeAny_call_function hr.depth (KX _ _ lk) rfl S.co S.gen rfl (PySem.W.codeRec_of KX hcd) (hb _ _ _ _ ?_)
  refine wpAny_newFunctionEnv_cells S.kind hkind fun env he s1 x => ?_
  subst he
  refine ⟨lim.keeps x.toInCall.keep, codeAny_func ?_⟩
  obtain ⟨t, ht, hq⟩ := hbody A outer s H vs Q E (hr.deeper _) hsp
  have I : Inv (cxOf CX P w K mg base N qual scope f cdv A outer s H E) [] (start N vs) H s1 := inv_start S hr.hd e0 hl r x
  refine wpAny_mono (ht [] s1 (start N vs) H _ I hq) (fun fl s' hs => ?_) fun e s' hs => hs
  have fin : ∀ {σ' : St} {H' : Hp} {v : V} {u : Value}, Inv (cxOf CX P w K mg base N qual scope f cdv A outer s H E) [] σ' H' s' → RelV v u → Q v H' → CE outer P w H s Q u s' :=
    fun {σ' H' v u} J rv q => ⟨v, H', J.os, J.bare, J.base, J.hok, rv, q⟩
  cases fl with
  | ret u =>
    obtain ⟨v, σ', H', J, rv, q⟩ := hs
    exact fin J rv q
  | next =>
    obtain ⟨σ', H', J, q⟩ := hs
    exact fin (v := V.non) (u := Value.none) J rfl q
  | brk =>
    obtain ⟨_, _, _, q⟩ := hs
    exact False.elim q
  | cont =>
    obtain ⟨_, _, _, q⟩ := hs
    exact False.elim q
end L2
namespace L2
open PySem PySem.Spec PyProof.Rows
section
variable {X : Cx} {x : Str} {p pos : Pos} {e : Expr} {es : List Expr} {t : TA} {id T : String} {r : List V → Hp → VK → Prop}
def tCB (r : List V → Hp → VK → Prop) (t : TA) : TE := fun σ H Q => t σ H fun vs H1 => r vs H1 Q
theorem pe_callB (hc : CallR X (.builtin id) r) (hg : Gl X x) (hm : X.mg x = none) (hv : bootBuiltins x = some (.builtin id)) (ha : PA X (e :: es) t) (hn : x ≠ "__name__" := by decide) (hdb : (x == ("__debug__" : Str)) = false := by decide)
    (he : starEach (e :: es) X.env = (false, eval e X.env) :: starEach es X.env := by rfl) (hpl : (backTo pos (starEach es X.env)).any (·.1) = false := by rfl) : PE X (.Call (.Name x p) (e :: es) [] pos) (tCB r t) := by
  intro pins s σ H Q I h
  refine wpAny_Call_Name_kw (ld_blt I hg hm hv ?_ hn hdb)
  exact PyProof.Rows.callWith_builtin1 (thn (ha pos pins s σ H _ I h) fun us s1 ⟨vs, H1, I1, r1, q1⟩ => hc pins s1 σ H1 vs us Q I1 r1 q1) he hpl
theorem pe_callTy (hc : CallR X (.type T) r) (hg : Gl X x) (hm : X.mg x = none) (hv : bootBuiltins x = some (.type T)) (ha : PA X (e :: es) t) (hn : x ≠ "__name__" := by decide) (hdb : (x == ("__debug__" : Str)) = false := by decide)
    (he : starEach (e :: es) X.env = (false, eval e X.env) :: starEach es X.env := by rfl) (hpl : (backTo pos (starEach es X.env)).any (·.1) = false := by rfl) : PE X (.Call (.Name x p) (e :: es) [] pos) (tCB r t) := by
  intro pins s σ H Q I h
  refine wpAny_Call_Name_kw (ld_blt I hg hm hv ?_ hn hdb)
  exact PyProof.Rows.callWith_type1 (thn (ha pos pins s σ H _ I h) fun us s1 ⟨vs, H1, I1, r1, q1⟩ => hc pins s1 σ H1 vs us Q I1 r1 q1) he hpl
end
end L2
namespace HT
open PySem PyProof.Rows
section
open PySem.SeqAt
open PySem.AutoSeq1 (wpAny_loadPart')
open PySem.MeetsSeq PySem.MeetsSeq2 PySem.MeetsSeq3
end
section
variable {prog : Program} {w : World} {A : Around} {E : Value → Shared → Prop} {s : Shared}
theorem cat_tup {t b : Addr} {vs ws : List Value} {Q : Value → Shared → Prop} (ht : IsTup s.heap t vs.toArray) (hb : IsTup s.heap b ws.toArray) (hv : vs ≠ [])
    (h1 : ws = [] → Q (.ref t) s) (h2 : ws ≠ [] → Q (.ref s.heap.objs.size) { s with heap := s.heap.push { cls := .type "tuple", data := .seq (vs ++ ws).toArray } })
    (hsz : vs.length + ws.length ≤ sizeLine) : wpAny (model prog w) A (binaryOp .Add (.ref t) (.ref b)) Q E s := by
  obtain ⟨⟨cls, dd, data, sl⟩, ho, hc, n, hd⟩ := id ht
  obtain ⟨⟨cls2, dd2, data2, sl2⟩, ho2, hc2, n2, hd2⟩ := id hb
  simp only at hc hd hc2 hd2
  subst hc hd hc2 hd2
  have e : vs.toArray ++ ws.toArray = (vs ++ ws).toArray := by simp
  by_cases hw : ws = []
  · exact concat_meets ⟨_, ho, rfl⟩ ⟨_, ho2, rfl⟩ noFill_tuple_add seq_tuple_add PySem.F.slot_tuple_add PySem.F.entry_tuple_add (PySem.F.args_tuple_add_2 _ _)
      (tuple_addW1 t b vs.toArray ws.toArray n n2 dd dd2 sl sl2 (by simpa using hv) (by simp [hw])) ⟨ho, ho2, h1 hw⟩
  · refine concat_meets ⟨_, ho, rfl⟩ ⟨_, ho2, rfl⟩ noFill_tuple_add seq_tuple_add PySem.F.slot_tuple_add PySem.F.entry_tuple_add (PySem.F.args_tuple_add_2 _ _)
      (tuple_addW2 t b vs.toArray ws.toArray n n2 dd dd2 sl sl2 (by simpa using hv) (by simpa using hw) (by rw [List.size_toArray, List.size_toArray]; exact hsz)) ⟨ho, ho2, ?_⟩
    rw [e]
    exact h2 hw
def sIx (n d : Nat) : Option Int → Nat
  | none => d
  | some v => if v < 0 then (v + (n : Int)).toNat else min v.toNat n
theorem sIx_nat (n d k : Nat) : sIx n d (some (k : Int)) = min k n := by
  show (if (k : Int) < 0 then ((k : Int) + (n : Int)).toNat else min (k : Int).toNat n) = min k n
  rw [if_neg (by omega), Int.toNat_natCast]
end
end HT
namespace L2
open PySem PySem.Spec PyProof.Rows
abbrev TO := St → Hp → (Option Int → Hp → Prop) → Prop
def PO (X : Cx) (e : Option Expr) (t : TO) : Prop :=
  ∀ (pins : List (Addr × Obj)) (s : Shared) (σ : St) (H : Hp) (Q : Option Int → Hp → Prop), Inv X pins σ H s → t σ H Q →
    wpAny (model X.prog X.w) X.A (evalPart e X.env) (fun u s' => ∃ o H', Inv X pins σ H' s' ∧ IsPart u o ∧ Q o H') X.xe s
def tNoPart : TO := fun _ H Q => Q none H
def tPart (t : TE) : TO := fun σ H Q => t σ H fun x H1 => ∃ i, x = .int i ∧ Q (some i) H1
theorem intsAre_of {ns : List Int} : ∀ {us : List Value}, Vals (ns.map V.int) us → IntsAre us ns := by
  induction ns with
  | nil => intro us r; rw [List.map_nil] at r; cases r; exact .nil
  | cons n ns ih =>
    intro us r
    rw [List.map_cons] at r
    cases r with
    | cons r1 r2 =>
      obtain ⟨t, e⟩ := r1
      subst e
      exact .cons n t (ih r2)
section
variable {X : Cx} {e : Expr} {te : TE} {lo hi : Option Expr} {tl th : TO} {pos p2 : Pos}
theorem po_none : PO X none tNoPart := by
  intro pins s σ H Q I h
  rw [evalPart_none]
  exact wpAny_pure ⟨none, H, I, .none, h⟩
theorem po_some (h : PE X e te) : PO X (some e) (tPart te) := by
  intro pins s σ H Q I hw
  rw [evalPart_some]
  refine thn (h pins s σ H _ I hw) fun u s1 ⟨x, H1, I1, r1, q1⟩ => ?_
  obtain ⟨i, rfl, q⟩ := q1
  obtain ⟨t, rfl⟩ := r1
  exact ⟨some i, H1, I1, .int i t, q⟩
def SlR (X : Cx) (r : V → Option Int → Option Int → Hp → VK → Prop) : Prop :=
  ∀ (pins : List (Addr × Obj)) (s : Shared) (σ : St) (H : Hp) (x : V) (v vl vu : Value) (lo hi : Option Int) (sl : Addr) (Q : VK), Inv X pins σ H s → RelV x v → s.heap.IsSliceOf sl vl vu .none → IsPart vl lo → IsPart vu hi → r x lo hi H Q →
    ∃ T id, typeLookup (.type T) "__getitem__" = pure (some (.builtin id)) ∧ s.TypeIs v T ∧ wpAny (model X.prog X.w) X.A (getItem v (.ref sl)) (EP X pins σ Q) X.xe s
theorem SlR.or {r r' : V → Option Int → Option Int → Hp → VK → Prop} (h : SlR X r) (h' : SlR X r') : SlR X (fun x lo hi H Q => r x lo hi H Q ∨ r' x lo hi H Q) := by
  intro pins s σ H x v vl vu lo hi sl Q I rx hs pl pu q
  rcases q with q | q
  · exact h pins s σ H x v vl vu lo hi sl Q I rx hs pl pu q
  · exact h' pins s σ H x v vl vu lo hi sl Q I rx hs pl pu q
def tSl (r : V → Option Int → Option Int → Hp → VK → Prop) (te : TE) (tl th : TO) : TE := fun σ H Q => te σ H fun x H1 => tl σ H1 fun l H2 => th σ H2 fun u H3 => r x l u H3 Q
theorem pe_slice {r : V → Option Int → Option Int → Hp → VK → Prop} (hr : SlR X r) (he : PE X e te) (hl : PO X lo tl) (hu : PO X hi th) : PE X (.Subscript e (.Slice lo hi none p2) pos) (tSl r te tl th) := by
  intro pins s σ H Q I h
  refine Subscript_ (thn (he pins s σ H _ I h) fun v s1 ⟨x, H1, I1, r1, q1⟩ => ?_)
  refine wpAny_Slice (thn (hl pins s1 σ H1 _ I1 q1) fun vl s2 ⟨l, H2, I2, pl, q2⟩ => thn (hu pins s2 σ H2 _ I2 q2) fun vu s3 ⟨u, H3, I3, pu, q3⟩ => ?_)
  rw [evalPart_none]
  refine wpAny_pure ?_
  have I4 : Inv X pins σ H3 { s3 with heap := s3.heap.push { cls := .type "slice", data := .fields #[vl, vu, .none] } } := I3.kept (t' := s3.toks) fun b ob q => Heap.get?_push_of_some _ q
  obtain ⟨T, id, hT, ht, hg⟩ := hr pins { s3 with heap := s3.heap.push { cls := .type "slice", data := .fields #[vl, vu, .none] } } σ H3 x v vl vu l u s3.heap.objs.size Q I4 r1 (Heap.IsSliceOf.new ..) pl pu q3
  show wpAny (model X.prog X.w) X.A (subscriptTail e (.Slice lo hi none p2) v (.ref s3.heap.objs.size)) (EP X pins σ Q) X.xe { s3 with heap := s3.heap.push { cls := .type "slice", data := .fields #[vl, vu, .none] } }
  exact tail_any (ops := [.ref s3.heap.objs.size, v]) ht hT hg (by with_unfolding_all rfl)
def cutV (xs : List V) (lo hi : Option Int) : List V := (xs.drop (HT.sIx xs.length 0 lo)).take (HT.sIx xs.length xs.length hi - HT.sIx xs.length 0 lo)
theorem cutV_length (xs : List V) (lo hi : Option Int) : (cutV xs lo hi).length ≤ xs.length := by
  unfold cutV
  rw [List.length_take, List.length_drop]
  omega
def rCatT (K : PySem.W.Frag) : R2 := fun x y H Q => ∃ a b xs ys, x = .ref a ∧ y = .ref b ∧ SqT K H a xs ∧ SqT K H b ys ∧ xs ≠ [] ∧ xs.length + ys.length ≤ sizeLine ∧
  (ys = [] → Q (.ref a) H) ∧ (ys ≠ [] → ∀ p, H p = none → Q (.ref p) (upd H p (.tup (xs ++ ys))))
theorem Vals.nil_iff {xs : List V} {us : List Value} (r : Vals xs us) : us = [] ↔ xs = [] := by
  cases r with
  | nil => simp
  | cons _ _ => simp
theorem op_catT : OpR X (binaryOp .Add) (rCatT X.K) := by
  intro pins s σ H x y v u Q I rx ry h
  obtain ⟨a, b, xs, ys, rfl, rfl, ha, hb, hx, hz, q1, q2⟩ := h
  cases rx
  cases ry
  obtain ⟨its, r1, p1, _⟩ := I.tuple ha
  obtain ⟨its2, r2, p2, _⟩ := I.tuple hb
  refine HT.cat_tup p1 p2 (fun z => hx (r1.nil_iff.mp z)) (fun z => ⟨.ref a, H, I, rfl, q1 (r2.nil_iff.mp z)⟩) (fun z => ?_) (by rw [← r1.length, ← r2.length]; exact hz)
  refine ⟨.ref s.heap.objs.size, _, I.laid (t' := s.toks) (o := .tup (xs ++ ys)) (fun b ob q => Heap.get?_push_of_some _ q) (Nat.le_refl _) ?_, rfl, q2 (fun w => z (r2.nil_iff.mpr w)) _ (I.hok.fresh (Nat.le_refl _))⟩
  exact ⟨by rw [List.length_append]; exact hz, _, r1.append r2, IsTup.new _ _⟩
end
end L2
namespace L2
open PySem PySem.Spec PyProof.Rows
def ixN (n : Nat) (i : Int) : Option Nat := if 0 ≤ i then (if i < n then some i.toNat else none) else if -(n : Int) ≤ i then some (i + n).toNat else none
def atI {α : Type} (xs : List α) (i : Int) : Option α := (ixN xs.length i).bind fun j => xs[j]?
theorem ixN_seq {n : Nat} {i : Int} {j : Nat} (h : ixN n i = some j) : seqIndex? i n = some j ∧ j < n ∧ -(n : Int) ≤ i ∧ i < n := by
  unfold ixN at h
  by_cases h0 : 0 ≤ i
  · rw [if_pos h0] at h
    by_cases h1 : i < n
    · rw [if_pos h1] at h
      have e : i.toNat = j := Option.some.inj h
      exact ⟨by rw [seqIndex_of h0 h1, e], by omega, by omega, h1⟩
    · rw [if_neg h1] at h; cases h
  · rw [if_neg h0] at h
    by_cases h1 : -(n : Int) ≤ i
    · rw [if_pos h1] at h
      have e : (i + n).toNat = j := Option.some.inj h
      exact ⟨by rw [seqIndex_neg (by omega) h1, e], by omega, h1, by omega⟩
    · rw [if_neg h1] at h; cases h
theorem atI_get {α : Type} {xs : List α} {i : Int} {v : α} (h : atI xs i = some v) : ∃ j, seqIndex? i xs.length = some j ∧ xs[j]? = some v ∧ j < xs.length ∧ -(xs.length : Int) ≤ i ∧ i < xs.length := by
  unfold atI at h
  cases e : ixN xs.length i with
  | none => rw [e] at h; cases h
  | some j =>
    rw [e] at h
    obtain ⟨h1, h2, h3, h4⟩ := ixN_seq e
    exact ⟨j, h1, h, h2, h3, h4⟩
theorem atI_nat {α : Type} {xs : List α} {j : Nat} {v : α} (h : xs[j]? = some v) : atI xs (j : Int) = some v := by
  have hj : j < xs.length := (List.getElem?_eq_some_iff.mp h).1
  have e : ixN xs.length (j : Int) = some j := by
    unfold ixN
    rw [if_pos (by omega), if_pos (by omega)]; simp
  unfold atI; rw [e]; exact h
def PlainIx (b : Expr) : Prop := ∀ o i, subscripted b false o i = operate [o, i] (getItem o i)
def IxR (X : Cx) (r : R2) : Prop :=
  ∀ (value slice : Expr) (pins : List (Addr × Obj)) (s : Shared) (σ : St) (H : Hp) (x y : V) (v u : Value) (Q : VK), Inv X pins σ H s → RelV x v → RelV y u → r x y H Q →
    subscripted slice false v u = operate [v, u] (getItem v u) → wpAny (model X.prog X.w) X.A (subscriptTail value slice v u) (EP X pins σ Q) X.xe s
def MtR (X : Cx) (id : String) (r : V → List V → Hp → VK → Prop) : Prop :=
  ∀ (pins : List (Addr × Obj)) (s : Shared) (σ : St) (H : Hp) (x : V) (xs : List V) (v : Value) (us : List Value) (Q : VK), Inv X pins σ H s → RelV x v → Vals xs us → r x xs H Q →
    wpAny (model X.prog X.w) X.A (call (.builtin id) (v :: us)) (EP X pins σ Q) X.xe s
section
variable {X : Cx} {a b : Expr} {ta tb : TE} {pos : Pos}
theorem IxR.or {r r' : R2} (h : IxR X r) (h' : IxR X r') : IxR X (fun x y H Q => r x y H Q ∨ r' x y H Q) := by
  intro value slice pins s σ H x y v u Q I rx ry q hs
  rcases q with q | q
  · exact h value slice pins s σ H x y v u Q I rx ry q hs
  · exact h' value slice pins s σ H x y v u Q I rx ry q hs
theorem MtR.or {id : String} {r r' : V → List V → Hp → VK → Prop} (h : MtR X id r) (h' : MtR X id r') : MtR X id (fun x xs H Q => r x xs H Q ∨ r' x xs H Q) := by
  intro pins s σ H x xs v us Q I rx rs q
  rcases q with q | q
  · exact h pins s σ H x xs v us Q I rx rs q
  · exact h' pins s σ H x xs v us Q I rx rs q
theorem pe_ix {r : R2} (hr : IxR X r) (ha : PE X a ta) (hb : PE X b tb) (hs : PlainIx b) : PE X (.Subscript a b pos) (tOp r ta tb) := by
  intro pins s σ H Q I h
  exact Subscript_ (binT ha hb I h fun v u s2 x y H2 I2 rx ry q => hr a b pins s2 σ H2 x y v u Q I2 rx ry q (hs _ _))
def rIxL (K : PySem.W.Frag) : R2 := fun x y H Q => ∃ p xs i v, x = .ref p ∧ y = .int i ∧ SqL K H p xs ∧ atI xs i = some v ∧ Q v H
def rIxT (K : PySem.W.Frag) : R2 := fun x y H Q => ∃ p xs i v, x = .ref p ∧ y = .int i ∧ SqT K H p xs ∧ atI xs i = some v ∧ Q v H
def rIxS : R2 := fun x y H Q => ∃ z i c, x = .str z ∧ y = .int i ∧ z.length ≤ sizeLine ∧ atI z.cps.toList i = some c ∧ Q (.str ⟨#[c]⟩) H
theorem ix_list : IxR X (rIxL X.K) := by
  intro value slice pins s σ H x y v u Q I rx ry h hs
  obtain ⟨p, xs, i, z, rfl, rfl, hq, he, q⟩ := h
  cases rx
  obtain ⟨t, rfl⟩ := ry
  obtain ⟨its, r, pl, hz⟩ := I.list hq
  obtain ⟨j, h1, h2, h3, h4, h5⟩ := atI_get he
  obtain ⟨w, ew, rw'⟩ := r.get h2
  have hl := r.length
  have hn := line63
  have fin : EP X pins σ Q w s := ⟨z, H, I, rw', q⟩
  by_cases h0 : 0 ≤ i
  · have hj : i.toNat = j := by
      rw [seqIndex_of h0 h5] at h1
      exact Option.some.inj h1
    exact item_listR pl.isList h0 (by omega) (by rw [hj]; simpa using ew) fin hs
  · have hj : (i + (its.toArray.size : Int)).toNat = j := by
      rw [seqIndex_neg (by omega) h4] at h1
      rw [List.size_toArray, ← hl]
      exact Option.some.inj h1
    exact subscriptTail_builtinR (x := w) pl.isList.typeIs slot_list_getitem.lookup
      (wpAny_getItem_list_neg (Q := fun r s' => r = w ∧ EP X pins σ Q r s') pl.isList (by omega) (by rw [List.size_toArray] <;> omega) (by omega) (by rw [hj]; simpa using ew) ⟨rfl, fin⟩) hs
theorem ix_tup : IxR X (rIxT X.K) := by
  intro value slice pins s σ H x y v u Q I rx ry h hs
  obtain ⟨p, xs, i, z, rfl, rfl, hq, he, q⟩ := h
  cases rx
  obtain ⟨t, rfl⟩ := ry
  obtain ⟨its, r, pl, hz⟩ := I.tuple hq
  obtain ⟨j, h1, h2, h3, h4, h5⟩ := atI_get he
  obtain ⟨w, ew, rw'⟩ := r.get h2
  have hl := r.length
  have hn := line63
  have fin : EP X pins σ Q w s := ⟨z, H, I, rw', q⟩
  exact subscriptTail_builtinR (x := w) pl.typeIs slot_tuple_getitem.lookup
    (getItem_tuple (j := j) (Q := fun r s' => r = w ∧ EP X pins σ Q r s') pl (by omega) (by omega) (by rw [List.size_toArray, ← hl]; exact h1) (by simpa using ew) ⟨rfl, fin⟩) hs
theorem ix_str : IxR X rIxS := by
  intro value slice pins s σ H x y v u Q I rx ry h hs
  obtain ⟨z, i, c, rfl, rfl, hz, he, q⟩ := h
  obtain ⟨t, rfl⟩ := rx
  obtain ⟨t', rfl⟩ := ry
  obtain ⟨j, h1, h2, h3, h4, h5⟩ := atI_get he
  have hl : z.cps.toList.length = z.length := by simp [Str.length]
  rw [hl] at h1 h4 h5
  have hn := line63
  exact tail_any (typeIs_str s z t) slot_str_getitem.lookup (getItem_str (c := c) (by
    have e1 : decide (i < -(2 ^ 63 : Int)) = false := decide_eq_false (by omega)
    have e2 : decide (i ≥ 2 ^ 63) = false := decide_eq_false (by omega)
    rw [e1, e2, Bool.or_false]) (by rw [h1]; simpa using h2) ⟨.str ⟨#[c]⟩, H, I.tok _, ⟨_, rfl⟩, q⟩) hs
theorem mapSeq_set (its : List Value) (n j : Nat) (u : Value) : Obj.mapSeq (·.setIfInBounds j u) { cls := .type "list", data := .seq its.toArray n } = { cls := .type "list", data := .seq (its.set j u).toArray n } := by
  simp [Obj.mapSeq]
theorem Inv.lst {pins : List (Addr × Obj)} {σ : St} {H : Hp} {s : Shared} {p : Addr} {xs : List V} (I : Inv X pins σ H s) (h : H p = some (.lst xs)) :
    ∃ (its : List Value) (n : Nat), Vals xs its ∧ s.heap.get? p = some { cls := .type "list", data := .seq its.toArray n } ∧ xs.length ≤ sizeLine := by
  obtain ⟨z, its, n, r, e⟩ := I.hok p _ h
  exact ⟨its, n, r, e, z⟩
theorem Inv.lstUpd {pins : List (Addr × Obj)} {σ : St} {H : Hp} {s : Shared} {p : Addr} {xs ys : List V} {its its' : List Value} {n n' : Nat} {f : Obj → Obj} (I : Inv X pins σ H s) (h : H p = some (.lst xs))
    (ho : s.heap.get? p = some { cls := .type "list", data := .seq its.toArray n }) (hf : f { cls := .type "list", data := .seq its.toArray n } = { cls := .type "list", data := .seq its'.toArray n' }) (r : Vals ys its') (hz : ys.length ≤ sizeLine) (t : Nat) :
    Inv X pins σ (upd H p (.lst ys)) { s with heap := s.heap.update p f, toks := t } := by
  have e : (s.heap.update p f).get? p = some { cls := .type "list", data := .seq its'.toArray n' } := by
    rw [Heap.get?_update_self f ho (by rw [hf] <;> rfl), hf]
  refine I.write (x := p) (e := p) (by rw [h]; trivial) (.inl rfl) (fun b u hb q => (Heap.get?_update_other _ _ (Ne.symm hb)).trans q) ⟨_, e⟩ ?_
  exact ⟨hz, its', n', r, e⟩
def rSetL : V → V → V → Hp → (Hp → Prop) → Prop := fun o i v H Q => ∃ p xs k j, o = .ref p ∧ i = .int k ∧ H p = some (.lst xs) ∧ ixN xs.length k = some j ∧ Q (upd H p (.lst (xs.set j v)))
theorem set_list : PSet X rSetL := by
  intro pins s σ H o i v ov iv u Q I ro ri rv h
  obtain ⟨p, xs, k, j, rfl, rfl, hp, hj, q⟩ := h
  cases ro
  obtain ⟨t, rfl⟩ := ri
  obtain ⟨its, n, r, ho, hz⟩ := I.lst hp
  obtain ⟨h1, h2, h3, h4⟩ := ixN_seq hj
  have hl := r.length
  have hn := line63
  have I' : Inv X pins σ (upd H p (.lst (xs.set j v))) { s with heap := s.heap.update p (Obj.mapSeq (·.setIfInBounds j u)) } :=
    I.lstUpd hp ho (mapSeq_set its n j u) (r.set rv j) (by rw [List.length_set]; exact hz) s.toks
  by_cases h0 : 0 ≤ k
  · have hk : k.toNat = j := by
      rw [seqIndex_of h0 h4] at h1
      exact Option.some.inj h1
    exact PySem.W.ki_setAt ho h0 (by omega) (by rw [List.size_toArray, ← hl]; exact h4) (by rw [hk]; exact ⟨_, I', q⟩)
  · have hk : (k + (its.toArray.size : Int)).toNat = j := by
      rw [seqIndex_neg (by omega) h3] at h1
      rw [List.size_toArray, ← hl]
      exact Option.some.inj h1
    exact PySem.W.ki_setBack ho (by omega) (by rw [List.size_toArray, ← hl]; exact h3) (by omega) (by rw [hk]; exact ⟨_, I', q⟩)
theorem slice_bounds (lo hi : Option Int) (n : Nat) : (sliceBounds lo hi none n).1 = ((HT.sIx n 0 lo : Nat) : Int) ∧ (sliceBounds lo hi none n).2.1 = ((HT.sIx n n hi : Nat) : Int) ∧ (sliceBounds lo hi none n).2.2 = 1 := by
  refine ⟨?_, ?_, rfl⟩
  · cases lo with
    | none => simp [sliceBounds, HT.sIx]
    | some i =>
      simp only [sliceBounds, HT.sIx, Option.getD_none, show (1 : Int) > 0 by decide, if_true]
      by_cases h : i < 0
      · simp only [h, if_true] <;> omega
      · simp only [h, if_false] <;> omega
  · cases hi with
    | none => simp [sliceBounds, HT.sIx]
    | some i =>
      simp only [sliceBounds, HT.sIx, Option.getD_none, show (1 : Int) > 0 by decide, if_true]
      by_cases h : i < 0
      · simp only [h, if_true] <;> omega
      · simp only [h, if_false] <;> omega
theorem slicePick_cut (its : List Value) (lo hi : Option Int) : slicePick its.toArray lo hi none = ((its.drop (HT.sIx its.length 0 lo)).take (HT.sIx its.length its.length hi - HT.sIx its.length 0 lo)).toArray := by
  obtain ⟨h1, h2, h3⟩ := slice_bounds lo hi its.toArray.size
  unfold slicePick
  rw [h1, h2, h3]
  simp only [sliceRange_one, pick_run, List.size_toArray] <;> rfl
def rSlL (K : PySem.W.Frag) : V → Option Int → Option Int → Hp → VK → Prop := fun x lo hi H Q => ∃ a xs, x = .ref a ∧ SqL K H a xs ∧ ∀ p, H p = none → Q (.ref p) (upd H p (.lst (cutV xs lo hi)))
theorem sl_list : SlR X (rSlL X.K) := by
  intro pins s σ H x v vl vu lo hi sl Q I rx hs pl pu h
  obtain ⟨a, xs, rfl, hx, q⟩ := h
  cases rx
  obtain ⟨its, r, ht, hz⟩ := I.list hx
  have hlen := r.length
  refine ⟨"list", _, slot_list_getitem.lookup, ht.isList.typeIs, ?_⟩
  refine wpAny_getItem_list_slice ht.isList hs pl pu .none (by simp) ?_ (by rw [List.size_toArray] <;> omega)
  rw [slicePick_cut, ← hlen]
  refine ⟨.ref s.heap.objs.size, _, I.laid (t' := s.toks) (o := .lst (cutV xs lo hi)) (fun b ob q => Heap.get?_push_of_some _ q) (Nat.le_refl _) ?_, rfl, q _ (I.hok.fresh (Nat.le_refl _))⟩
  exact ⟨Nat.le_trans (cutV_length xs lo hi) hz, _, 0, (r.drop (HT.sIx xs.length 0 lo)).take (HT.sIx xs.length xs.length hi - HT.sIx xs.length 0 lo), Heap.get?_push_size _ rfl⟩
def flatV : V → Bool
  | .non => true
  | .bl _ => true
  | .int _ => true
  | .str _ => true
  | _ => false
def eqV : V → V → Bool
  | .non, .non => true
  | .bl a, .bl b => a == b
  | .bl a, .int b => (if a then 1 else 0) == b
  | .int a, .bl b => a == (if b then 1 else 0)
  | .int a, .int b => a == b
  | .str a, .str b => a == b
  | _, _ => false
theorem eqAt_V {A : Around} {s : Shared} {y x : V} {u v : Value} (ry : RelV y u) (rx : RelV x v) (fy : flatV y = true) (fx : flatV x = true) : SeqAt.EqAt A s u v (eqV y x) := by
  cases y with
  | non =>
    cases ry
    cases x with
    | non => cases rx; exact SeqAt.EqAt.same _
    | bl b => cases rx; exact SeqAt.EqAt.none_bool b
    | int b => obtain ⟨t, rfl⟩ := rx; exact SeqAt.EqAt.none_int b t
    | str b => obtain ⟨t, rfl⟩ := rx; exact SeqAt.EqAt.none_str b t
    | _ => exact absurd (show false = true from fx) Bool.false_ne_true
  | bl a =>
    cases ry
    cases x with
    | non => cases rx; exact SeqAt.EqAt.bool_none a
    | bl b => cases rx; exact SeqAt.EqAt.bool_bool a b
    | int b => obtain ⟨t, rfl⟩ := rx; exact SeqAt.EqAt.bool_int a b t
    | str b => obtain ⟨t, rfl⟩ := rx; exact SeqAt.EqAt.bool_str a b t
    | _ => exact absurd (show false = true from fx) Bool.false_ne_true
  | int a =>
    obtain ⟨t', rfl⟩ := ry
    cases x with
    | non => cases rx; exact SeqAt.EqAt.int_none a t'
    | bl b => cases rx; exact SeqAt.EqAt.int_bool a t' b
    | int b => obtain ⟨t, rfl⟩ := rx; exact SeqAt.EqAt.int_int a t' b t
    | str b => obtain ⟨t, rfl⟩ := rx; exact SeqAt.EqAt.int_str a t' b t
    | _ => exact absurd (show false = true from fx) Bool.false_ne_true
  | str a =>
    obtain ⟨t', rfl⟩ := ry
    cases x with
    | non => cases rx; exact SeqAt.EqAt.str_none a t'
    | bl b => cases rx; exact SeqAt.EqAt.str_bool a t' b
    | int b => obtain ⟨t, rfl⟩ := rx; exact SeqAt.EqAt.str_int a t' b t
    | str b => obtain ⟨t, rfl⟩ := rx; exact SeqAt.EqAt.str_str a t' b t
    | _ => exact absurd (show false = true from fx) Bool.false_ne_true
  | _ => exact absurd (show false = true from fy) Bool.false_ne_true
def eqU (x : V) (u : Value) : Bool := match u with
  | .none => eqV .non x
  | .bool b => eqV (.bl b) x
  | .int i _ => eqV (.int i) x
  | .str z _ => eqV (.str z) x
  | _ => false
theorem eqU_of {x y : V} {u : Value} (r : RelV y u) (f : flatV y = true) : eqU x u = eqV y x := by
  cases y with
  | non => cases r; rfl
  | bl b => cases r; rfl
  | int i => obtain ⟨t, rfl⟩ := r; rfl
  | str z => obtain ⟨t, rfl⟩ := r; rfl
  | _ => exact absurd (show false = true from f) Bool.false_ne_true
theorem any_eqU {x : V} : ∀ {xs : List V} {us : List Value}, Vals xs us → xs.all flatV = true → us.any (eqU x) = xs.any fun y => eqV y x
  | _, _, .nil, _ => rfl
  | y :: xs, u :: us, .cons r t, f => by
    rw [List.all_cons, Bool.and_eq_true] at f
    rw [List.any_cons, List.any_cons, eqU_of r f.1, any_eqU t f.2]
theorem mem_eqAt {A : Around} {s : Shared} {x : V} {v : Value} (rx : RelV x v) (fx : flatV x = true) : ∀ {xs : List V} {us : List Value}, Vals xs us → xs.all flatV = true → ∀ u ∈ us, SeqAt.EqAt A s u v (eqU x u)
  | _, _, .nil, _ => fun u hu => by cases hu
  | y :: xs, u :: us, .cons r t, f => fun u' hu => by
    rw [List.all_cons, Bool.and_eq_true] at f
    rcases List.mem_cons.mp hu with rfl | hu
    · rw [eqU_of r f.1]; exact eqAt_V r rx f.1 fx
    · exact mem_eqAt rx fx t f.2 u' hu
def inV (x : V) (xs : List V) : Bool := xs.any fun y => eqV y x
def rIn (K : PySem.W.Frag) (neg : Bool) : R2 := fun x y H Q => ∃ p xs, y = .ref p ∧ (SqL K H p xs ∨ SqT K H p xs) ∧ flatV x = true ∧ xs.all flatV = true ∧ Q (.bl (if neg then !inV x xs else inV x xs)) H
theorem op_in_seq : OpR X (compareOp .In) (rIn X.K false) := by
  intro pins s σ H x y v u Q I rx ry h
  obtain ⟨p, xs, rfl, hq, fx, fs, q⟩ := h
  cases ry
  rcases hq with hq | hq
  · obtain ⟨its, r, pl, hz⟩ := I.list hq
    refine SeqAt.in_listAt (eqU x) pl.isList (fun w hw => mem_eqAt rx fx r fs w (by simpa using hw)) ⟨.bl _, H, I, rfl, ?_⟩
    rw [show its.toArray.any (eqU x) = its.any (eqU x) by simp, any_eqU r fs]
    exact q
  · obtain ⟨its, r, pl, hz⟩ := I.tuple hq
    refine SeqAt.in_tupleAt (eqU x) pl (fun w hw => mem_eqAt rx fx r fs w (by simpa using hw)) ⟨.bl _, H, I, rfl, ?_⟩
    rw [show its.toArray.any (eqU x) = its.any (eqU x) by simp, any_eqU r fs]
    exact q
theorem op_notIn_seq : OpR X (compareOp .NotIn) (rIn X.K true) := by
  intro pins s σ H x y v u Q I rx ry h
  obtain ⟨p, xs, rfl, hq, fx, fs, q⟩ := h
  cases ry
  rcases hq with hq | hq
  · obtain ⟨its, r, pl, hz⟩ := I.list hq
    refine SeqAt.notIn_listAt (eqU x) pl.isList (fun w hw => mem_eqAt rx fx r fs w (by simpa using hw)) ⟨.bl _, H, I, rfl, ?_⟩
    rw [show its.toArray.any (eqU x) = its.any (eqU x) by simp, any_eqU r fs]
    exact q
  · obtain ⟨its, r, pl, hz⟩ := I.tuple hq
    refine SeqAt.notIn_tupleAt (eqU x) pl (fun w hw => mem_eqAt rx fx r fs w (by simpa using hw)) ⟨.bl _, H, I, rfl, ?_⟩
    rw [show its.toArray.any (eqU x) = its.any (eqU x) by simp, any_eqU r fs]
    exact q
theorem call_len_seq : CallR X (.builtin "len") (fun xs H Q => ∃ p ys, xs = [.ref p] ∧ (SqL X.K H p ys ∨ SqT X.K H p ys) ∧ Q (.int ys.length) H) := by
  intro pins s σ H xs us Q I r h
  obtain ⟨p, ys, rfl, hq, q⟩ := h
  obtain ⟨u, rfl, rx⟩ := vals1 r
  cases rx
  have hn := line63
  rcases hq with hq | hq
  · obtain ⟨its, r', pl, hz⟩ := I.list hq
    have hlen := r'.length
    exact Calls.call_len_list pl.isList (by simp only [List.size_toArray] <;> omega) ⟨.int ys.length, H, I.tok _, ⟨s.toks + 1, by rw [List.size_toArray, hlen]⟩, q⟩
  · obtain ⟨its, r', pl, hz⟩ := I.tuple hq
    have hlen := r'.length
    exact len_tuple pl (by simp only [List.size_toArray] <;> omega) ⟨.int ys.length, H, I.tok _, ⟨s.toks + 1, by rw [List.size_toArray, hlen]⟩, q⟩
theorem call_len_str : CallR X (.builtin "len") (fun xs H Q => ∃ z, xs = [.str z] ∧ z.length ≤ sizeLine ∧ Q (.int z.length) H) := by
  intro pins s σ H xs us Q I r h
  obtain ⟨z, rfl, hz, q⟩ := h
  obtain ⟨u, rfl, t, rfl⟩ := vals1 r
  have hn := line63
  exact len_str (by omega) ⟨.int z.length, H, I.tok _, ⟨_, rfl⟩, q⟩
theorem CallR.or {f : Value} {r r' : List V → Hp → VK → Prop} (h : CallR X f r) (h' : CallR X f r') : CallR X f (fun xs H Q => r xs H Q ∨ r' xs H Q) := by
  intro pins s σ H xs us Q I rs q
  rcases q with q | q
  · exact h pins s σ H xs us Q I rs q
  · exact h' pins s σ H xs us Q I rs q
theorem call_tuple_of : CallR X (.type "tuple") (fun xs H Q => ∃ p ys, xs = [.ref p] ∧ ((SqL X.K H p ys ∧ ∀ l, H l = none → Q (.ref l) (upd H l (.tup ys))) ∨ (SqT X.K H p ys ∧ Q (.ref p) H))) := by
  intro pins s σ H xs us Q I r h
  obtain ⟨p, ys, rfl, h⟩ := h
  obtain ⟨u, rfl, rx⟩ := vals1 r
  cases rx
  rcases h with ⟨hq, q⟩ | ⟨hq, q⟩
  · obtain ⟨its, r', pl, hz⟩ := I.list hq
    have hlen := r'.length
    refine call_tuple_list pl.isList (fun h' kp => ?_) (by simp only [List.size_toArray] <;> omega)
    have I1 : Inv X pins σ H { s with heap := h' } := I.kept (t' := s.toks) kp
    have I2 : Inv X pins σ (upd H h'.objs.size (.tup ys)) { s with heap := h'.push { cls := .type "tuple", data := .seq its.toArray } } :=
      I1.laid (t' := s.toks) (fun b o e => Heap.get?_push_of_some _ e) (Nat.le_refl _) (show ObjOk X.prog X.w _ _ _ (.tup ys) from ⟨hz, its, r', IsTup.new _ _⟩)
    exact ⟨.ref h'.objs.size, _, I2, rfl, q _ (I1.hok.fresh (Nat.le_refl _))⟩
  · obtain ⟨its, r', pl, hz⟩ := I.tuple hq
    exact call_tuple_same pl ⟨.ref p, H, I, rfl, q⟩
def tyV (K : PySem.W.Frag) (T : String) (x : V) (H : Hp) : Prop := match x with
  | .str _ => T = "str"
  | .int _ => T = "int"
  | .ref p => (T = "list" ∧ ∃ xs, SqL K H p xs) ∨ (T = "tuple" ∧ ∃ o, K.lookup p = some o ∧ o.cls = .type "tuple" ∧ o.dict = none) ∨
      (T = "dict" ∧ ((∃ kvs, H p = some (.dK kvs)) ∨ ∃ kvs, H p = some (.dT kvs))) ∨ (T = "set" ∧ ∃ S n, H p = some (.set S n))
  | _ => False
theorem tyV_is {pins : List (Addr × Obj)} {σ : St} {H : Hp} {s : Shared} {T : String} {x : V} {v : Value} (I : Inv X pins σ H s) (r : RelV x v) (ty : tyV X.K T x H) :
    s.TypeIs v T ∧ ∀ a, v = .ref a → ∃ ob, s.heap.get? a = some ob ∧ ob.dict = none := by
  cases x with
  | str z =>
    obtain ⟨t, rfl⟩ := r
    cases (show T = "str" from ty)
    exact ⟨typeIs_str s z t, fun _ e => nomatch e⟩
  | int i =>
    obtain ⟨t, rfl⟩ := r
    cases (show T = "int" from ty)
    exact ⟨typeIs_int s i t, fun _ e => nomatch e⟩
  | ref p =>
    cases r
    rcases ty with ⟨rfl, xs, hq⟩ | ⟨rfl, o, hk, hc, hd⟩ | ⟨rfl, hk⟩ | ⟨rfl, S, n, hk⟩
    · obtain ⟨its, _, pl, _⟩ := I.list hq
      refine ⟨pl.isList.typeIs, fun a e => ?_⟩
      cases e
      obtain ⟨o, n, e, c, hd, _⟩ := pl
      exact ⟨o, e, hd⟩
    · refine ⟨⟨o, I.kIn p o hk, hc⟩, fun a e => ?_⟩
      cases e
      exact ⟨o, I.kIn _ o hk, hd⟩
    · have z : ∃ o, s.heap.get? p = some o ∧ o.ExactDict := by
        rcases hk with ⟨kvs, hk⟩ | ⟨kvs, hk⟩
        · obtain ⟨_, _, _, _, o, _, _, e, ex, _⟩ := I.hok p _ hk
          exact ⟨o, e, ex⟩
        · obtain ⟨_, _, _, _, o, _, _, e, ex, _⟩ := I.hok p _ hk
          exact ⟨o, e, ex⟩
      obtain ⟨o, e, ex⟩ := z
      refine ⟨⟨o, e, ex.1⟩, fun a e2 => ?_⟩
      cases e2
      exact ⟨o, e, ex.2.1⟩
    · obtain ⟨o, _, _, _, e, ex, _⟩ := I.hok p _ hk
      refine ⟨⟨o, e, ex.1⟩, fun a e2 => ?_⟩
      cases e2
      exact ⟨o, e, ex.2.1⟩
  | _ => exact False.elim ty
def tBM0 (K : PySem.W.Frag) (T : String) (r : V → List V → Hp → VK → Prop) (to : TE) : TE := fun σ H Q => to σ H fun x H1 => tyV K T x H1 ∧ r x [] H1 Q
def tBM (K : PySem.W.Frag) (T : String) (r : V → List V → Hp → VK → Prop) (to : TE) (t : TA) : TE := fun σ H Q => to σ H fun x H1 => tyV K T x H1 ∧ t σ H1 fun xs H2 => r x xs H2 Q
variable {o e : Expr} {es : List Expr} {to : TE} {t : TA} {name : Str} {apos cpos : Pos} {T id : String} {r : V → List V → Hp → VK → Prop}
theorem pe_bm0 (pa : PlainAttrs T) (slot : Slot T name id) (hty : typeOf (.builtin id) = pure (.type "method_descriptor")) (hm : MtR X id r) (ho : PE X o to)
    (hbase : attributeBase o name X.env (eval o X.env) = eval o X.env := by rfl) (hline : (apos.endLine == cpos.line) = true := by rfl) : PE X (.Call (.Attribute o name apos) [] [] cpos) (tBM0 X.K T r to) := by
  intro pins s σ H Q I h
  refine wpAny_Call_method0_late hbase hline (thn (ho pins s σ H _ I h) fun v s1 ⟨x, H1, I1, r1, ty, q1⟩ => ?_)
  obtain ⟨h1, h2⟩ := tyV_is I1 r1 ty
  exact ⟨T, id, pa, slot, hty, h1, h2, Calls.callWith_builtin rfl (PySem.evalArgs_none (hm pins s1 σ H1 x [] v [] Q I1 r1 .nil q1))⟩
theorem pe_bm (pa : PlainAttrs T) (slot : Slot T name id) (hty : typeOf (.builtin id) = pure (.type "method_descriptor")) (hm : MtR X id r) (ho : PE X o to) (ha : PA X (e :: es) t)
    (hbase : attributeBase o name X.env (eval o X.env) = eval o X.env := by rfl)
    (hfew : ((backTo cpos (starEach (e :: es) X.env)).all (fun x => !x.1) && (backToKw cpos (keywordEach [] X.env)).all (fun x => x.1.isSome)
      && decide ((e :: es).length + ([] : List Keyword).length + (if ([] : List Keyword).isEmpty then 0 else 1) < 30)) = true := by rfl)
    (hline : (apos.endLine == cpos.line) = true := by rfl) (hs : starEach (e :: es) X.env = (false, eval e X.env) :: starEach es X.env := by rfl) (hplain : (backTo cpos (starEach es X.env)).any (·.1) = false := by rfl) :
    PE X (.Call (.Attribute o name apos) (e :: es) [] cpos) (tBM X.K T r to t) := by
  intro pins s σ H Q I h
  refine wpAny_Call_method_late hbase hfew hline rfl (thn (ho pins s σ H _ I h) fun v s1 ⟨x, H1, I1, r1, ty, q1⟩ => ?_)
  obtain ⟨h1, h2⟩ := tyV_is I1 r1 ty
  refine ⟨T, id, pa, slot, hty, h1, h2, ?_⟩
  have hA := ha cpos pins s1 σ H1 _ I1 q1
  rw [hs] at hA ⊢
  refine Calls.callWith_builtin (by show (false || (backTo cpos (starEach es X.env)).any (·.1)) = false; rw [hplain] <;> rfl) (Calls.evalArgs_plain ?_)
  exact thn hA fun us s2 ⟨vs, H2, I2, r2, q2⟩ => hm pins s2 σ H2 x vs v us Q I2 r1 r2 q2
end
end L2
namespace L2
open PySem PySem.Spec PyProof.Rows
def MtM (X : Cx) (id : String) (r : V → List V → Hp → VK → Prop) : Prop :=
  ∀ (pins : List (Addr × Obj)) (s : Shared) (σ : St) (H : Hp) (x : V) (xs : List V) (v : Value) (us : List Value) (Q : VK), Inv X pins σ H s → RelV x v → Vals xs us → r x xs H Q →
    wpAny (model X.prog X.w) X.A (call (.builtin id) (v :: us)) (EP X pins σ Q) X.xe s
theorem Vals.one : ∀ {x : V} {us : List Value}, Vals [x] us → ∃ u, us = [u] ∧ RelV x u
  | _, _, .cons r .nil => ⟨_, rfl, r⟩
theorem Vals.two : ∀ {x y : V} {us : List Value}, Vals [x, y] us → ∃ u v, us = [u, v] ∧ RelV x u ∧ RelV y v
  | _, _, _, .cons r (.cons q .nil) => ⟨_, _, rfl, r, q⟩
theorem Vals.zero : ∀ {us : List Value}, Vals [] us → us = []
  | _, .nil => rfl
theorem Vals.dropLast {xs : List V} {us : List Value} (h : Vals xs us) : Vals xs.dropLast us.dropLast := by
  induction h with
  | nil => exact .nil
  | cons r t ih =>
    cases t with
    | nil => exact .nil
    | cons q t' => exact .cons r ih
theorem Vals.eraseIdx : ∀ {xs : List V} {us : List Value} (i : Nat), Vals xs us → Vals (xs.eraseIdx i) (us.eraseIdx i)
  | _, _, _, .nil => .nil
  | _, _, 0, .cons _ t => t
  | _, _, i + 1, .cons r t => .cons r (Vals.eraseIdx i t)
theorem Vals.reverse {xs : List V} {us : List Value} (h : Vals xs us) : Vals xs.reverse us.reverse := by
  induction h with
  | nil => exact .nil
  | cons r t ih => rw [List.reverse_cons, List.reverse_cons]; exact Vals.append ih (.cons r .nil)
theorem erase_last {α : Type} (l : List α) : l.eraseIdx (l.length - 1) = l.dropLast := by
  induction l with
  | nil => rfl
  | cons a r ih =>
    cases r with
    | nil => rfl
    | cons b r =>
      have e : (a :: b :: r).length - 1 = ((b :: r).length - 1) + 1 := by
        have h1 : (a :: b :: r).length = r.length + 2 := rfl
        have h2 : (b :: r).length = r.length + 1 := rfl
        omega
      rw [e, List.eraseIdx_cons_succ, ih]
      all_goals rfl
section
variable {X : Cx} {pins : List (Addr × Obj)} {σ : St} {H : Hp} {s : Shared} {l b : Addr} {xs ys zs : List V}
theorem Inv.lset {its its' : List Value} {n : Nat} {f : Array Value → Array Value} {t' : Nat} (I : Inv X pins σ H s) (hH : H l = some (.lst xs))
    (e : s.heap.get? l = some { cls := .type "list", data := .seq its.toArray n }) (hf : f its.toArray = its'.toArray) (hv : Vals ys its') (hz : ys.length ≤ sizeLine) :
    Inv X pins σ (upd H l (.lst ys)) { s with heap := s.heap.update l (Obj.mapSeq f), toks := t' } := by
  have q := PySem.IsL.update e f
  rw [hf] at q
  refine I.write (x := l) (e := l) (by rw [hH]; exact trivial) (.inl rfl) (fun b' u hb hu => (Heap.get?_update_other s.heap (Obj.mapSeq f) (Ne.symm hb)).trans hu) ⟨_, q⟩ ?_
  exact ⟨hz, its', _, hv, q⟩
theorem Inv.lnew {its : List Value} {t' : Nat} (I : Inv X pins σ H s) (hv : Vals ys its) (hz : ys.length ≤ sizeLine) :
    Inv X pins σ (upd H s.heap.objs.size (.lst ys)) { s with heap := s.heap.push { cls := .type "list", data := .seq its.toArray }, toks := t' } :=
  I.laid (fun _ _ q => Heap.get?_push_of_some _ q) (Nat.le_refl _) ⟨hz, its, 0, hv, Heap.get?_push_size _ rfl⟩
theorem Inv.fresh (I : Inv X pins σ H s) : H s.heap.objs.size = none := I.hok.fresh (Nat.le_refl _)
theorem Inv.lstM (I : Inv X pins σ H s) (hH : H l = some (.lst xs)) : xs.length ≤ sizeLine ∧ ∃ (its : List Value) (n : Nat), Vals xs its ∧ xs.length = its.length ∧ s.heap.get? l = some { cls := .type "list", data := .seq its.toArray n } := by
  obtain ⟨z, its, n, r, e⟩ := I.hok l _ hH
  exact ⟨z, its, n, r, r.length, e⟩
theorem notLongL {n : Nat} (h : n ≤ sizeLine) : Builtin.List.listTooLong n = false := by
  unfold Builtin.List.listTooLong
  exact decide_eq_false (by omega)
end
section
variable {X : Cx}
def rAppend : V → List V → Hp → VK → Prop := fun x vs H Q => ∃ l xs y, x = .ref l ∧ vs = [y] ∧ H l = some (.lst xs) ∧ xs.length < sizeLine ∧ Q .non (upd H l (.lst (xs ++ [y])))
theorem mt_append : MtM X "list.append" rAppend := by
  intro pins s σ H x vs v us Q I rx rv h
  obtain ⟨l, xs, y, rfl, rfl, hH, hz, q⟩ := h
  cases rx
  obtain ⟨u, rfl, ru⟩ := rv.one
  obtain ⟨z, its, n, r, hl, e⟩ := I.lstM hH
  refine call_meets F.slot_list_append ⟨_, e, rfl⟩ F.entry_list_append (F.args_list_append_2 _ _) (PySem.list_append l its.toArray n u (by rw [List.size_toArray]; omega)) ⟨e, ?_⟩
  refine ⟨.non, _, I.lset (its' := its ++ [u]) hH e (by simp) (r.append (.cons ru .nil)) ?_, rfl, q⟩
  rw [List.length_append, List.length_singleton]
  omega
def rExtend : V → List V → Hp → VK → Prop := fun x vs H Q => ∃ l b xs zs, x = .ref l ∧ vs = [.ref b] ∧ H l = some (.lst xs) ∧ H b = some (.lst zs) ∧ xs.length + zs.length ≤ sizeLine ∧ Q .non (upd H l (.lst (xs ++ zs)))
theorem mt_extend : MtM X "list.extend" rExtend := by
  intro pins s σ H x vs v us Q I rx rv h
  obtain ⟨l, b, xs, zs, rfl, rfl, hH, hB, hz, q⟩ := h
  cases rx
  obtain ⟨u, rfl, ru⟩ := rv.one
  cases ru
  obtain ⟨z, its, n, r, hl, e⟩ := I.lstM hH
  obtain ⟨z2, its2, n2, r2, hl2, e2⟩ := I.lstM hB
  have hsz : its.toArray.size + its2.toArray.size ≤ sizeLine := by rw [List.size_toArray, List.size_toArray]; omega
  have hlong : ¬ (!its.toArray.isEmpty && Builtin.List.listTooLong (its.toArray.size + its2.toArray.size)) = true := by
    rw [notLongL hsz, Bool.and_false]
    exact Bool.false_ne_true
  refine call_meets F.slot_list_extend ⟨_, e, rfl⟩ F.entry_list_extend (F.args_list_extend_2 _ _)
    (AutoSeq1.list_extend_list_list_0 l its.toArray n b its2.toArray n2 hlong (by rw [List.size_toArray]; omega) (by omega)) ⟨e, e2, ?_⟩
  refine ⟨.non, _, I.lset (its' := its ++ its2) hH e (by simp) (r.append r2) ?_, rfl, q⟩
  rw [List.length_append]
  omega
def rPop : V → List V → Hp → VK → Prop := fun x vs H Q => ∃ l xs y, x = .ref l ∧ vs = [] ∧ H l = some (.lst xs) ∧ xs[xs.length - 1]? = some y ∧ Q y (upd H l (.lst xs.dropLast))
theorem mt_pop : MtM X "list.pop" rPop := by
  intro pins s σ H x vs v us Q I rx rv h
  obtain ⟨l, xs, y, rfl, rfl, hH, hy, q⟩ := h
  cases rx
  have hus := rv.zero
  subst hus
  obtain ⟨z, its, n, r, hl, e⟩ := I.lstM hH
  obtain ⟨u, hu, ru⟩ := r.get hy
  have hy' : its.toArray[its.toArray.size - 1]? = some u := by
    show its.toArray[its.length - 1]? = some u
    rw [← Array.getElem?_toList, ← hl]
    exact hu
  refine call_meets F.slot_list_pop ⟨_, e, rfl⟩ F.entry_list_pop (F.args_list_pop_1 _) (MeetsSeq.list_pop_last l its.toArray n u hy' (by rw [List.size_toArray]; omega)) ⟨e, ?_⟩
  refine ⟨y, _, I.lset (its' := its.dropLast) hH e ?_ r.dropLast ?_, ru, q⟩
  · show its.toArray.eraseIdxIfInBounds (its.toArray.size - 1) = its.dropLast.toArray
    rw [List.size_toArray, List.eraseIdxIfInBounds_toArray, erase_last]
  · rw [List.length_dropLast]
    omega
def rCat : R2 := fun x y H Q => ∃ l b xs zs, x = .ref l ∧ y = .ref b ∧ H l = some (.lst xs) ∧ H b = some (.lst zs) ∧ xs.length + zs.length ≤ sizeLine ∧ ∀ p, H p = none → Q (.ref p) (upd H p (.lst (xs ++ zs)))
theorem op_cat : OpR X (binaryOp .Add) rCat := by
  intro pins s σ H x y v u Q I rx ry h
  obtain ⟨l, b, xs, zs, rfl, rfl, hH, hB, hz, q⟩ := h
  cases rx
  cases ry
  obtain ⟨z, its, n, r, hl, e⟩ := I.lstM hH
  obtain ⟨z2, its2, n2, r2, hl2, e2⟩ := I.lstM hB
  refine PySem.P.add_list e e2 ?_ (by rw [List.size_toArray, List.size_toArray]; omega)
  have ea : its.toArray ++ its2.toArray = (its ++ its2).toArray := by simp
  rw [ea]
  exact ⟨.ref _, _, I.lnew (t' := s.toks) (r.append r2) (by rw [List.length_append]; omega), rfl, q _ I.fresh⟩
end
section
variable {prog : Program} {w : World} {A : Around} {E : Value → Shared → Prop} {s : Shared}
set_option maxRecDepth 100000 in
end
section
variable {X : Cx}
end
end L2
namespace Att
open PySem PySem.W PySem.Calls PyProof.Rows
theorem ints_of_wellAll {P : Params} {h : Heap} : ∀ (ns : List Int) (vs : List Value), WellAll P h vs (ns.map WData.int) → IntsAre vs ns := by
  intro ns
  induction ns with
  | nil =>
    intro vs w
    rw [List.map_nil] at w
    cases w
    exact .nil
  | cons n ns ih =>
    intro vs w
    rw [List.map_cons] at w
    cases w with
    | cons a b =>
      cases a
      exact .cons _ _ (ih _ b)
theorem script_of {l : OpenLaw} {n : Nat} (hn : l.most = some n) {P : Params} {h : Heap} {args : List WData} {vals : List Value}
    (hpre : l.row.toRowW.claim.pre args = true) (hwl : WellAll P h vals args) :
    ∃ a vs ns, vals = [Value.ref a] ∧ args = [WData.list (ns.map WData.int)] ∧ h.get? a = some { cls := .type "list", data := .seq vs.toArray } ∧ IntsAre vs ns ∧ ns.length ≤ n := by
  have hsh : WShape.hasAll [] args [.list .int] = true := (pre_splitW hpre).1
  have hc : l.pre.holds [] { args := args } = true := (pre_splitW hpre).2
  obtain ⟨d, r, rfl, h1, h2⟩ := hasAllW_cons hsh
  obtain rfl := hasAllW_nil h2
  obtain ⟨xs, rfl, h3⟩ := hasW_list h1
  obtain ⟨ns, rfl⟩ := items_int h3
  have hlen : ns.length ≤ n := by
    unfold OpenLaw.pre at hc
    have h4 : (WTm.not (.lt (.lit (.int (n : Int))) (.len (.arg 0)))).holds [] { args := [.list (ns.map .int)] } = true := by
      have h4 := (holds_andW hc).1
      rw [hn] at h4
      exact h4
    have h5 := condW_of h4 (w_not (w_lt w_lit (w_len_list (w_arg rfl))))
    rw [List.length_map] at h5
    refine Nat.le_of_not_lt fun q => ?_
    have q' : (n : Int) < ((ns.length : Nat) : Int) := by omega
    first
      | (rw [decide_eq_true q'] at h5; exact absurd h5 (by decide))
      | (simp at h5; omega)
  cases hwl with
  | cons w1 w2 =>
    cases w2
    cases w1 with
    | list ho hall => exact ⟨_, _, ns, rfl, rfl, ho, ints_of_wellAll ns _ hall, hlen⟩
theorem post_true (l : OpenLaw) (args : List WData) : l.row.toRowW.claim.post args (.bool true) args = true :=
  postW_of (r := l.row.toRowW) (X := (true == true))
    (show WShape.has [] (.bool true) .bool = true by first | rfl | decide | simp [WShape.has, WShape.arms, WShape.armsAll])
    (show (WTm.eq .res (.lit (.bool true))).value [] { args := args, res := some (.bool true), after := args } = some (.bool (true == true)) from w_eq_bool (w_res rfl) w_lit) rfl
theorem attach_call {l : OpenLaw} {n : Nat} {q : Program} {loose : List Str} {XP : (Str → Option Value) → Heap → Prop} {YP : World → Heap → Prop} {d : DefRec}
    (hn : l.most = some n) (hdf : d.params.defaults = [])
    (call : ∀ (w : World) (s₀ s₁ : Shared) (mg mb : Str → Option Value) (fa : Addr) (o : Obj) (pm cd doc : Value) (a : Addr) (vs : List Value) (ns : List Int),
      Ground q loose [] XP w s₀ mg mb s₁.heap → YP w s₁.heap →
      s₁.heap.get? fa = some o → o.data = .func (docDef d.name d.params d.body d.scope pm cd doc) → s₁.heap.CodeRec cd d.name → mg d.name = some (.ref fa) →
      s₁.heap.get? a = some { cls := .type "list", data := .seq vs.toArray } → IntsAre vs ns → ns.length ≤ n → s₁.gens = #[] →
      codeAny (model l.prog w) callerA (.call (.ref fa) ⟨[.ref a], []⟩) (fun r s' => r = .ok (.ret (.bool true)) ∧ OldK s₁.heap s'.heap ∧ s'.os = s₁.os ∧ AllBare s'.gens) s₁) :
    WalkO q loose XP YP l.row.toRowW d [] (fun f vs => PySem.call f vs) := by
  intro w s₀ s₁ mg mb G Y fa o pm cd doc dV kV ho hd hcd hD hmg hg args vals as hpre hlay hrd hwl hlo
  obtain rfl : dV = .none := Dflts.none hD hdf
  obtain rfl : kV = .none := Dflts.noKw hD
  obtain ⟨a, vs, ns, rfl, rfl, hobj, hints, hlen⟩ := script_of hn hpre hwl
  refine enter_call (codeAny_mono (call w s₀ s₁ mg mb fa o pm cd doc a vs ns G Y ho (fd_plain hd) hcd hmg hobj hints hlen hg) fun r s' hq => ?_)
  obtain ⟨rfl, h2, h3, h4⟩ := hq
  exact ⟨.inl ⟨.bool true, .bool true, [], rfl, fun _ => rfl, .bool true, post_true l _, fun _ => ⟨List.Pairwise.nil, fun _ hm => (nomatch hm)⟩⟩, h2, h3, h4⟩
section
variable {prog : Program} {w : World} {A : Around} {E : Value → Shared → Prop} {s : Shared} {K : Frag}
end
end Att
namespace L2
open PySem PySem.Spec PyProof.Rows
theorem vals_ints : ∀ {vs : List Value} {ns : List Int}, IntsAre vs ns → Vals (ns.map V.int) vs
  | _, _, .nil => .nil
  | _, _, .cons n t h => .cons ⟨t, rfl⟩ (vals_ints h)
end L2
namespace L2
open PySem PySem.Spec PyProof.Rows
end L2
namespace L2
open PySem PySem.Spec PyProof.Rows
def defArgs (s : Stmt) : Arguments := match s with
  | .FunctionDef _ a _ _ _ _ _ _ _ _ => a
  | _ => { posonlyargs := [], args := [], vararg := none, kwonlyargs := [], kw_defaults := [], kwarg := none, defaults := [] }
def defBody (s : Stmt) : List Stmt := match s with
  | .FunctionDef _ _ b _ _ _ _ _ _ _ => b
  | _ => []
def defScope (s : Stmt) : Scope := match s with
  | .FunctionDef _ _ _ _ _ _ sc _ _ _ => sc
  | _ => { kind := .function, names := [], isGenerator := false, isCoroutine := false }
abbrev CX0 : CXT := fun _ _ _ _ _ _ => False
abbrev E0 : XK := fun _ _ _ => False
theorem pass0 {X : Cx} : Passes CX0 X E0 := fun _ _ _ _ _ _ _ h => h.elim
structure Fun (K : PySem.W.Frag) (x qual : Str) (st : Stmt) (f : Addr) (fd : FuncData) : Prop where
  ex : ∃ (oc : Value) (od : Option Addr) (kV doc pm : Value) (an : Option Addr) (cdv ct : Value) (osl : Array (Option Value)),
    fd = PySem.W.fnOf x qual (defArgs st) (defBody st) (defScope st) .none kV doc pm an cdv ct ∧ K.lookup f = some ⟨oc, od, .func fd, osl⟩ ∧ PySem.W.codeIn K cdv qual = true
  kp : PySem.W.keepIn K (.ref f) = true
section
variable {P : Program} {w : World} {K : PySem.W.Frag} {mg : Str → Option Value} {base : Heap}
theorem Fun.ok {x qual : Str} {st : Stmt} {f : Addr} {fd : FuncData} {N ps : List Str} {k : Nat} {sp : Sp} (F : Fun K x qual st f fd) (S : FnScope N ps (defScope st)) (len : ∀ vs H Q E, sp vs H Q E → vs.length = ps.length)
    (hbody : ∀ (cdv : Value) (A : Around) (outer : List Env) (s : Shared) (H : Hp) (vs : List V) (Q : VK) (E : XK), Room k (A.deeper (envOfC qual (defScope st) s.heap.objs.size f cdv)) → sp vs H Q E →
      ∃ t, PSs (cxOf CX0 P w K mg base N qual (defScope st) f cdv A outer s H E).nox (defBody st) t ∧ t { nx := fun _ H' => Q .non H', rt := Q } (start N vs) H) : FnOk P w K mg base CX0 (k + 1) f fd ps sp := by
  obtain ⟨oc, od, kV, doc, pm, an, cdv, ct, osl, rfl, lk, hcd⟩ := F.ex
  refine fn_of lk hcd S len fun A outer s H vs Q E hr hsp => ?_
  obtain ⟨t, h, q⟩ := hbody cdv A outer s H vs Q E hr hsp
  exact ⟨t, h.nox, q⟩
theorem Fun.binds {x qual : Str} {st : Stmt} {f : Addr} {fd : FuncData} {ps : List Str} (F : Fun K x qual st f fd)
    (h : ∀ (kV doc pm : Value) (an : Option Addr) (cdv ct : Value) (us : List Value), us.length = ps.length → bindArgs (PySem.W.fnOf x qual (defArgs st) (defBody st) (defScope st) .none kV doc pm an cdv ct) ⟨us, []⟩ = pure (ps.zip us)) : Binds K fd ps [] := by
  obtain ⟨oc, od, kV, doc, pm, an, cdv, ct, osl, rfl, lk, hcd⟩ := F.ex
  exact .all (h kV doc pm an cdv ct)
theorem fun_mk {x qual : Str} {st : Stmt} {f : Addr} {oc : Value} {od an : Option Addr} {osl : Array (Option Value)} {kV doc pm cdv ct : Value} (l : K.lookup f = some ⟨oc, od, .func (PySem.W.fnOf x qual (defArgs st) (defBody st) (defScope st) .none kV doc pm an cdv ct), osl⟩)
    (c : PySem.W.codeIn K cdv qual = true) (k : PySem.W.keepIn K (.ref f) = true) : Fun K x qual st f (PySem.W.fnOf x qual (defArgs st) (defBody st) (defScope st) .none kV doc pm an cdv ct) := ⟨⟨oc, od, kV, doc, pm, an, cdv, ct, osl, rfl, l, c⟩, k⟩
end
section
variable {X : Cx}
theorem pv (i : Nat) {x : Str} {pos : Pos} (hN : X.N[i]? = some x := by rfl) (hv : Vis X.env.scope x := by first | exact Or.inl rfl | exact Or.inr (Or.inl rfl) | exact Or.inr (Or.inr rfl)) (hd : (x == ("__debug__" : Str)) = false := by decide)
    (hcd : (x == ("__classdict__" : Str)) = false := by decide) : PE X (.Name x pos) (tVar i) := pe_var hN hv hd hcd
end
theorem iteF {A B : Prop} (h : B) : if false = true then A else B := by
  rw [if_neg Bool.false_ne_true]
  exact h
theorem iteT {A B : Prop} (h : A) : if true = true then A else B := by
  rw [if_pos rfl]
  exact h
theorem ite2 {c A B : Prop} [Decidable c] (h1 : c → A) (h2 : ¬ c → B) : if c then A else B := by
  by_cases h : c
  · rw [if_pos h]
    exact h1 h
  · rw [if_neg h]
    exact h2 h
theorem iteNS {c A B : Prop} [Decidable c] (hc : c) (h : B) : if (!decide c) = true then A else B := by
  rw [decide_eq_true hc]
  exact iteF h
def Same (H H' : Hp) : Prop := ∀ b o, H b = some o → H' b = some o
theorem Same.refl (H : Hp) : Same H H := fun _ _ h => h
theorem Same.trans {H H1 H2 : Hp} (a : Same H H1) (b : Same H1 H2) : Same H H2 := fun c o h => b c o (a c o h)
theorem Same.free {H H' : Hp} (e : Same H H') {l : Addr} (h : H' l = Option.none) : H l = Option.none := by
  cases q : H l with
  | none => rfl
  | some o =>
    rw [e l o q] at h
    cases h
theorem Same.seq {K : PySem.W.Frag} {H H' : Hp} {a : Addr} {xs : List V} (e : Same H H') (h : SqL K H a xs) : SqL K H' a xs := by
  rcases h with (h | ⟨o, h⟩) | h
  · exact .inl (.inl (e _ _ h))
  · exact .inl (.inr ⟨o, e _ _ h⟩)
  · exact .inr h
end L2
set_option maxHeartbeats 4000000
namespace L2
open PySem PySem.Spec PyProof.Rows
section
variable {X : Cx}
def CMulW (i j : Int) : Prop := i.natAbs < 2 ^ 4000 ∧ j.natAbs < 2 ^ 4000
theorem CMulW.ok {i j : Int} (h : CMulW i j) : IntMulOk i j :=
  IntMulOk.of_le (m := 4000) (n := 4000) (intBits_le_iff.mpr h.1) (intBits_le_iff.mpr h.2) (by decide)
theorem op_mulW : OpR X (binaryOp .Mult) (rI CMulW fun i j => .int (i * j)) := opI fun _ _ _ _ _ _ _ hc q => mul_int q hc.ok
def CDivW (i j : Int) : Prop := j ≠ 0 ∧ j.natAbs < 2 ^ 4000
theorem noPy {i j : Int} (h : CDivW i j) : Builtin.divisionGoesByPylong i j = false := by
  refine PyProof.noPylong_of_log2 ?_
  have h0 : j.natAbs ≠ 0 := by have := h.1; omega
  have := (Nat.log2_lt h0).mpr h.2
  omega
theorem op_fdivW : OpR X (binaryOp .FloorDiv) (rI CDivW fun i j => .int (i.fdiv j)) := opI fun _ _ _ _ _ _ _ hc q => floordiv_int hc.1 q (.inl (noPy hc))
def CDivP (i j : Int) : Prop := 0 < j ∧ j.natAbs < 2 ^ 4000
theorem op_fdivP : OpR X (binaryOp .FloorDiv) (rI CDivP fun i j => .int (i / j)) := opI fun i j _ _ _ _ _ hc q => by
  refine floordiv_int (by have := hc.1; omega) ?_ (.inl (noPy ⟨by have := hc.1; omega, hc.2⟩))
  rw [Int.fdiv_eq_ediv_of_nonneg i (by have := hc.1; omega)]
  exact q
theorem call_sum (hc : X.calm = true) : CallR X (.builtin "sum") (fun xs H Q => ∃ (p : Addr) (ns : List Int), xs = [.ref p] ∧ SqL X.K H p (ns.map V.int) ∧ Q (.int ns.sum) H) := by
  intro pins s σ H xs us Q I r h
  obtain ⟨p, ns, rfl, hq, q⟩ := h
  obtain ⟨u, rfl, r1⟩ := vals1 r
  cases r1
  obtain ⟨its, rv, pl, hz⟩ := I.list hq
  have hi : IntsAre its ns := intsAre_of rv
  have hl : s.heap.IsList p its.toArray := by
    obtain ⟨o, n, e, c, _, d⟩ := pl
    exact ⟨o, e, c, n, d⟩
  obtain ⟨xs, hx⟩ := hi.allInts.items
  have hl' : s.heap.IsList p (intItems xs) := hx ▸ hl
  refine sum_intListG (I.ok.hd hc) hl' fun h' tk t' hk => ?_
  have e1 : ns = xs.toList.map (·.1) := by
    rw [← nums_intItems, ← hx]
    exact (show numsOf its.toArray.toList = ns from hi.numsOf).symm
  have e2 : preSum (numAt xs) xs.size = ns.sum := by
    rw [preSum_eq, List.take_of_length_le (by simp), e1]
  rw [e2]
  exact ⟨.int ns.sum, H, I.kept hk, ⟨_, rfl⟩, q⟩
theorem plainIs {h : Heap} {p : Addr} {its : Array Value} (pl : PlainL h p its) : h.IsList p its := by
  obtain ⟨o, n, e, c, _, d⟩ := pl
  exact ⟨o, e, c, n, d⟩
end
end L2
set_option maxHeartbeats 4000000
namespace L2
open PySem PySem.Spec PyProof.Rows
def clOf (env : Env) : List (Str × NameKind) → List (Str × Addr) → List (Str × Addr)
  | [], acc => acc
  | (n, k) :: r, acc => clOf env r (if (k == NameKind.free) = true then (n, (env.cells.lookup n).getD 0) :: acc else acc)
theorem closure_eq {env : Env} : ∀ (names : List (Str × NameKind)) (acc : List (Str × Addr)), (∀ p ∈ names, p.2 = .free → ∃ c, env.cells.lookup p.1 = some c) →
    (forIn names acc fun (x : Str × NameKind) (cs : List (Str × Addr)) => (match x with
      | (name, kind) => if (kind == NameKind.free) = true then (do let __do_lift ← cellOf env name; pure (ForInStep.yield ((name, __do_lift) :: cs))) else pure (ForInStep.yield cs) : Sem (ForInStep (List (Str × Addr))))) = pure (clOf env names acc) := by
  intro names
  induction names with
  | nil => intro acc _; rfl
  | cons p r ih =>
    intro acc h
    obtain ⟨n, k⟩ := p
    rw [List.forIn_cons]
    have hr := fun acc => ih acc fun q hq => h q (List.mem_cons_of_mem _ hq)
    by_cases hk : k = .free
    · subst hk
      obtain ⟨c, hc⟩ := h (n, .free) List.mem_cons_self rfl
      have e : cellOf env n = pure c := by unfold cellOf; rw [hc]
      simp only [beq_self_eq_true, if_true, e, pure_bind]
      rw [hr]
      simp only [clOf, beq_self_eq_true, if_true, hc, Option.getD_some]
    · have hb : (k == NameKind.free) = false := by simpa using hk
      simp only [hb, Bool.false_eq_true, if_false, pure_bind]
      rw [hr]
      simp only [clOf, hb, Bool.false_eq_true, if_false]
theorem closureFor_eq {env : Env} {scope : Scope} (h : ∀ p ∈ scope.names, p.2 = .free → ∃ c, env.cells.lookup p.1 = some c) : closureFor scope env = pure (clOf env scope.names []) := by
  unfold closureFor
  have e := closure_eq (env := env) scope.names [] h
  simp only [e, pure_bind]
theorem clOf_mem {env : Env} {y : Str} {c : Addr} : ∀ {names : List (Str × NameKind)} {acc : List (Str × Addr)}, (∀ p ∈ names, p.2 = .free → ∃ c, env.cells.lookup p.1 = some c) → (∀ y c, acc.lookup y = some c → env.cells.lookup y = some c) →
    (clOf env names acc).lookup y = some c → env.cells.lookup y = some c
  | [], _, _, ha, e => ha _ _ e
  | (n, k) :: r, acc, h, ha, e => by
    refine clOf_mem (names := r) (fun p hp => h p (List.mem_cons_of_mem _ hp)) (fun y c q => ?_) e
    by_cases hk : (k == NameKind.free) = true
    · rw [if_pos hk] at q
      obtain ⟨c', hc'⟩ := h (n, k) List.mem_cons_self (by simpa using hk)
      rw [List.lookup_cons] at q
      cases hy : y == n with
      | true =>
        rw [hy] at q
        have hy' : y = n := by simpa using hy
        subst hy'
        rw [hc'] at q
        cases q
        exact hc'
      | false =>
        rw [hy] at q
        exact ha y c q
    · rw [if_neg hk] at q
      exact ha y c q
theorem clOf_acc {env : Env} {y : Str} : ∀ {names : List (Str × NameKind)} {acc : List (Str × Addr)}, (acc.lookup y).isSome = true → ((clOf env names acc).lookup y).isSome = true
  | [], _, h => h
  | (n, k) :: r, acc, h => by
    refine clOf_acc (names := r) ?_
    split
    · rw [List.lookup_cons]
      split
      · rfl
      · exact h
    · exact h
theorem clOf_has {env : Env} {y : Str} : ∀ {names : List (Str × NameKind)} {acc : List (Str × Addr)}, (y, NameKind.free) ∈ names → ((clOf env names acc).lookup y).isSome = true
  | (n, k) :: r, acc, h => by
    rcases List.mem_cons.mp h with e | h
    · cases e
      refine clOf_acc (names := r) ?_
      rw [if_pos (by simp), List.lookup_cons]
      simp
    · exact clOf_has (names := r) h
abbrev compCx (X : Cx) (scope : Scope) (Nc : List Str) (C : Addr) (s0 : Shared) (H0 : Hp) (ex : List Addr) : Cx :=
  { X with N := Nc, s₀ := s0, H₀ := H0, env := compEnvC scope (clOf X.env scope.names []) C X.env, outer := X.stack, ex := ex, fn := fun _ => false, pn := [], xe := fun _ _ => False }
structure CompScope (fr sc : Scope) (x : Str) (cap : List Str) : Prop where
  kind : sc.kind = .function
  cell : ∀ p ∈ sc.names, p.2 ≠ .cell
  names : ∀ p ∈ sc.names, p.2 = .local → sc.names.lookup p.1 = some .local
  tgt : sc.names.lookup x = some .local
  free : ∀ p ∈ sc.names, p.2 = .free → fr.names.lookup p.1 = some .cell
  caps : ∀ y ∈ cap, (y, NameKind.free) ∈ sc.names
  nd : (x :: cap).Nodup
  noboth : ∀ y ∈ cap, sc.names.lookup y ≠ some .local
theorem relabel_mem {sc : Scope} {env : Env} {y : Str} {k : NameKind} (h : (y, k) ∈ (relabel sc env).names) : ∃ k', (y, k') ∈ sc.names ∧ (k = k' ∨ (k' = .free ∧ k = .cell)) := by
  unfold relabel at h
  obtain ⟨⟨n, k'⟩, hm, e⟩ := List.mem_map.mp h
  by_cases hc : (k' == NameKind.free && env.scope.kind == .function && env.kindOf n == some .cell) = true
  · have e : (n, NameKind.cell) = (y, k) := by simpa [hc] using e
    cases e
    refine ⟨k', hm, .inr ⟨?_, rfl⟩⟩
    rw [Bool.and_eq_true, Bool.and_eq_true] at hc
    simpa using hc.1.1
  · have e : (n, k') = (y, k) := by simpa [hc] using e
    cases e
    exact ⟨k, hm, .inl rfl⟩
section
variable {X : Cx} {pins : List (Addr × Obj)} {σ : St} {H : Hp} {s : Shared} {sc : Scope} {x : Str} {cap : List Str}
theorem CompScope.cells (S : CompScope X.env.scope sc x cap) (ok : X.Ok) : ∀ p ∈ sc.names, p.2 = .free → ∃ c, X.env.cells.lookup p.1 = some c :=
  fun p hp e => ok.has p.1 (.inl (S.free p hp e))
theorem CompScope.sub (S : CompScope X.env.scope sc x cap) (ok : X.Ok) {y : Str} {c : Addr} (h : (clOf X.env sc.names []).lookup y = some c) : X.env.cells.lookup y = some c :=
  clOf_mem (S.cells ok) (fun _ _ z => by simp at z) h
theorem neLt {a b : Addr} (h : a < b) : a ≠ b := Nat.ne_of_lt h
theorem neGt {a b : Addr} (h : b < a) : a ≠ b := Nat.ne_of_gt h
def capV (σ : St) (js : List Nat) : St := js.map fun j => (σ[j]?).join
theorem comp_inv (S : CompScope X.env.scope sc x cap) {js : List Nat} (hjs : js.map (fun j => X.N[j]?) = cap.map some) (I : Inv X pins σ H s) {fp : List Addr} (hf : ∀ b ∈ fp, FpOk X pins H b) (hlt : ∀ b ∈ fp, b < s.heap.objs.size)
    {h1 : Heap} {tk : Nat} {D C : Addr} {oD : Obj} {m : Str → Option Value} (hD : D = s.heap.objs.size) (hC : C = s.heap.objs.size + 1) (keep : ∀ b o, s.heap.get? b = some o → h1.get? b = some o) (hoD : h1.get? D = some oD) (hnc : ∀ v, oD.data ≠ .cell v) (hns : h1.Ns C m) :
    Inv (compCx X sc (x :: cap) C s H fp) [(D, oD)] (none :: capV σ js) H { s with heap := h1, toks := tk } := by
  subst hD hC
  have lenJ : js.length = cap.length := by have := congrArg List.length hjs; simpa using this
  have ok := I.ok
  refine ⟨⟨ok.mod, S.kind, ok.glob, ok.blt, ?_, fun y z c h1 h2 => ok.inj y z c (S.sub ok h1) (S.sub ok h2), fun y hy => ?_, (fun y c h => Bool.noConfusion h), ok.hd, ok.frames, .inl rfl, fun b hb => ⟨?_, fun y c e => (hf b hb).2.2.2.2.1 y c (S.sub ok e)⟩, I.bs, Nat.le_trans ok.bsz I.sz, fun b o e hb => ?_, fun b hb hb' => ?_, I.stack, I.stkFree⟩,
    rfl, I.bare, Un.kept keep, ⟨m, hns, fun i y v e1 e2 e3 => ?_⟩, fun y c e => ?_, I.hok.fresh (Nat.le_succ _), fun y c e => I.freeC y c (S.sub ok e), fun p hp => ?_, I.hok.kept keep, ?_⟩
  · exact Nat.le_succ _
  · have hy' : ∃ k, (y, k) ∈ (relabel sc X.env).names ∧ (k = .cell ∨ k = .free) := by
      rcases hy with hy | hy
      · exact ⟨_, PySem.mem_of_lookup hy, .inl rfl⟩
      · exact ⟨_, PySem.mem_of_lookup hy, .inr rfl⟩
    obtain ⟨k, hm, hk⟩ := hy'
    obtain ⟨k', hm', hk'⟩ := relabel_mem hm
    have hfree : k' = .free := by
      rcases hk' with e | ⟨e, _⟩
      · subst e
        rcases hk with e | e
        · exact absurd e (S.cell _ hm')
        · exact e
      · exact e
    subst hfree
    exact Option.isSome_iff_exists.mp (clOf_has hm')
  · exact neLt (Nat.lt_succ_of_lt (hlt b hb))
  · obtain ⟨_, _, _, z, _⟩ := hf b hb
    rcases z with z | z
    · exact ok.noex b o e z
    · have := Heap.lt_size (ok.bs b o e).1
      exact absurd (Nat.lt_of_lt_of_le this z) (Nat.lt_irrefl _)
  · obtain ⟨_, z1, z2, _⟩ := hf b hb
    rcases List.mem_cons.mp (I.stkSub b hb') with z | z
    · exact z1 z
    · exact z2 z
  · cases i with
    | zero =>
      have e2' : (none : Option V) = some v := by simpa using e2
      cases e2'
    | succ i =>
      have e1' : cap[i]? = some y := by simpa using e1
      have e2' : (capV σ js)[i]? = some (some v) := by simpa using e2
      have hy : y ∈ cap := List.mem_of_getElem? e1'
      unfold capV at e2'
      rw [List.getElem?_map] at e2'
      cases ej : js[i]? with
      | none => rw [ej] at e2'; cases e2'
      | some j =>
        rw [ej] at e2'
        have e2'' : (σ[j]?).join = some v := Option.some.inj e2'
        have eN : X.N[j]? = some y := by
          have := congrArg (fun l => l[i]?) hjs
          simp only [List.getElem?_map, ej, e1', Option.map_some] at this
          exact Option.some.inj this
        have eσ : σ[j]? = some (some v) := by
          cases q : σ[j]? with
          | none => rw [q] at e2''; cases e2''
          | some w' =>
            rw [q] at e2''
            have : w' = some v := by simpa using e2''
            rw [this]
        have kc : X.env.scope.names.lookup y = some .cell := S.free (y, .free) (S.caps y hy) rfl
        obtain ⟨m0, hn0, hl0⟩ := I.loc
        obtain ⟨u, ru, lk⟩ := hl0 j y v eN eσ (.inr (.inl kc))
        refine ⟨u, ru, ?_⟩
        rcases lk with ⟨k, _⟩ | ⟨_, c, ec, hc⟩
        · have k' : X.env.scope.names.lookup y = some .local := k
          rw [kc] at k'; cases k'
        · obtain ⟨c', hc'⟩ := Option.isSome_iff_exists.mp (clOf_has (env := X.env) (acc := []) (S.caps y hy))
          have hcc : c' = c := Option.some.inj ((S.sub ok hc').symm.trans ec)
          subst hcc
          refine .inr ⟨?_, c', hc', ?_⟩
          · rcases e3 with e3 | e3 | e3
            · exfalso
              have hm := PySem.mem_of_lookup e3
              obtain ⟨k', hm', hk'⟩ := relabel_mem hm
              rcases hk' with e | ⟨_, e⟩
              · subst e
                exact S.noboth y hy (S.names _ hm' rfl)
              · cases e
            · exact .inl e3
            · exact .inr e3
          · obtain ⟨o, ho, hd⟩ := hc
            exact ⟨o, keep _ o ho, hd⟩
  · obtain ⟨v, o, ho, hd⟩ := I.cell y c (S.sub ok e)
    exact ⟨v, o, keep _ o ho, hd⟩
  · have hp' : p = (s.heap.objs.size, oD) := by simpa using hp
    subst hp'
    refine ⟨hoD, I.hok.fresh (Nat.le_refl _), neLt (Nat.lt_succ_self _), fun hb => ?_, hnc⟩
    obtain ⟨_, o, ho, _⟩ := I.stack.mem hb
    exact Nat.lt_irrefl _ (Heap.lt_size ho)
  · show (none :: capV σ js).length = (x :: cap).length
    unfold capV
    simp [lenJ]
theorem comp_end (S : CompScope X.env.scope sc x cap) (I : Inv X pins σ H s) {fp : List Addr} (hf : ∀ b ∈ fp, FpOk X pins H b) {D C : Addr} {pn' : List (Addr × Obj)} {σ' : St} {H' : Hp} {s' : Shared} {ys : List V} {its : List Value} {k : Nat} {h' : Heap}
    (hD : D = s.heap.objs.size) (hC : C = s.heap.objs.size + 1) (J : Inv (compCx X sc (x :: cap) C s H fp) pn' σ' H' s') (hnD : H' D = none) (hoD : s'.heap.get? D = some { cls := .type "list", data := .seq its.toArray k }) (rv : Vals ys its) (hz : ys.length ≤ sizeLine)
    (hs : Heap.SameBut C s'.heap h') : Inv X pins σ (upd H' D (.lst ys)) { s' with heap := h' } := by
  subst hD hC
  have base : Un (frs X.stack) fp H H' s.heap s'.heap := J.base
  have hnC : H' (s.heap.objs.size + 1) = none := J.free
  have neC : ∀ {b : Addr} {o : Obj}, s.heap.get? b = some o → b ≠ s.heap.objs.size + 1 := fun e => neLt (Nat.lt_succ_of_lt (Heap.lt_size e))
  have neD : ∀ {b : Addr} {o : Obj}, s.heap.get? b = some o → b ≠ s.heap.objs.size := fun e => neLt (Heap.lt_size e)
  have neDH : ∀ {b : Addr} {o : HO}, H b = some o → b ≠ s.heap.objs.size := fun e => neLt (I.hok.lt e)
  refine I.call' (s' := { s' with heap := h' }) (ch := fp) J.os ⟨fun b o e n hb hx => ?_, fun b o e n hb hx => ?_, fun b o e n hx => ?_, fun b o e hx => ?_, fun b xs e => ?_, fun b o u e => ?_, fun b ps e => ?_⟩ (fun b u e => ?_) J.bare fun b hb => ?_
  · exact (hs.2 b (neC e)).trans (base.keep b o e n hb hx)
  · obtain ⟨sl, q⟩ := base.slot b o e n hb hx
    exact ⟨sl, (hs.2 b (neC e)).trans q⟩
  · rw [upd_ne (neD e)]; exact base.free b o e n hx
  · obtain ⟨o', q⟩ := base.there b o e hx
    exact ⟨o', (hs.2 b (neC e)).trans q⟩
  · rw [upd_ne (neDH e)]; exact base.tups b xs e
  · rw [upd_ne (neDH e)]; exact base.frzs b o u e
  · rw [upd_ne (neDH e)]; exact base.tbls b ps e
  · by_cases hb : b = s.heap.objs.size
    · subst hb
      rw [upd_same] at e
      cases e
      exact ⟨hz, its, k, rv, (hs.2 _ (neLt (Nat.lt_succ_self _))).trans hoD⟩
    · rw [upd_ne hb] at e
      have J' : ObjOk X.prog X.w H' s'.heap b u := J.hok b u e
      refine J'.stay (fun c v hc q => (hs.2 c ?_).trans q) (fun c q => ?_) (fun c xs q => ?_) fun c o u q => ?_
      · rintro rfl
        rcases hc with rfl | hc
        · rw [hnC] at e; cases e
        · rw [hnC] at hc; cases hc
      · rw [upd_ne (ne_of_none q hnD)]; exact q
      · rw [upd_ne (ne_of_none q hnD)]; exact q
      · rw [upd_ne (ne_of_none q hnD)]; exact q
  · obtain ⟨_, z1, _, z3, z4, z5⟩ := hf b hb
    exact ⟨z3, z1, z4, z5⟩
def PIf (X : Cx) (ifs : List Expr) (t : TT) : Prop :=
  ∀ (pins : List (Addr × Obj)) (s : Shared) (σ : St) (H : Hp) (Q : Bool → Hp → Prop), Inv X pins σ H s → t σ H Q →
    wpAny (model X.prog X.w) X.A (forIn ifs true fun c r => if r = true then do let ok ← isTrue c X.env (eval c X.env); pure (ForInStep.yield ok) else pure (ForInStep.yield r)) (TP X pins σ Q) X.xe s
def tNoIf : TT := fun _ H Q => Q true H
theorem tNoIf_of {σ : St} {H : Hp} {A B : Hp → Prop} (h : A H) : tNoIf σ H (fun b H2 => if b = true then A H2 else B H2) := by
  unfold tNoIf
  exact iteT h
theorem pif_nil {X : Cx} : PIf X [] tNoIf := fun _ _ _ H _ I h => wpAny_tests_nil ⟨H, I, h⟩
theorem pif_one {X : Cx} {c : Expr} {t : TT} (h : PT X c t) : PIf X [c] t := fun pins s σ H Q I q => wpAny_tests_one (h pins s σ H Q I q)
end
section
variable {prog : Program} {w : World} {A : Around} {R : Result → Shared → Prop} {s : Shared}
theorem comp_turns {elt target iter : Expr} {ifs : List Expr} {scope : Scope} {pos : Pos} {it acc : Value} {env : Env} (J : Nat → Shared → Prop)
    (turn : ∀ n s, J n s → wpAny (model prog w) A (pyNext it) (fun r s₁ => match r with
      | none => R (.ok .next) s₁
      | some v => wpAny (model prog w) A (letOwnedTupleGo target it v) (fun _ s₂ => wpAny (model prog w) A (assign target env v) (fun _ s₃ =>
          wpAny (model prog w) A (forIn ifs true fun c r => if r = true then do let ok ← isTrue c env (eval c env); pure (ForInStep.yield ok) else pure (ForInStep.yield r)) (fun ok s₄ =>
            if ok = true then wpAny (model prog w) A (eval elt env) (fun x s₅ =>
              wpAny (model prog w) A (call (.builtin "list.append") [acc, x]) (fun _ s₆ => ∃ m, m < n ∧ J m s₆) (fun _ _ => False) s₅) (fun _ _ => False) s₄
            else ∃ m, m < n ∧ J m s₄) (fun _ _ => False) s₃) (fun _ _ => False) s₂) (fun _ _ => False) s₁) (fun _ _ => False) s)
    (n : Nat) (h : J n s) : codeAny (model prog w) A (.compLoop (.ListComp elt [⟨target, iter, ifs, 0⟩] scope pos) 0 it acc env) R s := by
  refine codeAny_loop rfl J (fun n s hJ => ?_) n h
  show wpAny _ A ((compTurn (.ListComp elt [⟨target, iter, ifs, 0⟩] scope pos) 0 it acc env).onRaise (fun x => do noteFrame x env; theTreesLotGoes x)) _ _ s
  refine wpAny_noted ?_
  rw [compTurn_list]
  refine wpAny_bind (wpAny_standAt (wpAny_bind (wpAny_mono (turn n s hJ) (fun r s₁ h₁ => ?_) fun _ _ z => z.elim)))
  cases r with
  | none => exact wpAny_pure h₁
  | some v =>
    refine wpAny_bind (wpAny_mono h₁ (fun _ s₂ h₂ => ?_) fun _ _ z => z.elim)
    refine wpAny_bind (wpAny_mono h₂ (fun _ s₃ h₃ => wpAny_bind (wpAny_mono h₃ (fun ok s₄ h₄ => ?_) fun _ _ z => z.elim)) fun _ _ z => z.elim)
    cases ok with
    | false => exact wpAny_pure ⟨rfl, h₄⟩
    | true =>
      exact wpAny_bind (wpAny_bind (wpAny_mono h₄ (fun x s₅ h₅ => wpAny_bind (wpAny_mono h₅ (fun _ s₆ h₆ => wpAny_pure (wpAny_pure ⟨rfl, h₆⟩)) fun _ _ z => z.elim)) fun _ _ z => z.elim))
end
section
variable {X : Cx} {pins : List (Addr × Obj)} {σ : St} {H : Hp} {s : Shared} {sc : Scope} {x : Str} {cap : List Str}
def LCw (J : It) (js : List Nat) (σ : St) (tt : TT) (te : TE) (Q : VK) (W : Nat → Nat → List V → Hp → Prop) : Prop :=
  ∀ i m ys H, W i m ys H → ys.length < sizeLine ∧
    ((J.stop i H ∧ ∀ p, H p = none → Q (.ref p) (upd H p (.lst ys))) ∨
     (J.go i H ∧ ∀ x H', J.yld i H x H' → tt (some x :: capV σ js) H' fun b H2 => if b = true then te (some x :: capV σ js) H2 fun v H3 => ∃ m', m' < m ∧ W (i + 1) m' (ys ++ [v]) H3 else ∃ m', m' < m ∧ W (i + 1) m' ys H2))
def tLC (wi : TI) (js : List Nat) (tt : TT) (te : TE) : TE := fun σ H Q => wi σ H fun J H1 => ∃ W : Nat → Nat → List V → Hp → Prop, (∃ m, W 0 m [] H1) ∧ LCw J js σ tt te Q W
theorem comp_run (S : CompScope X.env.scope sc x cap) {js : List Nat} (hjs : js.map (fun j => X.N[j]?) = cap.map some) (hc : X.calm = true) {elt iter : Expr} {ifs : List Expr} {pos px : Pos} {tt : TT} {te : TE}
    (hb : ∀ C s0 H0 ex, PIf (compCx X sc (x :: cap) C s0 H0 ex) ifs tt ∧ PE (compCx X sc (x :: cap) C s0 H0 ex) elt te)
    (I : Inv X pins σ H s) {J : It} {fp : List Addr} {it : Addr} {tn : Nat → Heap → Prop} (T : Turn X.prog X.w X.K (.Name x px) J fp it tn) (st : tn 0 s.heap) (hf : ∀ b ∈ fp, FpOk X pins H b)
    {Q : VK} {W : Nat → Nat → List V → Hp → Prop} (w0 : ∃ m, W 0 m [] H) (turn : LCw J js σ tt te Q W) {RR : Value → Addr → Result → Shared → Prop} {E : Value → Shared → Prop}
    (hR : ∀ D C s' σ' H' ys its k, D = s.heap.objs.size → C = s.heap.objs.size + 1 → Inv (compCx X sc (x :: cap) C s H fp) [(D, { cls := .type "list", data := .seq its.toArray k })] σ' H' s' → Vals ys its → ys.length ≤ sizeLine → (∀ p, H' p = none → Q (.ref p) (upd H' p (.lst ys))) → RR (.ref D) C (.ok .next) s') :
    wpAny (model X.prog X.w) X.A (newList []) (fun acc s₃ => wpAny (model X.prog X.w) X.A (newFunctionEnv sc X.env.globals (clOf X.env sc.names []) [] X.env.qual none .none (some X.env)) (fun cenv s₄ =>
      codeAny (model X.prog X.w) X.A (.compStart (.ListComp elt [⟨.Name x px, iter, ifs, 0⟩] sc pos) 0 (.ref it) acc { cenv with scope := relabel sc X.env }) (RR acc cenv.locals) s₄) E s₃) E s := by
  refine wpAny_newObj_type (wpAny_newFunctionEnv S.cell (by intro y hy; simp at hy) (fun h₁ hns₁ hsb₁ => ?_) S.kind)
  dsimp only at hns₁ hsb₁ ⊢
  have hlt : ∀ b ∈ fp, b < s.heap.objs.size := fun b hb' => by
    obtain ⟨o, e, _⟩ := T.obj 0 _ st b hb'
    exact Heap.lt_size e
  generalize hH2 : s.heap.push { cls := .type "list", dict := none, data := .seq ([] : List Value).toArray } = H2 at hns₁ hsb₁ ⊢
  have hC : H2.objs.size = s.heap.objs.size + 1 := by rw [← hH2, Heap.size_push]
  have old : ∀ b o, s.heap.get? b = some o → h₁.get? b = some o := fun b o e =>
    hsb₁.extBut b o (by rw [hC]; exact neLt (Nat.lt_succ_of_lt (Heap.lt_size e))) (Heap.get?_push_of_some _ (hH2 ▸ Heap.get?_push_of_some _ e))
  have hacc : h₁.get? s.heap.objs.size = some { cls := .type "list", data := .seq ([] : List Value).toArray } :=
    hsb₁.extBut _ _ (by rw [hC]; exact neLt (Nat.lt_succ_self _)) (Heap.get?_push_of_some _ (hH2 ▸ Heap.get?_push_size _ rfl))
  have st₁ : tn 0 h₁ := T.keep _ _ _ st fun b _ o e => old b o e
  obtain ⟨m0, w0⟩ := w0
  rw [hC] at hns₁ hsb₁ ⊢
  generalize hCe : s.heap.objs.size + 1 = C at hns₁ hsb₁ hR ⊢
  generalize hDe : s.heap.objs.size = D at hacc hR ⊢
  have hDe' := hDe.symm
  have hC' : C = s.heap.objs.size + 1 := hCe.symm
  have ltD : ∀ {b : Addr}, b < s.heap.objs.size → b ≠ D := fun h => by rw [← hDe]; exact neLt h
  have loop : ∀ s₃ : Shared, s₃ = { s with heap := h₁, toks := s.toks + ([] : List (Str × Value)).length } →
      codeAny (model X.prog X.w) X.A (.compLoop (.ListComp elt [⟨.Name x px, iter, ifs, 0⟩] sc pos) 0 (.ref it) (.ref D) (compEnvC sc (clOf X.env sc.names []) C X.env)) (RR (.ref D) C) s₃ := by
    rintro s₃ rfl
    have I0 : Inv (compCx X sc (x :: cap) C s H fp) [(D, { cls := .type "list", data := .seq ([] : List Value).toArray })] (none :: capV σ js) H { s with heap := h₁, toks := s.toks + ([] : List (Str × Value)).length } :=
      comp_inv S hjs I hf hlt hDe' hC' old hacc (fun v z => by cases z) hns₁
    have ndN : (compCx X sc (x :: cap) C s H fp).N.Nodup := S.nd
    have hxl : (compCx X sc (x :: cap) C s H fp).env.scope.names.lookup x = some .local := lookup_relabel_local S.tgt
    have fpD : ∀ b ∈ fp, b ≠ D := fun b hb' => ltD (hlt b hb')
    refine comp_turns (fun n s' => ∃ i v0 H' ys its k, Inv (compCx X sc (x :: cap) C s H fp) [(D, { cls := .type "list", data := .seq its.toArray k })] (v0 :: capV σ js) H' s' ∧ tn i s'.heap ∧ (∀ b ∈ fp, H' b = none) ∧ Vals ys its ∧ W i n ys H')
      ?_ m0 ⟨0, none, H, [], [], 0, I0, st₁, fun b hb' => (hf b hb').1, .nil, w0⟩
    rintro n s3 ⟨i, v0, H3, ys, its, k, I3, st3, fr3, rv, w3⟩
    obtain ⟨hlen, hor⟩ := turn i n ys H3 w3
    have stat : ∀ {H' : Hp} {o : Obj}, (∀ b ∈ fp, H' b = none) → ∀ b ∈ fp, FpOk (compCx X sc (x :: cap) C s H fp) [(D, o)] H' b := fun {H' o} hn b hb' =>
      ⟨hn b hb', (I3.ok.exf b hb').1, I3.ok.exfs b hb', .inl hb', (I3.ok.exf b hb').2, fun p hp => by
        have hp' : p = (D, o) := by simpa using hp
        rw [hp']
        exact Ne.symm (fpD b hb')⟩
    rcases hor with ⟨stop, qn⟩ | ⟨go, step⟩
    · refine thn (T.done (compCx X sc (x :: cap) C s H fp) rfl rfl rfl hc i _ s3 _ H3 _ I3 (stat fr3) st3 stop) fun r s4 ⟨hr, I4⟩ => ?_
      subst hr
      exact hR D C s4 _ H3 ys its k rfl rfl I4 rv (Nat.le_of_lt hlen) qn
    · refine thn (T.item (compCx X sc (x :: cap) C s H fp) rfl rfl rfl hc i _ s3 _ H3 _ I3 (stat fr3) st3 go) fun r s4 ⟨u, hr, h4⟩ => ?_
      subst hr
      refine thn h4 fun _ s5 ⟨xv, H5, I5, r5, y5, st5, fr5⟩ => ?_
      have I5' := I5.pinned (stat fr5) (T.obj _ _ st5)
      have hg : PG (compCx X sc (x :: cap) C s H fp) (.Name x px) (gName 0) := pg_name ndN rfl (.inl hxl) (.inr hxl)
      refine thn (hg _ s5 _ H5 xv u (fun σ2 H2 => σ2 = some xv :: capV σ js ∧ H2 = H5) I5' r5 ⟨rfl, rfl⟩) fun _ s6 ⟨σ6, H6, I6, e6, e6'⟩ => ?_
      subst e6 e6'
      refine thn ((hb C s H fp).1 _ s6 _ H6 _ I6 (step xv H6 y5)) fun ok s7 ⟨H7, I7, q7⟩ => ?_
      have fin : ∀ {s8 : Shared} {H8 : Hp} {v8 : Option V}, Inv (compCx X sc (x :: cap) C s H fp) ([(D, { cls := .type "list", data := .seq its.toArray k })] ++ pinsAt fp s5.heap) (v8 :: capV σ js) H8 s8 → tn (i + 1) s8.heap ∧ (∀ b ∈ fp, H8 b = none) ∧ s8.heap.get? D = some { cls := .type "list", data := .seq its.toArray k } ∧ H8 D = none ∧ D ≠ C := fun {s8 H8 v8} I8 => by
        have pinD := I8.pin (D, { cls := .type "list", data := .seq its.toArray k }) (List.mem_append_right _ (List.mem_append_left _ (List.mem_singleton.mpr rfl)))
        have pinF : ∀ b ∈ fp, ∀ o, s5.heap.get? b = some o → s8.heap.get? b = some o ∧ H8 b = none := fun b hb' o e =>
          have z := I8.pin (b, o) (List.mem_append_right _ (List.mem_append_right _ (mem_pinsAt hb' e)))
          ⟨z.1, z.2.1⟩
        refine ⟨T.keep _ _ _ st5 fun b hb' o e => (pinF b hb' o e).1, fun b hb' => ?_, pinD.1, pinD.2.1, pinD.2.2.1⟩
        obtain ⟨o, e, _⟩ := T.obj _ _ st5 b hb'
        exact (pinF b hb' o e).2
      cases ok with
      | false =>
        rw [if_neg Bool.false_ne_true] at q7 ⊢
        obtain ⟨m', hm, w7⟩ := q7
        obtain ⟨f1, f2, _⟩ := fin I7
        exact ⟨m', hm, i + 1, some xv, H7, ys, its, k, I7.unpinned, f1, f2, rv, w7⟩
      | true =>
        rw [if_pos rfl] at q7 ⊢
        refine thn ((hb C s H fp).2 _ s7 _ H7 _ I7 q7) fun u8 s8 ⟨v, H8, I8, r8, q8⟩ => ?_
        obtain ⟨f1, f2, f3, f4, f5⟩ := fin I8
        obtain ⟨m', hm, w8⟩ := q8
        have rv' : Vals (ys ++ [v]) (its ++ [u8]) := rv.append (.cons r8 .nil)
        refine wpAny_list_append_plain ⟨k, f3⟩ (fun h9 hl9 hs9 => ?_) (by rw [List.size_toArray, ← rv.length]; exact Nat.le_of_lt hlen)
        obtain ⟨k9, e9⟩ := hl9
        have e9' : h9.get? D = some { cls := .type "list", data := .seq (its ++ [u8]).toArray k9 } := by rw [e9]; simp
        have In : Inv (compCx X sc (x :: cap) C s H fp) (pinsAt fp s5.heap) (some xv :: capV σ js) H8 s8 := I8.pins_of fun p hp => I8.pin p (List.mem_append_right _ (List.mem_append_right _ hp))
        have It' : Inv (compCx X sc (x :: cap) C s H fp) (pinsAt fp s5.heap) (some xv :: capV σ js) H8 { s8 with heap := h9 } :=
          In.turned (it := D) (h' := h9) (t' := s8.toks) (fun b o hb' e => hs9.extBut b o hb' e) f4 f5 (.inr (Nat.le_of_eq hDe)) (fun y c e z => by
            obtain ⟨v', o, ho, _⟩ := I.cell y c (S.sub I.ok e)
            exact ltD (Heap.lt_size ho) z) fun p hp z => by
            have hp' : p ∈ pinsAt fp s5.heap := by simpa using hp
            exact fpD p.1 (of_pinsAt hp').1 z
        refine ⟨m', hm, i + 1, some xv, H8, ys ++ [v], its ++ [u8], k9, It'.pins_of fun p hp => ?_, T.keep _ _ _ f1 fun b hb' o e => hs9.extBut b o (fpD b hb') e, f2, rv', w8⟩
        have hp' : p = (D, { cls := .type "list", data := .seq (its ++ [u8]).toArray k9 }) := by simpa using hp
        subst hp'
        refine ⟨e9', f4, f5, fun hb' => ?_, fun v z => by cases z⟩
        obtain ⟨_, o, ho, _⟩ := I.stack.mem hb'
        exact ltD (Heap.lt_size ho) rfl
  exact codeAny_compStart_list (loop _ rfl) (T.self X.A 0 _ _ _ st₁ (loop _ rfl))
theorem pe_lc (S : CompScope X.env.scope sc x cap) {js : List Nat} (hjs : js.map (fun j => X.N[j]?) = cap.map some) (hc : X.calm = true) (hxe : ∀ e s, ¬ X.xe e s) {elt iter : Expr} {ifs : List Expr} {pos px : Pos} {wi : TI} {tt : TT} {te : TE}
    (hi : PI X (.Name x px) iter wi) (hb : ∀ C s0 H0 ex, PIf (compCx X sc (x :: cap) C s0 H0 ex) ifs tt ∧ PE (compCx X sc (x :: cap) C s0 H0 ex) elt te)
    (hs : ∀ x, foldedSetIterable iter X.env x = pure x := by intro _; rfl) : PE X (.ListComp elt [⟨.Name x px, iter, ifs, 0⟩] sc pos) (tLC wi js tt te) := by
  intro pins s σ H Q I h
  rw [eval_ListComp]
  refine wpAny_comprehension_free (use := none) rfl hs (closureFor_eq (S.cells I.ok)) S.kind S.names (thn (hi pins s σ H _ I h) fun xv s₁ h₁ => thn h₁ fun itv s₂ h₂ => ?_)
  obtain ⟨it, fp, tn, J, H2, e, I2, T, st2, f2, W, w0, turn⟩ := h₂
  subst e
  refine comp_run (Q := Q) (RR := fun acc C => compPost (model X.prog X.w) X.A X.xe none (EP X pins σ Q) acc C) S hjs hc hb I2 T st2 f2 w0 turn ?_
  intro D C s' σ' H' ys its k hD hC J' rv hz q
  obtain ⟨m, hn, _⟩ := J'.loc
  have pinD := J'.pin (D, { cls := .type "list", data := .seq its.toArray k }) (List.mem_append_right _ (List.mem_singleton.mpr rfl))
  exact ⟨m, hn, fun h' hs' => ⟨.ref D, _, comp_end S I2 f2 hD hC J' pinD.2.1 pinD.1 rv hz hs', rfl, q D pinD.2.1⟩⟩
end
end L2
set_option maxHeartbeats 4000000
namespace L2
open PySem PySem.Spec PyProof.Rows
section
variable {X : Cx} {pins : List (Addr × Obj)} {σ : St} {H : Hp} {s : Shared} {sc : Scope} {x : Str} {cap : List Str}
def tLCs (i : Nat) (wi : TI) (js : List Nat) (tt : TT) (te : TE) : TS := fun D σ H => tLC wi js tt te σ H fun v H' => D.nx (σ.set i (some v)) H'
theorem ps_lc (S : CompScope X.env.scope sc x cap) {js : List Nat} (hjs : js.map (fun j => X.N[j]?) = cap.map some) (hc : X.calm = true) (hxe : ∀ e s, ¬ X.xe e s) {elt iter : Expr} {ifs : List Expr} {pos px py spos : Pos} {wi : TI} {tt : TT} {te : TE} {i : Nat} {y : Str}
    (hN : X.N.Nodup) (hi' : X.N[i]? = some y) (hy : X.env.scope.names.lookup y = some .local)
    (hi : PI X (.Name x px) iter wi) (hb : ∀ C s0 H0 ex, PIf (compCx X sc (x :: cap) C s0 H0 ex) ifs tt ∧ PE (compCx X sc (x :: cap) C s0 H0 ex) elt te)
    (hsw : swapsWith (.ListComp elt [⟨.Name x px, iter, ifs, 0⟩] sc pos) (some (.Name y py)) spos.line X.env = pure true := by rfl)
    (hs : ∀ x, foldedSetIterable iter X.env x = pure x := by intro _; rfl) : PS X (.Assign [.Name y py] (.ListComp elt [⟨.Name x px, iter, ifs, 0⟩] sc pos) spos) (tLCs i wi js tt te) := by
  intro pins s σ H D0 I h
  rw [exec_Assign_Name_used _ _ _ _ hsw]
  refine wpAny_bind (wpAny_standAt (wpAny_bind ?_))
  show wpAny _ X.A (do let _ ← comprehension (.ListComp elt [⟨.Name x px, iter, ifs, 0⟩] sc pos) sc X.env _ (newList []) false (eval iter X.env) (some (assign (.Name y py) X.env))) _ _ s
  refine wpAny_bind (wpAny_mono (wpAny_comprehension_free (use := some (assign (.Name y py) X.env)) (Q := fun _ s' => SP X pins D0 .next s') rfl hs (closureFor_eq (S.cells I.ok)) S.kind S.names
    (thn (hi pins s σ H _ I h) fun xv s₁ h₁ => thn h₁ fun itv s₂ h₂ => ?_)) (fun _ s' hq => wpAny_pure (wpAny_pure hq)) fun _ _ e => e)
  obtain ⟨it, fp, tn, J, H2, e, I2, T, st2, f2, W, w0, turn⟩ := h₂
  subst e
  refine comp_run (Q := fun v H' => D0.nx (σ.set i (some v)) H') (RR := fun acc C => compPost (model X.prog X.w) X.A X.xe (some (assign (.Name y py) X.env)) (fun _ s' => SP X pins D0 .next s') acc C) S hjs hc hb I2 T st2 f2 w0 turn ?_
  intro D C s' σ' H' ys its k hD hC J' rv hz q
  have gtC : ∀ {b : Addr}, b < s₂.heap.objs.size → b ≠ C := fun h => by rw [hC]; exact neLt (Nat.lt_succ_of_lt h)
  have pinD := J'.pin (D, { cls := .type "list", data := .seq its.toArray k }) (List.mem_append_right _ (List.mem_singleton.mpr rfl))
  obtain ⟨m, hn, _⟩ := id J'.loc
  have hn : s'.heap.Ns C m := hn
  obtain ⟨oC, es, ep, hoC, hdC, rest⟩ := id hn
  have hCn : C ∉ X.fs ∧ C ≠ X.env.locals := by
    constructor
    · intro hb'
      obtain ⟨_, o, ho, _⟩ := I2.funs.mem hb'
      exact gtC (Heap.lt_size ho) rfl
    · exact fun z => gtC I2.lt z.symm
  have I3 : Inv X pins σ (upd H' D (.lst ys)) s' := comp_end (h' := s'.heap) S I2 f2 hD hC J' pinD.2.1 pinD.1 rv hz (.refl ..)
  have hDC : C ≠ D := by rw [hC, hD]; exact neGt (Nat.lt_succ_self _)
  have hH'C : H' C = none := J'.free
  have I4 : Inv X [(C, oC)] σ (upd H' D (.lst ys)) s' := I3.pins_of fun p hp => by
    have hp' : p = (C, oC) := by simpa using hp
    subst hp'
    exact ⟨hoC, by rw [upd_ne hDC]; exact hH'C, hCn.2, hCn.1, fun v z => by rw [hdC] at z; cases z⟩
  have I5 : Inv X (pins ++ [(C, oC)]) σ (upd H' D (.lst ys)) s' := I3.pins_of fun p hp => by
    rcases List.mem_append.mp hp with hp | hp
    · exact I3.pin p (List.mem_append_right _ hp)
    · exact I4.pin p (List.mem_append_right _ hp)
  show wpAny _ X.A (assign (.Name y py) X.env (.ref D)) _ _ _
  refine wpAny_assign_Name (store_ok I5 hN hi' (.inl hy) (v := .ref D) rfl (fun s6 I6 => ?_) (.inr hy))
  have pinC := I6.pin (C, oC) (List.mem_append_right _ (List.mem_append_right _ (List.mem_singleton.mpr rfl)))
  refine ⟨m, ⟨oC, es, ep, pinC.1, hdC, rest⟩, fun h' hs' => ⟨_, _, ?_, q D pinD.2.1⟩⟩
  refine I6.unpinned.turned (it := C) (h' := h') (t' := s6.toks) (fun b o hb' e => hs'.extBut b o hb' e) pinC.2.1 hCn.2 (.inr ?_) (fun y' c e z => ?_) fun p hp z => ?_
  · rw [hC]; exact Nat.le_succ_of_le I2.sz
  · obtain ⟨v', o, ho, _⟩ := I2.cell y' c e
    exact gtC (Heap.lt_size ho) z
  · exact gtC (Heap.lt_size (I2.pin p hp).1) z
end
section
variable {X : Cx}
theorem call_all (hc : X.calm = true) : CallR X (.builtin "all") (fun xs H Q => ∃ (p : Addr) (bs : List Bool), xs = [.ref p] ∧ SqL X.K H p (bs.map V.bl) ∧ Q (.bl (bs.all id)) H) := by
  intro pins s σ H xs us Q I r h
  obtain ⟨p, bs, rfl, hq, q⟩ := h
  obtain ⟨u, rfl, r1⟩ := vals1 r
  cases r1
  obtain ⟨its, rv, pl, hz⟩ := I.list hq
  have hl := plainIs pl
  have hlt : p < s.heap.objs.size := by obtain ⟨_, e, _⟩ := hl; exact Heap.lt_size e
  have hlen : its.length = bs.length := by rw [← rv.length, List.length_map]
  refine call_all_walk (wpAny_pyIter_list hl ?_)
  refine ⟨s.heap.objs.size, [s.heap.objs.size, p], [s.heap.objs.size], its.toArray.size, _, _, fun i => (bs[i]?).getD true, rfl, Walks.list (A := X.A.in1) (I.ok.hd hc) _ p (Nat.ne_of_lt hlt) its.toArray,
    ⟨⟨_, Heap.get?_push_size _ rfl, rfl, rfl⟩, hl.push _⟩, fun i v s' Q' E' hP hQ => ?_, fun h' tk hk => ?_⟩
  · have hP' : its[i]? = some v := by simpa using hP
    have hi : i < bs.length := by rw [← hlen]; exact (List.getElem?_eq_some_iff.mp hP').1
    obtain ⟨u, hu, ru⟩ := rv.get (i := i) (x := V.bl bs[i]) (by rw [List.getElem?_map, List.getElem?_eq_getElem hi]; rfl)
    rw [hP'] at hu
    cases hu
    cases (show v = Value.bool bs[i] from ru)
    simp only [List.getElem?_eq_getElem hi, Option.getD_some] at hQ
    exact wpAny_truthy_bool hQ
  · have e : ((List.range its.toArray.size).all fun i => (bs[i]?).getD true) = bs.all id := by
      rw [List.size_toArray, hlen]; exact PyProof.Rows.LSm.range_all bs
    rw [e]
    exact ⟨.bl (bs.all id), H, I.kept fun b o e => hk b o (fun hm => by rw [List.mem_singleton.mp hm] at e; exact Nat.lt_irrefl _ (Heap.lt_size e)) (Heap.get?_push_of_some _ e), rfl, q⟩
end
end L2
namespace Frac
theorem gcd_step (a b : Int) (hb : 0 < b) : Int.gcd b (a % b) = Int.gcd a b := by
  rw [Int.gcd_comm a b]
  have h : a % b = a - b * (a / b) := by
    have := Int.emod_add_mul_ediv a b
    omega
  rw [h, show a - b * (a / b) = a + b * (-(a / b)) by rw [Int.mul_neg]; omega]
  exact Int.gcd_add_mul_left_right b a (-(a / b))
theorem gcd_zero (a : Int) (ha : 0 ≤ a) : (Int.gcd a 0 : Int) = a := by
  rw [Int.gcd_zero_right]; omega
def norm (a b : Int) : Int × Int := if b < 0 then ((-a) / (Int.gcd a b : Int), (-b) / (Int.gcd a b : Int)) else (a / (Int.gcd a b : Int), b / (Int.gcd a b : Int))
theorem gpos {a b : Int} (hb : b ≠ 0) : (0 : Int) < (Int.gcd a b : Int) := by
  have := Int.gcd_pos_of_ne_zero_right a hb
  omega
theorem dvd_l (a b : Int) : (Int.gcd a b : Int) ∣ a := Int.gcd_dvd_left a b
theorem dvd_r (a b : Int) : (Int.gcd a b : Int) ∣ b := Int.gcd_dvd_right a b
theorem norm_prog (a b : Int) (hb : b ≠ 0) : norm a b = if b < 0 then (a.fdiv (-(Int.gcd a b : Int)), b.fdiv (-(Int.gcd a b : Int))) else (a.fdiv (Int.gcd a b : Int), b.fdiv (Int.gcd a b : Int)) := by
  have hg := gpos (a := a) hb
  unfold norm
  have key : ∀ x : Int, (Int.gcd a b : Int) ∣ x → x.fdiv (-(Int.gcd a b : Int)) = (-x) / (Int.gcd a b : Int) := fun x hx => by
    obtain ⟨k, rfl⟩ := hx
    generalize (Int.gcd a b : Int) = g at hg
    rw [show g * k = (-g) * (-k) by rw [Int.neg_mul_neg], Int.mul_fdiv_cancel_left _ (by omega : -g ≠ 0), show -(-g * -k) = g * (-k) by rw [Int.neg_mul, Int.neg_neg]]
    rw [Int.mul_ediv_cancel_left _ (by omega : g ≠ 0)]
  split
  · rw [key a (dvd_l a b), key b (dvd_r a b)]
  · rw [Int.fdiv_eq_ediv_of_nonneg _ (by omega), Int.fdiv_eq_ediv_of_nonneg _ (by omega)]
theorem norm_flip (a b : Int) (hb : b < 0) : norm a b = norm (-a) (-b) := by
  unfold norm
  rw [if_pos hb, if_neg (by omega), Int.gcd_neg, Int.neg_gcd]
theorem norm_pos (a b : Int) (hb : 0 < b) : norm a b = (a / (Int.gcd a b : Int), b / (Int.gcd a b : Int)) := by
  unfold norm; rw [if_neg (by omega)]
theorem norm_ok (a b : Int) (hb : b ≠ 0) : 1 ≤ (norm a b).2 ∧ (norm a b).1 * b = a * (norm a b).2 ∧ Int.gcd (norm a b).1 (norm a b).2 = 1 := by
  have main : ∀ a b : Int, 0 < b → 1 ≤ (norm a b).2 ∧ (norm a b).1 * b = a * (norm a b).2 ∧ Int.gcd (norm a b).1 (norm a b).2 = 1 := fun a b hb => by
    have hg := gpos (a := a) (show b ≠ 0 by omega)
    rw [norm_pos a b hb]
    obtain ⟨x, hx⟩ := dvd_l a b
    obtain ⟨y, hy⟩ := dvd_r a b
    have e1 : a / (Int.gcd a b : Int) = x := by
      conv => lhs; lhs; rw [hx]
      exact Int.mul_ediv_cancel_left _ (by omega)
    have e2 : b / (Int.gcd a b : Int) = y := by
      conv => lhs; lhs; rw [hy]
      exact Int.mul_ediv_cancel_left _ (by omega)
    have hy0 : 0 < y := by
      rw [hy] at hb
      exact Int.pos_of_mul_pos_right hb (by omega) |> fun h => h
    refine ⟨?_, ?_, ?_⟩
    · show 1 ≤ b / _
      rw [e2]; omega
    · show a / _ * b = a * (b / _)
      rw [e1, e2]
      conv => lhs; rw [hy]
      conv => rhs; rw [hx]
      rw [← Int.mul_assoc, Int.mul_comm x, Int.mul_assoc]
    · show Int.gcd (a / _) (b / _) = 1
      exact Int.gcd_ediv_gcd_ediv_gcd (by omega)
  by_cases h : 0 < b
  · exact main a b h
  · have h' : b < 0 := by omega
    obtain ⟨h1, h2, h3⟩ := main (-a) (-b) (by omega)
    rw [norm_flip a b h']
    refine ⟨h1, ?_, h3⟩
    rw [Int.mul_neg, Int.neg_mul] at h2
    omega
theorem norm_scale (a b k : Int) (hb : b ≠ 0) (hk : k ≠ 0) : norm (a * k) (b * k) = norm a b := by
  have pos : ∀ a b k : Int, 0 < b → 0 < k → norm (a * k) (b * k) = norm a b := fun a b k hb hk => by
    have hg := gpos (a := a) (show b ≠ 0 by omega)
    rw [norm_pos _ _ hb, norm_pos _ _ (Int.mul_pos hb hk), Int.gcd_mul_right]
    have e : ((Int.gcd a b * k.natAbs : Nat) : Int) = (Int.gcd a b : Int) * k := by
      rw [Int.natCast_mul]; congr 1; omega
    rw [e, Int.mul_ediv_mul_of_pos_left _ _ hk, Int.mul_ediv_mul_of_pos_left _ _ hk]
  have b' : ∀ a b k : Int, 0 < b → k ≠ 0 → norm (a * k) (b * k) = norm a b := fun a b k hb hk => by
    by_cases h : 0 < k
    · exact pos a b k hb h
    · have h1 : b * k < 0 := by
        have := Int.mul_pos hb (show 0 < -k by omega)
        rw [Int.mul_neg] at this; omega
      rw [norm_flip _ _ h1, ← Int.mul_neg, ← Int.mul_neg]
      exact pos a b (-k) hb (by omega)
  by_cases h : 0 < b
  · exact b' a b k h hk
  · rw [norm_flip a b (by omega)]
    have e := b' (-a) (-b) (-k) (by omega) (by omega)
    rw [Int.neg_mul_neg, Int.neg_mul_neg] at e
    exact e
theorem norm_size (a b : Int) (hb : b ≠ 0) : (norm a b).1.natAbs ≤ a.natAbs ∧ (norm a b).2.natAbs ≤ b.natAbs := by
  have hg := gpos (a := a) hb
  have key : ∀ x : Int, (x / (Int.gcd a b : Int)).natAbs ≤ x.natAbs := fun x => by
    have h := Int.natAbs_ediv_le_natAbs x (Int.gcd a b : Int)
    exact h
  unfold norm
  split
  · exact ⟨by have := key (-a); rw [Int.natAbs_neg] at this; exact this, by have := key (-b); rw [Int.natAbs_neg] at this; exact this⟩
  · exact ⟨key a, key b⟩
end Frac
namespace Frac
def cmp (a b : Int × Int) : Int := if a.1 * b.2 < b.1 * a.2 then -1 else if a.1 * b.2 > b.1 * a.2 then 1 else 0
structure Lst (a : Int × Int) : Prop where
  pos : 1 ≤ a.2
  one : Int.gcd a.1 a.2 = 1
theorem norm_id {a : Int × Int} (h : Lst a) : norm a.1 a.2 = a := by
  have := h.pos
  rw [norm_pos _ _ (by omega), h.one]
  simp
end Frac
set_option maxHeartbeats 4000000
namespace Lw
open PySem L2 Frac
theorem bAbs : bootBuiltins "abs" = some (.builtin "abs") := by decide +kernel
theorem bIsi : bootBuiltins "isinstance" = some (.builtin "isinstance") := by decide +kernel
theorem bTup : bootBuiltins "tuple" = some (.type "tuple") := by decide +kernel
theorem bInt : bootBuiltins "int" = some (.type "int") := by decide +kernel
theorem bMax : bootBuiltins "max" = some (.builtin "max") := by decide +kernel
theorem bSum : bootBuiltins "sum" = some (.builtin "sum") := by decide +kernel
theorem bAll : bootBuiltins "all" = some (.builtin "all") := by decide +kernel
theorem w0 {i : Int} (h : i.natAbs < 10 ^ 100) : i.natAbs < 2 ^ 4000 := Nat.lt_of_lt_of_le h (by decide +kernel)
theorem mw {i j : Int} (h : i.natAbs < 10 ^ 100) (h' : j.natAbs < 10 ^ 100) : CMulW i j := ⟨w0 h, w0 h'⟩
theorem mulb {i j : Int} {a b : Nat} (h : i.natAbs ≤ a) (h' : j.natAbs ≤ b) : (i * j).natAbs ≤ a * b := by
  rw [Int.natAbs_mul]; exact Nat.mul_le_mul h h'
structure DeckAt (H : Hp) (d c : Addr) : Prop where
  ex : ∃ (k : Int) (ns : List Int), H d = some (.lst [.ref c, .int k]) ∧ H c = some (.lst (ns.map V.int)) ∧ 1 ≤ ns.length ∧ ns.length ≤ 64 ∧ 0 ≤ k
def KeptBut (d c : Addr) (H H' : Hp) : Prop := ∀ b o, H b = some o → b ≠ d → b ≠ c → H' b = some o
theorem KeptBut.refl (d c : Addr) (H : Hp) : KeptBut d c H H := fun _ _ e _ _ => e
theorem KeptBut.trans {d c : Addr} {H H1 H2 : Hp} (a : KeptBut d c H H1) (b : KeptBut d c H1 H2) : KeptBut d c H H2 := fun x o e h1 h2 => b x o (a x o e h1 h2) h1 h2
theorem Same.but {d c : Addr} {H H' : Hp} (h : Same H H') : KeptBut d c H H' := fun b o e _ _ => h b o e
theorem DeckAt.same {H H' : Hp} {d c : Addr} (D : DeckAt H d c) (h : Same H H') : DeckAt H' d c := by
  obtain ⟨k, ns, h1, h2, r⟩ := D.ex
  exact ⟨k, ns, h _ _ h1, h _ _ h2, r⟩
theorem DeckAt.new {H : Hp} {d c p : Addr} {o : HO} (D : DeckAt H d c) (hp : H p = none) : DeckAt (upd H p o) d c := by
  refine D.same fun b u e => ?_
  rw [upd_ne (ne_of_none e hp)]; exact e
theorem same_new {H : Hp} {p : Addr} {o : HO} (hp : H p = none) : Same H (upd H p o) := fun b u e => by
  rw [upd_ne (ne_of_none e hp)]; exact e
theorem DeckAt.ne {H : Hp} {d c : Addr} (D : DeckAt H d c) : d ≠ c := by
  obtain ⟨k, ns, h1, h2, r⟩ := D.ex
  refine ne_of h1 h2 fun z => ?_
  have z' : [V.ref c, V.int k] = ns.map V.int := by injection z
  cases ns with
  | nil => cases z'
  | cons n r => injection z' with z1 _; cases z1
theorem DeckAt.free {H : Hp} {d c p : Addr} (D : DeckAt H d c) (hp : H p = none) : p ≠ d ∧ p ≠ c := by
  obtain ⟨k, ns, h1, h2, r⟩ := D.ex
  exact ⟨Ne.symm (ne_of_none h1 hp), Ne.symm (ne_of_none h2 hp)⟩
theorem atI_ints {ns : List Int} {i : Int} (h0 : 0 ≤ i) (h1 : i < ns.length) : ∃ z j, atI (ns.map V.int) i = some (V.int z) ∧ ixN (ns.map V.int).length i = some j ∧ j < ns.length := by
  have hj : i.toNat < ns.length := by omega
  have e : i = (i.toNat : Int) := by omega
  refine ⟨ns[i.toNat], i.toNat, ?_, ?_, hj⟩
  · have q := atI_nat (xs := ns.map V.int) (j := i.toNat) (v := V.int ns[i.toNat]) (by rw [List.getElem?_map, List.getElem?_eq_getElem hj]; rfl)
    rw [← e] at q
    exact q
  · unfold ixN
    rw [if_pos h0, if_pos (by rw [List.length_map]; exact h1)]
theorem at0 {x : V} {xs : List V} : atI (x :: xs) 0 = some x := atI_nat (xs := x :: xs) (j := 0) rfl
theorem set_ints (ns : List Int) (j : Nat) (z : Int) : (ns.map V.int).set j (V.int z) = (ns.set j z).map V.int := by rw [List.map_set]
theorem cut63 {ns : List Int} (h : ns.length ≤ 63) : cutV (ns.map V.int) none (some 63) = ns.map V.int := by
  unfold cutV
  have e1 : HT.sIx (ns.map V.int).length 0 none = 0 := rfl
  have e2 : HT.sIx (ns.map V.int).length (ns.map V.int).length (some (63 : Int)) = ns.length := by
    have := HT.sIx_nat (ns.map V.int).length (ns.map V.int).length 63
    rw [List.length_map] at this ⊢
    rw [show ((63 : Nat) : Int) = 63 from rfl] at this
    rw [this]; omega
  rw [e1, e2, List.drop_zero, Nat.sub_zero]
  exact List.take_of_length_le (by rw [List.length_map]; exact Nat.le_refl _)
def spTake : Sp := fun vs H Q _ => ∃ (d c : Addr) (many : Int), vs = [.ref d, .int many] ∧ DeckAt H d c ∧ (1 ≤ many ∧ many.natAbs < 10 ^ 100) ∧
  ∀ (r : Int) (H' : Hp), 0 ≤ r → r < many → DeckAt H' d c → KeptBut d c H H' → Q (.int r) H'
def spDeck (K : PySem.W.Frag) : Sp := fun vs H Q _ => ∃ (a : Addr) (ns : List Int), vs = [.ref a] ∧ SqL K H a (ns.map V.int) ∧ ns.length ≤ 63 ∧
  ∀ (d c : Addr) (H' : Hp), DeckAt H' d c → H d = none → H c = none → Same H H' → Q (.ref d) H'
def spCommon : Sp := fun vs H Q _ => ∃ a b : Int, vs = [.int a, .int b] ∧ 0 ≤ a ∧ 0 ≤ b ∧ Q (.int (Int.gcd a b)) H
def spCD : Sp := fun vs H Q _ => ∃ a b : Int, vs = [.int a, .int b] ∧ Q (.int (Int.gcd a b)) H
def spLeast : Sp := fun vs H Q _ => ∃ a b : Int, vs = [.int a, .int b] ∧ b ≠ 0 ∧ (a.natAbs < 10 ^ 100 ∧ b.natAbs < 10 ^ 100) ∧
  ∀ p, H p = none → Q (.ref p) (upd H p (.tup [.int (norm a b).1, .int (norm a b).2]))
def spWhole : Sp := fun vs H Q _ => ∃ (d c : Addr), vs = [.ref d] ∧ DeckAt H d c ∧
  ∀ (r : Int) (H' : Hp), 0 ≤ r → r < 10 ^ 20 → DeckAt H' d c → KeptBut d c H H' → Q (.int r) H'
def spNumber : Sp := fun vs H Q _ => ∃ (d c : Addr), vs = [.ref d] ∧ DeckAt H d c ∧
  ∀ (x y : Int) (p : Addr) (H' : Hp), 1 ≤ y → Int.gcd x y = 1 → x.natAbs < 10 ^ 20 → y.natAbs ≤ 10 ^ 20 → H p = none → H' p = some (.tup [.int x, .int y]) → DeckAt H' d c → KeptBut d c H H' → Q (.ref p) H'
end Lw
set_option maxHeartbeats 4000000
namespace L2
open PySem PySem.Spec PyProof.Rows
section
variable {X : Cx}
def rSlS : V → Option Int → Option Int → Hp → VK → Prop := fun x lo hi H Q => ∃ a, x = .str a ∧ a.length ≤ sizeLine ∧ Q (.str (Txt.slice a lo hi)) H
theorem part_of {v : Value} {o : Option Int} (p : IsPart v o) : ∃ q : Option (Int × Tok), v = partValue q ∧ q.map (·.1) = o := by
  cases p with
  | none => exact ⟨none, rfl, rfl⟩
  | int i t => exact ⟨some (i, t), rfl, rfl⟩
theorem sl_str : SlR X rSlS := by
  intro pins s σ H x v vl vu lo hi sl Q I rx hs pl pu h
  obtain ⟨a, rfl, hz, q⟩ := h
  obtain ⟨t, rfl⟩ := rx
  obtain ⟨l, rfl, rfl⟩ := part_of pl
  obtain ⟨u, rfl, rfl⟩ := part_of pu
  obtain ⟨ob, ho, hc, hd⟩ := hs
  exact ⟨"str", _, F.slot_str_getitem.lookup, typeIs_str _ _ _, wpAny_getItem_str_slice (l := l) (u := u) (st := none) ⟨ob, ho, hc, hd⟩ rfl
    (post_val_or_str ⟨Nat.le_trans (Txt.slice_le a _ _) hz, fun t' k => ⟨.str (Txt.slice a (l.map (·.1)) (u.map (·.1))), H, I.tok _, ⟨_, rfl⟩, q⟩⟩)⟩
theorem vals_strs : ∀ (l : List (Str × Tok)), Vals (l.map fun p => V.str p.1) (strValues l)
  | [] => .nil
  | _ :: r => .cons ⟨_, rfl⟩ (vals_strs r)
def rSplit : V → List V → Hp → VK → Prop := fun x vs H Q => ∃ a c, x = .str a ∧ vs = [.str ⟨#[c]⟩] ∧ a.length + 2 ≤ sizeLine ∧ ∀ l, H l = none → Q (.ref l) (upd H l (.lst ((Txt.split a ⟨#[c]⟩).map V.str)))
theorem parts_few (a y : Str) : (Builtin.Str.partsBetween a (Builtin.Str.occurrences a y 0 a.length (a.length + 1)) y.length).length ≤ a.length + 2 := by
  have h := PySem.StrLaws.occ_length_le a y 0 a.length (a.length + 1)
  unfold Builtin.Str.partsBetween
  simp only [List.length_map, List.length_zip, List.length_cons, List.length_append, List.length_nil]
  omega
theorem mt_split : MtR X "str.split" rSplit := by
  intro pins s σ H x vs v us Q I rx rv h
  obtain ⟨a, c, rfl, rfl, hz, q⟩ := h
  obtain ⟨t, rfl⟩ := rx
  obtain ⟨w1, rfl, u, rfl⟩ := rv.one
  have hx : a.length ≤ sizeLine := by omega
  have hn : (Builtin.Str.partsBetween a (Builtin.Str.occurrences a ⟨#[c]⟩ 0 a.length (a.length + 1)) (⟨#[c]⟩ : Str).length).length ≤ sizeLine := Nat.le_trans (parts_few a _) hz
  have fin : ∀ (l : List (Str × Tok)) (k : Nat), l.map (·.1) = Txt.split a ⟨#[c]⟩ → l.length ≤ sizeLine → EP X pins σ Q (.ref s.heap.objs.size) { s with toks := k, heap := s.heap.push { cls := .type "list", data := .seq (strValues l).toArray } } := fun l k e hl => by
    have ev : (Txt.split a ⟨#[c]⟩).map V.str = l.map fun p => V.str p.1 := by rw [← e, List.map_map]; rfl
    refine ⟨.ref s.heap.objs.size, _, I.laid (t' := k) (o := .lst ((Txt.split a ⟨#[c]⟩).map V.str)) (fun b ob z => Heap.get?_push_of_some _ z) (Nat.le_refl _) ?_, rfl, q _ (I.hok.fresh (Nat.le_refl _))⟩
    refine ⟨by rw [ev, List.length_map]; exact hl, strValues l, 0, by rw [ev]; exact vals_strs l, Heap.get?_push_size _ rfl⟩
  have hy : ((⟨#[c]⟩ : Str).length == 0) = false := rfl
  cases hk : (decide (a.length < (⟨#[c]⟩ : Str).length) || decide (Builtin.Str.strKind a < Builtin.Str.strKind ⟨#[c]⟩))
  · cases hf : (Builtin.Str.occurrences a ⟨#[c]⟩ 0 a.length (a.length + 1)).isEmpty
    · refine call_meets F.slot_str_split (typeIs_str _ _ _) F.entry_str_split (F.args_str_split_2 _ _) (meets_str_split_sep a ⟨#[c]⟩ t u hk hy hf hx hn) ?_
      show wants (EP X pins σ Q) X.xe _ { s with toks := _, heap := s.heap.push { cls := .type "list", data := .seq (strsFrom s.toks _).toArray } }
      rw [strsFrom_eq]
      refine fin (numbered s.toks _) _ ((numbered_texts _ _).trans ((if_neg (ne_true_of_eq_false hk)).trans (if_neg (ne_true_of_eq_false hf))).symm) ?_
      have := congrArg List.length (numbered_texts s.toks (Builtin.Str.partsBetween a (Builtin.Str.occurrences a ⟨#[c]⟩ 0 a.length (a.length + 1)) (⟨#[c]⟩ : Str).length))
      rw [List.length_map] at this
      rw [this]
      exact hn
    · exact call_meets F.slot_str_split (typeIs_str _ _ _) F.entry_str_split (F.args_str_split_2 _ _) (meets_str_split_not_found a ⟨#[c]⟩ t u hk hy hf)
        (fin [(a, t)] s.toks ((if_neg (ne_true_of_eq_false hk)).trans (if_pos hf)).symm (by show 1 ≤ sizeLine; decide))
  · exact call_meets F.slot_str_split (typeIs_str _ _ _) F.entry_str_split (F.args_str_split_2 _ _) (meets_str_split_cannot_occur a ⟨#[c]⟩ t u hk)
      (fin [(a, t)] s.toks (if_pos hk).symm (by show 1 ≤ sizeLine; decide))
theorem mt_startswith : MtR X "str.startswith" (fun x vs H Q => ∃ a b, x = .str a ∧ vs = [.str b] ∧ Q (.bl (Txt.startswith a b)) H) := by
  intro pins s σ H x vs v us Q I rx rv h
  obtain ⟨a, b, rfl, rfl, q⟩ := h
  obtain ⟨t, rfl⟩ := rx
  obtain ⟨w1, rfl, u, rfl⟩ := rv.one
  exact SC.startswith ⟨.bl (Txt.startswith a b), H, I, rfl, q⟩
theorem mt_zfill : MtR X "str.zfill" (fun x vs H Q => ∃ a i, x = .str a ∧ vs = [.int i] ∧ PadOk i = true ∧ Q (.str (Txt.zfill a i)) H) := by
  intro pins s σ H x vs v us Q I rx rv h
  obtain ⟨a, i, rfl, rfl, hp, q⟩ := h
  obtain ⟨t, rfl⟩ := rx
  obtain ⟨w1, rfl, u, rfl⟩ := rv.one
  exact SC.zfill hp fun t' k => ⟨.str (Txt.zfill a i), H, I.tok _, ⟨_, rfl⟩, q⟩
theorem strsAre_of {ys : List Str} : ∀ {us : List Value}, Vals (ys.map V.str) us → StrsAre us ys := by
  induction ys with
  | nil => intro us r; rw [List.map_nil] at r; cases r; exact .nil
  | cons n ns ih =>
    intro us r
    rw [List.map_cons] at r
    cases r with
    | cons r1 r2 =>
      obtain ⟨t, e⟩ := r1
      subst e
      exact .cons n t (ih r2)
theorem mt_join {K : PySem.W.Frag} (hK : X.K = K) : MtR X "str.join" (fun x vs H Q => ∃ (a : Str) (p : Addr) (ys : List Str), x = .str a ∧ vs = [.ref p] ∧ SqL K H p (ys.map V.str) ∧ (ys.map (·.length)).sum + ys.length * a.length ≤ 16777216 ∧ Q (.str (Txt.join a ys)) H) := by
  subst hK
  intro pins s σ H x vs v us Q I rx rv h
  obtain ⟨a, p, ys, rfl, rfl, hq, hz, q⟩ := h
  obtain ⟨t, rfl⟩ := rx
  obtain ⟨w1, rfl, r1⟩ := rv.one
  cases r1
  obtain ⟨its, r2, pl, _⟩ := I.list hq
  exact join_list (plainIs pl) (strsAre_of r2) hz fun t' k => ⟨.str (Txt.join a ys), H, I.tok _, ⟨_, rfl⟩, q⟩
theorem call_int_text : CallR X (.type "int") (fun xs H Q => ∃ x n, xs = [.str x] ∧ intText? x = some n ∧ x.length ≤ 640 ∧ Q (.int n) H) := by
  intro pins s σ H xs us Q I r h
  obtain ⟨x, n, rfl, e, hz, q⟩ := h
  obtain ⟨u, rfl, t, rfl⟩ := vals1 r
  exact PySem.W.KIN.call_text e hz ⟨.int n, H, I.tok _, ⟨_, rfl⟩, q⟩
end
end L2
set_option maxHeartbeats 4000000
namespace L2
open PySem PySem.Spec PyProof.Rows
def Its (a : Str) : It := ⟨fun i _ => i < a.cps.size, fun i H x H' => H' = H ∧ ∃ c, a.cps.toList[i]? = some c ∧ x = .str ⟨#[c]⟩, fun i _ => a.cps.size ≤ i⟩
theorem walks_str {P : Program} {w : World} {A : Around} (hh : A.handled = none) (it : Addr) (a : Str) (t : Tok) {ty : String} (hty : ty = "str_ascii_iterator" ∨ ty = "str_iterator") :
    Walks P w A it [it] [it] a.cps.size (SignAt a) (fun i h => h.IsStrIter it ty a t i) := by
  rcases hty with rfl | rfl
  · exact Walks.strAscii hh it a t
  · exact Walks.strWide hh it a t
theorem turn_str {P : Program} {w : World} {K : PySem.W.Frag} {tg : Expr} (a : Str) (t : Tok) (it : Addr) {ty : String} (hty : ty = "str_ascii_iterator" ∨ ty = "str_iterator") : Turn P w K tg (Its a) [it] it (fun i h => h.IsStrIter it ty a t i) where
  mem := by simp
  obj := fun i h st b hb => by
    have e : b = it := by simpa using hb
    subst e
    obtain ⟨o, e, c, d⟩ := st
    exact ⟨o, e, fun v z => by rw [d] at z; cases z⟩
  keep := fun i h h' st k => by
    obtain ⟨o, e, r⟩ := st
    exact ⟨o, k it (by simp) o e, r⟩
  item := by
    intro X hP hw hK hc i pins s σ H E I hf st hg
    subst hP hw hK
    obtain ⟨f0, f1, f2, f3, f4, f5⟩ := hf it (by simp)
    refine (walks_str (I.ok.hd hc) it a t hty).item i s _ _ hg st fun v h' tk hv st' kk => ?_
    obtain ⟨c, u, hcc, rfl⟩ := hv
    have I1 : Inv X pins σ H { s with heap := h', toks := tk } := I.turned (fun b o hb e => kk b o (by simpa using hb) e) f0 f1 f3 f4 f5
    obtain ⟨o, ho, hcl, hd⟩ := id st'
    refine ⟨_, rfl, go_of (s := { s with heap := h', toks := tk }) (n := ty) ho hcl hd (by rcases hty with rfl | rfl <;> decide) ⟨.str ⟨#[c]⟩, H, I1, ⟨u, rfl⟩, ⟨rfl, c, by simpa using hcc, rfl⟩, st', fun b hb => (hf b hb).1⟩⟩
  done := by
    intro X hP hw hK hc i pins s σ H E I hf st hg
    subst hP hw hK
    obtain ⟨f0, f1, f2, f3, f4, f5⟩ := hf it (by simp)
    have hn : a.cps[i]? = none := by
      have hg' : a.cps.size ≤ i := hg
      simp [hg']
    rcases hty with rfl | rfl
    · exact wpAny_pyNext_ascii_end (I.ok.hd hc) st hn fun h' eb => ⟨rfl, I.turned (t' := s.toks) (fun b o hb e => eb b o hb e) f0 f1 f3 f4 f5⟩
    · exact wpAny_pyNext_wide_end (I.ok.hd hc) st hn fun h' eb => ⟨rfl, I.turned (t' := s.toks) (fun b o hb e => eb b o hb e) f0 f1 f3 f4 f5⟩
  self := fun A i s Q E st h => by
    rcases hty with rfl | rfl
    · exact wpAny_pyIter_striter_ascii st h
    · exact wpAny_pyIter_striter_wide st h
def iStr (te : TE) : TI := fun σ H R => te σ H fun x H1 => ∃ a, x = .str a ∧ R (Its a) H1
section
variable {X : Cx} {tg : Expr}
theorem pi_str {e : Expr} {te : TE} (he : PE X e te) : PI X tg e (iStr te) := by
  intro pins s σ H R I h
  refine thn (he pins s σ H _ I h) fun v s1 ⟨x, H1, I1, r1, q1⟩ => ?_
  obtain ⟨a, rfl, q⟩ := q1
  obtain ⟨t, rfl⟩ := r1
  have fin : ∀ (ty : String), (ty = "str_ascii_iterator" ∨ ty = "str_iterator") → PIE X pins σ tg R (.ref s1.heap.objs.size) { s1 with heap := s1.heap.push { cls := .type ty, data := .fields #[.str a t, .int 0 0] } } := fun ty hty => by
    refine ⟨s1.heap.objs.size, [s1.heap.objs.size], _, Its a, H1, rfl, I1.kept (t' := s1.toks) fun b o e => Heap.get?_push_of_some _ e, turn_str a t _ hty, ⟨_, Heap.get?_push_size _ rfl, rfl, rfl⟩, fun b hb => ?_, q⟩
    have e : b = s1.heap.objs.size := by simpa using hb
    subst e
    exact I1.fpOk (Nat.le_refl _) (I1.hok.fresh (Nat.le_refl _))
  cases ha : a.cps.all (· < 128)
  · exact wpAny_pyIter_wide ha (fin _ (.inr rfl))
  · exact wpAny_pyIter_ascii ha (fin _ (.inl rfl))
end
def Itr3 (lo c : Int) (n : Nat) : It := ⟨fun i _ => i < n, fun i H x H' => H' = H ∧ x = .int (lo + i * c), fun i _ => n ≤ i⟩
theorem turn_range3 {P : Program} {w : World} {K : PySem.W.Frag} {tg : Expr} (it : Addr) (lo c : Int) (n : Nat) : Turn P w K tg (Itr3 lo c n) [it] it (fun i h => IsRangeIter h it (lo + (i : Nat) * c) ((n : Int) - (i : Nat)) c) where
  mem := by simp
  obj := fun i h st b hb => by
    have e : b = it := by simpa using hb
    subst e
    refine ⟨_, st, fun v z => ?_⟩
    have z' : Data.fields _ = Data.cell v := z
    cases z'
  keep := fun i h h' st k => k it (by simp) _ st
  item := by
    intro X hP hw hK hc i pins s σ H E I hf st hg
    subst hP hw hK
    obtain ⟨f0, f1, f2, f3, f4, f5⟩ := hf it (by simp)
    refine (Walks.range (prog := X.prog) (w := X.w) (I.ok.hd hc) it lo c n).item i s _ _ hg st fun v h' tk hv st' kk => ?_
    obtain ⟨t, rfl⟩ := hv
    have I1 : Inv X pins σ H { s with heap := h', toks := tk } := I.turned (fun b o hb e => kk b o (by simpa using hb) e) f0 f1 f3 f4 f5
    exact ⟨_, rfl, go_of (s := { s with heap := h', toks := tk }) (n := "range_iterator") st' rfl rfl (by decide) ⟨.int (lo + i * c), H, I1, ⟨t, rfl⟩, ⟨rfl, rfl⟩, st', fun b hb => (hf b hb).1⟩⟩
  done := by
    intro X hP hw hK hc i pins s σ H E I hf st hg
    subst hP hw hK
    obtain ⟨f0, f1, f2, f3, f4, f5⟩ := hf it (by simp)
    have hg' : n ≤ i := hg
    exact wpAny_pyNext_range_end (I.ok.hd hc) st (by omega) fun h' eb => ⟨rfl, I.turned (t' := s.toks) (fun b o hb e => eb b o hb e) f0 f1 f3 f4 f5⟩
  self := fun _ _ _ _ _ st h => wpAny_pyIter_rangeiter st h
def iRng3 (ta : TA) : TI := fun σ H R => ta σ H fun vs H1 => ∃ i j c : Int, vs = [.int i, .int j, .int c] ∧ (0 < c ∧ c < 1073741824) ∧ (0 ≤ i ∧ i < 2 ^ 40 ∧ 0 ≤ j ∧ j < 2 ^ 40) ∧ R (Itr3 i c (Builtin.Range.rangeSize i j c).toNat) H1
section
variable {X : Cx} {tg : Expr}
theorem pi_range3 {a b c : Expr} {ta : TA} {p pos : Pos} (hg : Gl X "range") (hm : X.mg "range" = none) (ha : PA X [a, b, c] ta) (hs : starEach [a, b, c] X.env = [(false, eval a X.env), (false, eval b X.env), (false, eval c X.env)] := by rfl) (hs2 : starEach [b, c] X.env = [(false, eval b X.env), (false, eval c X.env)] := by rfl) :
    PI X tg (.Call (.Name "range" p) [a, b, c] [] pos) (iRng3 ta) := by
  intro pins s σ H R I h
  refine Call_ (ld_blt I hg hm boot_range (PyProof.Rows.callWith_type1 (thn (ha pos pins s σ H _ I h) fun us s1 ⟨vs, H1, I1, r1, q1⟩ => ?_) (by rw [hs, hs2]) (by rw [hs2]; rfl)))
  obtain ⟨i, j, k, e, ⟨k0, k1⟩, ⟨q1, q2, q3, q4⟩, q⟩ := q1
  subst e
  cases r1 with
  | cons r rr =>
    cases rr with
    | cons r' rr =>
      cases rr with
      | cons r'' rr =>
        cases rr
        obtain ⟨t, rfl⟩ := r
        obtain ⟨t', rfl⟩ := r'
        obtain ⟨t'', rfl⟩ := r''
        have hsz : 0 ≤ Builtin.Range.rangeSize i j k := by
          unfold Builtin.Range.rangeSize
          rw [if_pos k0]
          split
          · have := Int.ediv_nonneg (show 0 ≤ j - i - 1 by omega) (show 0 ≤ k by omega)
            omega
          · omega
        have hsm : Builtin.Range.small i j k = true := by
          have hle : Builtin.Range.rangeSize i j k ≤ 2 ^ 40 := by
            unfold Builtin.Range.rangeSize
            rw [if_pos k0]
            split
            · have := Int.ediv_le_self k (show 0 ≤ j - i - 1 by omega)
              omega
            · omega
          unfold Builtin.Range.small
          simp only [Builtin.Range.rangeFitsLong, Bool.and_eq_true, Bool.or_eq_true, decide_eq_true_eq, beq_iff_eq, k0, gt_iff_lt, if_true]
          omega
        refine call_range_3 (by omega) ?_ (.inl (PyProof.noPylong_small (by omega)))
        have I2 : Inv X pins σ H1 { s1 with heap := s1.heap.push { cls := .type "range", data := .fields #[.int i t, .int j t', .int k t''] }, toks := s1.toks } := I1.kept fun b o e => Heap.get?_push_of_some _ e
        refine wpAny_pyIter_range (IsRange.new ..) hsm ?_
        refine ⟨_, [_], _, _, H1, rfl, I2.kept (t' := s1.toks) fun b o e => Heap.get?_push_of_some _ e, turn_range3 _ i k (Builtin.Range.rangeSize i j k).toNat, ?_, fun b hb => ?_, q⟩
        · have e1 : i + ((0 : Nat) : Int) * k = i := by simp
          have e2 : (((Builtin.Range.rangeSize i j k).toNat : Nat) : Int) - ((0 : Nat) : Int) = Builtin.Range.rangeSize i j k := by omega
          show IsRangeIter _ _ (i + ((0 : Nat) : Int) * k) ((((Builtin.Range.rangeSize i j k).toNat : Nat) : Int) - ((0 : Nat) : Int)) k
          rw [e1, e2]
          exact Heap.get?_push_size _ rfl
        · have e := List.mem_singleton.mp hb
          subst e
          exact I2.fpOk (Nat.le_refl _) (I2.hok.fresh (Nat.le_refl _))
end
section
variable {prog : Program} {w : World} {A : Around} {E : Value → Shared → Prop} {s : Shared}
theorem nolen_rev : typeLookup (.type "list_reverseiterator") "__len__" = pure none := by rw [typeLookup_type, builtinLookup_eq_fast]; kernel_rfl
theorem hint_rev : typeLookup (.type "list_reverseiterator") "__length_hint__" = pure (some (.builtin "list_reverseiterator.__length_hint__")) := by rw [typeLookup_type, builtinLookup_eq_fast]; kernel_rfl
variable {I : Addr} {fp wr : List Addr} {G : Array GenState → Array GenState → Prop} {n : Nat} {P : Nat → Value → Prop} {St : Nat → Shared → Prop}
theorem extend_rev {R : Result → Shared → Prop} (W : WalksS prog w A.in1 I fp wr G n P St) (hT : ∀ i s, St i s → s.TypeIs (.ref I) "list_reverseiterator") (S : Addr) (res : Value) (c0 : Nat) (st0 : St 0 s) (hSf : S ∉ fp) (hI : I ∈ fp)
    (hS : s.heap.get? S = some { cls := .type "list", data := .seq #[] c0 }) (hn : n ≤ sizeLine)
    (hR : ∀ s' acc' c', Moved (S :: wr) G s s' → s'.heap.get? S = some { cls := .type "list", dict := none, data := .seq acc' c', slots := #[] } → ItemsOf P acc' n → R (.ok (.ret res)) s') :
    wpAny (model prog w) A.in1 (Builtin.List.listExtendWith (.ref S) (.ref I) res)
      (fun fin s' => match fin with | .done f => R (.ok f) s' | .again c' => c'.quiet = true ∧ codeAny (model prog w) A c' R s') (fun e s' => R (.error e) s') s := by
  have hne : S ≠ I := fun e => hSf (e ▸ hI)
  unfold Builtin.List.listExtendWith
  refine wpAny_bind (wpAny_typeOf (hT 0 _ st0) ?_)
  have z1 : Builtin.List.listSameRef (.ref S) (.ref I) = false := by simp [Builtin.List.listSameRef, hne]
  rw [if_neg (by rw [z1]; decide)]
  refine wpAny_bind (W.self 0 _ _ _ st0 (wpAny_bind (wpAny_holding ?_)))
  unfold Builtin.List.listLengthHint
  refine wpAny_bind (wpAny_specialOf (hT 0 _ st0) nolen_rev ?_)
  show wpAny _ A.in1 (specialOf (Value.ref I) (Str.ofString "__length_hint__") >>= _) _ _ _
  refine wpAny_bind (wpAny_specialOf (hT 0 _ st0) hint_rev ?_)
  generalize hid : ("list_reverseiterator.__length_hint__" : String) = id0
  wp_delta
  rw [show splitId id0 = some ("list_reverseiterator", "__length_hint__") from by subst hid; decide +kernel]
  subst hid
  refine wpAny_bind (wpAny_isInstance (b := true) (hT 0 _ st0) (by rw [isSubtype_type]; kernel_rfl) ?_)
  refine wpAny_pure ?_
  rw [if_neg (by decide)]
  exact wpAny_pure ⟨plainId_quiet F.plain_extend_loop _, codeAny_extend_loopS W hn _ hSf _ n 0 _ _ _ rfl (Nat.zero_le _) st0 hS (ItemsOf.nil P) hR⟩
theorem call_list_rev {Q : Value → Shared → Prop} (W : WalksS prog w A.in1.in1 I fp wr G n P St) (hT : ∀ i s, St i s → s.TypeIs (.ref I) "list_reverseiterator") (st0 : St 0 s) (hfp : ∀ b ∈ fp, b < s.heap.objs.size) (hI : I ∈ fp) (hn : n ≤ sizeLine)
    (hQ : ∀ s' acc' c', Moved (s.heap.objs.size :: wr) G { s with heap := s.heap.push { cls := .type "list", data := .seq #[] } } s' →
      s'.heap.get? s.heap.objs.size = some { cls := .type "list", dict := none, data := .seq acc' c', slots := #[] } → ItemsOf P acc' n → Q (.ref s.heap.objs.size) s') :
    wpAny (model prog w) A (call (.type "list") [.ref I]) Q E s := by
  have hSf : s.heap.objs.size ∉ fp := fun hm => Nat.lt_irrefl _ (hfp _ hm)
  refine callType_codes (Q₁ := fun obj s₁ => obj = .ref s.heap.objs.size ∧ s₁ = { s with heap := s.heap.push { cls := .type "list", data := .seq #[] } }) F.called_list (F.typeCall_list_1 _) F.entry_list_init
    (code_list_new _ ⟨rfl, rfl⟩) fun obj s1 h1 => ?_
  obtain ⟨rfl, rfl⟩ := h1
  have hS : (s.heap.push { cls := .type "list", data := .seq #[] }).get? s.heap.objs.size = some { cls := .type "list", data := .seq #[] } := Heap.get?_push_size _ rfl
  refine ⟨⟨_, hS, rfl⟩, F.args_list_init_2 _ _, ?_⟩
  have st1 := W.frame 0 s (s.heap.push { cls := .type "list", data := .seq #[] }) s.toks st0 (Nat.le_refl _) fun b _ o e => Heap.get?_push_of_some _ e
  show wpAny _ A.in1.in1 (do let was ← Builtin.List.listItems (.ref s.heap.objs.size); Builtin.List.listUpdate (.ref s.heap.objs.size) (fun _ => #[]); letGo was.toList.reverse; Builtin.List.listExtendWith (.ref s.heap.objs.size) (.ref I) .none) _ _ _
  refine wpAny_bind ?_
  unfold Builtin.List.listItems
  refine wpAny_bind (wpAny_seqItems hS rfl (wpAny_pure ?_))
  show wpAny _ A.in1.in1 (updateSeq s.heap.objs.size (fun _ => #[]) >>= fun _ => letGo (#[] : Array Value).toList.reverse >>= fun _ => Builtin.List.listExtendWith (.ref s.heap.objs.size) (.ref I) .none) _ _ _
  refine wpAny_bind (wpAny_updateSeq hS rfl ?_)
  have hS2 := Heap.get?_update_self (Obj.mapSeq (fun _ => (#[] : Array Value))) hS rfl
  have oth : ∀ b o, b ≠ s.heap.objs.size → (s.heap.push { cls := .type "list", data := .seq #[] }).get? b = some o → ((s.heap.push { cls := .type "list", data := .seq #[] }).update s.heap.objs.size (Obj.mapSeq (fun _ => (#[] : Array Value)))).get? b = some o :=
    fun b o hb e => (Heap.get?_update_other _ _ (Ne.symm hb)).trans e
  refine wpAny_bind (wpAny_letGo ?_)
  refine extend_rev W hT _ .none _ (W.frame 0 _ _ s.toks st1 (Nat.le_refl _) fun b hb o e => oth b o (fun h => hSf (h ▸ hb)) e) hSf hI hS2 hn fun s' acc' c' hm hS' hacc => ?_
  exact ⟨rfl, hQ s' acc' c' (Moved.trans W.gtrans ((Moved.refl W.grefl).then_heap (Nat.le_refl _) fun b o hb e => oth b o (fun h => hb (h ▸ List.mem_cons_self)) e) hm) hS' hacc⟩
end
section
variable {X : Cx}
theorem boot_rev : bootBuiltins "reversed" = some (.type "reversed") := by decide +kernel
theorem boot_lst : bootBuiltins "list" = some (.type "list") := by decide +kernel
def tLRev (K : PySem.W.Frag) (te : TE) : TE := fun σ H Q => te σ H fun x H1 => ∃ p ys, x = .ref p ∧ SqL K H1 p ys ∧ ∀ l, H1 l = none → Q (.ref l) (upd H1 l (.lst ys.reverse))
theorem pe_lrev {e : Expr} {te : TE} {p1 p2 q1 q2 : Pos} (hc : X.calm = true) (hg1 : Gl X "list") (hm1 : X.mg "list" = none) (hg2 : Gl X "reversed") (hm2 : X.mg "reversed" = none) (he : PE X e te)
    (hs1 : starEach [.Call (.Name "reversed" p2) [e] [] q2] X.env = [(false, eval (.Call (.Name "reversed" p2) [e] [] q2) X.env)] := by rfl) (hs2 : starEach [e] X.env = [(false, eval e X.env)] := by rfl) :
    PE X (.Call (.Name "list" p1) [.Call (.Name "reversed" p2) [e] [] q2] [] q1) (tLRev X.K te) := by
  intro pins s σ H Q I h
  refine wpAny_Call_Name_kw (ld_blt I hg1 hm1 boot_lst (PyProof.Rows.callWith_type1 ?_ hs1 rfl))
  rw [hs1]
  show wpAny _ _ (spliced [(false, eval (.Call (.Name "reversed" p2) [e] [] q2) X.env)]) _ _ s
  refine Calls.spliced_cons (wpAny_Call_Name_kw (ld_blt I hg2 hm2 boot_rev (PyProof.Rows.callWith_type1 ?_ hs2 rfl)))
  rw [hs2]
  show wpAny _ _ (spliced [(false, eval e X.env)]) _ _ s
  refine Calls.spliced_cons (thn (he pins s σ H _ I h) fun u s1 ⟨x, H1, I1, r1, q1⟩ => Calls.spliced_nil ?_)
  obtain ⟨p, ys, rfl, hq, q⟩ := q1
  cases r1
  obtain ⟨its, rv, pl, hz⟩ := I1.list hq
  have hl := plainIs pl
  have hlt : p < s1.heap.objs.size := by obtain ⟨_, e, _⟩ := hl; exact Heap.lt_size e
  refine call_reversed_list hl (Calls.spliced_nil ?_)
  have hne : p ≠ s1.heap.objs.size := Nat.ne_of_lt hlt
  have hsz : (s1.heap.push (revObj p ((its.toArray.size : Int) - 1))).objs.size = s1.heap.objs.size + 1 := Heap.size_push ..
  refine call_list_rev (fp := [s1.heap.objs.size, p]) (wr := [s1.heap.objs.size]) (Walks.listRev (A := X.A.in1.in1) (I.ok.hd hc) s1.heap.objs.size p hne its.toArray).toS (fun i s' st => st.2.1.typeIs) ⟨Nat.zero_le _, ⟨_, Heap.get?_push_size _ rfl, ?_⟩, hl.push _⟩ (fun b hb => ?_) (by simp) (by rw [List.size_toArray, ← rv.length]; exact hz) fun s' acc c' hm hS hacc => ?_
  · exact ⟨rfl, by simp [revObj]⟩
  · show b < (s1.heap.push (revObj p ((its.toArray.size : Int) - 1))).objs.size
    rw [hsz]
    rcases List.mem_cons.mp hb with rfl | hb
    · exact Nat.lt_succ_self _
    · rw [List.mem_singleton.mp hb]; exact Nat.lt_succ_of_lt hlt
  · dsimp only at hm hS
    rw [hsz] at hm hS ⊢
    have hold : ∀ b o, s1.heap.get? b = some o → s'.heap.get? b = some o := fun b o e => by
      have hb := Heap.lt_size e
      refine hm.heap b o (fun hmem => ?_) (Heap.get?_push_of_some _ (Heap.get?_push_of_some _ e))
      rcases List.mem_cons.mp hmem with z | z
      · exact neLt (Nat.lt_succ_of_lt hb) z
      · exact neLt hb (List.mem_singleton.mp z)
    have hv : Vals ys.reverse acc.toList := by
      have hr : acc.toList = its.reverse := by
        refine List.ext_getElem? fun i => ?_
        by_cases hi : i < its.length
        · have hi' : i < acc.size := by rw [hacc.1, List.size_toArray]; exact hi
          have e1 : acc[i]? = some acc[i] := Array.getElem?_eq_getElem hi'
          have e2 := hacc.2 i _ e1
          rw [List.getElem?_reverse hi]
          simp only [List.size_toArray, List.getElem?_toArray] at e2
          rw [e2]
          simpa using e1
        · rw [List.getElem?_eq_none (by rw [Array.length_toList, hacc.1, List.size_toArray]; omega), List.getElem?_eq_none (by rw [List.length_reverse]; omega)]
      rw [hr]
      exact rv.reverse
    have hn := I1.hok.fresh (Nat.le_succ s1.heap.objs.size)
    have J : Inv X pins σ (upd H1 (s1.heap.objs.size + 1) (.lst ys.reverse)) s' := by
      obtain ⟨h', g', d', t', os'⟩ := s'
      obtain rfl : g' = s1.gens := hm.gens
      obtain rfl : d' = s1.drawn := hm.drawn
      obtain rfl : os' = s1.os := hm.os
      exact I1.laid (h' := h') (t' := t') hold (Nat.le_succ _) ⟨by rw [List.length_reverse]; exact hz, acc.toList, c', hv, hS⟩
    exact ⟨.ref (s1.heap.objs.size + 1), _, J, rfl, q _ hn⟩
end
end L2
set_option maxHeartbeats 4000000
namespace L2
open PySem PySem.Spec PyProof.Rows
section
variable {X : Cx}
theorem mt_index : MtR X "str.index" (fun x vs H Q => ∃ a b, x = .str a ∧ vs = [.str b] ∧ Txt.contains a b = true ∧ Q (.int (Txt.find a b)) H) := by
  intro pins s σ H x vs v us Q I rx rv h
  obtain ⟨a, b, rfl, rfl, hc, q⟩ := h
  obtain ⟨t, rfl⟩ := rx
  obtain ⟨w1, rfl, u, rfl⟩ := rv.one
  cases ho : Builtin.Str.occurrences a b 0 a.length 1 with
  | nil => simp [Txt.contains, ho] at hc
  | cons i rest =>
    have e : Txt.find a b = (i : Int) := by simp [Txt.find, ho]
    rw [e] at q
    exact SC.index ho ⟨.int i, H, I.tok _, ⟨_, rfl⟩, q⟩
def rInsert : V → List V → Hp → VK → Prop := fun x vs H Q => ∃ l xs i y, x = .ref l ∧ vs = [.int i, y] ∧ H l = some (.lst xs) ∧ 0 ≤ i ∧ i ≤ xs.length ∧ xs.length + 1 ≤ sizeLine ∧ Q .non (upd H l (.lst (xs.take i.toNat ++ y :: xs.drop i.toNat)))
theorem mt_insert : MtM X "list.insert" rInsert := by
  intro pins s σ H x vs v us Q I rx rv h
  obtain ⟨l, xs, i, y, rfl, rfl, hH, h0, h1, hz, q⟩ := h
  cases rx
  obtain ⟨u, w, rfl, ru, rw'⟩ := rv.two
  obtain ⟨t, rfl⟩ := ru
  obtain ⟨z, its, n, r, hl, e⟩ := I.lstM hH
  have hs : xs.length ≤ 16777216 := by
    have := sizeLine_eq
    omega
  have hlen := r.length
  refine call_meets F.slot_list_insert ⟨_, e, rfl⟩ F.entry_list_insert (F.args_list_insert_3 _ _ _)
    (AutoListH.list_insert_list_int_val_1 l its.toArray n i t w (by rw [fitsIndex_both (by omega) (by omega)]; exact Bool.false_ne_true) (by rw [List.size_toArray]; omega)) ⟨e, ?_⟩
  refine ⟨.non, _, I.lset (its' := its.take i.toNat ++ w :: its.drop i.toNat) hH e ?_ ((r.take _).append (.cons rw' (r.drop _))) ?_, rfl, q⟩
  · have hk : (if i < 0 then (i + ((its.toArray.size : Nat) : Int)).toNat else min i.toNat its.toArray.size) = i.toNat := by
      rw [if_neg (by omega), List.size_toArray]; omega
    show (its.toArray.extract 0 _).push w ++ its.toArray.extract _ = _
    rw [hk]
    apply Array.ext'
    simp [List.take_of_length_le]
  · simp only [List.length_append, List.length_cons, List.length_take, List.length_drop]
    omega
end
end L2
set_option maxHeartbeats 4000000
namespace Dig
open PySem PySem.NumText
def dig (m : Nat) : List Nat := (Nat.toDigits 10 m).map Char.toNat
theorem digitChar_code : ∀ d : Nat, d < 10 → (Nat.digitChar d).toNat = 48 + d := by decide
theorem dig_lt {m : Nat} (h : m < 10) : dig m = [48 + m] := by
  unfold dig
  rw [Nat.toDigits_of_lt_base h]
  show [(Nat.digitChar m).toNat] = _
  rw [digitChar_code m h]
theorem dig_step {m : Nat} (h : 10 ≤ m) : dig m = dig (m / 10) ++ [48 + m % 10] := by
  have hm : m % 10 < 10 := Nat.mod_lt m (by decide)
  have t : Nat.toDigits 10 (m / 10) ++ Nat.toDigits 10 (m % 10) = Nat.toDigits 10 (10 * (m / 10) + m % 10) := Nat.toDigits_append_toDigits (by decide) (by omega) hm
  rw [Nat.div_add_mod] at t
  have e := dig_lt hm
  unfold dig at e ⊢
  rw [← t, List.map_append, e]
theorem dig_digits (m : Nat) : AllDigits (dig m) := by
  induction m using Nat.strongRecOn with
  | _ m ih =>
    by_cases h : m < 10
    · rw [dig_lt h]
      intro c hc
      have : c = 48 + m := by simpa using hc
      omega
    · rw [dig_step (by omega)]
      intro c hc
      rcases List.mem_append.mp hc with hc | hc
      · exact ih (m / 10) (by omega) c hc
      · have : c = 48 + m % 10 := by simpa using hc
        omega
theorem dig_ne (m : Nat) : dig m ≠ [] := by
  by_cases h : m < 10
  · rw [dig_lt h]; simp
  · rw [dig_step (by omega)]; simp
theorem dig_val (m : Nat) : digitsVal (dig m) = m := PySem.W.KIN.val_back m
theorem dig_head {m : Nat} {r : List Nat} (h : dig m = 48 :: r) : m = 0 := by
  induction m using Nat.strongRecOn generalizing r with
  | _ m ih =>
    by_cases hm : m < 10
    · rw [dig_lt hm] at h
      injection h with h1 _
      omega
    · rw [dig_step (by omega)] at h
      cases hd : dig (m / 10) with
      | nil => exact absurd hd (dig_ne _)
      | cons c q =>
        rw [hd] at h
        injection h with h1 _
        subst h1
        have := ih (m / 10) (by omega) hd
        omega
theorem dig_len {m : Nat} : ∀ {k : Nat}, 1 ≤ k → m < 10 ^ k → (dig m).length ≤ k := by
  induction m using Nat.strongRecOn with
  | _ m ih =>
    intro k hk h
    by_cases hm : m < 10
    · rw [dig_lt hm]; exact hk
    · rw [dig_step (by omega), List.length_append]
      have h1 : 2 ≤ k := by
        rcases Nat.lt_or_ge k 2 with z | z
        · have : k = 1 := by omega
          subst this
          simp at h
          omega
        · exact z
      obtain ⟨j, rfl⟩ : ∃ j, k = j + 1 := ⟨k - 1, by omega⟩
      have := ih (m / 10) (by omega) (k := j) (by omega) (by rw [Nat.pow_succ] at h; omega)
      show (dig (m / 10)).length + 1 ≤ j + 1
      omega
def pk : Nat → Nat → List Nat
  | 0, _ => []
  | k + 1, r => pk k (r / 10) ++ [48 + r % 10]
theorem pk_len : ∀ k r, (pk k r).length = k
  | 0, _ => rfl
  | k + 1, r => by rw [pk, List.length_append, pk_len]; rfl
theorem dig_block : ∀ (k m : Nat), 10 ^ k ≤ m → dig m = dig (m / 10 ^ k) ++ pk k (m % 10 ^ k)
  | 0, m, _ => by simp [pk]
  | k + 1, m, h => by
    have hp : 0 < 10 ^ k := Nat.pos_of_ne_zero (by simp)
    have e : (10 : Nat) ^ (k + 1) = 10 * 10 ^ k := by rw [Nat.pow_succ, Nat.mul_comm]
    rw [e] at h
    have h10 : 10 ≤ m := Nat.le_trans (by omega) h
    have hk : 10 ^ k ≤ m / 10 := by rw [Nat.le_div_iff_mul_le (by decide), Nat.mul_comm]; exact h
    rw [dig_step h10, dig_block k (m / 10) hk, pk, e, Nat.div_div_eq_div_mul, Nat.mod_mul_right_div_self, Nat.mod_mul_right_mod]
    simp
theorem pk_zero : ∀ k, pk k 0 = List.replicate k 48
  | 0 => rfl
  | k + 1 => by rw [pk, Nat.zero_div, pk_zero k, List.replicate_succ']
theorem pk_fill : ∀ (k r : Nat), 1 ≤ k → r < 10 ^ k → pk k r = List.replicate (k - (dig r).length) 48 ++ dig r
  | 0, _, h, _ => absurd h (by decide)
  | k + 1, r, _, h => by
    by_cases hr : r < 10
    · rw [pk, show r / 10 = 0 by omega, pk_zero, dig_lt hr, show r % 10 = r by omega]
      rfl
    · have hk : 1 ≤ k := by
        cases k with
        | zero => simp at h; omega
        | succ k => omega
      have hl : r / 10 < 10 ^ k := by rw [Nat.pow_succ] at h; omega
      rw [pk, pk_fill k (r / 10) hk hl, dig_step (m := r) (by omega), List.length_append, List.append_assoc]
      congr 2
      show k - (dig (r / 10)).length = k + 1 - ((dig (r / 10)).length + 1)
      omega
theorem val_from (cs : List Nat) : ∀ a : Nat, cs.foldl (fun acc c => acc * 10 + (c - 48)) a = a * 10 ^ cs.length + digitsVal cs := by
  unfold digitsVal
  induction cs with
  | nil => intro a; simp
  | cons c r ih =>
    intro a
    rw [List.foldl_cons, ih, List.foldl_cons, ih (0 * 10 + (c - 48)), List.length_cons, Nat.pow_succ]
    rw [Nat.add_mul, Nat.zero_mul, Nat.zero_add, Nat.mul_assoc, Nat.mul_comm 10, Nat.add_assoc]
theorem val_append (a b : List Nat) : digitsVal (a ++ b) = digitsVal a * 10 ^ b.length + digitsVal b := by
  have := val_from b (digitsVal a)
  rw [← this]
  unfold digitsVal
  rw [List.foldl_append]
structure Fig (cs : List Nat) : Prop where
  dg : AllDigits cs
  ne : cs ≠ []
  hd : ∀ r, cs = 48 :: r → r = []
theorem fig_dig (m : Nat) : Fig (dig m) := ⟨dig_digits m, dig_ne m, fun r h => by
  have := dig_head h
  subst this
  rw [dig_lt (by decide)] at h
  injection h with _ h2
  exact h2.symm⟩
theorem no47 {cs : List Nat} (h : AllDigits cs) : 47 ∉ cs := fun m => by have := h 47 m; omega
theorem no45 {cs : List Nat} (h : AllDigits cs) : 45 ∉ cs := fun m => by have := h 45 m; omega
end Dig
set_option maxHeartbeats 4000000
namespace Dig
open PySem PySem.NumText PySem.Builtin.Str
theorem str_ext {x y : Str} (h : x.cps.toList = y.cps.toList) : x = y := PySem.Str.ext' (by
  have := congrArg List.toArray h
  simpa using this)
theorem codes_num (m : Nat) : (Str.ofString (toString ((m : Nat) : Int))).cps.toList = dig m := PySem.W.KIN.signs_num m
theorem codes_neg (m : Nat) (h : 0 < m) : (Str.ofString (toString (-((m : Nat) : Int)))).cps.toList = 45 :: dig m := by
  obtain ⟨k, rfl⟩ : ∃ k, m = k + 1 := ⟨m - 1, by omega⟩
  rw [PyProof.Rows.signs_ofString]
  have e : toString (-(((k + 1 : Nat)) : Int)) = "-" ++ Nat.repr (k + 1) := rfl
  rw [e, String.toList_append, List.map_append, Nat.toList_repr]
  rfl
theorem len_codes (x : Str) : x.length = x.cps.toList.length := by simp [Str.length]
theorem slice_codes (x : Str) {a b : Nat} (hab : a ≤ b) (hb : b ≤ x.length) : (Txt.slice x (some (a : Int)) (some (b : Int))).cps.toList = (x.cps.toList.drop a).take (b - a) := by
  unfold Txt.slice
  split
  · rename_i h
    rw [PySem.StrLaws.strSliceIndices_plain hab hb] at h
    have h' : b - a = x.length := by simpa using h
    have ha : a = 0 := by omega
    subst ha
    rw [len_codes] at h'
    rw [List.drop_zero, List.take_of_length_le (by omega)]
  · show (List.toArray _).toList = _
    rw [PySem.StrLaws.sliced_plain x hab hb]
theorem slice_lo (x : Str) (b : Int) : Txt.slice x none (some b) = Txt.slice x (some ((0 : Nat) : Int)) (some b) := by
  have e : strSliceIndices none (some b) 1 x.length = strSliceIndices (some ((0 : Nat) : Int)) (some b) 1 x.length := by
    unfold strSliceIndices
    have h1 : max (0 : Int) (min ((0 : Nat) : Int) (x.length : Int)) = 0 := by omega
    have h2 : ¬ (((0 : Nat) : Int) < 0) := by omega
    simp only [h1, h2, show ((1 : Int) > 0) = True from by simp, if_true, if_false]
  unfold Txt.slice
  rw [e]
theorem slice_hi (x : Str) (a : Int) : Txt.slice x (some a) none = Txt.slice x (some a) (some ((x.length : Nat) : Int)) := by
  have e : strSliceIndices (some a) none 1 x.length = strSliceIndices (some a) (some ((x.length : Nat) : Int)) 1 x.length := by
    unfold strSliceIndices
    have h1 : ¬ ((x.length : Nat) : Int) < 0 := by omega
    have h2 : max (0 : Int) (min ((x.length : Nat) : Int) ((x.length : Nat) : Int)) = ((x.length : Nat) : Int) := by omega
    simp only [h1, h2, show ((1 : Int) > 0) = True from by simp, if_true, if_false]
  unfold Txt.slice
  rw [e]
theorem zfill_codes {x : Str} {r : Nat} (hx : x.cps.toList = dig r) (h : r < 10 ^ 18) : (Txt.zfill x 18).cps.toList = pk 18 r := by
  have hl := dig_len (k := 18) (by decide) h
  have hn : x.length = (dig r).length := by rw [len_codes, hx]
  rw [pk_fill 18 r (by decide) h]
  unfold Txt.zfill
  split
  · have : (dig r).length = 18 := by omega
    rw [hx, this]; rfl
  · unfold zfilled
    have h0 : x.cps[0]? = x.cps.toList[0]? := by simp
    have hc : ∃ c, x.cps[0]? = some c ∧ 48 ≤ c ∧ c ≤ 57 := by
      rw [h0, hx]
      cases hd : dig r with
      | nil => exact absurd hd (dig_ne r)
      | cons c q =>
        have := dig_digits r c (by rw [hd]; exact List.mem_cons_self)
        exact ⟨c, rfl, this⟩
    obtain ⟨c, hc, h1, h2⟩ := hc
    rw [hc]
    split
    · rename_i z; injection z with z; omega
    · rename_i z; injection z with z; omega
    · unfold padded
      simp [hx, hn]
theorem join_codes : ∀ ys : List Str, (Txt.join ⟨#[]⟩ ys).cps.toList = (ys.map fun y => y.cps.toList).flatten := by
  intro ys
  unfold Txt.join
  rw [PySem.StrLaws.glued_eq_join]
  induction ys with
  | nil => rfl
  | cons y r ih =>
    cases r with
    | nil => simp [Str.join]
    | cons z q =>
      have e : Str.join ⟨#[]⟩ (y :: z :: q) = y ++ ⟨#[]⟩ ++ Str.join ⟨#[]⟩ (z :: q) := rfl
      rw [e, PySem.Str.cps_append, PySem.Str.cps_append]
      simp only [Array.toList_append, ih, List.map_cons, List.flatten_cons]
      simp
theorem startswith_code (x : Str) (c : Nat) : Txt.startswith x ⟨#[c]⟩ = true ↔ ∃ r, x.cps.toList = c :: r := by
  unfold Txt.startswith
  rw [Bool.and_eq_true, decide_eq_true_eq, Nat.zero_add]
  have h1 := PySem.StrLaws.subAt_one x c 0
  rw [Nat.zero_add] at h1
  rw [h1]
  cases x.cps.toList with
  | nil => simp
  | cons d q => simp [eq_comm]
end Dig
set_option maxHeartbeats 4000000
namespace Dig
open PySem PySem.NumText PySem.Builtin.Str
theorem cut {c : Nat} : ∀ {a b u v : List Nat}, c ∉ a → c ∉ b → a ++ c :: u = b ++ c :: v → a = b ∧ u = v
  | [], [], _, _, _, _, h => by injection h with _ h; exact ⟨rfl, h⟩
  | [], d :: b, _, _, _, hb, h => by injection h with h1 _; exact absurd (h1 ▸ List.mem_cons_self) hb
  | d :: a, [], _, _, ha, _, h => by injection h with h1 _; exact absurd (h1.symm ▸ List.mem_cons_self) ha
  | d :: a, e :: b, _, _, ha, hb, h => by
    injection h with h1 h2
    subst h1
    obtain ⟨r1, r2⟩ := cut (fun m => ha (List.mem_cons_of_mem _ m)) (fun m => hb (List.mem_cons_of_mem _ m)) h2
    exact ⟨by rw [r1], r2⟩
def J : List (List Nat) → List Nat
  | [] => []
  | [a] => a
  | a :: b :: r => a ++ 47 :: J (b :: r)
theorem join47 : ∀ ps : List Str, (Str.join ⟨#[47]⟩ ps).cps.toList = J (ps.map fun p => p.cps.toList)
  | [] => rfl
  | [p] => rfl
  | p :: q :: r => by
    have e : Str.join ⟨#[47]⟩ (p :: q :: r) = p ++ ⟨#[47]⟩ ++ Str.join ⟨#[47]⟩ (q :: r) := rfl
    rw [e, PySem.Str.cps_append, PySem.Str.cps_append]
    simp only [Array.toList_append, join47 (q :: r), List.map_cons, J]
    simp
theorem J_free : ∀ {L : List (List Nat)}, L ≠ [] → 47 ∉ J L → L = [J L]
  | [], h, _ => absurd rfl h
  | [a], _, _ => rfl
  | a :: b :: r, _, h => absurd (by rw [J]; simp) h
theorem J_two {L : List (List Nat)} {A B : List Nat} (hL : ∀ a ∈ L, 47 ∉ a) (hA : 47 ∉ A) (hB : 47 ∉ B) (h : J L = A ++ 47 :: B) : L = [A, B] := by
  match L, hL, h with
  | [], _, h => rw [J] at h; exact absurd h (by simp)
  | [a], hL, h =>
    rw [J] at h
    exact absurd (by rw [h]; simp) (hL a List.mem_cons_self)
  | a :: b :: r, hL, h =>
    rw [J] at h
    obtain ⟨r1, r2⟩ := cut (hL a List.mem_cons_self) hA h
    subst r1
    have := J_free (L := b :: r) (by simp) (by rw [r2]; exact hB)
    rw [this, r2]
theorem split_ne (x y : Str) : Txt.split x y ≠ [] := by
  unfold Txt.split
  split
  · simp
  · split
    · simp
    · rw [PySem.StrLaws.partsBetween_eq]
      obtain ⟨p, r, e⟩ := PySem.StrLaws.partsFrom_ne x y.length 0 (occurrences x y 0 x.length (x.length + 1))
      rw [e]
      simp
theorem split_J (x : Str) : J ((Txt.split x ⟨#[47]⟩).map fun p => p.cps.toList) = x.cps.toList := by
  rw [← join47, PySem.StrLaws.join_split]
theorem split_one {x : Str} (h : 47 ∉ x.cps.toList) : Txt.split x ⟨#[47]⟩ = [x] := by
  have e := split_J x
  have f := J_free (L := (Txt.split x ⟨#[47]⟩).map fun p => p.cps.toList) (by simpa using split_ne x ⟨#[47]⟩) (by rw [e]; exact h)
  rw [e] at f
  cases hs : Txt.split x ⟨#[47]⟩ with
  | nil => exact absurd hs (split_ne x _)
  | cons p r =>
    rw [hs] at f
    simp only [List.map_cons, List.cons.injEq, List.map_eq_nil_iff] at f
    obtain ⟨f1, rfl⟩ := f
    rw [str_ext f1]
theorem split_two {x : Str} {A B : List Nat} (h : x.cps.toList = A ++ 47 :: B) (hA : 47 ∉ A) (hB : 47 ∉ B) : ∃ p q : Str, Txt.split x ⟨#[47]⟩ = [p, q] ∧ p.cps.toList = A ∧ q.cps.toList = B := by
  have e := split_J x
  have f := J_two (L := (Txt.split x ⟨#[47]⟩).map fun p => p.cps.toList) (fun a ha => by
    obtain ⟨p, hp, rfl⟩ := List.mem_map.mp ha
    exact PySem.StrLaws.split_free x 47 p hp) hA hB (e.trans h)
  match hs : Txt.split x ⟨#[47]⟩, f with
  | [], f => simp at f
  | [p], f => simp at f
  | [p, q], f =>
    simp only [List.map_cons, List.map_nil, List.cons.injEq, and_true] at f
    exact ⟨p, q, rfl, f.1, f.2⟩
  | p :: q :: r :: t, f => simp at f
def tp (x : Int) : List Nat := if x < 0 then 45 :: dig x.natAbs else dig x.natAbs
def nt (a : Int × Int) : List Nat := tp a.1 ++ (if a.2 = 1 then [] else 47 :: dig a.2.natAbs)
theorem tp47 (x : Int) : 47 ∉ tp x := by
  unfold tp
  split
  · intro m
    rcases List.mem_cons.mp m with e | m
    · cases e
    · exact no47 (dig_digits _) m
  · exact no47 (dig_digits _)
theorem dig_inj {m n : Nat} (h : dig m = dig n) : m = n := by rw [← dig_val m, h, dig_val]
theorem tp_inj {x y : Int} (h : tp x = tp y) : x = y := by
  unfold tp at h
  have bad : ∀ {m : Nat} {r : List Nat}, dig m ≠ 45 :: r := fun {m r} e => no45 (dig_digits m) (by rw [e]; exact List.mem_cons_self)
  split at h
  · split at h
    · injection h with _ h
      have := dig_inj h
      omega
    · exact absurd h.symm bad
  · split at h
    · exact absurd h bad
    · have := dig_inj h
      omega
theorem nt_inj {a b : Int × Int} (ha : 1 ≤ a.2) (hb : 1 ≤ b.2) (h : nt a = nt b) : a = b := by
  unfold nt at h
  obtain ⟨x, y⟩ := a
  obtain ⟨z, w⟩ := b
  simp only at ha hb h
  have m47 : ∀ {l r : List Nat}, 47 ∈ l ++ 47 :: r := by intro l r; simp
  by_cases h1 : y = 1
  · rw [if_pos h1, List.append_nil] at h
    by_cases h2 : w = 1
    · rw [if_pos h2, List.append_nil] at h
      rw [tp_inj h, h1, h2]
    · rw [if_neg h2] at h
      exact absurd (by rw [h]; exact m47) (tp47 x)
  · rw [if_neg h1] at h
    by_cases h2 : w = 1
    · rw [if_pos h2, List.append_nil] at h
      exact absurd (by rw [← h]; exact m47) (tp47 z)
    · rw [if_neg h2] at h
      obtain ⟨r1, r2⟩ := cut (tp47 x) (tp47 z) h
      have := dig_inj r2
      rw [tp_inj r1]
      congr 1
      omega
theorem valBound : ∀ (cs : List Nat), AllDigits cs → digitsVal cs < 10 ^ cs.length := by
  intro cs
  induction cs with
  | nil => intro _; decide
  | cons c r ih =>
    intro h
    have h1 := ih (fun d hd => h d (List.mem_cons_of_mem _ hd))
    have h2 := h c List.mem_cons_self
    have e := val_append [c] r
    have e2 : digitsVal [c] = c - 48 := by unfold digitsVal; simp
    rw [List.singleton_append, e2] at e
    rw [e, List.length_cons, Nat.pow_succ]
    have : (c - 48) * 10 ^ r.length ≤ 9 * 10 ^ r.length := Nat.mul_le_mul_right _ (by omega)
    omega
end Dig
namespace Frac
theorem cmp_zero {a b : Int × Int} (ha : Lst a) (hb : Lst b) : cmp a b = 0 ↔ a = b := by
  constructor
  · intro h
    have e : a.1 * b.2 = b.1 * a.2 := by
      unfold cmp at h
      split at h
      · cases h
      · split at h
        · cases h
        · omega
    have pa := ha.pos
    have pb := hb.pos
    have e1 := norm_scale a.1 a.2 b.2 (by omega) (by omega)
    have e2 := norm_scale b.1 b.2 a.2 (by omega) (by omega)
    rw [e, Int.mul_comm a.2 b.2, e2, norm_id ha, norm_id hb] at e1
    exact e1.symm
  · rintro rfl
    unfold cmp
    rw [if_neg (by omega), if_neg (by omega)]
theorem cmp_tri (a b : Int × Int) : (cmp a b = -1 ∧ a.1 * b.2 < b.1 * a.2) ∨ (cmp a b = 0 ∧ a.1 * b.2 = b.1 * a.2) ∨ (cmp a b = 1 ∧ a.1 * b.2 > b.1 * a.2) := by
  unfold cmp
  split
  · exact .inl ⟨rfl, by assumption⟩
  · split
    · exact .inr (.inr ⟨rfl, by assumption⟩)
    · exact .inr (.inl ⟨rfl, by omega⟩)
theorem cmp_swap (a b : Int × Int) : cmp b a = 0 - cmp a b := by
  rcases cmp_tri a b with ⟨e, h⟩ | ⟨e, h⟩ | ⟨e, h⟩ <;> rcases cmp_tri b a with ⟨e', h'⟩ | ⟨e', h'⟩ | ⟨e', h'⟩ <;> omega
theorem cmp_lead {a b c : Int × Int} (ha : 1 ≤ a.2) (hb : 1 ≤ b.2) (hc : 1 ≤ c.2) (h1 : cmp a b < 1) (h2 : cmp b c < 1) : cmp a c = if cmp b c < cmp a b then cmp b c else cmp a b := by
  have l1 : a.1 * b.2 ≤ b.1 * a.2 := by rcases cmp_tri a b with ⟨e, h⟩ | ⟨e, h⟩ | ⟨e, h⟩ <;> omega
  have l2 : b.1 * c.2 ≤ c.1 * b.2 := by rcases cmp_tri b c with ⟨e, h⟩ | ⟨e, h⟩ | ⟨e, h⟩ <;> omega
  have m1 := Int.mul_le_mul_of_nonneg_right l1 (show 0 ≤ c.2 by omega)
  have m2 := Int.mul_le_mul_of_nonneg_right l2 (show 0 ≤ a.2 by omega)
  have e1 : a.1 * b.2 * c.2 = b.2 * (a.1 * c.2) := by ac_rfl
  have e2 : b.1 * a.2 * c.2 = b.1 * c.2 * a.2 := by ac_rfl
  have e3 : c.1 * b.2 * a.2 = b.2 * (c.1 * a.2) := by ac_rfl
  rw [e1, e2] at m1
  rw [e3] at m2
  have hbp : 0 < b.2 := by omega
  have lt1 : a.1 * b.2 < b.1 * a.2 → b.2 * (a.1 * c.2) < b.1 * c.2 * a.2 := fun h => by
    have := Int.mul_lt_mul_of_pos_right h (show 0 < c.2 by omega)
    rw [e1, e2] at this; exact this
  have lt2 : b.1 * c.2 < c.1 * b.2 → b.1 * c.2 * a.2 < b.2 * (c.1 * a.2) := fun h => by
    have := Int.mul_lt_mul_of_pos_right h (show 0 < a.2 by omega)
    rw [e3] at this; exact this
  have back : b.2 * (a.1 * c.2) < b.2 * (c.1 * a.2) → a.1 * c.2 < c.1 * a.2 := fun h => Int.lt_of_mul_lt_mul_left h (by omega)
  have backE : b.2 * (a.1 * c.2) = b.2 * (c.1 * a.2) → a.1 * c.2 = c.1 * a.2 := fun h => Int.eq_of_mul_eq_mul_left (by omega) h
  rcases cmp_tri a b with ⟨x1, y1⟩ | ⟨x1, y1⟩ | ⟨x1, y1⟩
  · have := lt1 y1
    have l := back (by omega)
    rcases cmp_tri a c with ⟨x3, y3⟩ | ⟨x3, y3⟩ | ⟨x3, y3⟩
    · rw [x3, x1]; rcases cmp_tri b c with ⟨x2, _⟩ | ⟨x2, _⟩ | ⟨x2, _⟩ <;> rw [x2] <;> first | decide | omega
    · omega
    · omega
  · rcases cmp_tri b c with ⟨x2, y2⟩ | ⟨x2, y2⟩ | ⟨x2, y2⟩
    · have := lt2 y2
      have l := back (by omega)
      rcases cmp_tri a c with ⟨x3, y3⟩ | ⟨x3, y3⟩ | ⟨x3, y3⟩
      · rw [x3, x1, x2]; decide
      · omega
      · omega
    · have q1 : a.1 * b.2 * c.2 = b.1 * a.2 * c.2 := by rw [y1]
      have q2 : b.1 * c.2 * a.2 = c.1 * b.2 * a.2 := by rw [y2]
      rw [e1, e2] at q1
      rw [e3] at q2
      have l := backE (by omega)
      rcases cmp_tri a c with ⟨x3, y3⟩ | ⟨x3, y3⟩ | ⟨x3, y3⟩
      · omega
      · rw [x3, x1, x2]; decide
      · omega
    · omega
  · omega
end Frac
set_option maxHeartbeats 4000000
namespace Nm
open PySem L2 Lw Dig
abbrev letters : Str := Str.ofString "abcdefghijklmnopqrstuvwxyz"
abbrev wordsS : Str := Str.ofString "like up down then turn pick same both either not and or under is"
def wordsL : List Str := Txt.split wordsS ⟨#[32]⟩
theorem wordsL_eq : wordsL = ["like", "up", "down", "then", "turn", "pick", "same", "both", "either", "not", "and", "or", "under", "is"].map Str.ofString := by decide +kernel
theorem sp32 : (Str.ofString " " : Str) = ⟨#[32]⟩ := by decide +kernel
theorem em' : (Str.ofString "" : Str) = ⟨#[]⟩ := by decide +kernel
def Low (cs : List Nat) : Prop := ∀ c ∈ cs, 97 ≤ c ∧ c ≤ 122
theorem Low.app {a b : List Nat} (h : Low a) (h' : Low b) : Low (a ++ b) := fun c m => (List.mem_append.mp m).elim (h c) (h' c)
theorem Low.take {a : List Nat} (h : Low a) (n : Nat) : Low (a.take n) := fun c m => h c (List.mem_of_mem_take m)
theorem Low.drop {a : List Nat} (h : Low a) (n : Nat) : Low (a.drop n) := fun c m => h c (List.mem_of_mem_drop m)
theorem Low.one {c : Nat} (h : 97 ≤ c ∧ c ≤ 122) : Low [c] := fun d m => by
  have : d = c := by simpa using m
  subst this; exact h
structure IsName (x : Str) : Prop where
  ne : 1 ≤ x.cps.toList.length
  le : x.cps.toList.length ≤ 8
  low : Low x.cps.toList
  now : x ∉ wordsL
theorem let_codes : letters.cps.toList = (List.range 26).map (97 + ·) := by decide +kernel
theorem let_len : letters.length = 26 := by decide +kernel
theorem let_at {i : Int} (h0 : 0 ≤ i) (h1 : i < 26) : atI letters.cps.toList i = some (97 + i.toNat) := by
  have e : i = (i.toNat : Int) := by omega
  have q := atI_nat (xs := letters.cps.toList) (j := i.toNat) (v := 97 + i.toNat) (by
    rw [let_codes, List.getElem?_map, List.getElem?_range (by omega)]; rfl)
  rw [← e] at q
  exact q
theorem let_in26 : ∀ k : Fin 26, Txt.contains letters ⟨#[97 + k.val]⟩ = true := by decide +kernel
theorem let_in {c : Nat} (h : 97 ≤ c ∧ c ≤ 122) : Txt.contains letters ⟨#[c]⟩ = true := by
  have := let_in26 ⟨c - 97, by omega⟩
  rw [show 97 + (c - 97) = c by omega] at this
  exact this
theorem join_ones (cs : List Nat) : (Txt.join ⟨#[]⟩ (cs.map fun c => (⟨#[c]⟩ : Str))).cps.toList = cs := by
  rw [join_codes, List.map_map]
  induction cs with
  | nil => rfl
  | cons c r ih => rw [List.map_cons, List.flatten_cons, ih]; rfl
theorem sum_ones (cs : List Nat) : ((cs.map fun c => (⟨#[c]⟩ : Str)).map (·.length)).sum = cs.length := by
  induction cs with
  | nil => rfl
  | cons c r ih => rw [List.map_cons, List.map_cons, List.sum_cons, ih, List.length_cons]; show 1 + _ = _; omega
theorem inV_strs (x : Str) (xs : List Str) : inV (.str x) (xs.map V.str) = decide (x ∈ xs) := by
  unfold inV
  induction xs with
  | nil => simp
  | cons y r ih =>
    rw [List.map_cons, List.any_cons, ih]
    by_cases h : y = x
    · subst h
      simp [eqV]
    · have h2 : ¬ x = y := fun e => h e.symm
      simp [eqV, h, h2]
theorem flat_strs (xs : List Str) : (xs.map V.str).all flatV = true := by
  rw [List.all_eq_true]
  intro v m
  obtain ⟨s, _, rfl⟩ := List.mem_map.mp m
  rfl
theorem zz_codes : (Str.ofString "zz" : Str).cps.toList = [122, 122] := by decide +kernel
theorem zz_no : ∀ x ∈ wordsL, x.cps.toList.take 2 ≠ [122, 122] := by decide +kernel
theorem zz_name {x y : Str} (h : y.cps.toList = 122 :: 122 :: x.cps.toList.take 6) (l : Low x.cps.toList) : IsName y := by
  refine ⟨by rw [h]; simp, by rw [h]; simp only [List.length_cons, List.length_take]; omega, ?_, fun m => zz_no y m (by rw [h]; rfl)⟩
  rw [h]
  exact Low.app (a := [122, 122]) (fun c m => by simp at m; omega) (l.take 6)
theorem slice_over (x : Str) {b : Nat} (h : x.length ≤ b) : Txt.slice x none (some (b : Int)) = Txt.slice x none (some ((x.length : Nat) : Int)) := by
  have e : Builtin.Str.strSliceIndices none (some (b : Int)) 1 x.length = Builtin.Str.strSliceIndices none (some ((x.length : Nat) : Int)) 1 x.length := by
    unfold Builtin.Str.strSliceIndices
    have h1 : ¬ ((x.length : Nat) : Int) < 0 := by omega
    have h2 : ¬ (b : Int) < 0 := by omega
    have h3 : max (0 : Int) (min ((x.length : Nat) : Int) ((x.length : Nat) : Int)) = ((x.length : Nat) : Int) := by omega
    have h4 : max (0 : Int) (min (b : Int) ((x.length : Nat) : Int)) = ((x.length : Nat) : Int) := by omega
    simp only [h1, h2, h3, h4, show ((1 : Int) > 0) = True from by simp, if_true, if_false]
  unfold Txt.slice
  rw [e]
theorem slice_to (x : Str) (b : Nat) : (Txt.slice x none (some (b : Int))).cps.toList = x.cps.toList.take b := by
  rcases Nat.le_total b x.length with h | h
  · rw [slice_lo, slice_codes x (a := 0) (b := b) (by omega) h]; simp
  · rw [slice_over x h, slice_lo, slice_codes x (a := 0) (b := x.length) (by omega) (Nat.le_refl _), len_codes] 
    rw [len_codes] at h
    rw [List.drop_zero, Nat.sub_zero, List.take_of_length_le (Nat.le_refl _), List.take_of_length_le h]
theorem KeptBut.free {d c p : Addr} {H H' : Hp} (k : KeptBut d c H H') (D : DeckAt H' d c) (h : H' p = none) : H p = none := by
  cases e : H p with
  | none => rfl
  | some o =>
    have f := D.free h
    have := k p o e f.1 f.2
    rw [h] at this
    cases this
theorem DeckAt.upd {d c p : Addr} {H : Hp} {o : HO} (D : DeckAt H d c) (h1 : p ≠ d) (h2 : p ≠ c) : DeckAt (L2.upd H p o) d c := by
  obtain ⟨k, ns, a1, a2, r⟩ := D.ex
  exact ⟨k, ns, by rw [upd_ne (Ne.symm h1)]; exact a1, by rw [upd_ne (Ne.symm h2)]; exact a2, r⟩
def spBook : Sp := fun vs H Q _ => ∃ (d c : Addr), vs = [.ref d] ∧ DeckAt H d c ∧
  ∀ (xs : List Str) (p : Addr) (H' : Hp), 1 ≤ xs.length → xs.length ≤ 4 → (∀ x ∈ xs, IsName x) → H p = none → H' p = some (.tup (xs.map V.str)) → DeckAt H' d c → KeptBut d c H H' → Q (.ref p) H'
end Nm
set_option maxHeartbeats 4000000
namespace L2
open PySem PySem.Spec PyProof.Rows
section
variable {κ : Type} [DecidableEq κ]
def valV (kvs : List (κ × V)) (k : κ) : Option V := (kvs.find? fun kv => decide (kv.1 = k)).map (·.2)
def putK (kvs : List (κ × V)) (k : κ) (v : V) : List (κ × V) :=
  if (kvs.any fun kv => decide (kv.1 = k)) = true then kvs.map (fun kv => if kv.1 = k then (kv.1, v) else kv) else kvs ++ [(k, v)]
def dropK (kvs : List (κ × V)) (k : κ) : List (κ × V) := kvs.filter fun kv => decide (kv.1 ≠ k)
theorem valV_pos {p : κ × V} {r : List (κ × V)} {k : κ} (e : p.1 = k) : valV (p :: r) k = some p.2 := by simp [valV, List.find?_cons, e]
theorem valV_neg {p : κ × V} {r : List (κ × V)} {k : κ} (e : ¬ p.1 = k) : valV (p :: r) k = valV r k := by simp [valV, List.find?_cons, e]
theorem valV_any (k : κ) : ∀ kvs : List (κ × V), (kvs.any fun kv => decide (kv.1 = k)) = (valV kvs k).isSome
  | [] => rfl
  | p :: r => by
    rw [List.any_cons]
    by_cases e : p.1 = k
    · simp only [valV_pos e, decide_eq_true e, Bool.true_or, Option.isSome_some]
    · rw [valV_neg e, decide_eq_false e, Bool.false_or]; exact valV_any k r
theorem valV_map (k j : κ) (y : V) : ∀ kvs : List (κ × V), valV (kvs.map fun kv => if kv.1 = k then (kv.1, y) else kv) j = (valV kvs j).map fun x => if j = k then y else x
  | [] => rfl
  | p :: r => by
    have ih := valV_map k j y r
    rw [List.map_cons]
    by_cases h : p.1 = k
    · rw [if_pos h]
      by_cases e : p.1 = j
      · rw [valV_pos (p := (p.1, y)) e, valV_pos e, Option.map_some, if_pos (e.symm.trans h)]
      · rw [valV_neg (p := (p.1, y)) e, valV_neg e, ih]
    · rw [if_neg h]
      by_cases e : p.1 = j
      · rw [valV_pos (p := p) e, valV_pos e, Option.map_some, if_neg (fun z => h (e.trans z))]
      · rw [valV_neg (p := p) e, valV_neg e, ih]
theorem valV_snoc (k j : κ) (y : V) : ∀ kvs : List (κ × V), valV kvs k = none → valV (kvs ++ [(k, y)]) j = if j = k then some y else valV kvs j
  | [], _ => by
    by_cases e : k = j
    · rw [if_pos e.symm]; exact valV_pos (p := (k, y)) e
    · rw [if_neg (fun z => e z.symm)]; exact valV_neg (p := (k, y)) e
  | p :: r, hn => by
    rw [List.cons_append]
    have hk : ¬ p.1 = k := fun z => by rw [valV_pos z] at hn; cases hn
    rw [valV_neg hk] at hn
    have ih := valV_snoc k j y r hn
    by_cases e : p.1 = j
    · rw [valV_pos e, valV_pos e, if_neg (fun z => hk (e.trans z))]
    · rw [valV_neg e, valV_neg e, ih]
theorem valV_put (kvs : List (κ × V)) (k j : κ) (y : V) : valV (putK kvs k y) j = if j = k then some y else valV kvs j := by
  unfold putK
  by_cases a : (kvs.any fun kv => decide (kv.1 = k)) = true
  · rw [if_pos a, valV_map]
    rw [valV_any] at a
    by_cases e : j = k
    · obtain ⟨x, hx⟩ := Option.isSome_iff_exists.mp a
      rw [if_pos e, e, hx, Option.map_some, if_pos rfl]
    · rw [if_neg e]
      cases valV kvs j with
      | none => rfl
      | some x => rw [Option.map_some, if_neg e]
  · rw [if_neg a]
    refine valV_snoc k j y kvs ?_
    rw [valV_any] at a
    cases q : valV kvs k with
    | none => rfl
    | some x => rw [q] at a; exact (a rfl).elim
theorem length_putK (kvs : List (κ × V)) (k : κ) (v : V) : (putK kvs k v).length ≤ kvs.length + 1 := by
  unfold putK
  split
  · rw [List.length_map]; omega
  · rw [List.length_append, List.length_cons, List.length_nil]; omega
theorem RelO.isSome_eq {o : Option V} {u : Option Value} (r : RelO o u) : o.isSome = u.isSome := by
  cases o with
  | none => cases u with
    | none => rfl
    | some _ => exact (show False from r).elim
  | some _ => cases u with
    | none => exact (show False from r).elim
    | some _ => rfl
theorem RelO.getD {o : Option V} {u : Option Value} {d : V} {d' : Value} (r : RelO o u) (rd : RelV d d') : RelV (o.getD d) (u.getD d') := by
  cases o with
  | none => cases u with
    | none => exact rd
    | some _ => exact (show False from r).elim
  | some _ => cases u with
    | none => exact (show False from r).elim
    | some _ => exact r
theorem KV.val {kvs : List (κ × V)} {vs : List (κ × Value)} (r : KV kvs vs) (k : κ) : RelO (valV kvs k) (valueAt vs k) := by
  unfold KV at r
  induction r with
  | nil => exact True.intro
  | @cons p q ps qs h t ih =>
    obtain ⟨h1, h2⟩ := h
    by_cases e : p.1 = k
    · have e' : q.1 = k := h1.symm.trans e
      have b : valueAt (q :: qs) k = some q.2 := by simp [valueAt, List.find?_cons, e']
      rw [valV_pos e, b]; exact h2
    · have e' : ¬ q.1 = k := fun z => e (h1.trans z)
      have b : valueAt (q :: qs) k = valueAt qs k := by simp [valueAt, List.find?_cons, e']
      rw [valV_neg e, b]; exact ih
theorem KV.any {kvs : List (κ × V)} {vs : List (κ × Value)} (r : KV kvs vs) (k : κ) : (kvs.any fun kv => decide (kv.1 = k)) = vs.any fun kv => decide (kv.1 = k) := by
  unfold KV at r
  induction r with
  | nil => rfl
  | cons h t ih => rw [List.any_cons, List.any_cons, ih, h.1]
theorem KV.repl {kvs : List (κ × V)} {vs : List (κ × Value)} (r : KV kvs vs) (k : κ) {y : V} {u : Value} (ry : RelV y u) :
    KV (kvs.map fun kv => if kv.1 = k then (kv.1, y) else kv) (vs.map fun kv => if kv.1 = k then (kv.1, u) else kv) := by
  unfold KV at r ⊢
  induction r with
  | nil => exact .nil
  | @cons p q ps qs h t ih =>
    rw [List.map_cons, List.map_cons]
    refine .cons ?_ ih
    obtain ⟨h1, h2⟩ := h
    by_cases e : p.1 = k
    · rw [if_pos e, if_pos (h1.symm.trans e)]; exact ⟨h1, ry⟩
    · rw [if_neg e, if_neg (fun z => e (h1.trans z))]; exact ⟨h1, h2⟩
theorem KV.put {kvs : List (κ × V)} {vs : List (κ × Value)} (r : KV kvs vs) (k : κ) {y : V} {u : Value} (ry : RelV y u) : KV (putK kvs k y) (stored vs k u) := by
  unfold putK stored
  rw [r.any k]
  by_cases e : (vs.any fun kv => decide (kv.1 = k)) = true
  · rw [if_pos e, if_pos e]; exact r.repl k ry
  · rw [if_neg e, if_neg e]; exact Paired.snoc r ⟨rfl, ry⟩
theorem KV.drop {kvs : List (κ × V)} {vs : List (κ × Value)} (r : KV kvs vs) (k : κ) : KV (dropK kvs k) (without vs k) := by
  unfold KV at r ⊢
  unfold dropK without
  induction r with
  | nil => exact .nil
  | @cons p q ps qs h t ih =>
    obtain ⟨h1, h2⟩ := h
    rw [List.filter_cons, List.filter_cons]
    by_cases e : p.1 = k
    · have a : ¬ decide (p.1 ≠ k) = true := by simp [e]
      have b : ¬ decide (q.1 ≠ k) = true := by simp [h1.symm.trans e]
      rw [if_neg a, if_neg b]; exact ih
    · have e' : ¬ q.1 = k := fun z => e (h1.trans z)
      have a : decide (p.1 ≠ k) = true := by simp [e]
      have b : decide (q.1 ≠ k) = true := by simp [e']
      rw [if_pos a, if_pos b]; exact .cons ⟨h1, h2⟩ ih
theorem KV.keys {kvs : List (κ × V)} {vs : List (κ × Value)} (r : KV kvs vs) : kvs.map (·.1) = vs.map (·.1) := by
  unfold KV at r
  induction r with
  | nil => rfl
  | cons h t ih => rw [List.map_cons, List.map_cons, ih, h.1]
theorem KV.length {kvs : List (κ × V)} {vs : List (κ × Value)} (r : KV kvs vs) : kvs.length = vs.length := Paired.length r
end
theorem kV_is {P : Program} {w : World} {k : Key} {u : Value} (r : RelV (kV k) u) : (mixKind P w).is k u = true := by
  cases k with
  | inl i => obtain ⟨t, e⟩ := (show ∃ t, u = Value.int i t from r); subst e; exact mixKind_int P w i t
  | inr x => obtain ⟨t, e⟩ := (show ∃ t, u = Value.str x t from r); subst e; exact mixKind_str P w x t
theorem items_are {P : Program} {w : World} : ∀ {ks : List Key} {us : List Value}, Vals (ks.map kV) us → ItemsAre (mixKind P w) ks us
  | [], _, r => by rw [List.map_nil] at r; cases r; exact .nil
  | k :: ks, _, r => by
    rw [List.map_cons] at r
    cases r with
    | cons h t => exact .cons (kV_is h) (items_are t)
abbrev KT (H : Hp) : List (List Key × V) → List (List Key × Addr × Value) → Prop := Paired fun p q => p.1 = q.1 ∧ H q.2.1 = some (.tup (p.1.map kV)) ∧ RelV p.2 q.2.2
theorem KT.val {H : Hp} {kvs : List (List Key × V)} {xs : List (List Key × Addr × Value)} (r : KT H kvs xs) (k : List Key) : RelO (valV kvs k) ((atKey xs k).map (·.2)) := by
  induction r with
  | nil => exact True.intro
  | @cons p q ps qs h t ih =>
    obtain ⟨h1, _, h2⟩ := h
    by_cases e : p.1 = k
    · have e' : q.1 = k := h1.symm.trans e
      have b : atKey (q :: qs) k = some q.2 := by simp [atKey, List.find?_cons, e']
      rw [valV_pos e, b]; exact h2
    · have e' : ¬ q.1 = k := fun z => e (h1.trans z)
      have b : atKey (q :: qs) k = atKey qs k := by simp [atKey, List.find?_cons, e']
      rw [valV_neg e, b]; exact ih
theorem KT.repl {H : Hp} {kvs : List (List Key × V)} {xs : List (List Key × Addr × Value)} (r : KT H kvs xs) (k : List Key) {y : V} {u : Value} (ry : RelV y u) :
    KT H (kvs.map fun kv => if kv.1 = k then (kv.1, y) else kv) (xs.map (putAt k u)) := by
  induction r with
  | nil => exact .nil
  | @cons p q ps qs h t ih =>
    rw [List.map_cons, List.map_cons]
    refine .cons ?_ ih
    obtain ⟨h1, h2, h3⟩ := h
    unfold putAt
    by_cases e : p.1 = k
    · rw [if_pos e, if_pos (h1.symm.trans e)]; exact ⟨h1, h2, ry⟩
    · rw [if_neg e, if_neg (fun z => e (h1.trans z))]; exact ⟨h1, h2, h3⟩
theorem KT.put {H : Hp} {kvs : List (List Key × V)} {xs : List (List Key × Addr × Value)} (r : KT H kvs xs) (k : List Key) {b : Addr} {y : V} {u : Value} (hb : H b = some (.tup (k.map kV))) (ry : RelV y u) :
    KT H (putK kvs k y) (storedH xs k b u) := by
  have e : (kvs.any fun kv => decide (kv.1 = k)) = (atKey xs k).isSome := by
    rw [valV_any, (r.val k).isSome_eq, Option.isSome_map]
  unfold putK storedH
  rw [e]
  by_cases q : (atKey xs k).isSome = true
  · rw [if_pos q, if_pos q]; exact r.repl k ry
  · rw [if_neg q, if_neg q]; exact Paired.snoc r ⟨rfl, hb, ry⟩
theorem KT.keeps {H H' : Hp} {kvs : List (List Key × V)} {xs : List (List Key × Addr × Value)} (r : KT H kvs xs) (ht : ∀ b ys, H b = some (.tup ys) → H' b = some (.tup ys)) : KT H' kvs xs :=
  Paired.mapP r fun _ _ z => ⟨z.1, ht _ _ z.2.1, z.2.2⟩
section
variable {P : Program} {w : World} {H : Hp} {h : Heap} {a : Addr}
theorem rd_of {u : HO} (ok : HOk P w H h) (e : Rd H a u) : ObjOk P w H h a u := e.ok ok
theorem dk_rd {kvs : List (Key × V)} (ok : HOk P w H h) (e : Rd H a (.dK kvs)) : kvs.length ≤ sizeLine ∧ (a == sysModules) = false ∧ ∃ vs, KV kvs vs ∧ h.DictOf (mixKind P w) a vs :=
  show ObjOk P w H h a (.dK kvs) from rd_of ok e
theorem dk_of {kvs : List (Key × V)} (ok : HOk P w H h) (e : H a = some (.dK kvs)) : kvs.length ≤ sizeLine ∧ (a == sysModules) = false ∧ ∃ vs, KV kvs vs ∧ h.DictOf (mixKind P w) a vs := dk_rd ok (.inl e)
theorem key_of {ks : List Key} (ok : HOk P w H h) (e : H a = some (.tup (ks.map kV))) : (tupleKind (mixKind P w)).is h ks a := by
  obtain ⟨_, its, r, o, h1, h2, n, h3⟩ := (show ObjOk P w H h a (.tup (ks.map kV)) from ok a _ e)
  exact ⟨o, its.toArray, n, h1, h2, h3, by simpa using items_are r⟩
theorem dt_rd {kvs : List (List Key × V)} (ok : HOk P w H h) (e : Rd H a (.dT kvs)) : kvs.length ≤ sizeLine ∧ (a == sysModules) = false ∧
    ∃ xs, KT H kvs xs ∧ h.DictOfH (tupleKind (mixKind P w)) a xs := by
  obtain ⟨z, y, xs, r, o, es, ep, h1, h2, h3, h4, h5⟩ := (show ObjOk P w H h a (.dT kvs) from rd_of ok e)
  refine ⟨z, y, xs, r, o, es, ep, h1, h2, h3, h4, fun x hx => ?_, h5⟩
  have all : ∀ {l : List (List Key × V)} {m : List (List Key × Addr × Value)}, KT H l m → ∀ x ∈ m, (tupleKind (mixKind P w)).is h x.1 x.2.1 := by
    intro l m q
    induction q with
    | nil => intro x hx; exact nomatch hx
    | @cons p q ps qs hq t ih =>
      intro x hx
      rcases List.mem_cons.mp hx with e | hx
      · subst e
        exact key_of ok (by rw [← hq.1]; exact hq.2.1)
      · exact ih x hx
  exact all r x hx
theorem dt_of {kvs : List (List Key × V)} (ok : HOk P w H h) (e : H a = some (.dT kvs)) : kvs.length ≤ sizeLine ∧ (a == sysModules) = false ∧
    ∃ xs, KT H kvs xs ∧ h.DictOfH (tupleKind (mixKind P w)) a xs := dt_rd ok (.inl e)
end
def DGet (H : Hp) (a : Addr) (y : V) (r : Option V) : Prop :=
  (∃ kvs k, Rd H a (.dK kvs) ∧ y = kV k ∧ r = valV kvs k) ∨ ∃ kvs k b, Rd H a (.dT kvs) ∧ y = .ref b ∧ H b = some (.tup (k.map kV)) ∧ r = valV kvs k
def DPut (H : Hp) (a : Addr) (y v : V) (H' : Hp) : Prop :=
  (∃ kvs k, H a = some (.dK kvs) ∧ y = kV k ∧ kvs.length < sizeLine ∧ H' = upd H a (.dK (putK kvs k v))) ∨
  ∃ kvs k b, H a = some (.dT kvs) ∧ y = .ref b ∧ H b = some (.tup (k.map kV)) ∧ kvs.length < sizeLine ∧ H' = upd H a (.dT (putK kvs k v))
theorem DGet.k {H : Hp} {a : Addr} {kvs : List (Key × V)} {k : Key} (e : H a = some (.dK kvs)) : DGet H a (kV k) (valV kvs k) := .inl ⟨kvs, k, .inl e, rfl, rfl⟩
theorem DGet.t {H : Hp} {a b : Addr} {kvs : List (List Key × V)} {k : List Key} (e : H a = some (.dT kvs)) (eb : H b = some (.tup (k.map kV))) : DGet H a (.ref b) (valV kvs k) := .inr ⟨kvs, k, b, .inl e, rfl, eb, rfl⟩
theorem DPut.k {H : Hp} {a : Addr} {kvs : List (Key × V)} {k : Key} {v : V} (e : H a = some (.dK kvs)) (hl : kvs.length < sizeLine) : DPut H a (kV k) v (upd H a (.dK (putK kvs k v))) := .inl ⟨kvs, k, e, rfl, hl, rfl⟩
theorem DPut.t {H : Hp} {a b : Addr} {kvs : List (List Key × V)} {k : List Key} {v : V} (e : H a = some (.dT kvs)) (eb : H b = some (.tup (k.map kV))) (hl : kvs.length < sizeLine) :
    DPut H a (.ref b) v (upd H a (.dT (putK kvs k v))) := .inr ⟨kvs, k, b, e, rfl, eb, hl, rfl⟩
section
variable {X : Cx} {pins : List (Addr × Obj)} {σ : St} {H : Hp} {s : Shared} {a : Addr} {y v : V} {u r : Value} {o : Option V} {A : Around} {E : Value → Shared → Prop}
theorem Inv.big (I : Inv X pins σ H s) : sysModules < s.heap.objs.size := by
  have h : mainGlobals < s.heap.objs.size := (I.mod.glob.keeps I.bk).lt
  exact Nat.lt_trans (by decide) h
theorem d_write {h' : Heap} {t' : Nat} {ob : HO} (I : Inv X pins σ H s) (mu : Mut (H a)) (hs : Heap.SameBut a s.heap h') (he : ∃ q, h'.get? a = some q) (new : ObjOk X.prog X.w (upd H a ob) h' a ob) :
    Inv X pins σ (upd H a ob) { s with heap := h', toks := t' } :=
  I.write (x := a) (e := a) mu (.inl rfl) (fun b q hb z => (hs.2 b hb).trans z) he new
theorem dk_new {P : Program} {w : World} {H' : Hp} {h' : Heap} {kvs : List (Key × V)} {vs : List (Key × Value)} (z : kvs.length ≤ sizeLine) (hd : (a == sysModules) = false) (rel : KV kvs vs) (dd : h'.DictOf (mixKind P w) a vs) :
    ObjOk P w H' h' a (.dK kvs) := ⟨z, hd, vs, rel, dd⟩
theorem d_setItem {H' : Hp} {Q : Unit → Shared → Prop} (hu : A.units + 1 < cLine) (I : Inv X pins σ H s) (g : DPut H a y v H') (ry : RelV y u) (rv : RelV v r) (h : ∀ s', Inv X pins σ H' s' → Q () s') :
    wpAny (model X.prog X.w) A (setItem (.ref a) u r) Q E s := by
  rcases g with ⟨kvs, k, e, ey, l, eH⟩ | ⟨kvs, k, b, e, ey, eb, l, eH⟩
  · subst ey eH
    obtain ⟨z, hd, vs, rel, dd⟩ := dk_of I.hok e
    have hz : vs.length ≤ sizeLine := by rw [← rel.length]; exact z
    have hl : (putK kvs k v).length ≤ sizeLine := by have := length_putK kvs k v; omega
    refine wpAny_setItem_pairs (hsz := hz) (kV_is ry) dd fun h' dd' hs => h _ ?_
    have he : ∃ q, h'.get? a = some q := let ⟨q, _, _, hq, _⟩ := dd'; ⟨q, hq⟩
    exact d_write I (by rw [e]; exact True.intro) hs he (dk_new hl hd (rel.put k rv) dd')
  · subst ey eH
    cases (show u = Value.ref b from ry)
    obtain ⟨z, hd, xs, rel, dd⟩ := dt_of I.hok e
    have hz : xs.length ≤ sizeLine := by rw [← Paired.length rel]; exact z
    have hl : (putK kvs k v).length ≤ sizeLine := by have := length_putK kvs k v; omega
    refine wpAny_setItem_heap (hsz := hz) (tupleKind_room_in1 hu) (key_of I.hok eb) dd fun h' dd' hs => h _ ?_
    obtain ⟨q, es, ep, hq, h2, h3, h4, _, h5⟩ := dd'
    refine d_write I (by rw [e]; exact True.intro) hs ⟨q, hq⟩ ⟨hl, hd, _, (rel.put k eb rv).keeps fun c ys ec => ?_, q, es, ep, hq, h2, h3, h4, h5⟩
    rw [upd_ne (ne_of ec e (fun z => nomatch z))]
    exact ec
end
section
variable {X : Cx} {pins : List (Addr × Obj)} {σ : St} {H : Hp} {s : Shared} {a : Addr} {kvs : List (Key × V)} {k : Key} {u : Value} {A : Around} {E : Value → Shared → Prop}
end
def sDPut (td ty tv : TE) : TS := fun D σ H => tv σ H fun v H1 => td σ H1 fun x H2 => ty σ H2 fun y H3 => ∃ a H4, x = .ref a ∧ DPut H3 a y v H4 ∧ D.nx σ H4
section
variable {X : Cx} {o i e value : Expr} {pos pos' tpos : Pos} {td ty tv : TE}
theorem ps_dput (hu : X.A.units + 1 < cLine) (ho : PE X o td) (hi : PE X i ty) (hv : PE X value tv) (hs : swapsWith value (some (.Subscript o i pos')) pos.line X.env = pure false) :
    PS X (.Assign [.Subscript o i pos'] value pos) (sDPut td ty tv) := by
  intro pins s σ H D I h
  refine wpAny_Assign_Subscript (thn (hv pins s σ H _ I h) fun r s1 ⟨v, H1, I1, rv, q1⟩ => thn (ho pins s1 σ H1 _ I1 q1) fun u s2 ⟨x, H2, I2, rx, q2⟩ => thn (hi pins s2 σ H2 _ I2 q2) fun iv s3 ⟨y, H3, I3, ry, a, H4, ex, g, q3⟩ => ?_) hs
  subst ex
  obtain rfl : u = Value.ref a := rx
  exact d_setItem hu I3 g ry rv fun s4 I4 => ⟨σ, H4, I4, q3⟩
end
theorem dk_empty {P : Program} {w : World} {H : Hp} (h : Heap) (hb : sysModules < h.objs.size) : ObjOk P w H (h.push { cls := .type "dict", data := .dict #[] }) h.objs.size (.dK []) :=
  ⟨Nat.zero_le _, beq_eq_false_iff_ne.mpr (Ne.symm (Nat.ne_of_lt hb)), [], .nil, Heap.DictOf.new h⟩
def tDNewK : TE := fun _ H Q => ∀ p, H p = none → Q (.ref p) (upd H p (.dK []))
section
variable {X : Cx} {pos : Pos}
theorem pe_dnewK : PE X (.Dict [] [] pos) tDNewK := fun pins s σ H Q I h =>
  wpAny_Dict_empty ⟨.ref s.heap.objs.size, _, I.laid (a := s.heap.objs.size) (o := .dK []) (t' := s.toks) (fun _ _ q => Heap.get?_push_of_some _ q) (Nat.le_refl _) (dk_empty s.heap I.big), rfl, h _ (I.hok.fresh (Nat.le_refl _))⟩
end
def tPairs : List (TE × TE) → St → Hp → (List (V × V) → Hp → Prop) → Prop
  | [], _, H, Q => Q [] H
  | (tk, tv) :: r, σ, H, Q => tk σ H fun x H1 => tv σ H1 fun y H2 => tPairs r σ H2 fun ps H3 => Q ((x, y) :: ps) H3
abbrev VV : List (V × V) → List (Value × Value) → Prop := Paired fun p q => RelV p.1 q.1 ∧ RelV p.2 q.2
def PPs (X : Cx) (pos : Pos) (keys : List (Option Expr)) (values : List Expr) (trs : List (TE × TE)) : Prop :=
  ∀ (pins : List (Addr × Obj)) (s : Shared) (σ : St) (H : Hp) (Q : List (V × V) → Hp → Prop), Inv X pins σ H s → tPairs trs σ H Q →
    wpAny (model X.prog X.w) X.A (evalPairs (pairTrees keys values X.env pos)) (fun vs s' => ∃ ps H', Inv X pins σ H' s' ∧ VV ps vs ∧ Q ps H') X.xe s
theorem pps_nil {X : Cx} {pos : Pos} : PPs X pos [] [] [] := fun pins s σ H Q I h => pairTrees_nil_walk ⟨[], H, I, .nil, h⟩
theorem pps_cons {X : Cx} {pos : Pos} {k v : Expr} {ks : List (Option Expr)} {vs : List Expr} {tk tv : TE} {trs : List (TE × TE)} (hk : PE X k tk) (hv : PE X v tv) (hr : PPs X pos ks vs trs) :
    PPs X pos (some k :: ks) (v :: vs) ((tk, tv) :: trs) := fun pins s σ H Q I h =>
  pairTrees_cons_walk (thn (hk pins s σ H _ I h) fun u s1 ⟨x, H1, I1, rx, q1⟩ => thn (hv pins s1 σ H1 _ I1 q1) fun w2 s2 ⟨y, H2, I2, ry, q2⟩ =>
    thn (hr pins s2 σ H2 _ I2 q2) fun ws s3 ⟨ps, H3, I3, rel, q3⟩ => ⟨(x, y) :: ps, H3, I3, .cons ⟨rx, ry⟩ rel, q3⟩)
def mergeK (kvs more : List (Key × V)) : List (Key × V) := more.foldl (fun acc kv => putK acc kv.1 kv.2) kvs
theorem KV.merge : ∀ {more : List (Key × V)} {rs : List (Key × Value)} {kvs : List (Key × V)} {vs : List (Key × Value)}, KV more rs → KV kvs vs → KV (mergeK kvs more) (merged vs rs) := by
  intro more rs kvs vs r
  unfold KV at r
  induction r generalizing kvs vs with
  | nil => intro q; exact q
  | @cons p q ps qs h t ih =>
    intro r0
    have e : KV (putK kvs p.1 p.2) (stored vs q.1 q.2) := by
      have := r0.put p.1 h.2
      rw [← h.1]; exact this
    exact ih e
theorem length_mergeK : ∀ (more kvs : List (Key × V)), (mergeK kvs more).length ≤ kvs.length + more.length
  | [], kvs => by show kvs.length ≤ kvs.length + 0; omega
  | p :: r, kvs => by
    have h1 := length_mergeK r (putK kvs p.1 p.2)
    have h2 := length_putK kvs p.1 p.2
    show (mergeK (putK kvs p.1 p.2) r).length ≤ _
    rw [List.length_cons]; omega
theorem carries_of {P : Program} {w : World} : ∀ {kvs : List (Key × V)} {ws : List (Value × Value)}, VV (kvs.map fun kv => (kV kv.1, kv.2)) ws → ∃ rs, Carries (mixKind P w) ws rs ∧ KV kvs rs
  | [], _, r => by rw [List.map_nil] at r; cases r; exact ⟨[], True.intro, .nil⟩
  | p :: kvs, _, r => by
    rw [List.map_cons] at r
    cases r with
    | @cons a b as bs h t =>
      obtain ⟨rs, c, q⟩ := carries_of (P := P) (w := w) t
      obtain ⟨b1, b2⟩ := b
      exact ⟨(p.1, b2) :: rs, ⟨kV_is h.1, rfl, c⟩, .cons ⟨rfl, h.2⟩ q⟩
def tDisp (trs : List (TE × TE)) : TE := fun σ H Q => ∀ p, H p = none → tPairs trs σ (upd H p (.dK [])) fun ps H2 => H2 p = some (.dK []) ∧ ∃ kvs : List (Key × V), ps = kvs.map (fun kv => (kV kv.1, kv.2)) ∧ kvs.length ≤ 15 ∧ Q (.ref p) (upd H2 p (.dK (mergeK [] kvs)))
theorem pe_disp {X : Cx} {pos : Pos} {keys : List (Option Expr)} {values : List Expr} {trs : List (TE × TE)} (h : PPs X pos keys values trs) (hall : keys.all (·.isSome) = true) (hl : keys.length = values.length) (h0 : keys ≠ [])
    (h15 : keys.length ≤ 15) : PE X (.Dict keys values pos) (tDisp trs) := by
  intro pins s σ H Q I q
  have hn := I.hok.fresh (Nat.le_refl s.heap.objs.size)
  have I1 := I.laid (a := s.heap.objs.size) (o := .dK []) (h' := s.heap.push { cls := .type "dict", data := .dict #[] }) (t' := s.toks) (fun _ _ q => Heap.get?_push_of_some _ q) (Nat.le_refl _) (dk_empty s.heap I.big)
  refine wpAny_Dict_walk (knd := mixKind X.prog X.w) hall hl h0 h15 (thn (h pins _ σ _ _ I1 (q _ hn)) fun ws s2 ⟨ps, H2, I2, rel, e, kvs, ep, lk, q2⟩ => ?_)
  subst ep
  obtain ⟨rs, c, rk⟩ := carries_of (P := X.prog) (w := X.w) rel
  obtain ⟨z, hd, vs0, r0, dd⟩ := dk_of I2.hok e
  cases r0
  refine ⟨rs, c, dd, fun h' dd' hs => ⟨.ref s.heap.objs.size, _, ?_, rfl, q2⟩⟩
  have hz : (mergeK [] kvs).length ≤ sizeLine := by
    have h1 := length_mergeK kvs []
    rw [List.length_nil] at h1
    rw [sizeLine_eq]; omega
  have he : ∃ q, h'.get? s.heap.objs.size = some q := let ⟨q, _, _, hq, _⟩ := dd'; ⟨q, hq⟩
  exact d_write I2 (by rw [e]; exact True.intro) hs he (dk_new hz hd (rk.merge .nil) dd')
structure M1 (X : Cx) (o : Expr) (m : Str) (apos : Pos) (e : Expr) (cpos : Pos) : Prop where
  base : attributeBase o m X.env (eval o X.env) = eval o X.env
  few : ((backTo cpos (starEach [e] X.env)).all (fun x => !x.1) && (backToKw cpos (keywordEach [] X.env)).all (fun x => x.1.isSome)
    && decide (([e] : List Expr).length + ([] : List Keyword).length + (if ([] : List Keyword).isEmpty then 0 else 1) < 30)) = true
  line : (apos.endLine == cpos.line) = true
  trees : backTo cpos (starEach [e] X.env) = [(false, eval e X.env)]
structure M2 (X : Cx) (o : Expr) (m : Str) (apos : Pos) (e f : Expr) (cpos : Pos) : Prop where
  base : attributeBase o m X.env (eval o X.env) = eval o X.env
  few : ((backTo cpos (starEach [e, f] X.env)).all (fun x => !x.1) && (backToKw cpos (keywordEach [] X.env)).all (fun x => x.1.isSome)
    && decide (([e, f] : List Expr).length + ([] : List Keyword).length + (if ([] : List Keyword).isEmpty then 0 else 1) < 30)) = true
  line : (apos.endLine == cpos.line) = true
  trees : backTo cpos (starEach [e, f] X.env) = [(false, eval e X.env), (false, eval f X.env)]
def IsD (H : Hp) (a : Addr) : Prop := (∃ kvs, Rd H a (.dK kvs)) ∨ ∃ kvs, Rd H a (.dT kvs)
theorem isD_at {X : Cx} {pins : List (Addr × Obj)} {σ : St} {H : Hp} {s : Shared} {a : Addr} (I : Inv X pins σ H s) (d : IsD H a) :
    s.TypeIs (.ref a) "dict" ∧ (∀ b, Value.ref a = .ref b → ∃ ob, s.heap.get? b = some ob ∧ ob.dict = none) ∧ (a == sysModules) = false := by
  rcases d with ⟨kvs, e⟩ | ⟨kvs, e⟩
  · obtain ⟨_, hd, vs, _, dd⟩ := dk_rd I.hok e
    refine ⟨dd.typeIs, fun b q => ?_, hd⟩
    cases q
    obtain ⟨ob, _, _, h1, h2, _⟩ := dd
    exact ⟨ob, h1, h2.2.1⟩
  · obtain ⟨_, hd, xs, _, dd⟩ := dt_rd I.hok e
    refine ⟨dd.typeIs, fun b q => ?_, hd⟩
    cases q
    obtain ⟨ob, _, _, h1, h2, _⟩ := dd
    exact ⟨ob, h1, h2.2.1⟩
section
variable {X : Cx} {pins : List (Addr × Obj)} {σ : St} {H : Hp} {s : Shared} {a : Addr} {y d : V} {u r : Value} {o : Option V} {A : Around} {E : Value → Shared → Prop}
theorem d_get2 {Q : Value → Shared → Prop} (hu : A.units + 1 < cLine) (I : Inv X pins σ H s) (g : DGet H a y o) (ry : RelV y u) (rd : RelV d r) (h : ∀ w' s', Inv X pins σ H s' → RelV (o.getD d) w' → Q w' s') :
    wpAny (model X.prog X.w) A (call (.builtin "dict.get") [.ref a, u, r]) Q E s := by
  rcases g with ⟨kvs, k, e, ey, l⟩ | ⟨kvs, k, b, e, ey, eb, l⟩
  · subst ey
    obtain ⟨z, hd, vs, rel, dd⟩ := dk_rd I.hok e
    refine call_meetsIn PySem.F.slot_dict_get dd.typeIs PySem.F.entry_dict_get (PySem.F.args_dict_get_3 _ _ _) (meets_dict_get_default (mixKind X.prog X.w) a (kV_is ry) hd r) ⟨_, dd.mapOf, h _ _ (I.tok _) ?_⟩
    rw [l]
    exact (rel.val k).getD rd
  · subst ey
    cases (show u = Value.ref b from ry)
    obtain ⟨z, hd, xs, rel, dd⟩ := dt_rd I.hok e
    refine call_meetsIn PySem.F.slot_dict_get dd.typeIs PySem.F.entry_dict_get (PySem.F.args_dict_get_3 _ _ _) (meetsH_dict_get_default (tupleKind (mixKind X.prog X.w)) a b hd r) ⟨tupleKind_room_in1 hu, k, xs, key_of I.hok eb, dd, h _ _ (I.tok _) ?_⟩
    rw [l]
    exact (rel.val k).getD rd
end
def tDGet2 (td ty tx : TE) : TE := fun σ H Q => td σ H fun x H1 => ∃ a, x = .ref a ∧ IsD H1 a ∧ ty σ H1 fun y H2 => tx σ H2 fun z H3 => ∃ o, DGet H3 a y o ∧ Q (o.getD z) H3
section
variable {X : Cx} {o e f : Expr} {apos cpos : Pos} {td ty tx : TE}
theorem pe_dget2 (hu : X.A.units + 1 < cLine) (ho : PE X o td) (he : PE X e ty) (hf : PE X f tx) (m : M2 X o "get" apos e f cpos) : PE X (.Call (.Attribute o "get" apos) [e, f] [] cpos) (tDGet2 td ty tx) := by
  intro pins s σ H Q I h
  refine wpAny_Call_method m.base m.few m.line PySem.F.plainAttrs_dict PySem.F.slot_dict_get PySem.F.type_dict_get (thn (ho pins s σ H _ I h) fun u s1 ⟨x, H1, I1, rx, a, ex, d, q1⟩ => ?_)
  subst ex
  obtain rfl : u = Value.ref a := rx
  obtain ⟨t1, t2, _⟩ := isD_at I1 d
  refine ⟨t1, t2, ?_⟩
  rw [m.trees]
  refine Calls.callWith_builtin rfl (Calls.evalArgs_plain (Calls.spliced_cons (thn (he pins s1 σ H1 _ I1 q1) fun iv s2 ⟨y, H2, I2, ry, q2⟩ =>
    Calls.spliced_cons (thn (hf pins s2 σ H2 _ I2 q2) fun fv s3 ⟨z, H3, I3, rz, ov, g, q3⟩ => Calls.spliced_nil ?_))))
  exact d_get2 hu I3 g ry rz fun w' s4 I4 rw' => ⟨_, H3, I4, rw', q3⟩
end
section
variable {X : Cx} {pins : List (Addr × Obj)} {σ : St} {H : Hp} {s : Shared} {a : Addr} {kvs : List (Key × V)} {A : Around} {E : Value → Shared → Prop}
end
section
variable {X : Cx} {pins : List (Addr × Obj)} {σ : St} {H : Hp} {s : Shared} {a : Addr} {y : V} {u : Value} {A : Around} {E : Value → Shared → Prop}
end
end L2
set_option maxHeartbeats 4000000
namespace Nm
open PySem L2 Lw Dig
def roomW (w : Str) : Int := ((valV (mergeK [] [(Sum.inr (Str.ofString "order"), V.int 1), (Sum.inr (Str.ofString "case"), V.int 2), (Sum.inr (Str.ofString "mark"), V.int 3)]) (Sum.inr w)).getD (V.int 1)) |> fun v => match v with | .int i => i | _ => 1
def room (ws : List Str) : Int := (ws.map roomW).sum
theorem room_is (w : Str) : (valV (mergeK [] [(Sum.inr (Str.ofString "order"), V.int 1), (Sum.inr (Str.ofString "case"), V.int 2), (Sum.inr (Str.ofString "mark"), V.int 3)]) (Sum.inr w)).getD (V.int 1) = V.int (roomW w) := by
  have e : mergeK [] [((Sum.inr (Str.ofString "order") : Key), V.int 1), (Sum.inr (Str.ofString "case"), V.int 2), (Sum.inr (Str.ofString "mark"), V.int 3)] = [(Sum.inr (Str.ofString "order"), V.int 1), (Sum.inr (Str.ofString "case"), V.int 2), (Sum.inr (Str.ofString "mark"), V.int 3)] := by rfl
  unfold roomW
  rw [e]
  unfold valV
  by_cases h1 : Str.ofString "order" = w
  · subst h1; simp
  · by_cases h2 : Str.ofString "case" = w
    · subst h2; simp [h1]
    · by_cases h3 : Str.ofString "mark" = w
      · subst h3; simp [h1, h2]
      · simp [h1, h2, h3]
def spRoom (K : PySem.W.Frag) : Sp := fun vs H Q _ => ∃ (p : Addr) (ws : List Str), vs = [.ref p] ∧ H p = some (.lst (ws.map V.str)) ∧ ws.length ≤ 1000 ∧ ∀ H', Same H H' → Q (.int (room ws)) H'
structure NumAt (H : Hp) (p : Addr) (b : Int × Int) : Prop where
  tup : H p = some (.tup [.int b.1, .int b.2])
  pos : 1 ≤ b.2
  gcd : Int.gcd b.1 b.2 = 1
  s1 : b.1.natAbs < 10 ^ 20
  s2 : b.2.natAbs ≤ 10 ^ 20
theorem NumAt.kept {d c p : Addr} {b : Int × Int} {H H' : Hp} (n : NumAt H p b) (D : DeckAt H d c) (k : KeptBut d c H H') : NumAt H' p b := by
  obtain ⟨i, ns, h1, h2, _⟩ := D.ex
  exact ⟨k _ _ n.tup (ne_of n.tup h1 (by intro z; cases z)) (ne_of n.tup h2 (by intro z; cases z)), n.pos, n.gcd, n.s1, n.s2⟩
theorem NumAt.same {p : Addr} {b : Int × Int} {H H' : Hp} (n : NumAt H p b) (k : Same H H') : NumAt H' p b := ⟨k _ _ n.tup, n.pos, n.gcd, n.s1, n.s2⟩
def spNumbers : Sp := fun vs H Q _ => ∃ (d c : Addr), vs = [.ref d] ∧ DeckAt H d c ∧
  ∀ (ps : List Addr) (l : Addr) (H' : Hp), 1 ≤ ps.length → ps.length ≤ 4 → (∀ p ∈ ps, ∃ b, NumAt H' p b) → H l = none → H' l = some (.lst (ps.map V.ref)) → DeckAt H' d c → KeptBut d c H H' → Q (.ref l) H'
def OptsAt (H : Hp) : List Addr → List (List Str) → Prop
  | [], [] => True
  | a :: as, o :: os => H a = some (.lst (o.map V.str)) ∧ OptsAt H as os
  | _, _ => False
theorem OptsAt.same {H H' : Hp} (s : Same H H') : ∀ {as : List Addr} {os : List (List Str)}, OptsAt H as os → OptsAt H' as os
  | [], [], _ => True.intro
  | _ :: _, _ :: _, h => ⟨s _ _ h.1, h.2.same s⟩
end Nm
set_option maxHeartbeats 4000000
namespace L2
open PySem PySem.Spec PyProof.Rows
mutual
def Dat (K : PySem.W.Frag) (G : Hp) : V → PyData → Prop
  | v, .none => v = .non
  | v, .bool b => v = .bl b
  | v, .int i => v = .int i
  | v, .str x => v = .str x
  | v, .list ds => ∃ p xs, v = .ref p ∧ G p = some (.lst xs) ∧ Dats K G xs ds
  | v, .tuple ds => ∃ p xs, v = .ref p ∧ SqT K G p xs ∧ Dats K G xs ds
  | _, .dict _ => False
def Dats (K : PySem.W.Frag) (G : Hp) : List V → List PyData → Prop
  | xs, [] => xs = []
  | xs, d :: ds => ∃ y ys, xs = y :: ys ∧ Dat K G y d ∧ Dats K G ys ds
end
theorem Same.tup {K : PySem.W.Frag} {H H' : Hp} {a : Addr} {xs : List V} (e : Same H H') (h : SqT K H a xs) : SqT K H' a xs := by
  rcases h with (h | ⟨o, h⟩) | h
  · exact .inl (.inl (e _ _ h))
  · exact .inl (.inr ⟨o, e _ _ h⟩)
  · exact .inr h
section
variable {K : PySem.W.Frag} {G G' : Hp}
theorem dat_int (i : Int) : Dat K G (.int i) (.int i) := by unfold Dat; rfl
theorem dat_str (x : Str) : Dat K G (.str x) (.str x) := by unfold Dat; rfl
theorem dat_bl (b : Bool) : Dat K G (.bl b) (.bool b) := by unfold Dat; rfl
theorem dat_non : Dat K G .non .none := by unfold Dat; rfl
theorem dat_tup {p : Addr} {xs : List V} {ds : List PyData} (h : SqT K G p xs) (r : Dats K G xs ds) : Dat K G (.ref p) (.tuple ds) := by unfold Dat; exact ⟨p, xs, rfl, h, r⟩
theorem dat_lst {p : Addr} {xs : List V} {ds : List PyData} (h : G p = some (.lst xs)) (r : Dats K G xs ds) : Dat K G (.ref p) (.list ds) := by unfold Dat; exact ⟨p, xs, rfl, h, r⟩
theorem dats_nil : Dats K G [] [] := by unfold Dats; rfl
theorem dats_cons {x : V} {xs : List V} {d : PyData} {ds : List PyData} (h : Dat K G x d) (r : Dats K G xs ds) : Dats K G (x :: xs) (d :: ds) := by
  unfold Dats; exact ⟨x, xs, rfl, h, r⟩
theorem Dat.int {v : V} {i : Int} (h : Dat K G v (.int i)) : v = .int i := by unfold Dat at h; exact h
theorem Dat.str {v : V} {x : Str} (h : Dat K G v (.str x)) : v = .str x := by unfold Dat at h; exact h
theorem Dat.bl {v : V} {x : Bool} (h : Dat K G v (.bool x)) : v = .bl x := by unfold Dat at h; exact h
theorem Dat.non {v : V} (h : Dat K G v .none) : v = .non := by unfold Dat at h; exact h
theorem Dat.tup {v : V} {ds : List PyData} (h : Dat K G v (.tuple ds)) : ∃ p xs, v = .ref p ∧ SqT K G p xs ∧ Dats K G xs ds := by unfold Dat at h; exact h
theorem Dat.lst {v : V} {ds : List PyData} (h : Dat K G v (.list ds)) : ∃ p xs, v = .ref p ∧ G p = some (.lst xs) ∧ Dats K G xs ds := by unfold Dat at h; exact h
theorem Dats.nil {xs : List V} (h : Dats K G xs []) : xs = [] := by unfold Dats at h; exact h
theorem Dats.cons {xs : List V} {d : PyData} {ds : List PyData} (h : Dats K G xs (d :: ds)) : ∃ y ys, xs = y :: ys ∧ Dat K G y d ∧ Dats K G ys ds := by unfold Dats at h; exact h
theorem Dats.length : ∀ {ds : List PyData} {xs : List V}, Dats K G xs ds → xs.length = ds.length
  | [], _, h => by rw [h.nil]; rfl
  | d :: ds, _, h => by
    obtain ⟨y, ys, rfl, _, r⟩ := h.cons
    show ys.length + 1 = ds.length + 1
    rw [r.length]
theorem Dats.get : ∀ {ds : List PyData} {xs : List V} {i : Nat} {d : PyData}, Dats K G xs ds → ds[i]? = some d → ∃ x, xs[i]? = some x ∧ Dat K G x d
  | [], _, _, _, _, e => by simp at e
  | d :: ds, _, 0, _, h, e => by
    obtain ⟨y, ys, rfl, hd, r⟩ := h.cons
    simp at e; subst e; exact ⟨y, rfl, hd⟩
  | d :: ds, _, i + 1, d', h, e => by
    obtain ⟨y, ys, rfl, hd, r⟩ := h.cons
    obtain ⟨x, h1, h2⟩ := Dats.get (i := i) (d := d') r (by simpa using e)
    exact ⟨x, by simpa using h1, h2⟩
theorem Dats.get' {ds : List PyData} {xs : List V} {i : Nat} {x : V} (h : Dats K G xs ds) (e : xs[i]? = some x) : ∃ d, ds[i]? = some d ∧ Dat K G x d := by
  have hl := h.length
  have hi : i < xs.length := (List.getElem?_eq_some_iff.mp e).1
  obtain ⟨y, h1, h2⟩ := h.get (List.getElem?_eq_getElem (show i < ds.length by omega))
  rw [e] at h1; cases h1
  exact ⟨_, List.getElem?_eq_getElem (by omega), h2⟩
theorem dats_append : ∀ {ds es : List PyData} {xs ys : List V}, Dats K G xs ds → Dats K G ys es → Dats K G (xs ++ ys) (ds ++ es)
  | [], _, _, _, h, r => by rw [h.nil]; exact r
  | d :: ds, _, _, _, h, r => by
    obtain ⟨y, ys, rfl, hd, r'⟩ := h.cons
    exact dats_cons hd (dats_append r' r)
theorem dats_snoc {ds : List PyData} {d : PyData} {xs : List V} {x : V} (h : Dats K G xs ds) (r : Dat K G x d) : Dats K G (xs ++ [x]) (ds ++ [d]) := dats_append h (dats_cons r dats_nil)
theorem dats_take : ∀ {ds : List PyData} {xs : List V} (n : Nat), Dats K G xs ds → Dats K G (xs.take n) (ds.take n)
  | _, _, 0, _ => dats_nil
  | [], _, n + 1, h => by rw [h.nil]; exact dats_nil
  | d :: ds, _, n + 1, h => by
    obtain ⟨y, ys, rfl, hd, r⟩ := h.cons
    exact dats_cons hd (dats_take n r)
theorem dats_drop : ∀ {ds : List PyData} {xs : List V} (n : Nat), Dats K G xs ds → Dats K G (xs.drop n) (ds.drop n)
  | _, _, 0, h => h
  | [], _, n + 1, h => by rw [h.nil]; exact dats_nil
  | d :: ds, _, n + 1, h => by
    obtain ⟨y, ys, rfl, hd, r⟩ := h.cons
    exact dats_drop n r
end
mutual
theorem Dat.same {K : PySem.W.Frag} {G G' : Hp} (e : Same G G') : ∀ {d : PyData} {v : V}, Dat K G v d → Dat K G' v d
  | .none, _, h => by rw [h.non]; exact dat_non
  | .bool b, _, h => by rw [h.bl]; exact dat_bl b
  | .int i, _, h => by rw [h.int]; exact dat_int i
  | .str x, _, h => by rw [h.str]; exact dat_str x
  | .list ds, _, h => by
    obtain ⟨p, xs, rfl, h1, h2⟩ := h.lst
    exact dat_lst (e _ _ h1) (Dats.same e h2)
  | .tuple ds, _, h => by
    obtain ⟨p, xs, rfl, h1, h2⟩ := h.tup
    exact dat_tup (e.tup h1) (Dats.same e h2)
  | .dict _, _, h => by unfold Dat at h; exact h.elim
theorem Dats.same {K : PySem.W.Frag} {G G' : Hp} (e : Same G G') : ∀ {ds : List PyData} {xs : List V}, Dats K G xs ds → Dats K G' xs ds
  | [], _, h => by rw [h.nil]; exact dats_nil
  | d :: ds, _, h => by
    obtain ⟨y, ys, rfl, hd, r⟩ := h.cons
    exact dats_cons (Dat.same e hd) (Dats.same e r)
end
section
variable {X : Cx} {pins : List (Addr × Obj)} {σ : St} {H G : Hp} {s : Shared}
mutual
theorem Dat.reads (I : Inv X pins σ H s) (e : Same G H) : ∀ {d : PyData} {v : V} {u : Value}, Dat X.K G v d → RelV v u → ∃ as, Reads s.heap u d as
  | .none, _, u, h, r => by
    rw [h.non] at r
    cases (show u = Value.none from r)
    exact ⟨_, .none⟩
  | .bool b, _, u, h, r => by
    rw [h.bl] at r
    cases (show u = Value.bool b from r)
    exact ⟨_, .bool b⟩
  | .int i, _, u, h, r => by
    rw [h.int] at r
    obtain ⟨t, q⟩ := (show ∃ t, u = Value.int i t from r)
    subst q
    exact ⟨_, .int i t⟩
  | .str x, _, u, h, r => by
    rw [h.str] at r
    obtain ⟨t, q⟩ := (show ∃ t, u = Value.str x t from r)
    subst q
    exact ⟨_, .str x t⟩
  | .list ds, _, u, h, r => by
    obtain ⟨p, xs, rfl, h1, h2⟩ := h.lst
    cases (show u = Value.ref p from r)
    obtain ⟨its, rv, ⟨o, n, e1, c, _, d1⟩, _⟩ := I.list (SqL.of (e _ _ h1))
    obtain ⟨as, ra⟩ := Dats.reads I e h2 rv
    exact ⟨_, Reads.list e1 c d1 (by simpa using ra)⟩
  | .tuple ds, _, u, h, r => by
    obtain ⟨p, xs, rfl, h1, h2⟩ := h.tup
    cases (show u = Value.ref p from r)
    obtain ⟨its, rv, ⟨o, e1, c, n, d1⟩, _⟩ := I.tuple (e.tup h1)
    obtain ⟨as, ra⟩ := Dats.reads I e h2 rv
    exact ⟨_, Reads.tuple e1 c d1 (by simpa using ra)⟩
  | .dict _, _, _, h, _ => by unfold Dat at h; exact h.elim
theorem Dats.reads (I : Inv X pins σ H s) (e : Same G H) : ∀ {ds : List PyData} {xs : List V} {us : List Value}, Dats X.K G xs ds → Vals xs us → ∃ as, ReadsAll s.heap us ds as
  | [], _, us, h, r => by
    rw [h.nil] at r
    cases r
    exact ⟨_, .nil⟩
  | d :: ds, _, us, h, r => by
    obtain ⟨y, ys, rfl, hd, hr⟩ := h.cons
    cases r with
    | cons r1 r2 =>
      obtain ⟨as, ra⟩ := Dat.reads I e hd r1
      obtain ⟨bs, rb⟩ := Dats.reads I e hr r2
      exact ⟨_, .cons ra rb⟩
end
end
mutual
def noBool : PyData → Bool
  | .bool _ => false
  | .dict _ => false
  | .list xs => noBools xs
  | .tuple xs => noBools xs
  | .none | .int _ | .str _ => true
def noBools : List PyData → Bool
  | [] => true
  | x :: xs => noBool x && noBools xs
end
mutual
theorem noMix_of : ∀ a b : PyData, noBool a = true → noBool b = true → SeqAt.noMix a b = true
  | .list xs, .list ys, h, k => by rw [SeqAt.noMix]; exact noMixs_of xs ys (by simpa [noBool] using h) (by simpa [noBool] using k)
  | .tuple xs, .tuple ys, h, k => by rw [SeqAt.noMix]; exact noMixs_of xs ys (by simpa [noBool] using h) (by simpa [noBool] using k)
  | .bool _, _, h, _ => by simp [noBool] at h
  | .dict _, _, h, _ => by simp [noBool] at h
  | .none, .bool _, _, k | .int _, .bool _, _, k | .str _, .bool _, _, k | .list _, .bool _, _, k | .tuple _, .bool _, _, k => by simp [noBool] at k
  | .none, .dict _, _, k | .int _, .dict _, _, k | .str _, .dict _, _, k | .list _, .dict _, _, k | .tuple _, .dict _, _, k => by simp [noBool] at k
  | .none, .none, _, _ | .none, .int _, _, _ | .none, .str _, _, _ | .none, .list _, _, _ | .none, .tuple _, _, _ => by simp [SeqAt.noMix]
  | .int _, .none, _, _ | .int _, .int _, _, _ | .int _, .str _, _, _ | .int _, .list _, _, _ | .int _, .tuple _, _, _ => by simp [SeqAt.noMix]
  | .str _, .none, _, _ | .str _, .int _, _, _ | .str _, .str _, _, _ | .str _, .list _, _, _ | .str _, .tuple _, _, _ => by simp [SeqAt.noMix]
  | .list _, .none, _, _ | .list _, .int _, _, _ | .list _, .str _, _, _ | .list _, .tuple _, _, _ => by simp [SeqAt.noMix]
  | .tuple _, .none, _, _ | .tuple _, .int _, _, _ | .tuple _, .str _, _, _ | .tuple _, .list _, _, _ => by simp [SeqAt.noMix]
theorem noMixs_of : ∀ a b : List PyData, noBools a = true → noBools b = true → SeqAt.noMixAll a b = true
  | [], [], _, _ | [], _ :: _, _, _ | _ :: _, [], _, _ => by simp [SeqAt.noMixAll]
  | x :: xs, y :: ys, h, k => by
    have h' : noBool x = true ∧ noBools xs = true := by simpa [noBools] using h
    have k' : noBool y = true ∧ noBools ys = true := by simpa [noBools] using k
    rw [SeqAt.noMixAll, noMix_of x y h'.1 k'.1, noMixs_of xs ys h'.2 k'.2]; rfl
end
structure Pl (n : Nat) (d : PyData) : Prop where
  lay : d.canLay0 = true
  dep : d.depth ≤ n
  nb : noBool d = true
theorem Pl.mono {n m : Nat} {d : PyData} (h : Pl n d) (k : n ≤ m) : Pl m d := ⟨h.lay, Nat.le_trans h.dep k, h.nb⟩
theorem Pl.shaped {n : Nat} {d : PyData} (h : Pl n d) (k : n ≤ 64) : SeqAt.shaped d = true := by
  show (PyData.canLay0 d && decide (PyData.depth d ≤ 64)) = true
  rw [Bool.and_eq_true]
  exact ⟨h.lay, decide_eq_true (Nat.le_trans h.dep k)⟩
theorem Pl.mix {n : Nat} {a b : PyData} (h : Pl n a) (k : Pl n b) : SeqAt.noMix a b = true := noMix_of a b h.nb k.nb
mutual
theorem same_eq : ∀ {a b : PyData}, PySem.Spec.same a b = true → a = b
  | .none, b, h => by cases b <;> first | rfl | simp [PySem.Spec.same] at h
  | .bool x, b, h => by cases b <;> simp [PySem.Spec.same] at h <;> rw [h]
  | .int x, b, h => by cases b <;> simp [PySem.Spec.same] at h <;> rw [h]
  | .str x, b, h => by cases b <;> simp [PySem.Spec.same] at h <;> rw [h]
  | .list x, b, h => by
    cases b <;> simp [PySem.Spec.same] at h
    rw [sameAll_eq h]
  | .tuple x, b, h => by
    cases b <;> simp [PySem.Spec.same] at h
    rw [sameAll_eq h]
  | .dict x, b, h => by
    cases b <;> simp [PySem.Spec.same] at h
    rw [samePairs_eq h]
theorem sameAll_eq : ∀ {a b : List PyData}, PySem.Spec.sameAll a b = true → a = b
  | [], [], _ => rfl
  | [], _ :: _, h => by simp [PySem.Spec.sameAll] at h
  | _ :: _, [], h => by simp [PySem.Spec.sameAll] at h
  | x :: xs, y :: ys, h => by
    have h' : PySem.Spec.same x y = true ∧ PySem.Spec.sameAll xs ys = true := by simpa [PySem.Spec.sameAll] using h
    rw [same_eq h'.1, sameAll_eq h'.2]
theorem samePairs_eq : ∀ {a b : List (PyData × PyData)}, PySem.Spec.samePairs a b = true → a = b
  | [], [], _ => rfl
  | [], _ :: _, h => by simp [PySem.Spec.samePairs] at h
  | _ :: _, [], h => by simp [PySem.Spec.samePairs] at h
  | (x, z) :: xs, (y, w) :: ys, h => by
    have h' : (PySem.Spec.same x y = true ∧ PySem.Spec.same z w = true) ∧ PySem.Spec.samePairs xs ys = true := by simpa [PySem.Spec.samePairs] using h
    rw [same_eq h'.1.1, same_eq h'.1.2, samePairs_eq h'.2]
end
theorem same_ne {a b : PyData} (h : a ≠ b) : PySem.Spec.same a b = false := by
  cases e : PySem.Spec.same a b with
  | false => rfl
  | true => exact absurd (same_eq e) h
section
variable {X : Cx}
def rEqD (K : PySem.W.Frag) (g : Bool → Bool) : R2 := fun x y H Q => ∃ (G : Hp) (a b : PyData), Same G H ∧ Dat K G x a ∧ Dat K G y b ∧ (SeqAt.shaped a = true ∧ SeqAt.shaped b = true ∧ SeqAt.noMix a b = true) ∧ Q (.bl (g (PySem.Spec.same a b))) H
theorem op_eqD (hu : X.A.units + 64 < cLine) : OpR X (compareOp .Eq) (rEqD X.K fun b => b) := by
  intro pins s σ H x y v u Q I rx ry h
  obtain ⟨G, a, b, e, ha, hb, ⟨sa, sb, nm⟩, q⟩ := h
  obtain ⟨as, ra⟩ := Dat.reads I e ha rx
  obtain ⟨bs, rb⟩ := Dat.reads I e hb ry
  exact eq_dataH_same ra rb sa sb hu nm ⟨.bl (PySem.Spec.same a b), H, I, rfl, q⟩
theorem op_neD (hu : X.A.units + 64 < cLine) : OpR X (compareOp .NotEq) (rEqD X.K fun b => !b) := by
  intro pins s σ H x y v u Q I rx ry h
  obtain ⟨G, a, b, e, ha, hb, ⟨sa, sb, nm⟩, q⟩ := h
  obtain ⟨as, ra⟩ := Dat.reads I e ha rx
  obtain ⟨bs, rb⟩ := Dat.reads I e hb ry
  exact ne_dataH_same ra rb sa sb hu nm ⟨.bl (!PySem.Spec.same a b), H, I, rfl, q⟩
end
theorem pl_int (i : Int) {n : Nat} : Pl n (.int i) := ⟨by unfold PyData.canLay0; rfl, by unfold PyData.depth; omega, by unfold noBool; rfl⟩
theorem canLayAll0_of : ∀ {ds : List PyData}, (∀ d ∈ ds, d.canLay0 = true) → PyData.canLayAll0 ds = true
  | [], _ => rfl
  | d :: ds, h => by
    unfold PyData.canLayAll0
    rw [h d (by simp), canLayAll0_of fun e he => h e (by simp [he])]; rfl
theorem depthAll_of : ∀ {ds : List PyData} {n : Nat}, (∀ d ∈ ds, d.depth ≤ n) → PyData.depthAll ds ≤ n
  | [], _, _ => by unfold PyData.depthAll; omega
  | d :: ds, n, h => by
    have h1 := h d (by simp)
    have h2 := depthAll_of (ds := ds) (n := n) fun e he => h e (by simp [he])
    unfold PyData.depthAll
    omega
theorem noBools_of : ∀ {ds : List PyData}, (∀ d ∈ ds, noBool d = true) → noBools ds = true
  | [], _ => rfl
  | d :: ds, h => by
    unfold noBools
    rw [h d (by simp), noBools_of fun e he => h e (by simp [he])]; rfl
theorem pl_tup {n : Nat} {ds : List PyData} (h : ∀ d ∈ ds, Pl n d) : Pl (n + 1) (.tuple ds) := by
  refine ⟨?_, ?_, ?_⟩
  · unfold PyData.canLay0; exact canLayAll0_of fun d hd => (h d hd).lay
  · have := depthAll_of fun d hd => (h d hd).dep
    unfold PyData.depth; omega
  · unfold noBool; exact noBools_of fun d hd => (h d hd).nb
theorem pl_lst {n : Nat} {ds : List PyData} (h : ∀ d ∈ ds, Pl n d) : Pl (n + 1) (.list ds) := by
  refine ⟨?_, ?_, ?_⟩
  · unfold PyData.canLay0; exact canLayAll0_of fun d hd => (h d hd).lay
  · have := depthAll_of fun d hd => (h d hd).dep
    unfold PyData.depth; omega
  · unfold noBool; exact noBools_of fun d hd => (h d hd).nb
end L2
set_option maxHeartbeats 4000000
namespace L2
open PySem PySem.Spec PyProof.Rows
structure Grow (G H G' H' : Hp) : Prop where
  gg : Same G G'
  gh : Same G' H'
  hh : Same H H'
  fr : ∀ b o, G' b = some o → G b = some o ∨ H b = none
theorem Grow.refl {G H : Hp} (s : Same G H) : Grow G H G H := ⟨Same.refl _, s, Same.refl _, fun _ _ h => .inl h⟩
theorem Grow.trans {G H G1 H1 G2 H2 : Hp} (a : Grow G H G1 H1) (b : Grow G1 H1 G2 H2) : Grow G H G2 H2 :=
  ⟨a.gg.trans b.gg, b.gh, a.hh.trans b.hh, fun x o h => by
    rcases b.fr x o h with h | h
    · exact a.fr x o h
    · exact .inr (a.hh.free h)⟩
theorem grow_new {G H : Hp} {p : Addr} {o : HO} (s : Same G H) (hp : H p = none) : Grow G H (upd G p o) (upd H p o) := by
  have hg : G p = none := s.free hp
  refine ⟨fun b u e => ?_, fun b u e => ?_, fun b u e => ?_, fun b u e => ?_⟩
  · rw [upd_ne (ne_of_none e hg)]; exact e
  · by_cases h : b = p
    · subst h; rw [upd_same] at e ⊢; exact e
    · rw [upd_ne h] at e ⊢; exact s b u e
  · rw [upd_ne (ne_of_none e hp)]; exact e
  · by_cases h : b = p
    · subst h; exact .inr hp
    · rw [upd_ne h] at e; exact .inl e
theorem grow_h {G H H' : Hp} (s : Same G H) (h : Same H H') : Grow G H G H' := ⟨Same.refl _, s.trans h, h, fun _ _ e => .inl e⟩
theorem Grow.out {G H G' H' : Hp} (a : Grow G H G' H') {p : Addr} {o : HO} (hp : H p = some o) (hg : G p = none) : G' p = none := by
  cases e : G' p with
  | none => rfl
  | some u =>
    rcases a.fr p u e with h | h
    · rw [hg] at h; cases h
    · rw [hp] at h; cases h
def Ev (K : PySem.W.Frag) (t : TE) (σ : St) (G : Hp) (d : PyData) : Prop :=
  ∀ G1 H, Same G G1 → Same G1 H → ∀ Q : VK, (∀ v G' H', Grow G1 H G' H' → Dat K G' v d → Q v H') → t σ H Q
def EvT (t : TT) (σ : St) (G : Hp) (b : Bool) : Prop :=
  ∀ G1 H, Same G G1 → Same G1 H → ∀ Q : Bool → Hp → Prop, (∀ G' H', Grow G1 H G' H' → Q b H') → t σ H Q
def EvA (K : PySem.W.Frag) (t : TA) (σ : St) (G : Hp) (ds : List PyData) : Prop :=
  ∀ G1 H, Same G G1 → Same G1 H → ∀ Q : List V → Hp → Prop, (∀ vs G' H', Grow G1 H G' H' → Dats K G' vs ds → Q vs H') → t σ H Q
section
variable {K : PySem.W.Frag} {σ : St} {G : Hp} {ta tb tc : TE} {a b d : PyData}
theorem Ev.mono {t : TE} {G' : Hp} (h : Ev K t σ G d) (s : Same G G') : Ev K t σ G' d := fun G1 H s1 s2 Q k => h G1 H (s.trans s1) s2 Q k
theorem Ev.use {t : TE} {H : Hp} {Q : VK} (h : Ev K t σ G d) (s : Same G H) (k : ∀ v G' H', Grow G H G' H' → Dat K G' v d → Q v H') : t σ H Q := h G H (Same.refl _) s Q k
theorem EvT.use {t : TT} {c : Bool} {H : Hp} {Q : Bool → Hp → Prop} (h : EvT t σ G c) (s : Same G H) (k : ∀ G' H', Grow G H G' H' → Q c H') : t σ H Q := h G H (Same.refl _) s Q k
theorem ev_var {i : Nat} {v : V} (h : σ[i]? = some (some v)) (hd : Dat K G v d) : Ev K (tVar i) σ G d := fun G1 H s1 s2 Q k => ⟨v, h, k v G1 H (Grow.refl s2) (hd.same s1)⟩
theorem ev_c {v : V} (hd : Dat K G v d) : Ev K (tC v) σ G d := fun G1 H s1 s2 Q k => k v G1 H (Grow.refl s2) (hd.same s1)
theorem ev_int {i : Int} : Ev K (tC (.int i)) σ G (.int i) := ev_c (dat_int i)
theorem ev_str {x : Str} : Ev K (tC (.str x)) σ G (.str x) := ev_c (dat_str x)
theorem ev_op {r : R2} (ha : Ev K ta σ G a) (hb : Ev K tb σ G b) (hr : ∀ G1 H x y (Q : VK), Same G G1 → Same G1 H → Dat K G1 x a → Dat K G1 y b → (∀ v G' H', Grow G1 H G' H' → Dat K G' v d → Q v H') → r x y H Q) : Ev K (tOp r ta tb) σ G d :=
  fun G1 H s1 s2 Q k => ha G1 H s1 s2 _ fun x G2 H2 g2 hx => hb G2 H2 (s1.trans g2.gg) g2.gh _ fun y G3 H3 g3 hy =>
    hr G3 H3 x y Q ((s1.trans g2.gg).trans g3.gg) g3.gh (hx.same g3.gg) hy fun v G' H' g hv => k v G' H' ((g2.trans g3).trans g) hv
theorem ev_i0 {g : Int → Int → V} {i j : Int} (ha : Ev K ta σ G (.int i)) (hb : Ev K tb σ G (.int j)) (hg : Dat K G (g i j) d) : Ev K (tOp (rI0 g) ta tb) σ G d :=
  ev_op ha hb fun G1 H x y Q s1 s2 hx hy k => by
    rw [hx.int, hy.int]
    exact ⟨i, j, rfl, rfl, k _ G1 H (Grow.refl s2) (hg.same s1)⟩
theorem ev_iC {C : Int → Int → Prop} {g : Int → Int → V} {i j : Int} (ha : Ev K ta σ G (.int i)) (hb : Ev K tb σ G (.int j)) (hc : C i j) (hg : Dat K G (g i j) d) : Ev K (tOp (rI C g) ta tb) σ G d :=
  ev_op ha hb fun G1 H x y Q s1 s2 hx hy k => by
    rw [hx.int, hy.int]
    exact ⟨i, j, rfl, rfl, hc, k _ G1 H (Grow.refl s2) (hg.same s1)⟩
theorem ev_ixT {ds : List PyData} {i : Int} {n : Nat} (ha : Ev K ta σ G (.tuple ds)) (hb : Ev K tb σ G (.int i)) (hn : ixN ds.length i = some n) (hd : ds[n]? = some d) : Ev K (tOp (rIxT K) ta tb) σ G d :=
  ev_op ha hb fun G1 H x y Q s1 s2 hx hy k => by
    obtain ⟨p, xs, rfl, hp, hxs⟩ := hx.tup
    obtain ⟨z, hz, hzd⟩ := hxs.get hd
    rw [hy.int]
    exact ⟨p, xs, i, z, rfl, rfl, s2.tup hp, by unfold atI; rw [hxs.length, hn]; exact hz, k z G1 H (Grow.refl s2) hzd⟩
theorem ev_ixL {ds : List PyData} {i : Int} {n : Nat} (ha : Ev K ta σ G (.list ds)) (hb : Ev K tb σ G (.int i)) (hn : ixN ds.length i = some n) (hd : ds[n]? = some d) : Ev K (tOp (rIxL K) ta tb) σ G d :=
  ev_op ha hb fun G1 H x y Q s1 s2 hx hy k => by
    obtain ⟨p, xs, rfl, hp, hxs⟩ := hx.lst
    obtain ⟨z, hz, hzd⟩ := hxs.get hd
    rw [hy.int]
    exact ⟨p, xs, i, z, rfl, rfl, SqL.of (s2 _ _ hp), by unfold atI; rw [hxs.length, hn]; exact hz, k z G1 H (Grow.refl s2) hzd⟩
theorem ev_eqD {g : Bool → Bool} {n : Nat} (ha : Ev K ta σ G a) (hb : Ev K tb σ G b) (pa : Pl n a) (pb : Pl n b) (hn : n ≤ 64) : Ev K (tOp (rEqD K g) ta tb) σ G (.bool (g (PySem.Spec.same a b))) :=
  ev_op ha hb fun G1 H x y Q s1 s2 hx hy k => ⟨G1, a, b, s2, hx, hy, ⟨pa.shaped hn, pb.shaped hn, pa.mix pb⟩, k _ G1 H (Grow.refl s2) (dat_bl _)⟩
theorem eva_nil : EvA K tNil σ G [] := fun G1 H s1 s2 Q k => k [] G1 H (Grow.refl s2) dats_nil
theorem eva_cons {t : TA} {ds : List PyData} (ha : Ev K ta σ G a) (hb : EvA K t σ G ds) : EvA K (tCons ta t) σ G (a :: ds) :=
  fun G1 H s1 s2 Q k => ha G1 H s1 s2 _ fun x G2 H2 g2 hx => hb G2 H2 (s1.trans g2.gg) g2.gh _ fun ys G3 H3 g3 hy => k (x :: ys) G3 H3 (g2.trans g3) (dats_cons (hx.same g3.gg) hy)
theorem ev_tup {t : TA} {ds : List PyData} (h : EvA K t σ G ds) (hl : ds.length ≤ sizeLine) : Ev K (tTup t) σ G (.tuple ds) :=
  fun G1 H s1 s2 Q k => h G1 H s1 s2 _ fun vs G2 H2 g2 hv => ⟨by rw [hv.length]; exact hl, fun p hp => by
    have g := grow_new (o := .tup vs) g2.gh hp
    exact k _ _ _ (g2.trans g) (dat_tup (SqT.of upd_same) (hv.same g.gg))⟩
theorem ev_lst {t : TA} {ds : List PyData} (h : EvA K t σ G ds) (hl : ds.length ≤ sizeLine) : Ev K (tLst t) σ G (.list ds) :=
  fun G1 H s1 s2 Q k => h G1 H s1 s2 _ fun vs G2 H2 g2 hv => ⟨by rw [hv.length]; exact hl, fun p hp => by
    have g := grow_new (o := .lst vs) g2.gh hp
    exact k _ _ _ (g2.trans g) (dat_lst upd_same (hv.same g.gg))⟩
theorem ev_cb {r : List V → Hp → VK → Prop} {t : TA} {ds : List PyData} (h : EvA K t σ G ds) (hr : ∀ G1 H xs (Q : VK), Same G G1 → Same G1 H → Dats K G1 xs ds → (∀ v G' H', Grow G1 H G' H' → Dat K G' v d → Q v H') → r xs H Q) : Ev K (tCB r t) σ G d :=
  fun G1 H s1 s2 Q k => h G1 H s1 s2 _ fun vs G2 H2 g2 hv => hr G2 H2 vs Q (s1.trans g2.gg) g2.gh hv fun v G' H' g hd => k v G' H' (g2.trans g) hd
theorem ev_lenL {t : TA} {ds : List PyData} (h : EvA K t σ G [.list ds]) : Ev K (tCB (fun xs H Q => ∃ p ys, xs = [.ref p] ∧ (SqL K H p ys ∨ SqT K H p ys) ∧ Q (.int ys.length) H) t) σ G (.int ds.length) :=
  ev_cb h fun G1 H xs Q s1 s2 hx k => by
    obtain ⟨y, ys, rfl, hy, r⟩ := hx.cons
    rw [r.nil]
    obtain ⟨p, zs, rfl, hp, hz⟩ := hy.lst
    refine ⟨p, zs, rfl, .inl (SqL.of (s2 _ _ hp)), ?_⟩
    rw [hz.length]
    exact k _ G1 H (Grow.refl s2) (dat_int _)
theorem ev_tupleL {t : TA} {ds : List PyData} (h : EvA K t σ G [.list ds]) : Ev K (tCB (fun xs H Q => ∃ p ys, xs = [.ref p] ∧ ((SqL K H p ys ∧ ∀ l, H l = none → Q (.ref l) (upd H l (.tup ys))) ∨ (SqT K H p ys ∧ Q (.ref p) H))) t) σ G (.tuple ds) :=
  ev_cb h fun G1 H xs Q s1 s2 hx k => by
    obtain ⟨y, ys, rfl, hy, r⟩ := hx.cons
    rw [r.nil]
    obtain ⟨p, zs, rfl, hp, hz⟩ := hy.lst
    refine ⟨p, zs, rfl, .inl ⟨SqL.of (s2 _ _ hp), fun l hl => ?_⟩⟩
    have g := grow_new (o := .tup zs) s2 hl
    exact k _ _ _ g (dat_tup (SqT.of upd_same) (hz.same g.gg))
theorem evt_test {t : TE} {c : Bool} (h : Ev K t σ G (.bool c)) : EvT (tTest t) σ G c := fun G1 H s1 s2 Q k => h G1 H s1 s2 _ fun v G' H' g hv => ⟨c, hv.bl, k G' H' g⟩
theorem evt_b {t : TE} {c : Bool} (h : Ev K t σ G (.bool c)) : EvT (tB t) σ G c := fun G1 H s1 s2 Q k => h G1 H s1 s2 _ fun v G' H' g hv => ⟨c, hv.bl, k G' H' g⟩
theorem evt_not {t : TT} {c : Bool} (h : EvT t σ G c) : EvT (tNot t) σ G (!c) := fun G1 H s1 s2 Q k => h G1 H s1 s2 _ fun G' H' g => k G' H' g
theorem evt_or {t u : TT} {c e : Bool} (h : EvT t σ G c) (h' : c = false → EvT u σ G e) : EvT (tOr t u) σ G (c || e) := fun G1 H s1 s2 Q k => h G1 H s1 s2 _ fun G' H' g => by
  cases c with
  | true => rw [if_pos rfl]; exact k G' H' g
  | false =>
    rw [if_neg Bool.false_ne_true]
    exact h' rfl G' H' (s1.trans g.gg) g.gh _ fun G2 H2 g2 => k G2 H2 (g.trans g2)
theorem evt_c {t : TT} {c e : Bool} (h : EvT t σ G c) (q : c = e) : EvT t σ G e := q ▸ h
theorem ev_d {t : TE} {e : PyData} (h : Ev K t σ G d) (q : d = e) : Ev K t σ G e := q ▸ h
def spP (K : PySem.W.Frag) (R : List PyData → PyData → Prop) : Sp := fun vs H Q _ => ∃ (G : Hp) (ds : List PyData) (d : PyData), Same G H ∧ Dats K G vs ds ∧ R ds d ∧ ∀ v G' H', Grow G H G' H' → Dat K G' v d → Q v H'
theorem ev_call {R : List PyData → PyData → Prop} {E : XK} {t : TA} {ds : List PyData} (h : EvA K t σ G ds) (hR : R ds d) : Ev K (tCall (spP K R) [] E t) σ G d :=
  fun G1 H s1 s2 Q k => h G1 H s1 s2 _ fun vs G2 H2 g2 hv => by
    refine ⟨G2, ds, d, g2.gh, ?_, hR, fun v G' H' g hd => k v G' H' (g2.trans g) hd⟩
    rw [List.append_nil]; exact hv
theorem range_bind {α β : Type} (f : α → Option β) : ∀ ds : List α, (List.range ds.length).filterMap (fun i => (ds[i]?).bind f) = ds.filterMap f
  | [] => rfl
  | d :: ds => by
    rw [List.length_cons, List.range_succ_eq_map, List.filterMap_cons, List.filterMap_map]
    have e : (fun i => ((d :: ds)[i]?).bind f) ∘ Nat.succ = fun i => (ds[i]?).bind f := by
      funext i; simp
    rw [e, range_bind f ds]
    rw [List.filterMap_cons]
    simp
structure Walk (J : It) (n : Nat) (H : Hp) (items : Nat → V → Prop) : Prop where
  go : ∀ i H', Same H H' → i < n → J.go i H'
  stop : ∀ i H', Same H H' → n ≤ i → J.stop i H'
  yld : ∀ i H' x H'', Same H H' → J.yld i H' x H'' → H'' = H' ∧ items i x
theorem walk_tup {a : Addr} {xs : List V} {H : Hp} (h : SqT K H a xs) : Walk (Itt K a) xs.length H (fun i x => xs[i]? = some x) :=
  ⟨fun i H' s hi => ⟨xs, _, s.tup h, List.getElem?_eq_getElem hi⟩, fun i H' s hi => ⟨xs, s.tup h, hi⟩, fun i H' x H'' s y => ⟨y.1, y.2 xs (s.tup h)⟩⟩
theorem walk_lst {a : Addr} {xs : List V} {H : Hp} (h : SqL K H a xs) : Walk (Itl K a) xs.length H (fun i x => xs[i]? = some x) :=
  ⟨fun i H' s hi => ⟨xs, _, s.seq h, List.getElem?_eq_getElem hi⟩, fun i H' s hi => ⟨xs, s.seq h, hi⟩, fun i H' x H'' s y => ⟨y.1, y.2 xs (s.seq h)⟩⟩
theorem lc_of {wi : TI} {js : List Nat} {tt : TT} {te : TE} {H : Hp} {Q : VK} {n : Nat} (f : Nat → Option PyData) (items : Hp → Nat → V → Prop) {G1 : Hp} (s2 : Same G1 H)
    (hw : ∀ R : It → Hp → Prop, (∀ J G2 H2, Grow G1 H G2 H2 → Walk J n H2 (items G2) → R J H2) → wi σ H R)
    (hn : n < sizeLine)
    (hc : ∀ G2 i x, Same G1 G2 → i < n → items G2 i x → (∃ d, f i = some d ∧ EvT tt (some x :: capV σ js) G2 true ∧ Ev K te (some x :: capV σ js) G2 d) ∨ (f i = none ∧ EvT tt (some x :: capV σ js) G2 false))
    (k : ∀ v G' H', Grow G1 H G' H' → Dat K G' v (.list ((List.range n).filterMap f)) → Q v H') : tLC wi js tt te σ H Q := by
  refine hw _ fun J G2 H2 g2 W => ?_
  refine ⟨fun i m ys H' => m = n - i ∧ i ≤ n ∧ ys.length ≤ i ∧ ∃ G', Grow G2 H2 G' H' ∧ Dats K G' ys ((List.range i).filterMap f), ⟨n, by omega, by omega, by simp, G2, Grow.refl g2.gh, by simpa using dats_nil⟩, ?_⟩
  rintro i m ys H' ⟨rfl, hi, hl, G', g', hys⟩
  refine ⟨by omega, ?_⟩
  by_cases h : i = n
  · subst h
    refine .inl ⟨W.stop i H' g'.hh (Nat.le_refl _), fun p hp => ?_⟩
    have g3 := grow_new (o := .lst ys) g'.gh hp
    exact k _ _ _ ((g2.trans g').trans g3) (dat_lst upd_same (hys.same g3.gg))
  · refine .inr ⟨W.go i H' g'.hh (by omega), fun x H'' hy => ?_⟩
    obtain ⟨rfl, hit⟩ := W.yld i H' x H'' g'.hh hy
    rcases hc G2 i x g2.gg (by omega) hit with ⟨d, hf, ht, he⟩ | ⟨hf, ht⟩
    · refine ht G' H'' g'.gg g'.gh _ fun G4 H4 g4 => ?_
      rw [if_pos rfl]
      refine he G4 H4 (g'.gg.trans g4.gg) g4.gh _ fun v G5 H5 g5 hv => ⟨n - (i + 1), by omega, rfl, by omega, by rw [List.length_append]; show ys.length + 1 ≤ i + 1; omega, G5, (g'.trans g4).trans g5, ?_⟩
      rw [List.range_succ, List.filterMap_append]
      simp only [List.filterMap_cons, hf, List.filterMap_nil]
      exact dats_snoc (hys.same (g4.gg.trans g5.gg)) hv
    · refine ht G' H'' g'.gg g'.gh _ fun G4 H4 g4 => ?_
      rw [if_neg Bool.false_ne_true]
      refine ⟨n - (i + 1), by omega, rfl, by omega, by omega, G4, g'.trans g4, ?_⟩
      rw [List.range_succ, List.filterMap_append]
      simp only [List.filterMap_cons, hf, List.filterMap_nil, List.append_nil]
      exact hys.same g4.gg
def Lc1 (K : PySem.W.Frag) (tt : TT) (te : TE) (σ' : St) (G : Hp) (o : Option PyData) : Prop :=
  (∃ d, o = some d ∧ EvT tt σ' G true ∧ Ev K te σ' G d) ∨ (o = none ∧ EvT tt σ' G false)
theorem ev_lcT {α : Type} {tl : TE} {js : List Nat} {tt : TT} {te : TE} (as : List α) (enc : α → PyData) (f : α → Option PyData) (h : Ev K tl σ G (.tuple (as.map enc))) (hj : as.length < sizeLine)
    (hc : ∀ G2 (i : Nat) (a : α) x, Same G G2 → as[i]? = some a → Dat K G2 x (enc a) → Lc1 K tt te (some x :: capV σ js) G2 (f a)) : Ev K (tLC (iTup K tl) js tt te) σ G (.list (as.filterMap f)) :=
  fun G1 H s1 s2 Q k => lc_of (n := as.length) (fun i => (as[i]?).bind f) (fun G2 i x => ∃ a, as[i]? = some a ∧ Dat K G2 x (enc a)) s2 (fun R hR => h G1 H s1 s2 _ fun v G2 H2 g2 hv => by
    obtain ⟨p, xs, rfl, hp, hxs⟩ := hv.tup
    refine ⟨p, rfl, ⟨xs, g2.gh.tup hp⟩, hR _ G2 H2 g2 ?_⟩
    have W := walk_tup (K := K) (H := H2) (g2.gh.tup hp)
    rw [hxs.length, List.length_map] at W
    refine ⟨W.go, W.stop, fun i H' x H'' s y => ⟨(W.yld i H' x H'' s y).1, ?_⟩⟩
    obtain ⟨d, hd, hx⟩ := hxs.get' (W.yld i H' x H'' s y).2
    rw [List.getElem?_map] at hd
    cases e : as[i]? with
    | none => rw [e] at hd; cases hd
    | some a => rw [e] at hd; cases hd; exact ⟨a, rfl, hx⟩) hj
    (fun G2 i x s3 hi ⟨a, ha, hx⟩ => by
      show Lc1 K tt te (some x :: capV σ js) G2 ((as[i]?).bind f)
      rw [ha]; exact hc G2 i a x (s1.trans s3) ha hx) (by rw [range_bind]; exact k)
theorem ev_lcL {α : Type} {tl : TE} {js : List Nat} {tt : TT} {te : TE} (as : List α) (enc : α → PyData) (f : α → Option PyData) (h : Ev K tl σ G (.list (as.map enc))) (hj : as.length < sizeLine)
    (hc : ∀ G2 (i : Nat) (a : α) x, Same G G2 → as[i]? = some a → Dat K G2 x (enc a) → Lc1 K tt te (some x :: capV σ js) G2 (f a)) : Ev K (tLC (iList K tl) js tt te) σ G (.list (as.filterMap f)) :=
  fun G1 H s1 s2 Q k => lc_of (n := as.length) (fun i => (as[i]?).bind f) (fun G2 i x => ∃ a, as[i]? = some a ∧ Dat K G2 x (enc a)) s2 (fun R hR => h G1 H s1 s2 _ fun v G2 H2 g2 hv => by
    obtain ⟨p, xs, rfl, hp, hxs⟩ := hv.lst
    refine ⟨p, rfl, ⟨xs, SqL.of (g2.gh _ _ hp)⟩, hR _ G2 H2 g2 ?_⟩
    have W := walk_lst (K := K) (H := H2) (SqL.of (g2.gh _ _ hp))
    rw [hxs.length, List.length_map] at W
    refine ⟨W.go, W.stop, fun i H' x H'' s y => ⟨(W.yld i H' x H'' s y).1, ?_⟩⟩
    obtain ⟨d, hd, hx⟩ := hxs.get' (W.yld i H' x H'' s y).2
    rw [List.getElem?_map] at hd
    cases e : as[i]? with
    | none => rw [e] at hd; cases hd
    | some a => rw [e] at hd; cases hd; exact ⟨a, rfl, hx⟩) hj
    (fun G2 i x s3 hi ⟨a, ha, hx⟩ => by
      show Lc1 K tt te (some x :: capV σ js) G2 ((as[i]?).bind f)
      rw [ha]; exact hc G2 i a x (s1.trans s3) ha hx) (by rw [range_bind]; exact k)
theorem lc1 {tt : TT} {te : TE} {σ' : St} (ht : EvT tt σ' G true) (he : Ev K te σ' G d) : Lc1 K tt te σ' G (some d) := .inl ⟨d, rfl, ht, he⟩
theorem lc0 {tt : TT} {te : TE} {σ' : St} (ht : EvT tt σ' G false) : Lc1 K tt te σ' G none := .inr ⟨rfl, ht⟩
theorem lcB {tt : TT} {te : TE} {σ' : St} {c : Bool} (ht : EvT tt σ' G c) (he : c = true → Ev K te σ' G d) : Lc1 K tt te σ' G (if c then some d else none) := by
  cases c with
  | true => exact lc1 ht (he rfl)
  | false => exact lc0 ht
theorem evt_noif : EvT tNoIf σ G true := fun G1 H s1 s2 Q k => k G1 H (Grow.refl s2)
end
end L2
namespace L2
open PySem PySem.Spec PyProof.Rows
section
variable {K : PySem.W.Frag} {σ : St} {G H : Hp} {te : TE} {d : PyData} {D : Ends}
theorem ret_ev (h : Ev K te σ G d) (s : Same G H) (k : ∀ v G' H', Grow G H G' H' → Dat K G' v d → D.rt v H') : tRet te D σ H := h.use s k
theorem asg_ev {i : Nat} (h : Ev K te σ G d) (s : Same G H) (k : ∀ v G' H', Grow G H G' H' → Dat K G' v d → D.nx (σ.set i (some v)) H') : tAsg te (gName i) D σ H := h.use s k
theorem if_ev {tc : TT} {t u : TS} {c : Bool} (h : EvT tc σ G c) (s : Same G H) (k1 : c = true → ∀ G' H', Grow G H G' H' → t D σ H') (k2 : c = false → ∀ G' H', Grow G H G' H' → u D σ H') : tIfS tc t u D σ H :=
  h.use s fun G' H' g => by
    cases c with
    | true => rw [if_pos rfl]; exact k1 rfl G' H' g
    | false => rw [if_neg Bool.false_ne_true]; exact k2 rfl G' H' g
theorem if_no {tc : TT} {t u : TS} (h : EvT tc σ G false) (s : Same G H) (k : ∀ G' H', Grow G H G' H' → u D σ H') : tIfS tc t u D σ H := if_ev h s (fun z => nomatch z) fun _ => k
theorem SqL.kept {H' : Hp} {a : Addr} {xs : List V} (h : SqL K H a xs) (k : ∀ o, H a = some o → H' a = some o) : SqL K H' a xs := by
  rcases h with (h | ⟨u, h⟩) | h
  · exact .inl (.inl (k _ h))
  · exact .inl (.inr ⟨u, k _ h⟩)
  · exact .inr h
theorem ixN_nat {n i : Nat} (h : i < n) : ixN n (i : Int) = some i := by unfold ixN; rw [if_pos (by omega), if_pos (by omega)]; simp
end
end L2
namespace L2
open PySem PySem.Spec PyProof.Rows
section
variable {K : PySem.W.Frag} {σ : St} {G H : Hp} {ta tb : TE}
theorem ev_eqI {i j : Int} (ha : Ev K ta σ G (.int i)) (hb : Ev K tb σ G (.int j)) : Ev K (tOp rEq ta tb) σ G (.bool (decide (i = j))) :=
  ev_op ha hb fun G1 H x y Q s1 s2 hx hy k => by
    rw [hx.int, hy.int]
    refine ⟨rfl, ?_⟩
    have e : decide (V.int i = V.int j) = decide (i = j) := by
      by_cases h : i = j
      · rw [decide_eq_true h, decide_eq_true (by rw [h])]
      · rw [decide_eq_false h, decide_eq_false fun z => h (by injection z)]
    rw [e]
    exact k _ G1 H (Grow.refl s2) (dat_bl _)
theorem same_upd {d : Addr} {o : HO} (s : Same G H) (n : G d = none) : Same G (upd H d o) := fun b u e => by
  rw [upd_ne (ne_of_none e n)]; exact s b u e
theorem upd_none {p d : Addr} {o : HO} (h : G d = none) (n : d ≠ p) : upd G p o d = none := by rw [upd_ne n]; exact h
end
end L2
set_option maxHeartbeats 4000000
namespace L2
open PySem PySem.Spec PyProof.Rows
section
variable {X : Cx} {pins : List (Addr × Obj)} {σ : St} {H : Hp} {s : Shared} {h' : Heap}
end
section
variable {prog : Program} {w : World} {A : Around} {E : Value → Shared → Prop} {s : Shared}
end
section
variable {prog : Program} {w : World} {A : Around} {E : Value → Shared → Prop} {s : Shared}
end
section
variable {X : Cx}
end
end L2
set_option maxHeartbeats 4000000
namespace L2
open PySem PySem.Spec PyProof.Rows
theorem SqL.upd {K : PySem.W.Frag} {H : Hp} {a b : Addr} {xs : List V} {o : HO} (h : SqL K H a xs) (n : a ≠ b) : SqL K (upd H b o) a xs := by
  rcases h with (h | ⟨u, h⟩) | h
  · exact .inl (.inl (by rw [upd_ne n]; exact h))
  · exact .inl (.inr ⟨u, by rw [upd_ne n]; exact h⟩)
  · exact .inr h
theorem SqT.upd {K : PySem.W.Frag} {H : Hp} {a b : Addr} {xs : List V} {o : HO} (h : SqT K H a xs) (n : a ≠ b) : SqT K (upd H b o) a xs := by
  rcases h with (h | ⟨u, h⟩) | h
  · exact .inl (.inl (by rw [upd_ne n]; exact h))
  · exact .inl (.inr ⟨u, by rw [upd_ne n]; exact h⟩)
  · exact .inr h
section
variable {X : Cx} {K : PySem.W.Frag}
theorem ix_tupK (e : X.K = K) : IxR X (rIxT K) := by subst e; exact ix_tup
theorem ix_listK (e : X.K = K) : IxR X (rIxL K) := by subst e; exact ix_list
theorem sl_listK (e : X.K = K) : SlR X (rSlL K) := by subst e; exact sl_list
theorem op_eqDK (e : X.K = K) (hu : X.A.units + 64 < cLine) : OpR X (compareOp .Eq) (rEqD K fun b => b) := by subst e; exact op_eqD hu
theorem op_neDK (e : X.K = K) (hu : X.A.units + 64 < cLine) : OpR X (compareOp .NotEq) (rEqD K fun b => !b) := by subst e; exact op_neD hu
theorem call_lenK (e : X.K = K) : CallR X (.builtin "len") (fun xs H Q => ∃ p ys, xs = [.ref p] ∧ (SqL K H p ys ∨ SqT K H p ys) ∧ Q (.int ys.length) H) := by subst e; exact call_len_seq
theorem op_catTK (e : X.K = K) : OpR X (binaryOp .Add) (rCatT K) := by subst e; exact op_catT
theorem call_tupleK (e : X.K = K) : CallR X (.type "tuple") (fun xs H Q => ∃ p ys, xs = [.ref p] ∧ ((SqL K H p ys ∧ ∀ l, H l = none → Q (.ref l) (upd H l (.tup ys))) ∨ (SqT K H p ys ∧ Q (.ref p) H))) := by subst e; exact call_tuple_of
end
theorem st_BinOp {a : Expr} {op : Operator} {b : Expr} {p : Pos} {es : List Expr} {env : Env} : starEach (.BinOp a op b p :: es) env = (false, eval (.BinOp a op b p) env) :: starEach es env := rfl
theorem st_ListComp {a : Expr} {g : List Comprehension} {sc : Scope} {p : Pos} {es : List Expr} {env : Env} : starEach (.ListComp a g sc p :: es) env = (false, eval (.ListComp a g sc p) env) :: starEach es env := rfl
theorem st_Compare {a : Expr} {ops : List CmpOp} {cs : List Expr} {p : Pos} {es : List Expr} {env : Env} : starEach (.Compare a ops cs p :: es) env = (false, eval (.Compare a ops cs p) env) :: starEach es env := rfl
theorem st_Call {f : Expr} {as : List Expr} {kw : List Keyword} {p : Pos} {es : List Expr} {env : Env} : starEach (.Call f as kw p :: es) env = (false, eval (.Call f as kw p) env) :: starEach es env := rfl
theorem st_Constant {c : Const} {k : Nat} {p : Pos} {es : List Expr} {env : Env} : starEach (.Constant c k p :: es) env = (false, eval (.Constant c k p) env) :: starEach es env := rfl
theorem st_Subscript {a b : Expr} {p : Pos} {es : List Expr} {env : Env} : starEach (.Subscript a b p :: es) env = (false, eval (.Subscript a b p) env) :: starEach es env := rfl
theorem st_Name {n : Str} {p : Pos} {es : List Expr} {env : Env} : starEach (.Name n p :: es) env = (false, eval (.Name n p) env) :: starEach es env := rfl
theorem st_List {as : List Expr} {p : Pos} {es : List Expr} {env : Env} : starEach (.List as p :: es) env = (false, eval (.List as p) env) :: starEach es env := rfl
theorem st_Tuple {as : List Expr} {k : Nat} {p : Pos} {es : List Expr} {env : Env} : starEach (.Tuple as k p :: es) env = (false, eval (.Tuple as k p) env) :: starEach es env := rfl
section
variable {X : Cx}
end
def tyN : PyData → String
  | .none => "NoneType"
  | .bool _ => "bool"
  | .int _ => "int"
  | .str _ => "str"
  | .list _ => "list"
  | .tuple _ => "tuple"
  | .dict _ => "dict"
def rIsD (K : PySem.W.Frag) : List V → Hp → VK → Prop := fun xs H Q => ∃ G x d n b, xs = [x, .ty n] ∧ Same G H ∧ Dat K G x d ∧ PySem.W.kitOne K (.type (tyN d)) (.type n) = some b ∧ Q (.bl b) H
theorem call_isD {X : Cx} {K : PySem.W.Frag} (eK : X.K = K) : CallR X (.builtin "isinstance") (rIsD K) := by
  subst eK
  intro pins s σ H xs us Q I r h
  obtain ⟨G, x, d, n, b, rfl, sg, hd, e, q⟩ := h
  obtain ⟨u, w', rfl, rx, ry⟩ := vals2 r
  cases (show w' = Value.type n from ry)
  have fin : ∀ tk, EP X pins σ Q (.bool b) { s with toks := tk } := fun tk => ⟨.bl b, H, I.tok _, rfl, q⟩
  cases d with
  | none => rw [hd.non] at rx; exact isinst_ok I rx .non e fin
  | bool y => rw [hd.bl] at rx; exact isinst_ok I rx (.bl y) e fin
  | int i => rw [hd.int] at rx; exact isinst_ok I rx (.int i) e fin
  | str y => rw [hd.str] at rx; exact isinst_ok I rx (.str y) e fin
  | list ds =>
    obtain ⟨p, ys, rfl, hp, _⟩ := hd.lst
    cases (show u = Value.ref p from rx)
    obtain ⟨its, _, ⟨o, n', e1, c, _⟩, _⟩ := I.list (SqL.of (sg _ _ hp))
    exact PySem.W.kia_one PySem.W.kitx_list I.kIn ⟨o, e1, c⟩ e (fun z => nomatch z) fin
  | tuple ds =>
    obtain ⟨p, ys, rfl, hp, _⟩ := hd.tup
    cases (show u = Value.ref p from rx)
    obtain ⟨its, _, ⟨o, e1, c, _⟩, _⟩ := I.tuple (sg.tup hp)
    exact PySem.W.kia_one PySem.W.kitx_tuple I.kIn ⟨o, e1, c⟩ e (fun z => nomatch z) fin
  | dict _ => unfold Dat at hd; exact hd.elim
theorem ev_isD {K : PySem.W.Frag} {σ : St} {G : Hp} {ta : TE} {d : PyData} {n : String} {b : Bool} (ha : Ev K ta σ G d) (e : PySem.W.kitOne K (.type (tyN d)) (.type n) = some b) : Ev K (tCB (rIsD K) (tCons ta (tCons (tC (.ty n)) tNil))) σ G (.bool b) :=
  fun G1 H s1 s2 Q k => ha G1 H s1 s2 _ fun x G2 H2 g2 hx => ⟨G2, x, d, n, b, rfl, g2.gh, hx, e, k _ G2 H2 g2 (dat_bl b)⟩
section
variable {X : Cx}
end
end L2
set_option maxHeartbeats 4000000
namespace L2
open PySem PySem.Spec PyProof.Rows
def litC : Const → Option PyData
  | .int i => some (.int i)
  | .str x => some (.str x)
  | .bool b => some (.bool b)
  | .none => some .none
  | _ => none
def lits (f : Expr → Option PyData) : Nat → List Expr → Option (List PyData)
  | _, [] => some []
  | 0, _ :: _ => none
  | k + 1, e :: es => match f e with
    | some d => match lits f k es with
      | some ds => some (d :: ds)
      | none => none
    | none => none
def litD : Nat → Expr → Option PyData
  | 0, _ => none
  | n + 1, e => match e with
    | .Constant c _ _ => litC c
    | .List es _ => match lits (litD n) 60 es with
      | some ds => some (.list ds)
      | none => none
    | .Tuple es _ _ => match lits (litD n) 60 es with
      | some ds => some (.tuple ds)
      | none => none
    | _ => none
theorem lits_len {f : Expr → Option PyData} : ∀ {k : Nat} {es : List Expr} {ds : List PyData}, lits f k es = some ds → ds.length ≤ k
  | _, [], _, h => by unfold lits at h; cases h; exact Nat.zero_le _
  | 0, _ :: _, _, h => by unfold lits at h; cases h
  | k + 1, e :: es, ds, h => by
    unfold lits at h
    cases h1 : f e with
    | none => rw [h1] at h; cases h
    | some d =>
      rw [h1] at h
      cases h2 : lits f k es with
      | none => rw [h2] at h; cases h
      | some ds' =>
        rw [h2] at h; cases h
        have := lits_len h2
        show ds'.length + 1 ≤ k + 1
        omega
def tLit (K : PySem.W.Frag) (d : PyData) : TE := fun _ H Q => ∃ G, Same G H ∧ ∀ v G' H', Grow G H G' H' → Dat K G' v d → Q v H'
def tLits (K : PySem.W.Frag) (ds : List PyData) : TA := fun _ H Q => ∃ G, Same G H ∧ ∀ vs G' H', Grow G H G' H' → Dats K G' vs ds → Q vs H'
section
variable {X : Cx}
theorem PE.imp {e : Expr} {t t' : TE} (h : PE X e t) (i : ∀ σ H Q, t' σ H Q → t σ H Q) : PE X e t' := fun pins s σ H Q I q => h pins s σ H Q I (i σ H Q q)
theorem PA.imp {es : List Expr} {t t' : TA} (h : PA X es t) (i : ∀ σ H Q, t' σ H Q → t σ H Q) : PA X es t' := fun pos pins s σ H Q I q => h pos pins s σ H Q I (i σ H Q q)
theorem litD_star {n : Nat} {e : Expr} {d : PyData} (h : litD n e = some d) (es : List Expr) (env : Env) : starEach (e :: es) env = (false, eval e env) :: starEach es env := by
  cases n with
  | zero => cases h
  | succ n =>
    cases e with
    | Constant c k p => exact st_Constant
    | List as p => exact st_List
    | Tuple as k p => exact st_Tuple
    | _ => cases h
theorem litD_swaps {n : Nat} {e : Expr} {d : PyData} (h : litD n e = some d) {t : Option Expr} {l : Nat} {env : Env} : swapsWith e t l env = pure false := by
  cases n with
  | zero => cases h
  | succ n =>
    cases e with
    | Constant c k p => rfl
    | List as p => rfl
    | Tuple as k p => rfl
    | _ => cases h
theorem pa_lits {n : Nat} (ih : ∀ e d, litD n e = some d → PE X e (tLit X.K d)) : ∀ (k : Nat) (es : List Expr) (ds : List PyData), lits (litD n) k es = some ds → PA X es (tLits X.K ds)
  | _, [], ds, h => by
    unfold lits at h; cases h
    exact PA.imp pa_nil fun σ H Q ⟨G, s, k⟩ => k [] G H (Grow.refl s) dats_nil
  | 0, _ :: _, _, h => by unfold lits at h; cases h
  | k + 1, e :: es, ds, h => by
    unfold lits at h
    cases h1 : litD n e with
    | none => rw [h1] at h; cases h
    | some d =>
      rw [h1] at h
      cases h2 : lits (litD n) k es with
      | none => rw [h2] at h; cases h
      | some ds' =>
        rw [h2] at h
        cases h
        refine PA.imp (pa_cons (ih e d h1) (pa_lits ih k es ds' h2) (litD_star h1 es X.env)) fun σ H Q ⟨G, s, k⟩ => ?_
        exact ⟨G, s, fun v G1 H1 g1 hv => ⟨G1, g1.gh, fun vs G2 H2 g2 hvs => k (v :: vs) G2 H2 (g1.trans g2) (dats_cons (hv.same g2.gg) hvs)⟩⟩
theorem pe_litn : ∀ (n : Nat) (e : Expr) (d : PyData), litD n e = some d → PE X e (tLit X.K d)
  | 0, _, _, h => by cases h
  | n + 1, e, d, h => by
    have z : (60 : Nat) ≤ sizeLine := by decide
    cases e with
    | Constant c k p =>
      have h' : litC c = some d := h
      cases c with
      | int i => cases h'; exact PE.imp pe_int fun σ H Q ⟨G, s, k⟩ => k _ G H (Grow.refl s) (dat_int i)
      | str x => cases h'; exact PE.imp pe_str fun σ H Q ⟨G, s, k⟩ => k _ G H (Grow.refl s) (dat_str x)
      | bool b => cases h'; exact PE.imp pe_bl fun σ H Q ⟨G, s, k⟩ => k _ G H (Grow.refl s) (dat_bl b)
      | none => cases h'; exact PE.imp pe_non fun σ H Q ⟨G, s, k⟩ => k _ G H (Grow.refl s) dat_non
      | _ => cases h'
    | List as p =>
      have h' : (match lits (litD n) 60 as with | some ds => some (PyData.list ds) | none => none) = some d := h
      cases h1 : lits (litD n) 60 as with
      | none => rw [h1] at h'; cases h'
      | some ds =>
        rw [h1] at h'
        cases h'
        have hl := lits_len h1
        refine PE.imp (pe_lst (pa_lits (pe_litn n) 60 as ds h1)) fun σ H Q ⟨G, s, k⟩ => ⟨G, s, fun vs G1 H1 g1 hv => ⟨by rw [hv.length]; omega, fun p hp => ?_⟩⟩
        have g := grow_new (o := .lst vs) g1.gh hp
        exact k _ _ _ (g1.trans g) (dat_lst upd_same (hv.same g.gg))
    | Tuple as kk p =>
      have h' : (match lits (litD n) 60 as with | some ds => some (PyData.tuple ds) | none => none) = some d := h
      cases h1 : lits (litD n) 60 as with
      | none => rw [h1] at h'; cases h'
      | some ds =>
        rw [h1] at h'
        cases h'
        have hl := lits_len h1
        refine PE.imp (pe_tup (pa_lits (pe_litn n) 60 as ds h1)) fun σ H Q ⟨G, s, k⟩ => ⟨G, s, fun vs G1 H1 g1 hv => ⟨by rw [hv.length]; omega, fun p hp => ?_⟩⟩
        have g := grow_new (o := .tup vs) g1.gh hp
        exact k _ _ _ (g1.trans g) (dat_tup (SqT.of upd_same) (hv.same g.gg))
    | _ => cases h
theorem pe_lit {e : Expr} {d : PyData} (h : litD 6 e = some d) : PE X e (tLit X.K d) := pe_litn 6 e d h
theorem ev_lit {K : PySem.W.Frag} {σ : St} {G : Hp} {d : PyData} : Ev K (tLit K d) σ G d := fun G1 H s1 s2 Q k => ⟨G1, s2, k⟩
end
end L2
set_option maxHeartbeats 4000000
namespace L2
open PySem PySem.Spec PyProof.Rows
def pickV {α : Type} (xs : List α) (lo hi st : Option Int) : List α :=
  (sliceRange (sliceBounds lo hi st xs.length).1 (sliceBounds lo hi st xs.length).2.1 (sliceBounds lo hi st xs.length).2.2).filterMap (xs[·]?)
theorem vals_pick {xs : List V} {us : List Value} (r : Vals xs us) : ∀ is : List Nat, Vals (is.filterMap (xs[·]?)) (is.filterMap (us[·]?))
  | [] => .nil
  | i :: is => by
    rw [List.filterMap_cons, List.filterMap_cons]
    cases h : xs[i]? with
    | none => rw [r.none_of h]; exact vals_pick r is
    | some x =>
      obtain ⟨u, hu, ru⟩ := r.get h
      rw [hu]; exact .cons ru (vals_pick r is)
section
variable {X : Cx} {e st : Expr} {lo hi : Option Expr} {te : TE} {tl th ts : TO} {p2 pos : Pos}
def tSl3 (K : PySem.W.Frag) (te : TE) (tl th ts : TO) : TE := fun σ H Q => te σ H fun x H1 => tl σ H1 fun l H2 => th σ H2 fun u H3 => ts σ H3 fun c H4 => ∃ a xs, x = .ref a ∧ SqL K H4 a xs ∧ c ≠ some 0 ∧ (pickV xs l u c).length ≤ sizeLine ∧ ∀ p, H4 p = none → Q (.ref p) (upd H4 p (.lst (pickV xs l u c)))
theorem pe_slice3 (he : PE X e te) (hl : PO X lo tl) (hu : PO X hi th) (hst : PO X (some st) ts) : PE X (.Subscript e (.Slice lo hi (some st) p2) pos) (tSl3 X.K te tl th ts) := by
  intro pins s σ H Q I h
  refine Subscript_ (thn (he pins s σ H _ I h) fun v s1 ⟨x, H1, I1, r1, q1⟩ => ?_)
  refine wpAny_Slice (thn (hl pins s1 σ H1 _ I1 q1) fun vl s2 ⟨l, H2, I2, pl, q2⟩ => thn (hu pins s2 σ H2 _ I2 q2) fun vu s3 ⟨u, H3, I3, pu, q3⟩ => thn (hst pins s3 σ H3 _ I3 q3) fun vs s4 ⟨c, H4, I4, ps, q4⟩ => ?_)
  obtain ⟨a, xs, rfl, hx, hc, hz', q⟩ := q4
  cases r1
  have I5 : Inv X pins σ H4 { s4 with heap := s4.heap.push { cls := .type "slice", data := .fields #[vl, vu, vs] } } := I4.kept (t' := s4.toks) fun b ob q => Heap.get?_push_of_some _ q
  obtain ⟨its, r, ht, hz⟩ := I5.list hx
  have hlen := r.length
  refine tail_any (ops := [.ref a, .ref s4.heap.objs.size]) (T := "list") ht.isList.typeIs slot_list_getitem.lookup ?_ (by with_unfolding_all rfl)
  refine wpAny_getItem_list_slice ht.isList (Heap.IsSliceOf.new ..) pl pu ps hc ?_ (by rw [List.size_toArray] <;> omega)
  have e1 : slicePick its.toArray l u c = (pickV its l u c).toArray := by
    unfold slicePick pickV
    simp only [List.size_toArray, List.getElem?_toArray]
  rw [e1]
  have rv : Vals (pickV xs l u c) (pickV its l u c) := by
    unfold pickV; rw [hlen]; exact vals_pick r _
  refine ⟨.ref _, _, I5.laid (t' := s4.toks) (o := .lst (pickV xs l u c)) (fun b ob q => Heap.get?_push_of_some _ q) (Nat.le_refl _) ⟨hz', _, 0, rv, Heap.get?_push_size _ rfl⟩, rfl, q _ ?_⟩
  exact I5.hok.fresh (Nat.le_refl _)
end
end L2
set_option maxHeartbeats 4000000
namespace L2
open PySem PySem.Spec PyProof.Rows
section
variable {X : Cx} {pins : List (Addr × Obj)} {σ : St} {H G : Hp} {s : Shared}
open Classical in
end
section
variable {prog : Program} {w : World} {A : Around} {E : Value → Shared → Prop} {s : Shared}
end
end L2
set_option maxHeartbeats 4000000
namespace L2
open PySem PySem.Spec PyProof.Rows
structure DictK (K : PySem.W.Frag) (P : Params) (a : Addr) (g : Str → Option (V × Value)) : Prop where
  ex : ∃ (es : Array DictEntry) (n : Nat), K.lookup a = some ⟨.type "dict", none, .dict es n, #[]⟩ ∧ PySem.W.KeysLit P es.toList
  lo : (a == sysModules) = false
  at_ : ∀ x, PySem.W.nsIn K a x = some ((g x).map (·.2))
  rel : ∀ x v u, g x = some (v, u) → RelV v u
section
variable {X : Cx}
theorem op_inK : OpR X (compareOp .In) (fun x y H Q => ∃ z a g, x = .str z ∧ y = .ref a ∧ DictK X.K X.w.params a g ∧ Q (.bl (g z).isSome) H) := by
  intro pins s σ H x y v u Q I rx ry h
  obtain ⟨z, a, g, rfl, rfl, D, q⟩ := h
  obtain ⟨t, rfl⟩ := rx
  cases ry
  obtain ⟨es, n, hl, hk⟩ := D.ex
  obtain ⟨m, F⟩ := I.fr
  refine PySem.W.topIn_K F I.mod.kin hl hk (D.at_ z) D.lo ⟨.bl _, H, I.tok _, rfl, ?_⟩
  rw [Option.isSome_map]; exact q
theorem op_notInK : OpR X (compareOp .NotIn) (fun x y H Q => ∃ z a g, x = .str z ∧ y = .ref a ∧ DictK X.K X.w.params a g ∧ Q (.bl (!(g z).isSome)) H) := by
  intro pins s σ H x y v u Q I rx ry h
  obtain ⟨z, a, g, rfl, rfl, D, q⟩ := h
  obtain ⟨t, rfl⟩ := rx
  cases ry
  obtain ⟨es, n, hl, hk⟩ := D.ex
  obtain ⟨m, F⟩ := I.fr
  refine wpAny_notIn_of (strKind_is X.prog X.w z t) D.lo (PySem.W.mapOf_K (prog := X.prog) (I.mod.kin.keeps F.keep) hl hk) ⟨.bl _, H, I.tok _, rfl, ?_⟩
  rw [PySem.W.find_K hl (D.at_ z), Option.isSome_map]; exact q
theorem ix_dictK : IxR X (fun x y H Q => ∃ z a g v u, x = .ref a ∧ y = .str z ∧ DictK X.K X.w.params a g ∧ g z = some (v, u) ∧ Q v H) := by
  intro value slice pins s σ H x y v u Q I rx ry h hs
  obtain ⟨z, a, g, v', u', rfl, rfl, D, e, q⟩ := h
  cases rx
  obtain ⟨t, rfl⟩ := ry
  obtain ⟨es, n, hl, hk⟩ := D.ex
  obtain ⟨m, F⟩ := I.fr
  exact PySem.W.topItem_K F I.mod.kin hl hk (by rw [D.at_ z, e]; rfl) ⟨v', H, I.tok _, D.rel z v' u' e, q⟩ hs
theorem ps_try0 {body : List Stmt} {h0 : ExceptHandler} {hs : List ExceptHandler} {pos : Pos} {t : TS} (hxe : ∀ e s, ¬ X.xe e s) (hb : PSs X body t) : PS X (.Try body (h0 :: hs) [] [] pos) t := by
  intro pins s σ H D I h
  refine wpAny_Try_except (wpAny_mono (hb pins s σ H D I h) (fun f s1 q => ?_) fun e s1 x => (hxe e s1 x).elim)
  cases f with
  | next => exact wpAny_execs_nil q
  | brk => exact q
  | cont => exact q
  | ret u => exact q
end
end L2
namespace Ord
open PySem
abbrev S (x : String) : Str := Str.ofString x
def optsOf (want : Str) : List (List Str) :=
  if want = S "order" then [[S "like"], [S "up", S "field"], [S "down", S "field"], [S "then", S "order", S "order"], [S "turn", S "order"], [S "pick", S "case", S "order", S "order"]]
  else if want = S "case" then [[S "same", S "field"], [S "both", S "mark"], [S "either", S "mark"], [S "not", S "case"], [S "and", S "case", S "case"], [S "or", S "case", S "case"]]
  else [[S "under", S "field", S "number"], [S "is", S "field", S "number"]]
def roomOf (w : Str) : Int := if w = S "case" then 2 else if w = S "mark" then 3 else 1
def rooms (ws : List Str) : Int := (ws.map roomOf).sum
theorem roomOf_ge (w : Str) : 1 ≤ roomOf w ∧ roomOf w ≤ 3 := by unfold roomOf; split <;> (try split) <;> omega
theorem rooms_cons (w : Str) (ws : List Str) : rooms (w :: ws) = roomOf w + rooms ws := rfl
theorem rooms_app (a b : List Str) : rooms (a ++ b) = rooms a + rooms b := by unfold rooms; rw [List.map_append, List.sum_append]
theorem rooms_rev (a : List Str) : rooms a.reverse = rooms a := by
  induction a with
  | nil => rfl
  | cons x r ih => rw [List.reverse_cons, rooms_app, ih, rooms_cons x r]; show rooms r + (roomOf x + 0) = _; omega
theorem rooms_ge (ws : List Str) : (ws.length : Int) ≤ rooms ws := by
  induction ws with
  | nil => simp [rooms]
  | cons w r ih => rw [rooms_cons, List.length_cons]; have := roomOf_ge w; omega
inductive Wd where
  | t (x : Str)
  | n (a b : Int)
def Wd.d : Wd → PyData
  | .t x => .str x
  | .n a b => .tuple [.int a, .int b]
inductive Step (fld : Str → Prop) (num : Int → Int → Prop) : List Str → Wd → List Str → Prop
  | field {x : Str} {st : List Str} : fld x → Step fld num (S "field" :: st) (.t x) st
  | number {a b : Int} {st : List Str} : num a b → Step fld num (S "number" :: st) (.n a b) st
  | word {want x : Str} {ps st : List Str} : want ≠ S "field" → want ≠ S "number" → (x :: ps) ∈ optsOf want → Step fld num (want :: st) (.t x) (ps ++ st)
inductive Run (fld : Str → Prop) (num : Int → Int → Prop) : List Str → List Wd → List Str → Prop
  | nil {st : List Str} : Run fld num st [] st
  | cons {st st1 st2 : List Str} {w : Wd} {ws : List Wd} : Step fld num st w st1 → Run fld num st1 ws st2 → Run fld num st (w :: ws) st2
theorem Run.snoc {fld : Str → Prop} {num : Int → Int → Prop} {st st1 st2 : List Str} {ws : List Wd} {w : Wd} (h : Run fld num st ws st1) (s : Step fld num st1 w st2) : Run fld num st (ws ++ [w]) st2 := by
  induction h with
  | nil => exact .cons s .nil
  | cons a _ ih => exact .cons a (ih s)
def IsOrd (fld : Str → Prop) (num : Int → Int → Prop) (ws : List Wd) : Prop := Run fld num [S "order"] ws []
theorem opts_small (want : Str) (h : want = S "order" ∨ want = S "case" ∨ want = S "mark") : ∃ o ∈ optsOf want, 1 + rooms (o.drop 1) ≤ roomOf want := by
  rcases h with rfl | rfl | rfl
  · exact ⟨[S "like"], by decide +kernel, by decide +kernel⟩
  · exact ⟨[S "same", S "field"], by decide +kernel, by decide +kernel⟩
  · exact ⟨[S "under", S "field", S "number"], by decide +kernel, by decide +kernel⟩
theorem opts_form (want : Str) : ∀ o ∈ optsOf want, ∃ x ps, o = x :: ps ∧ ps.length ≤ 3 ∧ ∀ p ∈ ps, p = S "order" ∨ p = S "case" ∨ p = S "mark" ∨ p = S "field" ∨ p = S "number" := by
  unfold optsOf
  intro o ho
  have : o.length ≤ 4 ∧ o ≠ [] ∧ ∀ p ∈ o.drop 1, p = S "order" ∨ p = S "case" ∨ p = S "mark" ∨ p = S "field" ∨ p = S "number" := by
    split at ho
    · revert o; decide +kernel
    · split at ho
      · revert o; decide +kernel
      · revert o; decide +kernel
  cases o with
  | nil => exact absurd rfl this.2.1
  | cons x ps => exact ⟨x, ps, rfl, by have := this.1; simp at this; omega, this.2.2⟩
end Ord
set_option maxHeartbeats 4000000
namespace L2
open PySem PySem.Spec PyProof.Rows
theorem norev_tup : typeLookup (.type "tuple") "__reversed__" = pure none := by rw [typeLookup_type, builtinLookup_eq_fast]; kernel_rfl
theorem get_tup : typeLookup (.type "tuple") "__getitem__" = pure (some (.builtin "tuple.__getitem__")) := by rw [typeLookup_type, builtinLookup_eq_fast]; kernel_rfl
theorem nodict_tup : isSubtype (.type "tuple") (.type "dict") = pure false := by rw [isSubtype_type]; kernel_rfl
theorem rev_new_meets (t : Addr) (items : Array Value) (n : Nat) (dct : Option Addr) (sl : Array (Option Value)) (hsz : items.size ≤ sizeLine) :
    Meets (Builtin.«reversed.__new__» ⟨[.type "reversed", .ref t], []⟩) (fun _ R s => s.heap.get? t = some { cls := .type "tuple", dict := dct, data := .seq items n, slots := sl } ∧
      R (.ok (.ret (Value.ref s.heap.objs.size))) { s with heap := s.heap.push { cls := .type "reversed", data := .fields #[.ref t, rawInt ((items.size : Int) - 1)] }, toks := s.toks + 1 + 1 }) :=
  .of_wp fun prog w A R s h => by
    obtain ⟨hp, g, d, tk, os⟩ := s; obtain ⟨q1, h⟩ := h
    have hT : Shared.TypeIs ⟨hp, g, d, tk, os⟩ (.ref t) "tuple" := ⟨_, q1, rfl⟩
    unfold Builtin.«reversed.__new__»
    refine wpAny_bind (wpAny_of_eq (newClass_reversed _) ?_)
    try dsimp only
    refine wpAny_bind (wpAny_of_eq (a := ()) (by first | rfl | kernel_rfl) ?_)
    refine wpAny_bind (wpAny_of_eq (a := ()) (by first | rfl | kernel_rfl) ?_)
    try dsimp only
    refine wpAny_bind (wpAny_specialOf hT norev_tup ?_)
    try dsimp only
    have hz : IsTup hp t items := ⟨_, q1, rfl, n, rfl⟩
    have z62 : sizeLine < 2 ^ 62 := by decide
    have hf : (items.size : Int) < 2 ^ 63 := by omega
    wp_walk using wpAny_isInstance (b := false) hT nodict_tup, wpAny_specialOf hT get_tup, len_tuple (s := ⟨hp, g, d, tk, os⟩) hz hf
    exact ⟨_, rfl, h⟩
theorem rev_init : Slot "reversed" "__init__" "object.__init__" :=
  .of (owner := "object") (n := "__init__") (by rw [typeLookup_type, builtinLookup_eq_fast]; kernel_rfl) (by decide +kernel) (by decide +kernel) (by decide +kernel)
    (by first | exact .inl (by decide +kernel) | exact .inr (by decide +kernel)) (by rw [isSubtype_type]; kernel_rfl)
theorem rev_called : TypeCalled "reversed" "reversed.__new__" "object.__init__" :=
  ⟨by decide +kernel, by decide +kernel, ⟨_, _, F.mro_reversed⟩, F.made_reversed, by decide +kernel, by rw [isSubtype_type]; kernel_rfl, rev_init⟩
def rvObj (t : Addr) (i : Int) : Obj := { cls := .type "reversed", data := .fields #[.ref t, rawInt i] }
section
variable {prog : Program} {w : World} {A : Around} {E : Value → Shared → Prop} {s : Shared}
theorem call_rev_tup {t : Addr} {items : Array Value} {Q : Value → Shared → Prop} (ht : IsTup s.heap t items) (hsz : items.size ≤ sizeLine)
    (h : Q (.ref s.heap.objs.size) { s with heap := s.heap.push (rvObj t ((items.size : Int) - 1)), toks := s.toks + 1 + 1 }) : wpAny (model prog w) A (call (.type "reversed") [.ref t]) Q E s := by
  obtain ⟨⟨c, dct, dt, sl⟩, e1, e2, n, e3⟩ := ht
  replace e2 : c = .type "tuple" := e2
  replace e3 : dt = .seq items n := e3
  subst e2 e3
  exact callType_new rev_called (by decide) (F.typeCall_reversed_1 _) (F.newCall_reversed_1 _) (fun obj => F.args_object_init_2 obj _) F.entry_reversed_new (rev_new_meets t items n dct sl hsz) ⟨e1, ⟨_, Heap.get?_push_size _ rfl, rfl⟩, h⟩
end
end L2
set_option maxHeartbeats 4000000
namespace L2
open PySem PySem.Spec PyProof.Rows
theorem rv_owner : Manifest.owners.lookup (String.ofList ['d', 'e', 's', 'r', 'e', 'v', 'e', 'r'].reverse) = some Manifest.sig_reversed := by kernel_rfl
theorem rv_slot : Slot "reversed" "__next__" "reversed.__next__" :=
  .of (owner := "reversed") (n := "__next__") (by rw [typeLookup_type, builtinLookup_eq_fast]; kernel_rfl) (by decide +kernel) (by decide +kernel) (by decide +kernel)
    (by first | exact .inl (by decide +kernel) | exact .inr (by decide +kernel)) (by rw [isSubtype_type]; kernel_rfl)
theorem rv_entry : entryFor table "reversed.__next__" = some Builtin.«reversed.__next__» := entryFor_of_tree (by kernel_rfl)
theorem rv_args (a : Value) : argsOk "reversed.__next__" ⟨[a], []⟩ := by
  unfold argsOk
  rw [signature?_of (id := "reversed.__next__") (n := ['_', '_', 't', 'x', 'e', 'n', '_', '_']) (o := ['d', 'e', 's', 'r', 'e', 'v', 'e', 'r']) (by kernel_rfl) rv_owner]; kernel_rfl
theorem rv_slotI : Slot "reversed" "__iter__" "reversed.__iter__" :=
  .of (owner := "reversed") (n := "__iter__") (by rw [typeLookup_type, builtinLookup_eq_fast]; kernel_rfl) (by decide +kernel) (by decide +kernel) (by decide +kernel)
    (by first | exact .inl (by decide +kernel) | exact .inr (by decide +kernel)) (by rw [isSubtype_type]; kernel_rfl)
theorem rv_argsI (a : Value) : argsOk "reversed.__iter__" ⟨[a], []⟩ := by
  unfold argsOk
  rw [signature?_of (id := "reversed.__iter__") (n := ['_', '_', 'r', 'e', 't', 'i', '_', '_']) (o := ['d', 'e', 's', 'r', 'e', 'v', 'e', 'r']) (by kernel_rfl) rv_owner]; kernel_rfl
theorem rv_entryI : entryFor table "reversed.__iter__" = some Builtin.«dict_keyiterator.__iter__» :=
  entryFor_alias (id' := "dict_keyiterator.__iter__") (by kernel_rfl) (by first | rfl | decide +kernel | (unfold String.splitOn; simp +decide [String.splitOnAux])) (by decide +kernel) (by kernel_rfl)
def IsRv (h : Heap) (a t : Addr) (i : Int) : Prop := ∃ o, h.get? a = some o ∧ o.cls = .type "reversed" ∧ o.data = .fields #[.ref t, rawInt i]
theorem IsRv.ty {s : Shared} {a t : Addr} {i : Int} (x : IsRv s.heap a t i) : s.TypeIs (.ref a) "reversed" := let ⟨o, ho, hc, _⟩ := x; ⟨o, ho, hc⟩
section
variable {prog : Program} {w : World} {A : Around} {E : Value → Shared → Prop} {s : Shared}
theorem rv_next {it t : Addr} {i : Nat} {items : Array Value} {x : Value} {Q : Option Value → Shared → Prop} (hit : IsRv s.heap it t (i : Int)) (ht : IsTup s.heap t items) (hx : items[i]? = some x) (hi : (i : Int) < 2 ^ 62)
    (hQ : ∀ h' tk, IsRv h' it t ((i : Int) - 1) → Heap.SameBut it s.heap h' → Q (some x) { s with heap := h', toks := tk }) : wpAny (model prog w) A (pyNext (.ref it)) Q E s := by
  obtain ⟨o, ho, hc, hd⟩ := id hit
  have hlt : i < items.size := by
    rcases Nat.lt_or_ge i items.size with z | z
    · exact z
    · rw [Array.getElem?_eq_none z] at hx; cases hx
  unfold pyNext
  refine wpAny_bind (wpAny_attempt (wpAny_callSpecial?_slot (name := Str.ofString "__next__") hit.ty rv_slot (wpAny_call_entry rv_slot hit.ty rv_entry ?_ (rv_args _))))
  unfold Builtin.«reversed.__next__»
  refine wpAny_bind (wpAny_of_eq (a := (Value.ref it, [])) rfl ?_)
  try dsimp only
  refine wpAny_bind (wpAny_field ho hd (x := .ref t) rfl ?_)
  refine wpAny_bind (wpAny_field ho hd (x := rawInt (i : Int)) rfl ?_)
  show wpAny _ _ (if (i : Int) < 0 then _ else _) _ _ s
  rw [if_neg (by omega)]
  refine wpAny_bind (wpAny_specialOf ht.typeIs get_tup ?_)
  show wpAny _ _ (if (some (Value.builtin "tuple.__getitem__")).isNone = true then _ else _) _ _ _
  rw [if_neg (by decide)]
  refine wpAny_bind (wpAny_mkInt ?_)
  refine wpAny_bind (wpAny_attempt (getItem_tuple (s := { s with toks := s.toks + 1 }) ht (by omega) (by omega) (j := i) (by unfold seqIndex?; simp; omega) hx ?_))
  refine wpAny_bind (wpAny_field (s := { s with toks := s.toks + 1 }) ho hd (x := rawInt (i : Int)) rfl ?_)
  try dsimp only
  refine wpAny_bind (wpAny_setField (s := { s with toks := s.toks + 1 }) ho hd (by simp) ?_)
  refine wpAny_pure ⟨x, rfl, wpAny_pure (hQ _ _ ?_ (Heap.SameBut.update ..))⟩
  exact ⟨_, Heap.get?_update_self _ ho (Obj.isFreed_of_fields (Obj.data_mapFields hd _)), (Obj.cls_mapFields ..).trans hc, by
    rw [Obj.data_mapFields hd]; simp⟩
theorem rv_end {it t : Addr} {Q : Option Value → Shared → Prop} (hh : A.handled = none) (hit : IsRv s.heap it t (-1))
    (hQ : ∀ h', Heap.ExtBut it s.heap h' → Q none { s with heap := h' }) : wpAny (model prog w) A (pyNext (.ref it)) Q E s := by
  obtain ⟨o, ho, hc, hd⟩ := id hit
  unfold pyNext
  refine wpAny_bind (wpAny_attempt (wpAny_callSpecial?_slot (name := Str.ofString "__next__") hit.ty rv_slot (wpAny_call_entry rv_slot hit.ty rv_entry ?_ (rv_args _))))
  unfold Builtin.«reversed.__next__»
  refine wpAny_bind (wpAny_of_eq (a := (Value.ref it, [])) rfl ?_)
  try dsimp only
  refine wpAny_bind (wpAny_field ho hd (x := .ref t) rfl ?_)
  refine wpAny_bind (wpAny_field ho hd (x := rawInt (-1)) rfl ?_)
  show wpAny _ _ (if (-1 : Int) < 0 then _ else _) _ _ s
  rw [if_pos (by decide)]
  refine wpAny_bind (wpAny_rule ?_)
  refine wpAny_bind ?_
  show wpAny _ _ (setField (.ref it) 1 (rawInt (-1)) >>= fun _ => setField (.ref it) 0 .none) _ _ s
  refine wpAny_bind (wpAny_setField ho hd (by simp) ?_)
  have ho2 := Heap.get?_update_self (Obj.mapFields fun f => f.setIfInBounds 1 (rawInt (-1))) ho (Obj.isFreed_of_fields (Obj.data_mapFields hd _))
  refine wpAny_setField ho2 (Obj.data_mapFields hd _) (by simp) ?_
  refine wpAny_bind ?_
  show wpAny _ _ (newExc (.type "StopIteration") [] >>= _) _ _ _
  refine wpAny_bind ?_
  simp only [newExc, newTuple]
  refine wpAny_bind (wpAny_newObj_type ?_ (by size_fits))
  refine wpAny_bind (m := firstArgMember _ _) (wpAny_of_eq (a := Value.none) (by first | rfl | (simp only [firstArgMember]; rfl)) ?_)
  refine wpAny_newObj_type ?_ (by size_fits)
  simp only [raiseNew]
  refine wpAny_bind (wpAny_handled ?_)
  rw [show A.in1.handled = none from hh]
  refine wpAny_bind (wpAny_pure (wpAny_throw ?_))
  refine wpAny_bind (wpAny_isInstance (T := "StopIteration") (b := true) ⟨_, Heap.get?_push_size _ rfl, rfl⟩ isSubtype_stop ?_)
  refine wpAny_pure (hQ _ ((Heap.ExtBut.push (Heap.ExtBut.push (fun b o hb e => ?_) _) _)))
  exact (Heap.get?_update_other _ _ (Ne.symm hb)).trans ((Heap.get?_update_other _ _ (Ne.symm hb)).trans e)
theorem rv_iter {it t : Addr} {i : Int} {Q : Value → Shared → Prop} (hit : IsRv s.heap it t i) (h : Q (.ref it) s) : wpAny (model prog w) A (pyIter (.ref it)) Q E s := by
  refine wpAny_pyIter_slot hit.ty rv_slotI (wpAny_call_entry rv_slotI hit.ty rv_entryI ?_ (rv_argsI _))
  show wpAny _ _ (ret (.ref it)) _ _ s
  exact wpAny_pure ⟨_, rfl, "reversed", _, hit.ty, rv_slot.lookup, h⟩
end
theorem IsRv.at {h h' : Heap} {a l : Addr} {i : Int} (x : IsRv h a l i) (e : ∀ o, h.get? a = some o → h'.get? a = some o) : IsRv h' a l i := let ⟨o, ho, r⟩ := x; ⟨o, e _ ho, r⟩
theorem isTup_at {h h' : Heap} {a : Addr} {its : Array Value} (x : IsTup h a its) (e : ∀ o, h.get? a = some o → h'.get? a = some o) : IsTup h' a its := let ⟨o, ho, r⟩ := x; ⟨o, e _ ho, r⟩
theorem walks_tupRev {prog : Program} {w : World} {A : Around} (hh : A.handled = none) (I l : Addr) (hne : l ≠ I) (items : Array Value) (hz : items.size ≤ sizeLine) :
    Walks prog w A I [I, l] [I] items.size (fun i v => items[items.size - 1 - i]? = some v) (fun i h => i ≤ items.size ∧ IsRv h I l ((items.size : Int) - 1 - (i : Int)) ∧ IsTup h l items) where
  sub := fun b hb => by simp at hb; simp [hb]
  frame := fun _ _ _ x hk => ⟨x.1, x.2.1.at fun o e => hk I (by simp) o e, isTup_at x.2.2 fun o e => hk l (by simp) o e⟩
  item := fun i s Q E hi x hQ => by
    have z62 : sizeLine < 2 ^ 62 := by decide
    have e : (items.size : Int) - 1 - (i : Int) = ((items.size - 1 - i : Nat) : Int) := by omega
    have hit := x.2.1
    rw [e] at hit
    have hx : items[items.size - 1 - i]? = some (items[items.size - 1 - i]'(by omega)) := Array.getElem?_eq_getElem (by omega)
    refine rv_next hit x.2.2 hx (by omega) fun h' tk hit' hs' => ?_
    have e2 : ((items.size - 1 - i : Nat) : Int) - 1 = (items.size : Int) - 1 - ((i + 1 : Nat) : Int) := by omega
    rw [e2] at hit'
    exact hQ _ h' tk hx ⟨hi, hit', isTup_at x.2.2 fun o eo => (hs'.2 l hne).trans eo⟩ fun b o hb eo => hs'.extBut b o (fun h => hb (by simp [h])) eo
  done := fun s Q E x hQ => by
    have e : (items.size : Int) - 1 - (items.size : Int) = -1 := by omega
    have hit := x.2.1
    rw [e] at hit
    exact rv_end hh hit fun h' he' => hQ h' s.toks fun b o hb eo => he' b o (fun h => hb (by simp [h])) eo
  self := fun _ _ _ _ x hQ => rv_iter x.2.1 hQ
section
variable {prog : Program} {w : World} {A : Around} {E : Value → Shared → Prop} {s : Shared}
theorem nolen_rv : typeLookup (.type "reversed") "__len__" = pure none := by rw [typeLookup_type, builtinLookup_eq_fast]; kernel_rfl
theorem hint_rv : typeLookup (.type "reversed") "__length_hint__" = pure (some (.builtin "reversed.__length_hint__")) := by rw [typeLookup_type, builtinLookup_eq_fast]; kernel_rfl
variable {I : Addr} {fp wr : List Addr} {G : Array GenState → Array GenState → Prop} {n : Nat} {P : Nat → Value → Prop} {St : Nat → Shared → Prop}
theorem rv_slotH : Slot "reversed" "__length_hint__" "reversed.__length_hint__" :=
  .of (owner := "reversed") (n := "__length_hint__") (by rw [typeLookup_type, builtinLookup_eq_fast]; kernel_rfl) (by decide +kernel) (by decide +kernel) (by decide +kernel)
    (by first | exact .inl (by decide +kernel) | exact .inr (by decide +kernel)) (by rw [isSubtype_type]; kernel_rfl)
theorem rv_argsH (a : Value) : argsOk "reversed.__length_hint__" ⟨[a], []⟩ := by
  unfold argsOk
  rw [signature?_of (id := "reversed.__length_hint__") (n := ['_', '_', 't', 'n', 'i', 'h', '_', 'h', 't', 'g', 'n', 'e', 'l', '_', '_']) (o := ['d', 'e', 's', 'r', 'e', 'v', 'e', 'r']) (by kernel_rfl) rv_owner]; kernel_rfl
theorem rv_entryH : entryFor table "reversed.__length_hint__" = some Builtin.«reversed.__length_hint__» := entryFor_of_tree (by kernel_rfl)
theorem rv_hint {l : Addr} {items : Array Value} {Q : Value → Shared → Prop} (hit : IsRv s.heap I l ((items.size : Int) - 1)) (ht : IsTup s.heap l items) (hz : items.size ≤ sizeLine)
    (h : ∀ t tk, s.toks ≤ tk → Q (.int (items.size : Int) t) { s with toks := tk }) : wpAny (model prog w) A (call (.builtin "reversed.__length_hint__") [.ref I]) Q E s := by
  obtain ⟨o, ho, hc, hd⟩ := id hit
  have z62 : sizeLine < 2 ^ 62 := by decide
  refine wpAny_call_entry rv_slotH hit.ty rv_entryH ?_ (rv_argsH _)
  unfold Builtin.«reversed.__length_hint__»
  refine wpAny_bind (wpAny_of_eq (a := Value.ref I) rfl ?_)
  refine wpAny_bind (wpAny_field ho hd (x := .ref l) rfl ?_)
  show wpAny _ _ (if (Value.ref l == Value.none) = true then _ else _) _ _ _
  rw [if_neg (show ¬ ((Value.ref l == Value.none) = true) from Bool.false_ne_true)]
  refine wpAny_bind (len_tuple ht (by omega) ?_)
  refine wpAny_bind (wpAny_of_eq (a := some (items.size : Int)) rfl ?_)
  refine wpAny_bind (wpAny_field (s := { s with toks := s.toks + 1 + 1 }) ho hd (x := rawInt ((items.size : Int) - 1)) rfl ?_)
  show wpAny _ _ (if (items.size : Int) < (items.size : Int) - 1 + 1 then _ else _) _ _ _
  rw [if_neg (by omega)]
  refine wpAny_bind (wpAny_mkInt (wpAny_pure ⟨_, rfl, ?_⟩))
  rw [show (items.size : Int) - 1 + 1 = (items.size : Int) by omega]
  exact h _ _ (by show s.toks ≤ s.toks + 1 + 1 + 1; omega)
theorem extend_rv {R : Result → Shared → Prop} (W : WalksS prog w A.in1 I fp wr G n P St) (hT : ∀ i s, St i s → s.TypeIs (.ref I) "reversed")
    (hH : ∀ (s : Shared) (Q : Value → Shared → Prop) (E : Value → Shared → Prop), St 0 s → (∀ t tk, s.toks ≤ tk → Q (.int (n : Int) t) { s with toks := tk }) → wpAny (model prog w) A.in1 (call (.builtin "reversed.__length_hint__") [.ref I]) Q E s)
    (S : Addr) (res : Value) (c0 : Nat) (st0 : St 0 s) (hSf : S ∉ fp) (hI : I ∈ fp)
    (hS : s.heap.get? S = some { cls := .type "list", data := .seq #[] c0 }) (hn : n ≤ sizeLine)
    (hR : ∀ s' acc' c', Moved (S :: wr) G s s' → s'.heap.get? S = some { cls := .type "list", dict := none, data := .seq acc' c', slots := #[] } → ItemsOf P acc' n → R (.ok (.ret res)) s') :
    wpAny (model prog w) A.in1 (Builtin.List.listExtendWith (.ref S) (.ref I) res)
      (fun fin s' => match fin with | .done f => R (.ok f) s' | .again c' => c'.quiet = true ∧ codeAny (model prog w) A c' R s') (fun e s' => R (.error e) s') s := by
  have hne : S ≠ I := fun e => hSf (e ▸ hI)
  have z62 : sizeLine < 2 ^ 62 := by decide
  unfold Builtin.List.listExtendWith
  refine wpAny_bind (wpAny_typeOf (hT 0 _ st0) ?_)
  have z1 : Builtin.List.listSameRef (.ref S) (.ref I) = false := by simp [Builtin.List.listSameRef, hne]
  rw [if_neg (by rw [z1]; decide)]
  refine wpAny_bind (W.self 0 _ _ _ st0 (wpAny_bind (wpAny_holding ?_)))
  unfold Builtin.List.listLengthHint
  refine wpAny_bind (wpAny_specialOf (hT 0 _ st0) nolen_rv ?_)
  show wpAny _ A.in1 (specialOf (Value.ref I) (Str.ofString "__length_hint__") >>= _) _ _ _
  refine wpAny_bind (wpAny_specialOf (hT 0 _ st0) hint_rv ?_)
  generalize hid : ("reversed.__length_hint__" : String) = id0
  wp_delta
  rw [show splitId id0 = some ("reversed", "__length_hint__") from by subst hid; decide +kernel]
  subst hid
  refine wpAny_bind (wpAny_isInstance (b := true) (hT 0 _ st0) (by rw [isSubtype_type]; kernel_rfl) ?_)
  show wpAny _ _ (rule "list.length-hint.hint" >>= _) _ _ _
  refine wpAny_bind (wpAny_rule (wpAny_bind (wpAny_of_eq (rv_slotH.bind _) ?_)))
  try dsimp only
  refine wpAny_bind (wpAny_attempt (hH s _ _ st0 fun t tk htk => ?_))
  have st1 := W.frame 0 s s.heap tk st0 htk fun _ _ _ e => e
  have f1 : Builtin.List.listFitsIndex (n : Int) = true := by unfold Builtin.List.listFitsIndex; simp; omega
  have f2 : Builtin.List.listTooLong n = false := by unfold Builtin.List.listTooLong; simp; omega
  show wpAny _ _ (asInt? (Value.int (n : Int) t) >>= _) _ _ _
  have e1 : asInt? (Value.int (n : Int) t) = (pure (some (n : Int)) : Sem (Option Int)) := rfl
  rw [e1, pure_bind]
  show wpAny _ _ (if (!Builtin.List.listFitsIndex (n : Int)) = true then _ else _) _ _ _
  rw [if_neg (by rw [f1]; decide), if_neg (by omega), if_neg (show ¬ (Builtin.List.listTooLong ((n : Int)).toNat = true) by rw [Int.toNat_natCast, f2]; decide)]
  refine wpAny_pure ?_
  have fin : ∀ (s1 : Shared) (c1 : Nat), St 0 s1 → s1.heap.get? S = some { cls := .type "list", data := .seq #[] c1 } → Moved (S :: wr) G s s1 →
      wpAny (model prog w) A.in1 (again (.builtin "list.extend.loop" ⟨[.ref S, .ref I, res], []⟩))
        (fun fin s' => match fin with | .done f => R (.ok f) s' | .again c' => c'.quiet = true ∧ codeAny (model prog w) A c' R s') (fun e s' => R (.error e) s') s1 := fun s1 c1 t1 h1 m1 =>
    wpAny_pure ⟨plainId_quiet F.plain_extend_loop _, codeAny_extend_loopS W hn _ hSf _ n 0 _ _ _ rfl (Nat.zero_le _) t1 h1 (ItemsOf.nil P) fun s' acc' c' hm hS' hacc => hR s' acc' c' (Moved.trans W.gtrans m1 hm) hS' hacc⟩
  have m0 : Moved (S :: wr) G s { s with toks := tk } := (Moved.refl W.grefl).then_heap (h' := s.heap) htk fun b o hb e => e
  split
  · refine wpAny_bind (wpAny_rule (wpAny_bind ?_))
    show wpAny _ A.in1 (updateSeq S (·.push .none) >>= fun _ => updateSeq S (·.pop)) _ _ _
    refine wpAny_bind (wpAny_updateSeq (s := { s with toks := tk }) hS rfl ?_)
    have hS₂ := Heap.get?_update_self (Obj.mapSeq (·.push Value.none)) hS rfl
    refine wpAny_updateSeq (hz := by seq_fits) hS₂ rfl ?_
    have hS₃ := Heap.get?_update_self (Obj.mapSeq (·.pop)) hS₂ rfl
    have oth : ∀ b o, b ≠ S → s.heap.get? b = some o → ((s.heap.update S (Obj.mapSeq (·.push Value.none))).update S (Obj.mapSeq (·.pop))).get? b = some o :=
      fun b o hb e => (Heap.get?_update_other _ _ (Ne.symm hb)).trans ((Heap.get?_update_other _ _ (Ne.symm hb)).trans e)
    exact fin _ _ (W.frame 0 { s with toks := tk } _ tk st1 (Nat.le_refl _) fun b hb o e => oth b o (fun h => hSf (h ▸ hb)) e) hS₃ ((Moved.refl W.grefl).then_heap htk fun b o hb e => oth b o (fun h => hb (h ▸ List.mem_cons_self)) e)
  · exact fin _ _ st1 hS m0
theorem call_list_rv {Q : Value → Shared → Prop} (W : WalksS prog w A.in1.in1 I fp wr G n P St) (hT : ∀ i s, St i s → s.TypeIs (.ref I) "reversed")
    (hH : ∀ (s : Shared) (Q : Value → Shared → Prop) (E : Value → Shared → Prop), St 0 s → (∀ t tk, s.toks ≤ tk → Q (.int (n : Int) t) { s with toks := tk }) → wpAny (model prog w) A.in1.in1 (call (.builtin "reversed.__length_hint__") [.ref I]) Q E s) (st0 : St 0 s) (hfp : ∀ b ∈ fp, b < s.heap.objs.size) (hI : I ∈ fp) (hn : n ≤ sizeLine)
    (hQ : ∀ s' acc' c', Moved (s.heap.objs.size :: wr) G { s with heap := s.heap.push { cls := .type "list", data := .seq #[] } } s' →
      s'.heap.get? s.heap.objs.size = some { cls := .type "list", dict := none, data := .seq acc' c', slots := #[] } → ItemsOf P acc' n → Q (.ref s.heap.objs.size) s') :
    wpAny (model prog w) A (call (.type "list") [.ref I]) Q E s := by
  have hSf : s.heap.objs.size ∉ fp := fun hm => Nat.lt_irrefl _ (hfp _ hm)
  refine callType_codes (Q₁ := fun obj s₁ => obj = .ref s.heap.objs.size ∧ s₁ = { s with heap := s.heap.push { cls := .type "list", data := .seq #[] } }) F.called_list (F.typeCall_list_1 _) F.entry_list_init
    (code_list_new _ ⟨rfl, rfl⟩) fun obj s1 h1 => ?_
  obtain ⟨rfl, rfl⟩ := h1
  have hS : (s.heap.push { cls := .type "list", data := .seq #[] }).get? s.heap.objs.size = some { cls := .type "list", data := .seq #[] } := Heap.get?_push_size _ rfl
  refine ⟨⟨_, hS, rfl⟩, F.args_list_init_2 _ _, ?_⟩
  have st1 := W.frame 0 s (s.heap.push { cls := .type "list", data := .seq #[] }) s.toks st0 (Nat.le_refl _) fun b _ o e => Heap.get?_push_of_some _ e
  show wpAny _ A.in1.in1 (do let was ← Builtin.List.listItems (.ref s.heap.objs.size); Builtin.List.listUpdate (.ref s.heap.objs.size) (fun _ => #[]); letGo was.toList.reverse; Builtin.List.listExtendWith (.ref s.heap.objs.size) (.ref I) .none) _ _ _
  refine wpAny_bind ?_
  unfold Builtin.List.listItems
  refine wpAny_bind (wpAny_seqItems hS rfl (wpAny_pure ?_))
  show wpAny _ A.in1.in1 (updateSeq s.heap.objs.size (fun _ => #[]) >>= fun _ => letGo (#[] : Array Value).toList.reverse >>= fun _ => Builtin.List.listExtendWith (.ref s.heap.objs.size) (.ref I) .none) _ _ _
  refine wpAny_bind (wpAny_updateSeq hS rfl ?_)
  have hS2 := Heap.get?_update_self (Obj.mapSeq (fun _ => (#[] : Array Value))) hS rfl
  have oth : ∀ b o, b ≠ s.heap.objs.size → (s.heap.push { cls := .type "list", data := .seq #[] }).get? b = some o → ((s.heap.push { cls := .type "list", data := .seq #[] }).update s.heap.objs.size (Obj.mapSeq (fun _ => (#[] : Array Value)))).get? b = some o :=
    fun b o hb e => (Heap.get?_update_other _ _ (Ne.symm hb)).trans e
  refine wpAny_bind (wpAny_letGo ?_)
  refine extend_rv W hT hH _ .none _ (W.frame 0 _ _ s.toks st1 (Nat.le_refl _) fun b hb o e => oth b o (fun h => hSf (h ▸ hb)) e) hSf hI hS2 hn fun s' acc' c' hm hS' hacc => ?_
  exact ⟨rfl, hQ s' acc' c' (Moved.trans W.gtrans ((Moved.refl W.grefl).then_heap (Nat.le_refl _) fun b o hb e => oth b o (fun h => hb (h ▸ List.mem_cons_self)) e) hm) hS' hacc⟩
end
section
variable {X : Cx}
def tLRevT (K : PySem.W.Frag) (te : TE) : TE := fun σ H Q => te σ H fun x H1 => ∃ p ys, x = .ref p ∧ SqT K H1 p ys ∧ ∀ l, H1 l = none → Q (.ref l) (upd H1 l (.lst ys.reverse))
theorem pe_lrevT {e : Expr} {te : TE} {p1 p2 q1 q2 : Pos} (hc : X.calm = true) (hg1 : Gl X "list") (hm1 : X.mg "list" = none) (hg2 : Gl X "reversed") (hm2 : X.mg "reversed" = none) (he : PE X e te)
    (hs1 : starEach [.Call (.Name "reversed" p2) [e] [] q2] X.env = [(false, eval (.Call (.Name "reversed" p2) [e] [] q2) X.env)] := by rfl) (hs2 : starEach [e] X.env = [(false, eval e X.env)] := by rfl) :
    PE X (.Call (.Name "list" p1) [.Call (.Name "reversed" p2) [e] [] q2] [] q1) (tLRevT X.K te) := by
  intro pins s σ H Q I h
  refine wpAny_Call_Name_kw (ld_blt I hg1 hm1 boot_lst (PyProof.Rows.callWith_type1 ?_ hs1 rfl))
  rw [hs1]
  show wpAny _ _ (spliced [(false, eval (.Call (.Name "reversed" p2) [e] [] q2) X.env)]) _ _ s
  refine Calls.spliced_cons (wpAny_Call_Name_kw (ld_blt I hg2 hm2 boot_rev (PyProof.Rows.callWith_type1 ?_ hs2 rfl)))
  rw [hs2]
  show wpAny _ _ (spliced [(false, eval e X.env)]) _ _ s
  refine Calls.spliced_cons (thn (he pins s σ H _ I h) fun u s1 ⟨x, H1, I1, r1, q1⟩ => Calls.spliced_nil ?_)
  obtain ⟨p, ys, rfl, hq, q⟩ := q1
  cases r1
  obtain ⟨its, rv, pl, hz⟩ := I1.tuple hq
  have hl := pl
  have hlt : p < s1.heap.objs.size := by obtain ⟨_, e, _⟩ := hl; exact Heap.lt_size e
  refine call_rev_tup hl (by rw [List.size_toArray, ← rv.length]; exact hz) (Calls.spliced_nil ?_)
  have hne : p ≠ s1.heap.objs.size := Nat.ne_of_lt hlt
  have hsz : (s1.heap.push (rvObj p ((its.toArray.size : Int) - 1))).objs.size = s1.heap.objs.size + 1 := Heap.size_push ..
  refine call_list_rv (fp := [s1.heap.objs.size, p]) (wr := [s1.heap.objs.size]) (walks_tupRev (A := X.A.in1.in1) (I.ok.hd hc) s1.heap.objs.size p hne its.toArray (by rw [List.size_toArray, ← rv.length]; exact hz)).toS (fun i s' st => st.2.1.ty) (fun s' Q' E' st k => rv_hint (by have := st.2.1; simpa using this) st.2.2 (by rw [List.size_toArray, ← rv.length]; exact hz) k) ⟨Nat.zero_le _, ⟨_, Heap.get?_push_size _ rfl, ?_⟩, isTup_at hl fun o e => Heap.get?_push_of_some _ e⟩ (fun b hb => ?_) (by simp) (by rw [List.size_toArray, ← rv.length]; exact hz) fun s' acc c' hm hS hacc => ?_
  · exact ⟨rfl, by simp [rvObj]⟩
  · show b < (s1.heap.push (rvObj p ((its.toArray.size : Int) - 1))).objs.size
    rw [hsz]
    rcases List.mem_cons.mp hb with rfl | hb
    · exact Nat.lt_succ_self _
    · rw [List.mem_singleton.mp hb]; exact Nat.lt_succ_of_lt hlt
  · dsimp only at hm hS
    rw [hsz] at hm hS ⊢
    have hold : ∀ b o, s1.heap.get? b = some o → s'.heap.get? b = some o := fun b o e => by
      have hb := Heap.lt_size e
      refine hm.heap b o (fun hmem => ?_) (Heap.get?_push_of_some _ (Heap.get?_push_of_some _ e))
      rcases List.mem_cons.mp hmem with z | z
      · exact neLt (Nat.lt_succ_of_lt hb) z
      · exact neLt hb (List.mem_singleton.mp z)
    have hv : Vals ys.reverse acc.toList := by
      have hr : acc.toList = its.reverse := by
        refine List.ext_getElem? fun i => ?_
        by_cases hi : i < its.length
        · have hi' : i < acc.size := by rw [hacc.1, List.size_toArray]; exact hi
          have e1 : acc[i]? = some acc[i] := Array.getElem?_eq_getElem hi'
          have e2 := hacc.2 i _ e1
          rw [List.getElem?_reverse hi]
          simp only [List.size_toArray, List.getElem?_toArray] at e2
          rw [e2]
          simpa using e1
        · rw [List.getElem?_eq_none (by rw [Array.length_toList, hacc.1, List.size_toArray]; omega), List.getElem?_eq_none (by rw [List.length_reverse]; omega)]
      rw [hr]
      exact rv.reverse
    have hn := I1.hok.fresh (Nat.le_succ s1.heap.objs.size)
    have J : Inv X pins σ (upd H1 (s1.heap.objs.size + 1) (.lst ys.reverse)) s' := by
      obtain ⟨h', g', d', t', os'⟩ := s'
      obtain rfl : g' = s1.gens := hm.gens
      obtain rfl : d' = s1.drawn := hm.drawn
      obtain rfl : os' = s1.os := hm.os
      exact I1.laid (h' := h') (t' := t') hold (Nat.le_succ _) ⟨by rw [List.length_reverse]; exact hz, acc.toList, c', hv, hS⟩
    exact ⟨.ref (s1.heap.objs.size + 1), _, J, rfl, q _ hn⟩
end
end L2
set_option maxHeartbeats 4000000
namespace L2
open PySem PySem.Spec PyProof.Rows
def tupIn (K : PySem.W.Frag) : Value → Option (List Value)
  | .ref a => (match K.lookup a with
    | some o => (match o.cls, o.data with
      | .type n, .seq its _ => if n == "tuple" && its.size ≤ 8 then some its.toList else none
      | _, _ => none)
    | none => none)
  | _ => none
def strsIn : List Value → Option (List Str)
  | [] => some []
  | .str x _ :: r => (strsIn r).map (x :: ·)
  | _ => none
def wdOk (K : PySem.W.Frag) (e : DictEntry) (r : Str × Str × List Str) : Bool :=
  match e.key with
  | .str x _ => x == r.1 && (match tupIn K e.val with
    | some [.str k _, v2] => k == r.2.1 && (match tupIn K v2 with
      | some its => strsIn its == some r.2.2
      | none => false)
    | _ => false)
  | _ => false
def wdsOk (K : PySem.W.Frag) : List DictEntry → List (Str × Str × List Str) → Bool
  | [], [] => true
  | e :: es, r :: rs => wdOk K e r && wdsOk K es rs
  | _, _ => false
def gOf (es : List DictEntry) (z : Str) : Option (V × Value) := (es.find? (·.key.isStr z)).map fun e => ((absV e.val).getD .non, e.val)
theorem tupIn_sqT {K : PySem.W.Frag} {v : Value} {its : List Value} (h : tupIn K v = some its) : ∃ a, v = .ref a ∧ ∀ (H : Hp) (xs : List V), Vals xs its → SqT K H a xs := by
  unfold tupIn at h
  cases v with
  | ref a =>
    dsimp only at h
    refine ⟨a, rfl, fun H xs hv => ?_⟩
    cases hk : K.lookup a with
    | none => rw [hk] at h; cases h
    | some o =>
      rw [hk] at h
      dsimp only at h
      split at h
      · rename_i n its' m hc hd
        split at h
        · rename_i hz
          injection h with h
          subst h
          simp only [Bool.and_eq_true, beq_iff_eq, decide_eq_true_eq] at hz
          exact .inr ⟨o, its', m, hk, by rw [hc, hz.1], hd, Nat.le_trans hz.2 (by decide), hv⟩
        · cases h
      · cases h
  | _ => cases h
theorem strsIn_vals : ∀ {l : List Value} {xs : List Str}, strsIn l = some xs → Vals (xs.map V.str) l
  | [], xs, h => by
    unfold strsIn at h
    injection h with h; subst h; exact .nil
  | v :: r, xs, h => by
    unfold strsIn at h
    split at h
    · rename_i e; cases e
    · rename_i x t r' e
      injection e with e1 e2
      subst e1 e2
      cases hr : strsIn r with
      | none => rw [hr] at h; cases h
      | some ys =>
        rw [hr] at h
        injection h with h
        subst h
        exact .cons ⟨_, rfl⟩ (strsIn_vals hr)
    · cases h
theorem wdOk_val {K : PySem.W.Frag} {e : DictEntry} {r : Str × Str × List Str} (h : wdOk K e r = true) : (∃ t, e.key = .str r.1 t) ∧ ∃ a, e.val = .ref a ∧ ∀ G : Hp, Dat K G (.ref a) (.tuple [.str r.2.1, .tuple (r.2.2.map PyData.str)]) := by
  unfold wdOk at h
  split at h
  · rename_i x t hk
    rw [Bool.and_eq_true, beq_iff_eq] at h
    obtain ⟨rfl, h⟩ := h
    refine ⟨⟨t, hk⟩, ?_⟩
    split at h
    · rename_i k t2 v2 ht
      rw [Bool.and_eq_true, beq_iff_eq] at h
      obtain ⟨rfl, h⟩ := h
      split at h
      · rename_i its hi
        rw [beq_iff_eq] at h
        obtain ⟨a, ha, sa⟩ := tupIn_sqT ht
        obtain ⟨b, hb, sb⟩ := tupIn_sqT hi
        refine ⟨a, ha, fun G => dat_tup (sa G [.str r.2.1, .ref b] (.cons ⟨_, rfl⟩ (.cons (by rw [hb]; rfl) .nil))) (dats_cons (dat_str _) (dats_cons (dat_tup (sb G _ (strsIn_vals h)) ?_) dats_nil))⟩
        exact dats_strs' _
      · cases h
    · cases h
  · cases h
where
  dats_strs' {K : PySem.W.Frag} {G : Hp} : ∀ ws : List Str, Dats K G (ws.map V.str) (ws.map PyData.str)
    | [] => dats_nil
    | w :: ws => dats_cons (dat_str w) (dats_strs' ws)
theorem isStr_iff {x z : Str} {t : Tok} : (Value.str x t).isStr z = decide (x = z) := by
  unfold Value.isStr
  by_cases h : x = z
  · subst h; simp
  · simp [h]
theorem wds_find {K : PySem.W.Frag} (z : Str) : ∀ {es : List DictEntry} {rs : List (Str × Str × List Str)}, wdsOk K es rs = true →
    (es.find? (·.key.isStr z) = none ∧ rs.find? (fun r => decide (r.1 = z)) = none) ∨ ∃ e r, es.find? (·.key.isStr z) = some e ∧ rs.find? (fun r => decide (r.1 = z)) = some r ∧ wdOk K e r = true
  | [], [], _ => .inl ⟨rfl, rfl⟩
  | [], _ :: _, h => by cases h
  | _ :: _, [], h => by cases h
  | e :: es, r :: rs, h => by
    unfold wdsOk at h
    rw [Bool.and_eq_true] at h
    obtain ⟨⟨t, hk⟩, _⟩ := wdOk_val h.1
    have q : e.key.isStr z = decide (r.1 = z) := by rw [hk]; exact isStr_iff
    rw [List.find?_cons, List.find?_cons, q]
    by_cases hz : r.1 = z
    · rw [decide_eq_true hz]
      exact .inr ⟨e, r, rfl, rfl, h.1⟩
    · rw [decide_eq_false hz]
      exact wds_find z h.2
theorem wds_nokey {K : PySem.W.Frag} : ∀ {es : List DictEntry} {rs : List (Str × Str × List Str)}, wdsOk K es rs = true → es.any (·.refKey) = false
  | [], [], _ => rfl
  | [], _ :: _, h => by cases h
  | _ :: _, [], h => by cases h
  | e :: es, r :: rs, h => by
    unfold wdsOk at h
    rw [Bool.and_eq_true] at h
    obtain ⟨⟨t, hk⟩, _⟩ := wdOk_val h.1
    rw [List.any_cons, wds_nokey h.2, Bool.or_false]
    unfold DictEntry.refKey
    rw [hk]
theorem dictK_of {K : PySem.W.Frag} {P : Params} {a : Addr} {es : Array DictEntry} {n : Nat} {rs : List (Str × Str × List Str)} (hl : K.lookup a = some ⟨.type "dict", none, .dict es n, #[]⟩) (hk : PySem.W.KeysLit P es.toList) (lo : (a == sysModules) = false)
    (h : wdsOk K es.toList rs = true) : DictK K P a (gOf es.toList) ∧ ∀ z, (rs.find? (fun r => decide (r.1 = z)) = none ∧ gOf es.toList z = none) ∨ ∃ r v u, rs.find? (fun r => decide (r.1 = z)) = some r ∧ gOf es.toList z = some (v, u) ∧ ∀ G : Hp, Dat K G v (.tuple [.str r.2.1, .tuple (r.2.2.map PyData.str)]) := by
  refine ⟨⟨⟨es, n, hl, hk⟩, lo, fun x => ?_, fun x v u e => ?_⟩, fun z => ?_⟩
  · unfold PySem.W.nsIn
    rw [hl]
    dsimp only
    unfold gOf
    rcases wds_find x h with ⟨e1, _⟩ | ⟨e, r, e1, _, _⟩
    · rw [e1, wds_nokey h]; rfl
    · rw [e1]; rfl
  · unfold gOf at e
    rcases wds_find x h with ⟨e1, _⟩ | ⟨e', r, e1, _, ok⟩
    · rw [e1] at e; cases e
    · rw [e1] at e
      obtain ⟨_, a', ha, _⟩ := wdOk_val ok
      rw [Option.map_some] at e
      injection e with e
      injection e with e1 e2
      subst e1 e2
      rw [ha]; rfl
  · rcases wds_find z h with ⟨e1, e2⟩ | ⟨e, r, e1, e2, ok⟩
    · exact .inl ⟨e2, by unfold gOf; rw [e1]; rfl⟩
    · obtain ⟨_, a', ha, hd⟩ := wdOk_val ok
      refine .inr ⟨r, .ref a', e.val, e2, ?_, hd⟩
      unfold gOf
      rw [e1, Option.map_some, ha]; rfl
end L2
namespace Ord
open PySem L2
def wordsT : List (Str × Str × List Str) :=
  [(S "like", S "order", []), (S "up", S "order", [S "field"]), (S "down", S "order", [S "field"]), (S "then", S "order", [S "order", S "order"]), (S "turn", S "order", [S "order"]), (S "pick", S "order", [S "case", S "order", S "order"]),
   (S "same", S "case", [S "field"]), (S "both", S "case", [S "mark"]), (S "either", S "case", [S "mark"]), (S "not", S "case", [S "case"]), (S "and", S "case", [S "case", S "case"]), (S "or", S "case", [S "case", S "case"]),
   (S "under", S "mark", [S "field", S "number"]), (S "is", S "mark", [S "field", S "number"])]
def wordT (z : Str) : Option (Str × Str × List Str) := wordsT.find? (fun r => decide (r.1 = z))
structure Wds (K : PySem.W.Frag) (P : Params) (mg : Str → Option Value) where
  a : Addr
  g : Str → Option (V × Value)
  m : mg "WORDS" = some (.ref a)
  D : DictK K P a g
  no : ∀ z, wordT z = none → g z = none
  yes : ∀ z r, wordT z = some r → ∃ v u, g z = some (v, u) ∧ ∀ G : Hp, Dat K G v (.tuple [.str r.2.1, .tuple (r.2.2.map PyData.str)])
theorem wds_of {K : PySem.W.Frag} {P : Params} {mg : Str → Option Value} {a : Addr} {es : Array DictEntry} {n : Nat} (hm : mg "WORDS" = some (.ref a)) (hl : K.lookup a = some ⟨.type "dict", none, .dict es n, #[]⟩) (hk : PySem.W.KeysLit P es.toList) (lo : (a == sysModules) = false)
    (h : wdsOk K es.toList wordsT = true) : Nonempty (Wds K P mg) := by
  obtain ⟨D, q⟩ := dictK_of hl hk lo h
  refine ⟨⟨a, _, hm, D, fun z e => ?_, fun z r e => ?_⟩⟩
  · rcases q z with ⟨_, e1⟩ | ⟨r, v, u, e1, _⟩
    · exact e1
    · rw [show wordT z = _ from e1] at e; cases e
  · rcases q z with ⟨e1, _⟩ | ⟨r', v, u, e1, e2, hd⟩
    · rw [show wordT z = _ from e1] at e; cases e
    · rw [show wordT z = _ from e1] at e
      injection e with e; subst e
      exact ⟨v, u, e2, hd⟩
theorem wordT_opts : ∀ want ∈ [S "order", S "case", S "mark"], ∀ o ∈ optsOf want, ∃ x ps, o = x :: ps ∧ wordT x = some (x, want, ps) := by
  intro want hw
  simp only [List.mem_cons, List.not_mem_nil, or_false] at hw
  have key : ∀ want ∈ [S "order", S "case", S "mark"], ∀ o ∈ optsOf want, o ≠ [] ∧ wordT (o.headD (S "")) = some (o.headD (S ""), want, o.tail) := by decide +kernel
  intro o ho
  have q := key want (by simpa using hw) o ho
  cases o with
  | nil => exact absurd rfl q.1
  | cons x ps => exact ⟨x, ps, rfl, q.2⟩
theorem wordT_none {z : Str} (h : z ∉ ["like", "up", "down", "then", "turn", "pick", "same", "both", "either", "not", "and", "or", "under", "is"].map Str.ofString) : wordT z = none := by
  unfold wordT
  rw [List.find?_eq_none]
  intro r hr
  simp only [decide_eq_true_eq]
  intro e
  subst e
  apply h
  revert r
  decide +kernel
end Ord
set_option maxHeartbeats 4000000
namespace Rdo
open PySem Dig Ord Nm L2 Frac
def Jc (c : Nat) : List (List Nat) → List Nat
  | [] => []
  | [a] => a
  | a :: b :: r => a ++ c :: Jc c (b :: r)
theorem joinC (c : Nat) : ∀ ps : List Str, (Str.join ⟨#[c]⟩ ps).cps.toList = Jc c (ps.map fun p => p.cps.toList)
  | [] => rfl
  | [p] => rfl
  | p :: q :: r => by
    have e : Str.join ⟨#[c]⟩ (p :: q :: r) = p ++ ⟨#[c]⟩ ++ Str.join ⟨#[c]⟩ (q :: r) := rfl
    rw [e, PySem.Str.cps_append, PySem.Str.cps_append]
    simp only [Array.toList_append, joinC c (q :: r), List.map_cons, Jc]
    simp
theorem Jc_inj {c : Nat} : ∀ {L M : List (List Nat)}, L ≠ [] → M ≠ [] → (∀ a ∈ L, c ∉ a) → (∀ a ∈ M, c ∉ a) → Jc c L = Jc c M → L = M
  | [], _, h, _, _, _, _ => absurd rfl h
  | _, [], _, h, _, _, _ => absurd rfl h
  | [a], [b], _, _, _, _, h => by simp only [Jc] at h; rw [h]
  | [a], b :: d :: r, _, _, hL, _, h => by
    simp only [Jc] at h
    exact absurd (by rw [h]; simp) (hL a List.mem_cons_self)
  | a :: b :: r, [d], _, _, _, hM, h => by
    simp only [Jc] at h
    exact absurd (by rw [← h]; simp) (hM d List.mem_cons_self)
  | a :: b :: r, d :: e :: q, _, _, hL, hM, h => by
    rw [Jc, Jc] at h
    obtain ⟨r1, r2⟩ := cut (hL a List.mem_cons_self) (hM d List.mem_cons_self) h
    rw [r1, Jc_inj (L := b :: r) (M := e :: q) (by simp) (by simp) (fun x hx => hL x (List.mem_cons_of_mem _ hx)) (fun x hx => hM x (List.mem_cons_of_mem _ hx)) r2]
theorem split_join {c : Nat} {ws : List Str} (hne : ws ≠ []) (h : ∀ w ∈ ws, c ∉ w.cps.toList) : Txt.split (Txt.join ⟨#[c]⟩ ws) ⟨#[c]⟩ = ws := by
  have e0 : Txt.join ⟨#[c]⟩ ws = Str.join ⟨#[c]⟩ ws := by unfold Txt.join; rw [PySem.StrLaws.glued_eq_join]
  have e1 : Jc c ((Txt.split (Txt.join ⟨#[c]⟩ ws) ⟨#[c]⟩).map fun p => p.cps.toList) = Jc c (ws.map fun p => p.cps.toList) := by
    rw [← joinC, PySem.StrLaws.join_split, e0, joinC]
  have e2 := Jc_inj (by simpa using split_ne _ _) (by simpa using hne) (fun a ha => by
    obtain ⟨p, hp, rfl⟩ := List.mem_map.mp ha
    exact PySem.StrLaws.split_free _ c p hp) (fun a ha => by
    obtain ⟨p, hp, rfl⟩ := List.mem_map.mp ha
    exact h p hp) e1
  generalize Txt.split (Txt.join ⟨#[c]⟩ ws) ⟨#[c]⟩ = X at e2
  clear e0 e1 h hne
  induction X generalizing ws with
  | nil => cases ws with
    | nil => rfl
    | cons _ _ => simp at e2
  | cons x r ih => cases ws with
    | nil => simp at e2
    | cons y q =>
      simp only [List.map_cons, List.cons.injEq] at e2
      rw [str_ext e2.1, ih e2.2]
theorem str_int' (x : Int) : (Str.ofString (toString x)).cps.toList = tp x := by
  unfold tp
  by_cases h : x < 0
  · rw [if_pos h]
    have e : x = -((x.natAbs : Nat) : Int) := by omega
    have := codes_neg x.natAbs (by omega)
    rw [← e] at this
    exact this
  · rw [if_neg h]
    have e : x = ((x.natAbs : Nat) : Int) := by omega
    have := codes_num x.natAbs
    rw [← e] at this
    exact this
def tailN (b : Int) : Str := if b = 1 then Str.ofString "" else Str.ofString "/" ++ Str.ofString (toString b)
def shN (a b : Int) : Str := Str.ofString (toString a) ++ tailN b
theorem sl47' : (Str.ofString "/" : Str) = ⟨#[47]⟩ := by decide +kernel
theorem tail_codes {b : Int} (h : 1 ≤ b) : (tailN b).cps.toList = if b = 1 then [] else 47 :: dig b.natAbs := by
  unfold tailN
  split
  · rw [em']
  · rw [PySem.Str.cps_append, Array.toList_append, str_int', sl47']
    unfold tp
    rw [if_neg (by omega)]; rfl
theorem shN_codes {a b : Int} (h : 1 ≤ b) : (shN a b).cps.toList = nt (a, b) := by
  unfold shN
  rw [PySem.Str.cps_append, Array.toList_append, str_int', tail_codes h]
  rfl
theorem tp_len {z : Int} (h : z.natAbs < 10 ^ 40) : (tp z).length ≤ 41 := by
  have := dig_len (m := z.natAbs) (k := 40) (by decide) h
  unfold tp
  split
  · rw [List.length_cons]; omega
  · omega
theorem nt_len {a b : Int} (h1 : a.natAbs < 10 ^ 40) (h2 : b.natAbs < 10 ^ 40) : (nt (a, b)).length ≤ 90 := by
  have := tp_len h1
  have := dig_len (m := b.natAbs) (k := 40) (by decide) h2
  unfold nt
  rw [List.length_append]
  split <;> simp <;> omega
theorem dig_no {c : Nat} (h : c < 48) (n : Nat) : c ∉ dig n := fun m => by
  have := dig_digits n c m
  omega
theorem nt_no32 (a : Int × Int) : 32 ∉ nt a := by
  unfold nt tp
  intro m
  rcases List.mem_append.mp m with m | m
  · split at m
    · rcases List.mem_cons.mp m with m | m
      · cases m
      · exact dig_no (by decide) _ m
    · exact dig_no (by decide) _ m
  · split at m
    · cases m
    · rcases List.mem_cons.mp m with m | m
      · cases m
      · exact dig_no (by decide) _ m
def shW : Wd → Str
  | .t x => x
  | .n a b => shN a b
def shown (ws : List Wd) : Str := Txt.join ⟨#[32]⟩ (ws.map shW)
def WOk : Wd → Prop
  | .t x => IsName x ∨ (wordT x).isSome
  | .n a b => Lst (a, b) ∧ a.natAbs < 10 ^ 40 ∧ b.natAbs < 10 ^ 40
theorem word_few : ∀ r ∈ wordsT, 32 ∉ r.1.cps.toList ∧ r.1.cps.toList.length ≤ 8 ∧ r.2.2.length ≤ 3 := by decide +kernel
theorem wordT_mem {z : Str} {r : Str × Str × List Str} (h : wordT z = some r) : r ∈ wordsT ∧ r.1 = z := by
  unfold wordT at h
  exact ⟨List.mem_of_find?_eq_some h, by have := List.find?_some h; simpa using this⟩
theorem shW_ok {w : Wd} (h : WOk w) : 32 ∉ (shW w).cps.toList ∧ (shW w).cps.toList.length ≤ 90 := by
  cases w with
  | t x =>
    rcases h with h | h
    · exact ⟨fun m => by have := h.low 32 m; omega, by have := h.le; show x.cps.toList.length ≤ 90; omega⟩
    · obtain ⟨r, hr⟩ := Option.isSome_iff_exists.mp h
      obtain ⟨m, e⟩ := wordT_mem hr
      have := word_few r m
      rw [e] at this
      exact ⟨this.1, by have := this.2.1; show x.cps.toList.length ≤ 90; omega⟩
  | n a b =>
    obtain ⟨l, h1, h2⟩ := h
    show 32 ∉ (shN a b).cps.toList ∧ (shN a b).cps.toList.length ≤ 90
    rw [shN_codes l.pos]
    exact ⟨nt_no32 _, nt_len h1 h2⟩
theorem split_shown {ws : List Wd} (hne : ws ≠ []) (h : ∀ w ∈ ws, WOk w) : Txt.split (shown ws) ⟨#[32]⟩ = ws.map shW :=
  split_join (by simpa using hne) fun w hw => by
    obtain ⟨x, hx, rfl⟩ := List.mem_map.mp hw
    exact (shW_ok (h x hx)).1
theorem run_ne {fld : Str → Prop} {num : Int → Int → Prop} {ws : List Wd} (h : IsOrd fld num ws) : ws ≠ [] := by
  intro e
  subst e
  cases h
theorem step_ok {fld : Str → Prop} {num : Int → Int → Prop} (hf : ∀ x, fld x → IsName x) (hn : ∀ a b, num a b → Lst (a, b) ∧ a.natAbs < 10 ^ 40 ∧ b.natAbs < 10 ^ 40) {st st1 : List Str} {w : Wd} (h : Step fld num st w st1) (hs : ∀ x ∈ st, x ∈ [S "order", S "case", S "mark", S "field", S "number"]) :
    WOk w ∧ ∀ x ∈ st1, x ∈ [S "order", S "case", S "mark", S "field", S "number"] := by
  cases h with
  | field hx => exact ⟨.inl (hf _ hx), fun x m => hs x (List.mem_cons_of_mem _ m)⟩
  | number hx => exact ⟨hn _ _ hx, fun x m => hs x (List.mem_cons_of_mem _ m)⟩
  | @word want x ps st0 n1 n2 ho =>
    have hw := hs want List.mem_cons_self
    have hw3 : want ∈ [S "order", S "case", S "mark"] := by
      simp only [List.mem_cons, List.not_mem_nil, or_false] at hw ⊢
      rcases hw with z | z | z | z | z
      · exact .inl z
      · exact .inr (.inl z)
      · exact .inr (.inr z)
      · exact absurd z n1
      · exact absurd z n2
    obtain ⟨y, qs, e, hy⟩ := wordT_opts want hw3 _ ho
    injection e with e1 e2
    subst e1 e2
    refine ⟨.inr (by rw [hy]; rfl), fun p m => ?_⟩
    rcases List.mem_append.mp m with m | m
    · obtain ⟨x', ps', e, _, hp⟩ := opts_form want _ ho
      injection e with e1 e2
      subst e1 e2
      have := hp p m
      simp only [List.mem_cons, List.not_mem_nil, or_false]
      exact this
    · exact hs p (List.mem_cons_of_mem _ m)
theorem step_word {fld : Str → Prop} {num : Int → Int → Prop} {st st1 : List Str} {w : Wd} (h : Step fld num st w st1) (hs : ∀ x ∈ st, x ∈ [S "order", S "case", S "mark", S "field", S "number"]) :
    (∃ x st0, st = S "field" :: st0 ∧ w = .t x ∧ fld x ∧ st1 = st0) ∨ (∃ a b st0, st = S "number" :: st0 ∧ w = .n a b ∧ num a b ∧ st1 = st0) ∨
    ∃ want x ps st0, st = want :: st0 ∧ w = .t x ∧ want ≠ S "field" ∧ want ≠ S "number" ∧ wordT x = some (x, want, ps) ∧ ps.length ≤ 3 ∧ st1 = ps ++ st0 := by
  cases h with
  | field hx => exact .inl ⟨_, _, rfl, rfl, hx, rfl⟩
  | number hx => exact .inr (.inl ⟨_, _, _, rfl, rfl, hx, rfl⟩)
  | @word want x ps st0 n1 n2 ho =>
    have hw := hs want List.mem_cons_self
    have hw3 : want ∈ [S "order", S "case", S "mark"] := by
      simp only [List.mem_cons, List.not_mem_nil, or_false] at hw ⊢
      rcases hw with z | z | z | z | z
      · exact .inl z
      · exact .inr (.inl z)
      · exact .inr (.inr z)
      · exact absurd z n1
      · exact absurd z n2
    obtain ⟨y, qs, e, hy⟩ := wordT_opts want hw3 _ ho
    injection e with e1 e2
    subst e1 e2
    obtain ⟨x', ps', e, hl, _⟩ := opts_form want _ ho
    injection e with e1 e2
    subst e1 e2
    exact .inr (.inr ⟨want, x, ps, st0, rfl, rfl, n1, n2, hy, hl, rfl⟩)
theorem run_ok {fld : Str → Prop} {num : Int → Int → Prop} (hf : ∀ x, fld x → IsName x) (hn : ∀ a b, num a b → Lst (a, b) ∧ a.natAbs < 10 ^ 40 ∧ b.natAbs < 10 ^ 40) {st st1 : List Str} {ws : List Wd} (h : Run fld num st ws st1) (hs : ∀ x ∈ st, x ∈ [S "order", S "case", S "mark", S "field", S "number"]) : ∀ w ∈ ws, WOk w := by
  induction h with
  | nil => intro w m; cases m
  | cons a _ ih =>
    have := step_ok hf hn a hs
    intro w m
    rcases List.mem_cons.mp m with rfl | m
    · exact this.1
    · exact ih this.2 w m
end Rdo
set_option maxHeartbeats 4000000
namespace L2
open PySem PySem.Spec PyProof.Rows
section
variable {prog : Program} {w : World} {A : Around} {E : Value → Shared → Prop} {s : Shared}
end
section
variable {X : Cx} {K : PySem.W.Frag} {e st : Expr} {te : TE} {ts : TO} {p2 pos : Pos}
end
end L2
namespace HT
open PySem PySem.Spec PyProof.Rows
section
variable {prog : Program} {w : World} {A : Around} {E : Value → Shared → Prop} {s : Shared}
end
end HT
namespace L2
open PySem PySem.Spec PyProof.Rows
section
variable {X : Cx} {K : PySem.W.Frag}
theorem ev_catT {σ : St} {G : Hp} {ta tb : TE} {ds es : List PyData} (ha : Ev K ta σ G (.tuple ds)) (hb : Ev K tb σ G (.tuple es)) (hne : ds ≠ []) (hz : ds.length + es.length ≤ sizeLine) : Ev K (tOp (rCatT K) ta tb) σ G (.tuple (ds ++ es)) :=
  ev_op ha hb fun G1 H u v Q s1 s2 hu hv k => by
    obtain ⟨p, xs, rfl, hp, hxs⟩ := hu.tup
    obtain ⟨q, ys, rfl, hq, hys⟩ := hv.tup
    have l1 := hxs.length
    have l2 := hys.length
    refine ⟨p, q, xs, ys, rfl, rfl, s2.tup hp, s2.tup hq, fun e => hne (by subst e; exact List.length_eq_zero_iff.mp l1.symm), by omega, fun e => ?_, fun e r hr => ?_⟩
    · refine k _ G1 H (Grow.refl s2) ?_
      subst e
      have : es = [] := List.length_eq_zero_iff.mp l2.symm
      subst this
      rw [List.append_nil]
      exact dat_tup hp hxs
    · have g := grow_new (o := .tup (xs ++ ys)) s2 hr
      exact k _ _ _ g (dat_tup (SqT.of upd_same) (dats_append (hxs.same g.gg) (hys.same g.gg)))
end
end L2
set_option maxHeartbeats 4000000
namespace L2
open PySem PySem.Spec PyProof.Rows
section
variable {prog : Program} {w : World} {A : Around} {E : Value → Shared → Prop} {s : Shared}
end
section
variable {X : Cx}
end
end L2
set_option maxHeartbeats 4000000
namespace L2
open PySem PySem.Spec PyProof.Rows
section
variable {K : PySem.W.Frag} {σ : St} {G : Hp} {ta tb : TE}
theorem ev_addS {x y : Str} (ha : Ev K ta σ G (.str x)) (hb : Ev K tb σ G (.str y)) (hz : x.length + y.length ≤ sizeLine) :
    Ev K (tOp (fun x y H Q => ∃ i j, x = .str i ∧ y = .str j ∧ i.length + j.length ≤ sizeLine ∧ Q (.str (i ++ j)) H) ta tb) σ G (.str (x ++ y)) :=
  ev_op ha hb fun G1 H u v Q s1 s2 hu hv k => ⟨x, y, hu.str, hv.str, hz, k _ G1 H (Grow.refl s2) (dat_str _)⟩
theorem ev_strI {t : TA} {i : Int} (h : EvA K t σ G [.int i]) (hz : i.natAbs.log2 < 1920) : Ev K (tCB (fun xs H Q => ∃ i, xs = [.int i] ∧ i.natAbs.log2 < 1920 ∧ Q (.str (toString i)) H) t) σ G (.str (Str.ofString (toString i))) :=
  ev_cb h fun G1 H xs Q s1 s2 hx k => by
    obtain ⟨y, r, rfl, hy, hr⟩ := hx.cons
    cases hr.nil
    cases hy.int
    exact ⟨i, rfl, hz, k _ G1 H (Grow.refl s2) (dat_str _)⟩
theorem ev_intB {t : TA} {b : Bool} (h : EvA K t σ G [.bool b]) : Ev K (tCB (fun xs H Q => (∃ i, xs = [.int i] ∧ Q (.int i) H) ∨ ∃ k, xs = [.bl k] ∧ Q (.int (if k then 1 else 0)) H) t) σ G (.int (if b then 1 else 0)) :=
  ev_cb h fun G1 H xs Q s1 s2 hx k => by
    obtain ⟨y, r, rfl, hy, hr⟩ := hx.cons
    cases hr.nil
    cases hy.bl
    exact .inr ⟨b, rfl, k _ G1 H (Grow.refl s2) (dat_int _)⟩
end
theorem strOk_of {x : Str} (h : ∀ c ∈ x.cps.toList, c < 128) : PyData.canLay0 (.str x) = true := by
  unfold PyData.canLay0 PyData.strOk
  rw [Array.all_eq_true']
  intro c hc
  have := h c (Array.mem_toList_iff.mpr hc)
  simp; omega
theorem pl_str {n : Nat} {x : Str} (h : ∀ c ∈ x.cps.toList, c < 128) : Pl n (.str x) := ⟨strOk_of h, by unfold PyData.depth; omega, by unfold noBool; rfl⟩
end L2
namespace Rdo
open PySem L2 Ord Nm
theorem word_low : ∀ r ∈ wordsT, ∀ c ∈ r.1.cps.toList, c < 128 := by decide +kernel
theorem pl_wd {n : Nat} {w : Wd} (h : WOk w) : Pl (n + 1) w.d := by
  cases w with
  | t x =>
    refine pl_str ?_
    rcases h with h | h
    · intro c m; have := h.low c m; omega
    · obtain ⟨r, hr⟩ := Option.isSome_iff_exists.mp h
      obtain ⟨m, e⟩ := wordT_mem hr
      have := word_low r m
      rw [e] at this
      exact this
  | n a b =>
    refine pl_tup fun d hd => ?_
    · rcases List.mem_cons.mp hd with rfl | hd
      · exact pl_int a
      · rw [List.mem_singleton.mp hd]; exact pl_int b
theorem pl_wds {n : Nat} {ws : List Wd} (h : ∀ w ∈ ws, WOk w) : Pl (n + 2) (.tuple (ws.map Wd.d)) := pl_tup fun d hd => by
  obtain ⟨w, hw, rfl⟩ := List.mem_map.mp hd
  exact pl_wd (h w hw)
theorem log_small {i : Int} (h : i.natAbs < 10 ^ 40) : i.natAbs.log2 < 1920 := by
  by_cases h0 : i.natAbs = 0
  · rw [h0]; decide
  · exact (Nat.log2_lt h0).mpr (Nat.lt_of_lt_of_le h (by decide +kernel))
theorem shown_len {ws : List Wd} (h : ∀ w ∈ ws, WOk w) : (ws.map fun w => (shW w).length).sum ≤ 90 * ws.length := by
  induction ws with
  | nil => simp
  | cons w r ih =>
    have := (shW_ok (h w List.mem_cons_self)).2
    rw [List.map_cons, List.sum_cons, List.length_cons, Dig.len_codes]
    have := ih fun x hx => h x (List.mem_cons_of_mem _ hx)
    omega
end Rdo
set_option maxHeartbeats 4000000
namespace Rdo
open PySem Dig Ord Nm L2 Frac
theorem Run.app {fld : Str → Prop} {num : Int → Int → Prop} {st st1 st2 : List Str} {a b : List Wd} (h : Run fld num st a st1) (k : Run fld num st1 b st2) : Run fld num st (a ++ b) st2 := by
  induction h with
  | nil => exact k
  | cons s _ ih => exact .cons s (ih k)
theorem Step.frame {fld : Str → Prop} {num : Int → Int → Prop} {st st1 : List Str} {w : Wd} (r : List Str) (h : Ord.Step fld num st w st1) : Ord.Step fld num (st ++ r) w (st1 ++ r) := by
  cases h with
  | field hx => exact .field hx
  | number hx => exact .number hx
  | word n1 n2 ho =>
    rw [List.append_assoc]
    exact .word n1 n2 ho
theorem Run.frame {fld : Str → Prop} {num : Int → Int → Prop} {st st1 : List Str} {a : List Wd} (r : List Str) (h : Run fld num st a st1) : Run fld num (st ++ r) a (st1 ++ r) := by
  induction h with
  | nil => exact .nil
  | cons s _ ih => exact .cons (Step.frame r s) ih
section
variable {fld : Str → Prop} {num : Int → Int → Prop} {a b : List Wd}
theorem o_then (ha : IsOrd fld num a) (hb : IsOrd fld num b) : IsOrd fld num (.t (S "then") :: (a ++ b)) :=
  .cons (st1 := [S "order", S "order"]) (Ord.Step.word (ps := [S "order", S "order"]) (st := []) (by decide +kernel) (by decide +kernel) (by decide +kernel)) (Run.app (Run.frame [S "order"] ha) hb)
theorem o_turn (hb : IsOrd fld num b) : IsOrd fld num (.t (S "turn") :: b) :=
  .cons (st1 := [S "order"]) (Ord.Step.word (ps := [S "order"]) (st := []) (by decide +kernel) (by decide +kernel) (by decide +kernel)) hb
theorem o_pick {x : Str} (hx : fld x) (ha : IsOrd fld num a) (hb : IsOrd fld num b) : IsOrd fld num (.t (S "pick") :: .t (S "same") :: .t x :: (a ++ b)) :=
  .cons (st1 := [S "case", S "order", S "order"]) (Ord.Step.word (ps := [S "case", S "order", S "order"]) (st := []) (by decide +kernel) (by decide +kernel) (by decide +kernel))
    (.cons (st1 := [S "field", S "order", S "order"]) (Ord.Step.word (ps := [S "field"]) (st := [S "order", S "order"]) (by decide +kernel) (by decide +kernel) (by decide +kernel))
      (.cons (Ord.Step.field hx) (Run.app (Run.frame [S "order"] ha) hb)))
end
theorem shown_join (ws : List Wd) : shown ws = Str.join ⟨#[32]⟩ (ws.map shW) := by unfold shown Txt.join; rw [PySem.StrLaws.glued_eq_join]
theorem shown_cons (w : Wd) {ws : List Wd} (h : ws ≠ []) : shown (w :: ws) = shW w ++ Str.ofString " " ++ shown ws := by
  rw [shown_join, shown_join, sp32]
  cases ws with
  | nil => exact absurd rfl h
  | cons v r => rfl
theorem shown_app {a b : List Wd} (ha : a ≠ []) (hb : b ≠ []) : shown (a ++ b) = shown a ++ Str.ofString " " ++ shown b := by
  induction a with
  | nil => exact absurd rfl ha
  | cons w r ih =>
    cases r with
    | nil =>
      show shown (w :: b) = _
      rw [shown_cons w hb]
      congr 2
    | cons v q =>
      show shown (w :: ((v :: q) ++ b)) = _
      rw [shown_cons w (by simp), ih (by simp), shown_cons w (ws := v :: q) (by simp), PySem.Str.append_assoc, PySem.Str.append_assoc, PySem.Str.append_assoc, PySem.Str.append_assoc, PySem.Str.append_assoc]
theorem wd_first {w : Wd} (h : WOk w) : ∃ c r, (shW w).cps.toList = c :: r ∧ (97 ≤ c ↔ ∃ x, w = .t x) := by
  cases w with
  | t x =>
    have key : ∀ r ∈ wordsT, ∃ c q, r.1.cps.toList = c :: q ∧ 97 ≤ c := by
      intro r hr
      have k2 : ∀ r ∈ wordsT, 97 ≤ r.1.cps.toList.headD 0 := by decide +kernel
      have := k2 r hr
      cases e : r.1.cps.toList with
      | nil => rw [e] at this; simp at this
      | cons c q => rw [e] at this; exact ⟨c, q, rfl, this⟩
    rcases h with h | h
    · have h1 := h.ne
      cases e : x.cps.toList with
      | nil => rw [e] at h1; simp at h1
      | cons c q =>
        have := h.low c (by rw [e]; exact List.mem_cons_self)
        exact ⟨c, q, e, fun _ => ⟨x, rfl⟩, fun _ => this.1⟩
    · obtain ⟨r, hr⟩ := Option.isSome_iff_exists.mp h
      obtain ⟨m, e⟩ := wordT_mem hr
      obtain ⟨c, q, e2, hc⟩ := key r m
      rw [e] at e2
      exact ⟨c, q, e2, fun _ => ⟨x, rfl⟩, fun _ => hc⟩
  | n a b =>
    obtain ⟨l, h1, h2⟩ := h
    show ∃ c r, (shN a b).cps.toList = c :: r ∧ _
    rw [shN_codes l.pos]
    have fg := fig_dig a.natAbs
    unfold nt tp
    by_cases hn : a < 0
    · rw [if_pos hn]
      exact ⟨45, _, rfl, fun z => absurd z (by decide), fun ⟨x, e⟩ => by cases e⟩
    · rw [if_neg hn]
      cases e : dig a.natAbs with
      | nil => exact absurd e fg.ne
      | cons c q =>
        have := dig_digits a.natAbs c (by rw [e]; exact List.mem_cons_self)
        exact ⟨c, _, rfl, fun z => by omega, fun ⟨x, e⟩ => by cases e⟩
theorem shW_inj {v w : Wd} (hv : WOk v) (hw : WOk w) (h : shW v = shW w) : v = w := by
  obtain ⟨c, r, e1, i1⟩ := wd_first hv
  obtain ⟨d, q, e2, i2⟩ := wd_first hw
  have ecd : c = d := by rw [h, e2] at e1; injection e1 with z _; exact z.symm
  subst ecd
  cases v with
  | t x =>
    obtain ⟨y, rfl⟩ := i2.mp (i1.mpr ⟨x, rfl⟩)
    exact congrArg Wd.t h
  | n a b =>
    cases w with
    | t y => obtain ⟨x, z⟩ := i1.mp (i2.mpr ⟨y, rfl⟩); cases z
    | n p q' =>
      have e : nt (a, b) = nt (p, q') := by
        have := congrArg (fun s : Str => s.cps.toList) h
        rw [show shW (.n a b) = shN a b from rfl, show shW (.n p q') = shN p q' from rfl] at this
        (try dsimp only at this)
        rw [shN_codes hv.1.pos, shN_codes hw.1.pos] at this
        exact this
      have := nt_inj hv.1.pos hw.1.pos e
      injection this with z1 z2
      subst z1 z2
      rfl
theorem shown_inj {v w : List Wd} (hv0 : v ≠ []) (hw0 : w ≠ []) (hv : ∀ x ∈ v, WOk x) (hw : ∀ x ∈ w, WOk x) (h : shown v = shown w) : v = w := by
  have e : v.map shW = w.map shW := by rw [← split_shown hv0 hv, ← split_shown hw0 hw, h]
  clear h hv0 hw0
  induction v generalizing w with
  | nil => cases w with
    | nil => rfl
    | cons _ _ => simp at e
  | cons x r ih => cases w with
    | nil => simp at e
    | cons y q =>
      simp only [List.map_cons, List.cons.injEq] at e
      rw [shW_inj (hv x List.mem_cons_self) (hw y List.mem_cons_self) e.1, ih (fun z m => hv z (List.mem_cons_of_mem _ m)) (fun z m => hw z (List.mem_cons_of_mem _ m)) e.2]
end Rdo
namespace Num
open Frac Dig
def cnt (row : List (Int × Int)) (n : Int × Int) : Nat := (row.filter fun r => decide (cmp r n < 0)).length
def ins (row : List (Int × Int)) (n : Int × Int) : List (Int × Int) := if n ∈ row then row else row.take (cnt row n) ++ n :: row.drop (cnt row n)
def Srt (row : List (Int × Int)) : Prop := row.Pairwise fun a b => cmp a b < 0
theorem lt_trans {a b c : Int × Int} (ha : Lst a) (hb : Lst b) (hc : Lst c) (h1 : cmp a b < 0) (h2 : cmp b c < 0) : cmp a c < 0 := by
  rw [cmp_lead ha.pos hb.pos hc.pos (by omega) (by omega)]
  split <;> assumption
theorem cnt_le (row : List (Int × Int)) (n : Int × Int) : cnt row n ≤ row.length := List.length_filter_le _ _
theorem cnt_pre : ∀ {row : List (Int × Int)} {n : Int × Int}, Srt row → (∀ r ∈ row, Lst r) → Lst n → ∀ (i : Nat) (h : i < row.length), i < cnt row n ↔ cmp row[i] n < 0
  | [], _, _, _, _, _, h => by simp at h
  | a :: r, n, hs, hl, hn, i, h => by
    obtain ⟨h1, h2⟩ := List.pairwise_cons.mp hs
    have hl' : ∀ x ∈ r, Lst x := fun x hx => hl x (List.mem_cons_of_mem _ hx)
    unfold cnt
    rw [List.filter_cons]
    by_cases ha : cmp a n < 0
    · rw [if_pos (decide_eq_true ha), List.length_cons]
      cases i with
      | zero => simp [ha]
      | succ i =>
        have ih := cnt_pre h2 hl' hn i (by simpa using h)
        unfold cnt at ih
        simpa using ih
    · rw [if_neg (by rw [decide_eq_false ha]; exact Bool.false_ne_true)]
      have e : r.filter (fun r => decide (cmp r n < 0)) = [] := List.filter_eq_nil_iff.mpr fun x hx => by
        intro z
        exact ha (lt_trans (hl a List.mem_cons_self) (hl' x hx) hn (h1 x hx) (of_decide_eq_true z))
      rw [e]
      constructor
      · intro z; simp at z
      · intro z
        cases i with
        | zero => exact absurd z ha
        | succ i =>
          have hi : i < r.length := by simpa using h
          have z' : cmp r[i] n < 0 := by simpa using z
          exact absurd (lt_trans (hl a List.mem_cons_self) (hl' _ (List.getElem_mem hi)) hn (h1 _ (List.getElem_mem hi)) z') ha
theorem self_no {n : Int × Int} (h : Lst n) : ¬ cmp n n < 0 := by
  rw [(cmp_zero h h).mpr rfl]; decide
theorem mem_at {row : List (Int × Int)} {n : Int × Int} (hs : Srt row) (hl : ∀ r ∈ row, Lst r) (hn : Lst n) : n ∈ row ↔ row[cnt row n]? = some n := by
  constructor
  · intro h
    obtain ⟨i, hi, e⟩ := List.getElem_of_mem h
    have h1 : ¬ i < cnt row n := fun z => self_no hn (by have := (cnt_pre hs hl hn i hi).mp z; rw [e] at this; exact this)
    have h2 : ¬ cnt row n < i := fun z => by
      have hc : cnt row n < row.length := by omega
      have := (List.pairwise_iff_getElem.mp hs) _ _ hc hi z
      rw [e] at this
      exact absurd ((cnt_pre hs hl hn _ hc).mpr this) (Nat.lt_irrefl _)
    have e2 : cnt row n = i := by omega
    rw [e2, List.getElem?_eq_getElem hi, e]
  · intro h; exact List.mem_of_getElem? h
theorem ins_mem {row : List (Int × Int)} {n x : Int × Int} (h : x ∈ ins row n) : x = n ∨ x ∈ row := by
  unfold ins at h
  split at h
  · exact .inr h
  · rcases List.mem_append.mp h with h | h
    · exact .inr (List.mem_of_mem_take h)
    · rcases List.mem_cons.mp h with h | h
      · exact .inl h
      · exact .inr (List.mem_of_mem_drop h)
theorem ins_srt {row : List (Int × Int)} {n : Int × Int} (hs : Srt row) (hl : ∀ r ∈ row, Lst r) (hn : Lst n) : Srt (ins row n) := by
  unfold ins
  split
  · exact hs
  · rename_i hni
    have hlt : ∀ x ∈ row.take (cnt row n), cmp x n < 0 := fun x hx => by
      obtain ⟨i, hi, e⟩ := List.getElem_of_mem hx
      rw [List.length_take] at hi
      rw [List.getElem_take] at e
      rw [← e]
      exact (cnt_pre hs hl hn i (by omega)).mp (by omega)
    have hgt : ∀ x ∈ row.drop (cnt row n), cmp n x < 0 := fun x hx => by
      obtain ⟨i, hi, e⟩ := List.getElem_of_mem hx
      rw [List.length_drop] at hi
      rw [List.getElem_drop] at e
      have h1 : ¬ cmp row[cnt row n + i] n < 0 := fun z => by
        have := (cnt_pre hs hl hn (cnt row n + i) (by omega)).mpr z
        omega
      rw [e] at h1
      have hx' : x ∈ row := List.mem_of_mem_drop hx
      have h2 : cmp x n ≠ 0 := fun z => hni ((cmp_zero (hl x hx') hn).mp z ▸ hx')
      have h3 := cmp_swap x n
      rcases cmp_tri x n with h | h | h <;> omega
    have ht : Srt (row.take (cnt row n)) := List.Pairwise.sublist (List.take_sublist _ _) hs
    have hd : Srt (row.drop (cnt row n)) := List.Pairwise.sublist (List.drop_sublist _ _) hs
    refine List.pairwise_append.mpr ⟨ht, List.pairwise_cons.mpr ⟨hgt, hd⟩, fun x hx y hy => ?_⟩
    rcases List.mem_cons.mp hy with rfl | hy
    · exact hlt x hx
    · exact lt_trans (hl x (List.mem_of_mem_take hx)) hn (hl y (List.mem_of_mem_drop hy)) (hlt x hx) (hgt y hy)
theorem ins_len (row : List (Int × Int)) (n : Int × Int) : (ins row n).length ≤ row.length + 1 := by
  unfold ins
  split
  · omega
  · rw [List.length_append, List.length_cons, List.length_take, List.length_drop]; omega
end Num
set_option maxHeartbeats 4000000
namespace L2
open PySem PySem.Spec PyProof.Rows
structure LamScope (fr sc : Scope) (ps cap : List Str) : Prop where
  kind : sc.kind = .function
  co : sc.isCoroutine = false
  gen : sc.isGenerator = false
  cell : ∀ p ∈ sc.names, p.2 ≠ .cell
  par : ∀ y ∈ ps, sc.names.lookup y = some .local
  free : ∀ p ∈ sc.names, p.2 = .free → fr.names.lookup p.1 = some .cell
  caps : ∀ y ∈ cap, (y, NameKind.free) ∈ sc.names
  capl : ∀ y ∈ cap, sc.names.lookup y = some .free
  nd : (ps ++ cap).Nodup
def IsLam (H : Hp) (f : Addr) (q : Str) (params : Arguments) (body : Expr) (sc : Scope) (cl : List (Str × Addr)) : Prop :=
  ∃ (pm ctv : Value) (c' : Addr) (oc : Obj), H f = some (.frz (PySem.W.kla_obj "<lambda>" q params body sc cl pm c' ctv) (.own f)) ∧ H c' = some (.frz oc (.own c')) ∧ CodeOf oc q
structure CellsAre (s : Shared) (H : Hp) (cl : List (Str × Addr)) (cap : List Str) (vals : St) : Prop where
  inj : ∀ x y c, cl.lookup x = some c → cl.lookup y = some c → x = y
  isc : ∀ x c, cl.lookup x = some c → (∃ v, s.heap.IsCell c v) ∧ H c = none
  val : ∀ (i : Nat) (y : Str) (v : V), cap[i]? = some y → vals[i]? = some (some v) → ∃ c u, cl.lookup y = some c ∧ s.heap.IsCell c (some u) ∧ RelV v u
theorem codeRec_frz {P : Program} {w : World} {H : Hp} {h : Heap} {c : Addr} {oc : Obj} {q : Str} (ok : HOk P w H h) (e : H c = some (.frz oc (.own c))) (hc : CodeOf oc q) : h.CodeRec (.ref c) q := by
  obtain ⟨e1, _⟩ := ok c _ e
  obtain ⟨vs, t, d1, d2⟩ := hc
  exact ⟨c, oc, vs, t, rfl, e1, d1, d2⟩
theorem CellsAre.un {s s' : Shared} {H H' : Hp} {cl : List (Str × Addr)} {cap : List Str} {vals : St} {fs : List Addr} (C : CellsAre s H cl cap vals) (u : Un fs [] H H' s.heap s'.heap) : CellsAre s' H' cl cap vals := by
  have kc : ∀ c v, H c = none → s.heap.IsCell c v → s'.heap.IsCell c v := fun c v n ⟨o, ho, hd⟩ => by
    obtain ⟨sl, e⟩ := u.any ho n (by simp)
    exact ⟨_, e, hd⟩
  refine ⟨C.inj, fun x c h => ?_, fun i y v h1 h2 => ?_⟩
  · obtain ⟨⟨v, hv⟩, n⟩ := C.isc x c h
    obtain ⟨o, ho, hd⟩ := id hv
    exact ⟨⟨v, kc c v n hv⟩, u.free c o ho n (by simp)⟩
  · obtain ⟨c, w, e1, e2, r⟩ := C.val i y v h1 h2
    exact ⟨c, w, e1, kc c _ (C.isc y c e1).2 e2, r⟩
theorem IsLam.same {H H' : Hp} {f : Addr} {q : Str} {params : Arguments} {body : Expr} {sc : Scope} {cl : List (Str × Addr)} (L : IsLam H f q params body sc cl) (k : ∀ b o u, H b = some (.frz o u) → H' b = some (.frz o u)) : IsLam H' f q params body sc cl :=
  let ⟨pm, ctv, c', oc, h1, h2, h3⟩ := L; ⟨pm, ctv, c', oc, k _ _ _ h1, k _ _ _ h2, h3⟩
theorem lookup_mem {α : Type} {y : Str} {u : α} : ∀ {l : List (Str × α)}, (l.map (·.1)).Nodup → (y, u) ∈ l → l.lookup y = some u
  | [], _, h => by simp at h
  | (z, v) :: l, nd, h => by
    rw [List.lookup_cons]
    rw [List.map_cons, List.nodup_cons] at nd
    rcases List.mem_cons.mp h with e | h
    · cases e; simp
    · have : y ≠ z := fun e => nd.1 (e ▸ List.mem_map_of_mem (f := (·.1)) h)
      have hb : (y == z) = false := by simpa using this
      rw [hb]
      exact lookup_mem nd.2 h
theorem zip_fst {α β : Type} : ∀ (l : List α) (m : List β), (l.zip m).map (·.1) = l.take m.length
  | [], _ => by simp
  | _ :: _, [] => by simp
  | a :: l, b :: m => by
    rw [List.zip_cons_cons, List.map_cons, List.length_cons, List.take_succ_cons, zip_fst l m]
theorem lookup_rev {α : Type} {ps : List Str} {us : List α} {i : Nat} {y : Str} {u : α} (nd : ps.Nodup) (hp : ps[i]? = some y) (hu : us[i]? = some u) : (ps.zip us).reverse.lookup y = some u := by
  refine lookup_mem ?_ ?_
  · rw [List.map_reverse]
    refine (List.reverse_perm _).nodup_iff.mpr ?_
    rw [zip_fst]
    exact nd.sublist (List.take_sublist _ _)
  · rw [List.mem_reverse]
    refine List.mem_of_getElem? (i := i) ?_
    rw [List.getElem?_zip_eq_some]
    exact ⟨hp, hu⟩
def lamCx (P : Program) (w : World) (K : PySem.W.Frag) (mg : Str → Option Value) (base : Heap) (N : List Str) (q : Str) (sc : Scope) (f c' : Addr) (cl : List (Str × Addr)) (A : Around) (outer : List Env) (s : Shared) (H : Hp) : Cx where
  prog := P
  w := w
  K := K
  mg := mg
  base := base
  A := A.deeper (PySem.W.envX q sc s.heap.objs.size f (.ref c') cl)
  N := N
  s₀ := s
  H₀ := H
  env := PySem.W.envX q sc s.heap.objs.size f (.ref c') cl
  outer := outer
  stack := PySem.W.envX q sc s.heap.objs.size f (.ref c') cl :: outer
  ex := []
  calm := true
  fn := fun _ => false
  pn := []
  xe := fun _ _ => False
section
variable {P : Program} {w : World} {K : PySem.W.Frag} {mg : Str → Option Value} {base : Heap} {A : Around} {outer : List Env} {s : Shared} {H : Hp} {f : Addr} {q : Str} {params : Arguments} {body : Expr} {fr sc : Scope} {cl : List (Str × Addr)} {ps cap : List Str}
theorem lam_inv {c' : Addr} {us : List Value} {vs : List V} {vals : St} {h₁ : Heap} {tk : Nat} (S : LamScope fr sc ps cap) (hcap : ∀ y, sc.names.lookup y = some .free → ∃ c, cl.lookup y = some c) (hd : A.handled = none) (e0 : Env0 P w K mg base A outer s H) (hl : vs.length = ps.length) (hv : vals.length = cap.length) (r : Vals vs us) (C : CellsAre s H cl cap vals)
    (hns : h₁.Ns s.heap.objs.size (fun x => (ps.zip us).reverse.lookup x)) (hk : ∀ b o, s.heap.get? b = some o → h₁.get? b = some o) :
    Inv (lamCx P w K mg base (ps ++ cap) q sc f c' cl A outer s H) [] (vs.map some ++ vals) H { s with heap := h₁, toks := tk } := by
  have noA : ∀ b : Addr, b ∉ (lamCx P w K mg base (ps ++ cap) q sc f c' cl A outer s H).ex := fun b z => absurd (show b ∈ ([] : List Addr) from z) (by simp)
  have ndp : ps.Nodup := (List.nodup_append.mp S.nd).1
  refine ⟨⟨e0.mod, S.kind, rfl, rfl, Nat.le_refl _, C.inj, fun y hy => ?_, (fun y c h => Bool.noConfusion h), fun _ => hd, Around.frames_deeper e0.frames, .inr ⟨rfl, rfl⟩, fun b z => absurd z (noA b), e0.bs, e0.bsz, fun b _ _ => noA b, fun b z => absurd z (noA b), e0.funs, e0.frf⟩,
    rfl, e0.bare, Un.kept hk, ⟨_, hns, fun i y v h1 h2 h3 => ?_⟩, fun y c h => ?_, e0.hok.fresh (Nat.le_refl _), fun y c h => (C.isc y c h).2, fun p hp => absurd (show p ∈ ([] : List (Addr × Obj)) from hp) (by simp), e0.hok.kept hk, ?_⟩
  · have hy : sc.names.lookup y = some .cell ∨ sc.names.lookup y = some .free := hy
    rcases hy with hy | hy
    · exact absurd rfl (S.cell _ (PySem.mem_of_lookup hy))
    · exact hcap y hy
  · by_cases hi : i < ps.length
    · have hp : ps[i]? = some y := by
        have : (ps ++ cap)[i]? = some y := h1
        rw [List.getElem?_append_left hi] at this; exact this
      have ha : vs[i]? = some v := by
        rw [List.getElem?_append_left (by rw [List.length_map]; omega), List.getElem?_map] at h2
        cases e : vs[i]? with
        | none => rw [e] at h2; cases h2
        | some a => rw [e] at h2; cases h2; rfl
      obtain ⟨u, hu, rv⟩ := r.get ha
      refine ⟨u, rv, .inl ⟨S.par y (List.mem_of_getElem? hp), ?_⟩⟩
      exact lookup_rev ndp hp hu
    · have hc : cap[i - ps.length]? = some y := by
        have : (ps ++ cap)[i]? = some y := h1
        rw [List.getElem?_append_right (by omega)] at this; exact this
      have ha : vals[i - ps.length]? = some (some v) := by
        rw [List.getElem?_append_right (by rw [List.length_map]; omega), List.length_map, hl] at h2; exact h2
      obtain ⟨c, u, e1, e2, rv⟩ := C.val _ y v hc ha
      obtain ⟨o, ho, hd'⟩ := e2
      exact ⟨u, rv, .inr ⟨.inr (S.capl y (List.mem_of_getElem? hc)), c, e1, o, hk _ _ ho, hd'⟩⟩
  · obtain ⟨⟨v, o, ho, hd'⟩, _⟩ := C.isc y c h
    exact ⟨v, o, hk _ _ ho, hd'⟩
  · show (vs.map some ++ vals).length = (ps ++ cap).length
    rw [List.length_append, List.length_append, List.length_map, hl, hv]
theorem lam_run {k : Nat} {us : List Value} {vs : List V} {vals : St} {te : TE} {Q : VK} {E : XK} (S : LamScope fr sc ps cap) (hcap : ∀ y, sc.names.lookup y = some .free → ∃ c, cl.lookup y = some c) (hr : Room (k + 1) A) (e0 : Env0 P w K mg base A outer s H) (L : IsLam H f q params body sc cl) (C : CellsAre s H cl cap vals)
    (hbind : ∀ (pm ctv : Value) (c' : Addr), bindArgs (PySem.W.kla_fn "<lambda>" q params body sc cl pm (.ref c') ctv) ⟨us, []⟩ = pure (ps.zip us)) (hl : vs.length = ps.length) (hv : vals.length = cap.length) (r : Vals vs us)
    (hbody : ∀ c', Room k (A.deeper (PySem.W.envX q sc s.heap.objs.size f (.ref c') cl)) → PE (lamCx P w K mg base (ps ++ cap) q sc f c' cl A outer s H) body te) (hq : te (vs.map some ++ vals) H Q) :
    codeAny (model P w) A (.call (.ref f) ⟨us, []⟩) (CR CX0 outer P w H s Q E) s := by
  obtain ⟨pm, ctv, c', oc, h1, h2, h3⟩ := L
  obtain ⟨ho, _⟩ := e0.hok f _ h1
  have lim : s.heap.NoLimit := e0.mod.nolimit.keeps fun b o e => (e0.bs b o e).1
  refine PySem.W.kla_callFunE hr.depth ho rfl S.co S.gen rfl (codeRec_frz e0.hok h2 h3) ?_
  rw [hbind pm ctv c']
  refine wpAny_pure (wpAny_newFunctionEnv S.cell (fun y hy => S.par y.1 (List.of_mem_zip hy).1) (fun h₁ hns hsb => ⟨lim.fresh _ hsb, ?_⟩) S.kind)
  have old1 : ∀ b u, s.heap.get? b = some u → h₁.get? b = some u := fun b u e =>
    hsb.extBut b u (Nat.ne_of_lt (Heap.lt_size e)) (Heap.get?_push_of_some _ e)
  have I := lam_inv (tk := s.toks + (ps.zip us).length) (f := f) (q := q) (c' := c') S hcap hr.hd e0 hl hv r C hns old1
  refine PySem.W.kla_codeExpr (wpAny_mono (hbody c' (hr.deeper _) [] _ _ H Q I hq) (fun v s' hs => ?_) fun e s' z => z.elim)
  obtain ⟨x, H', J, rv, q'⟩ := hs
  exact ⟨x, H', J.os, J.bare, J.base, J.hok, rv, q'⟩
end
end L2
set_option maxHeartbeats 4000000
namespace L2
open PySem PySem.Spec PyProof.Rows
def BM (mg : Str → Option Value) (h : Heap) : Prop := ∃ bm ob, mg "__builtins__" = some (.ref bm) ∧ bm ≠ builtinsNs ∧ h.get? bm = some ob ∧ ob.cls = .type "module" ∧ ob.dict = some builtinsNs ∧ ob.data = .plain
theorem among_snoc {pos pos' : Pos} {c v : Value} : ∀ (l : List Value), TriplesOk l → codeAmong pos' (l ++ [rawInt pos.line, rawInt pos.col, c]) = some v → codeAmong pos' l = some v ∨ (pos'.line = pos.line ∧ pos'.col = pos.col ∧ v = c) := by
  intro l h
  fun_induction TriplesOk l
    with
  | case1 =>
    intro e
    simp only [List.nil_append, rawInt, codeAmong] at e
    split at e
    · rename_i hc
      simp at hc
      cases e
      exact .inr ⟨by omega, by omega, rfl⟩
    · cases e
  | case2 a t b u x rest ih =>
    intro e
    simp only [List.cons_append, codeAmong] at e ⊢
    split at e
    · rename_i hc; rw [if_pos hc]; exact .inl e
    · rename_i hc; rw [if_neg hc]; exact ih h e
  | case3 l z1 z2 => exact False.elim h
section
variable {X : Cx} {pins : List (Addr × Obj)} {σ : St} {H : Hp} {s : Shared} {sc : Scope} {ps cap : List Str} {P c : Addr} {cr : Nat → Nat → Option Str} {q : Str} {params : Arguments} {body : Expr} {pos : Pos}
theorem LamScope.cells (S : LamScope X.env.scope sc ps cap) (ok : X.Ok) : ∀ p ∈ sc.names, p.2 = .free → ∃ c, X.env.cells.lookup p.1 = some c :=
  fun p hp e => ok.has p.1 (.inl (S.free p hp e))
theorem LamScope.sub (S : LamScope X.env.scope sc ps cap) (ok : X.Ok) {y : Str} {c : Addr} (h : (clOf X.env sc.names []).lookup y = some c) : X.env.cells.lookup y = some c :=
  clOf_mem (S.cells ok) (fun _ _ z => by simp at z) h
theorem Inv.cellsAre (I : Inv X pins σ H s) (S : LamScope X.env.scope sc ps cap) {js : List Nat} (hjs : js.map (fun j => X.N[j]?) = cap.map some) : CellsAre s H (clOf X.env sc.names []) cap (capV σ js) := by
  have ok := I.ok
  refine ⟨fun x y c h1 h2 => ok.inj x y c (S.sub ok h1) (S.sub ok h2), fun x c h => ⟨I.cell x c (S.sub ok h), I.freeC x c (S.sub ok h)⟩, fun i y v e1 e2 => ?_⟩
  have hy : y ∈ cap := List.mem_of_getElem? e1
  unfold capV at e2
  rw [List.getElem?_map] at e2
  cases ej : js[i]? with
  | none => rw [ej] at e2; cases e2
  | some j =>
    rw [ej] at e2
    have e2'' : (σ[j]?).join = some v := Option.some.inj e2
    have eN : X.N[j]? = some y := by
      have := congrArg (fun l => l[i]?) hjs
      simp only [List.getElem?_map, ej, e1, Option.map_some] at this
      exact Option.some.inj this
    have eσ : σ[j]? = some (some v) := by
      cases z : σ[j]? with
      | none => rw [z] at e2''; cases e2''
      | some w' =>
        rw [z] at e2''
        have : w' = some v := by simpa using e2''
        rw [this]
    have kc : X.env.scope.names.lookup y = some .cell := S.free (y, .free) (S.caps y hy) rfl
    obtain ⟨m0, hn0, hl0⟩ := I.loc
    obtain ⟨u, ru, lk⟩ := hl0 j y v eN eσ (.inr (.inl kc))
    rcases lk with ⟨k, _⟩ | ⟨_, c, ec, hc⟩
    · have k' : X.env.scope.names.lookup y = some .local := k
      rw [kc] at k'; cases k'
    · obtain ⟨c', hc'⟩ := Option.isSome_iff_exists.mp (clOf_has (env := X.env) (acc := []) (S.caps y hy))
      have hcc : c' = c := Option.some.inj ((S.sub ok hc').symm.trans ec)
      subst hcc
      exact ⟨c', u, hc', hc, ru⟩
def tLam (P : Addr) (cr : Nat → Nat → Option Str) (q : Str) (params : Arguments) (body : Expr) (sc : Scope) (cl : List (Str × Addr)) : TE := fun σ H Q => H P = some (.tbl cr) ∧ ∀ f H', H f = none → Same H H' → IsLam H' f q params body sc cl → Q (.ref f) H'
theorem pe_lam (S : LamScope X.env.scope sc ps cap) (hcode : X.env.code = .ref c) (C : PySem.W.CodeHd X.base c P) (hbm : BM X.mg X.base) (hq : q = X.env.qual ++ "<lambda>") (hcr : cr pos.line pos.col = some q) (hdef : defaultsOf params X.env = ([], []) := by rfl) :
    PE X (.Lambda params body sc pos) (tLam P cr q params body sc (clOf X.env sc.names [])) := by
  intro pins s σ H Q I h
  obtain ⟨hP, h⟩ := h
  refine PySem.W.kla_eval hdef ?_
  rw [← hq]
  obtain ⟨tb, hget, ht3, hcodes⟩ := I.hok P _ hP
  have hg : s.heap.Ns mainGlobals X.mg := I.mod.glob.keeps I.bk
  have hgP : mainGlobals ≠ P := fun z => by
    obtain ⟨o, es, ep, e, hd, _⟩ := hg
    rw [z, hget] at e; cases e; cases hd
  have hb : s.heap.BuiltinsAt X.mg P := by
    obtain ⟨bm, ob, b1, b2, b3, b4, b5, b6⟩ := hbm
    have e := I.bk _ _ b3
    refine ⟨bm, ob, b1, b2, fun z => ?_, fun z => ?_, e, b4, b5, b6⟩
    · obtain ⟨o, es, ep, e', hd, _⟩ := hg
      rw [← z, e] at e'; cases e'; rw [b6] at hd; cases hd
    · rw [z, hget] at e; cases e; cases b4
  have hcl : closureFor sc X.env = pure (clOf X.env sc.names []) := closureFor_eq (S.cells I.ok)
  cases hf : codeAmong pos tb.toList with
  | some cv =>
    obtain ⟨c', oc, q', rfl, e2, e3, e4⟩ := hcodes pos cv hf
    rw [hcr] at e2; cases e2
    refine PySem.W.kla_makeFunctionHit hcl I.ok.glob hg hcode (C.keeps I.bk) hget ht3 hf hb fun ctv h' tk hk hsz => ?_
    have hfr : H h'.objs.size = none := I.hok.fresh hsz
    refine ⟨.ref h'.objs.size, upd H h'.objs.size (.frz (PySem.W.kla_obj "<lambda>" q params body sc (clOf X.env sc.names []) ((X.mg "__name__").getD .none) c' ctv) (.own h'.objs.size)), I.laid (t' := tk) (fun b u e => Heap.get?_push_of_some _ (hk b u e)) hsz ⟨Heap.get?_push_size _ rfl, _, Heap.get?_push_size _ rfl⟩, rfl, h _ _ hfr (fun b u e => by rw [upd_ne (ne_of_none e hfr)]; exact e) ⟨_, _, c', oc, upd_same, ?_, e4⟩⟩
    rw [upd_ne (ne_of_none e3 hfr)]; exact e3
  | none =>
    refine PySem.W.kla_makeFunction hcl I.ok.glob hg hcode (C.keeps I.bk) hget ht3 hf hgP hb fun c' ctv h' tk hx hge hlt hrec htb => ?_
    obtain ⟨c2, oc, vs, tt, e2, hoc, hd, hv⟩ := hrec
    cases e2
    have hcn : H c' = none := I.hok.fresh hge
    have hsz : s.heap.objs.size ≤ h'.objs.size := Nat.le_of_lt (Nat.lt_of_le_of_lt hge hlt)
    have hfr : H h'.objs.size = none := I.hok.fresh hsz
    have hcf : c' ≠ h'.objs.size := Nat.ne_of_lt hlt
    have hPc : P ≠ c' := ne_of_none hP hcn
    have hPf : P ≠ h'.objs.size := ne_of_none hP hfr
    have sm : ∀ b u, H b = some u → upd (upd H c' (.frz oc (.own c'))) h'.objs.size (.frz (PySem.W.kla_obj "<lambda>" q params body sc (clOf X.env sc.names []) ((X.mg "__name__").getD .none) c' ctv) (.own h'.objs.size)) b = some u := fun b u e => by
      rw [upd_ne (ne_of_none e hfr), upd_ne (ne_of_none e hcn)]; exact e
    have cc : upd (upd H c' (.frz oc (.own c'))) h'.objs.size (.frz (PySem.W.kla_obj "<lambda>" q params body sc (clOf X.env sc.names []) ((X.mg "__name__").getD .none) c' ctv) (.own h'.objs.size)) c' = some (.frz oc (.own c')) := by
      rw [upd_ne hcf, upd_same]
    have hk : ∀ b o, b ≠ P → s.heap.get? b = some o → (h'.push (PySem.W.kla_obj "<lambda>" q params body sc (clOf X.env sc.names []) ((X.mg "__name__").getD .none) c' ctv)).get? b = some o := fun b o hb e => Heap.get?_push_of_some _ (hx b o hb e)
    refine ⟨.ref h'.objs.size, _, I.un (t' := tk) ⟨fun b o e n _ _ => hk b o (fun z => by rw [z, hP] at n; cases n) e, fun b o e n _ _ => ⟨o.slots, hk b o (fun z => by rw [z, hP] at n; cases n) e⟩, fun b o e n _ => ?_, fun b o e _ => ?_, fun b xs e => sm b _ e, fun b o u e => sm b _ e, fun b r e => sm b _ e⟩ ?_, rfl, h _ _ hfr sm ⟨_, _, c', oc, upd_same, cc, vs, tt, hd, hv⟩⟩
    · have h1 : b ≠ c' := Nat.ne_of_lt (Nat.lt_of_lt_of_le (Heap.lt_size e) hge)
      have h2 : b ≠ h'.objs.size := Nat.ne_of_lt (Nat.lt_of_lt_of_le (Heap.lt_size e) hsz)
      rw [upd_ne h2, upd_ne h1]; exact n
    · by_cases hb : b = P
      · subst hb; exact ⟨_, Heap.get?_push_of_some _ htb⟩
      · exact ⟨o, hk b o hb e⟩
    · intro b u e
      by_cases h1 : b = h'.objs.size
      · subst h1
        rw [upd_same] at e; cases e
        exact ⟨Heap.get?_push_size _ rfl, _, Heap.get?_push_size _ rfl⟩
      · by_cases h2 : b = c'
        · subst h2
          rw [cc] at e; cases e
          exact ⟨Heap.get?_push_of_some _ hoc, _, Heap.get?_push_of_some _ hoc⟩
        · rw [upd_ne h1, upd_ne h2] at e
          by_cases h3 : b = P
          · subst h3
            rw [hP] at e; cases e
            refine ⟨_, Heap.get?_push_of_some _ htb, ?_, fun pos' v e => ?_⟩
            · rw [Array.toList_append]; exact TriplesOk_snoc _ _ _ _ ht3
            · rw [Array.toList_append] at e
              rcases among_snoc (pos := pos) tb.toList ht3 e with e | ⟨e1, e2, rfl⟩
              · obtain ⟨d, od, q', z1, z2, z3, z4⟩ := hcodes pos' v e
                exact ⟨d, od, q', z1, z2, sm _ _ z3, z4⟩
              · exact ⟨c', oc, q, rfl, by rw [e1, e2]; exact hcr, cc, vs, tt, hd, hv⟩
          · refine (I.hok b u e).stay (fun d v hd' e' => hk d v ?_ e') (fun d e' => sm d _ e') (fun d xs e' => sm d _ e') fun d o' u' e' => sm d _ e'
            rintro rfl
            rcases hd' with z | z
            · exact h3 z.symm
            · rw [hP] at z; cases z
end
end L2
set_option maxHeartbeats 4000000
namespace L2
open PySem PySem.Spec PyProof.Rows
abbrev SpS := Shared → List V → Hp → VK → Prop
structure FnOkS (P : Program) (w : World) (K : PySem.W.Frag) (mg : Str → Option Value) (base : Heap) (k : Nat) (f : Addr) (fd : FuncData) (ps : List Str) (sp : SpS) : Prop where
  len : ∀ s vs H Q, sp s vs H Q → vs.length = ps.length
  run : ∀ (A : Around) (outer : List Env) (s : Shared) (H : Hp) (args : Args) (us : List Value) (vs : List V) (Q : VK), Room k A → Env0 P w K mg base A outer s H → BindsTo s fd args (ps.zip us) → Vals vs us → sp s vs H Q →
    codeAny (model P w) A (.call (.ref f) args) (CR CX0 outer P w H s Q E0) s
theorem FnOkS.mono {P : Program} {w : World} {K : PySem.W.Frag} {mg : Str → Option Value} {base : Heap} {j k : Nat} {f : Addr} {fd : FuncData} {ps : List Str} {sp : SpS} (F : FnOkS P w K mg base j f fd ps sp) (h : j ≤ k) :
    FnOkS P w K mg base k f fd ps sp := ⟨F.len, fun A outer s H args us vs Q hr => F.run A outer s H args us vs Q (hr.mono h)⟩
theorem fn_ofS {P : Program} {w : World} {K : PySem.W.Frag} {mg : Str → Option Value} {base : Heap} {k : Nat} {f : Addr} {name qual : Str} {params : Arguments} {body : List Stmt} {scope : Scope} {dV kV doc pm cdv ct oc : Value} {an od : Option Addr}
    {osl : Array (Option Value)} {N ps : List Str} {sp : SpS} (lk : K.lookup f = some ⟨oc, od, .func (PySem.W.fnOf name qual params body scope dV kV doc pm an cdv ct), osl⟩) (hcd : PySem.W.codeIn K cdv qual = true) (S : FnScope N ps scope)
    (len : ∀ s vs H Q, sp s vs H Q → vs.length = ps.length)
    (hbody : ∀ (A : Around) (outer : List Env) (s : Shared) (H : Hp) (vs : List V) (Q : VK), Room k (A.deeper (envOfC qual scope s.heap.objs.size f cdv)) → sp s vs H Q →
      ∃ t, PSs (cxOf CX0 P w K mg base N qual scope f cdv A outer s H E0) body t ∧ t { nx := fun _ H' => Q .non H', rt := Q } (start N vs) H) :
    FnOkS P w K mg base (k + 1) f (PySem.W.fnOf name qual params body scope dV kV doc pm an cdv ct) ps sp := by
  refine ⟨len, fun A outer s H args us vs Q hr e0 hb r hsp => ?_⟩
  have hl := len _ _ _ _ hsp
  have KX : K.In s.heap := e0.mod.kin.keeps fun b o e => (e0.bs b o e).1
  have lim : s.heap.NoLimit := e0.mod.nolimit.keeps fun b o e => (e0.bs b o e).1
  have hkind : ∀ y ∈ ps.zip us, scope.names.lookup y.1 = some .local ∨ (scope.names.lookup y.1 = some .cell ∧ ((cellsFrom (s.heap.objs.size + 1) scope.names []).lookup y.1).isSome = true) := fun ⟨n, v⟩ hy => by
    rcases S.par n (List.of_mem_zip hy).1 with q | q
    · exact .inl q
    · exact .inr ⟨q, PySem.W.cellsFrom_some _ _ _ (.inl q)⟩
  refine codeAny_call_function hr.depth (KX _ _ lk) rfl S.co S.gen rfl (PySem.W.codeRec_of KX hcd) (hb _ _ _ _ ?_)
  refine wpAny_newFunctionEnv_cells S.kind hkind fun env he s1 x => ?_
  subst he
  refine ⟨lim.keeps x.toInCall.keep, codeAny_func ?_⟩
  obtain ⟨t, ht, hq⟩ := hbody A outer s H vs Q (hr.deeper _) hsp
  have I : Inv (cxOf CX0 P w K mg base N qual scope f cdv A outer s H E0) [] (start N vs) H s1 := inv_start S hr.hd e0 hl r x
  refine wpAny_mono (ht [] s1 (start N vs) H _ I hq) (fun fl s' hs => ?_) fun e s' hs => hs
  have fin : ∀ {σ' : St} {H' : Hp} {v : V} {u : Value}, Inv (cxOf CX0 P w K mg base N qual scope f cdv A outer s H E0) [] σ' H' s' → RelV v u → Q v H' → CE outer P w H s Q u s' :=
    fun {σ' H' v u} J rv q => ⟨v, H', J.os, J.bare, J.base, J.hok, rv, q⟩
  cases fl with
  | ret u =>
    obtain ⟨v, σ', H', J, rv, q⟩ := hs
    exact fin J rv q
  | next =>
    obtain ⟨σ', H', J, q⟩ := hs
    exact fin (v := V.non) (u := Value.none) J rfl q
  | brk =>
    obtain ⟨_, _, _, q⟩ := hs
    exact False.elim q
  | cont =>
    obtain ⟨_, _, _, q⟩ := hs
    exact False.elim q
section
variable {P : Program} {w : World} {K : PySem.W.Frag} {mg : Str → Option Value} {base : Heap}
theorem Fun.okS {x qual : Str} {st : Stmt} {f : Addr} {fd : FuncData} {N ps : List Str} {k : Nat} {sp : SpS} (F : Fun K x qual st f fd) (S : FnScope N ps (defScope st)) (len : ∀ s vs H Q, sp s vs H Q → vs.length = ps.length)
    (hbody : ∀ (cdv : Value) (A : Around) (outer : List Env) (s : Shared) (H : Hp) (vs : List V) (Q : VK), Room k (A.deeper (envOfC qual (defScope st) s.heap.objs.size f cdv)) → sp s vs H Q →
      ∃ t, PSs (cxOf CX0 P w K mg base N qual (defScope st) f cdv A outer s H E0).nox (defBody st) t ∧ t { nx := fun _ H' => Q .non H', rt := Q } (start N vs) H) : FnOkS P w K mg base (k + 1) f fd ps sp := by
  obtain ⟨oc, od, kV, doc, pm, an, cdv, ct, osl, rfl, lk, hcd⟩ := F.ex
  refine fn_ofS lk hcd S len fun A outer s H vs Q hr hsp => ?_
  obtain ⟨t, h, q⟩ := hbody cdv A outer s H vs Q hr hsp
  exact ⟨t, h.nox, q⟩
theorem Fun.okC {x qual : Str} {st : Stmt} {f : Addr} {fd : FuncData} {N ps : List Str} {k : Nat} {sp : Sp} (F : Fun K x qual st f fd) (S : FnScope N ps (defScope st)) (len : ∀ vs H Q E, sp vs H Q E → vs.length = ps.length)
    (hbody : ∀ (cdv : Value) (A : Around) (outer : List Env) (s : Shared) (H : Hp) (vs : List V) (Q : VK) (E : XK), cdv = fd.code → Room k (A.deeper (envOfC qual (defScope st) s.heap.objs.size f cdv)) → sp vs H Q E →
      ∃ t, PSs (cxOf CX0 P w K mg base N qual (defScope st) f cdv A outer s H E).nox (defBody st) t ∧ t { nx := fun _ H' => Q .non H', rt := Q } (start N vs) H) : FnOk P w K mg base CX0 (k + 1) f fd ps sp := by
  obtain ⟨oc, od, kV, doc, pm, an, cdv, ct, osl, rfl, lk, hcd⟩ := F.ex
  refine fn_of lk hcd S len fun A outer s H vs Q E hr hsp => ?_
  obtain ⟨t, h, q⟩ := hbody cdv A outer s H vs Q E rfl hr hsp
  exact ⟨t, h.nox, q⟩
end
section
variable {X : Cx} {k i : Nat} {x : Str} {f : Addr} {q : Str} {params : Arguments} {body : Expr} {fr sc : Scope} {cl : List (Str × Addr)} {ps cap : List Str} {vals : St} {te : TE} {e : Expr} {es : List Expr} {t : TA} {p pos : Pos}
def tCallV (i : Nat) (f : Addr) (te : TE) (vals : St) (n : Nat) (t : TA) : TE := fun σ H Q => σ[i]? = some (some (.ref f)) ∧ t σ H fun vs H1 => vs.length = n ∧ te (vs.map some ++ vals) H1 Q
theorem fnAt_of {P : Program} {w : World} {H : Hp} {h : Heap} (ok : HOk P w H h) (L : IsLam H f q params body sc cl) : PySem.W.FnAt f h := by
  obtain ⟨pm, ctv, c', oc, h1, _⟩ := L
  obtain ⟨ho, _⟩ := ok f _ h1
  exact ⟨_, _, _, _, ho⟩
theorem pe_callV (hN : X.N[i]? = some x) (hv : Vis X.env.scope x) (hr : Room (k + 1) X.A) (hex : X.ex = []) (L : IsLam X.H₀ f q params body sc cl) (C : CellsAre X.s₀ X.H₀ cl cap vals) (S : LamScope fr sc ps cap) (hcap : ∀ y, sc.names.lookup y = some .free → ∃ c, cl.lookup y = some c)
    (hbind : ∀ (us : List Value), us.length = ps.length → ∀ (pm ctv : Value) (c' : Addr), bindArgs (PySem.W.kla_fn "<lambda>" q params body sc cl pm (.ref c') ctv) ⟨us, []⟩ = pure (ps.zip us)) (hvl : vals.length = cap.length)
    (hbody : ∀ A outer s H f c', Room k (A.deeper (PySem.W.envX q sc s.heap.objs.size f (.ref c') cl)) → PE (lamCx X.prog X.w X.K X.mg X.base (ps ++ cap) q sc f c' cl A outer s H) body te) (ha : PA X (e :: es) t)
    (hd : (x == ("__debug__" : Str)) = false := by decide) (hcd : (x == ("__classdict__" : Str)) = false := by decide) (he : starEach (e :: es) X.env = (false, eval e X.env) :: starEach es X.env := by rfl) (hpl : (backTo pos (starEach es X.env)).any (·.1) = false := by rfl) :
    PE X (.Call (.Name x p) (e :: es) [] pos) (tCallV i f te vals ps.length t) := by
  intro pins s σ H Q I h
  obtain ⟨eσ, h⟩ := h
  refine wpAny_Call_Name_kw (thn (pe_var hN hv hd hcd pins s σ H (fun v H' => v = .ref f ∧ H' = H) I ⟨_, eσ, rfl, rfl⟩) fun u s1 ⟨v, H1, I1, r, ev, eH⟩ => ?_)
  subst ev eH
  obtain rfl : u = Value.ref f := r
  have un : ∀ {pins : List (Addr × Obj)} {σ : St} {H : Hp} {s : Shared}, Inv X pins σ H s → Un X.fs [] X.H₀ H X.s₀.heap s.heap := fun {pins σ H s} J => by
    have := J.base
    rw [hex] at this; exact this
  have Lm : ∀ {pins : List (Addr × Obj)} {σ : St} {H : Hp} {s : Shared}, Inv X pins σ H s → IsLam H f q params body sc cl := fun J => L.same (un J).frzs
  refine PySem.W.callWith_F (fnAt_of I1.hok (Lm I1)) (thn (ha pos pins s1 σ H1 _ I1 h) fun us s2 ⟨vs, H2, I2, rv, hl, hq⟩ => ⟨fnAt_of I2.hok (Lm I2), ?_⟩) he hpl
  refine wpAny_call (codeAny_mono (lam_run (E := E0) S hcap hr I2.env0 (Lm I2) (C.un (un I2)) (hbind us (by rw [← rv.length]; exact hl)) hl hvl rv (fun c' hr' => hbody _ _ _ _ _ c' hr') hq) fun r s' hq' => ?_)
  cases r with
  | error e => exact False.elim hq'
  | ok fl =>
    cases fl with
    | ret u => exact I2.after hq'
    | next => exact False.elim hq'
    | brk => exact False.elim hq'
    | cont => exact False.elim hq'
end
def hv (g : Nat → Bool) (lo hi : Nat) : Nat := if h : lo < hi then (if g ((lo + hi) / 2) then hv g ((lo + hi) / 2 + 1) hi else hv g lo ((lo + hi) / 2)) else lo
termination_by hi - lo
decreasing_by all_goals omega
theorem hv_eq {g : Nat → Bool} {k : Nat} (lo hi : Nat) (h : ∀ i, i < hi → (g i = true ↔ i < k)) (h1 : lo ≤ k) (h2 : k ≤ hi) : hv g lo hi = k := by
  fun_induction hv g lo hi with
  | case1 lo hi hlt hg ih =>
    have := (h _ (by omega)).mp hg
    exact ih h (by omega) h2
  | case2 lo hi hlt hg ih =>
    have : ¬ (lo + hi) / 2 < k := fun z => hg ((h _ (by omega)).mpr z)
    exact ih (fun i hi' => h i (by omega)) h1 (by omega)
  | case3 lo hi hlt => omega
def spMA (P : Program) (w : World) (K : PySem.W.Frag) (mg : Str → Option Value) (base : Heap) (kk : Nat) : SpS := fun s vs H Q => ∃ (n : Nat) (f : Addr) (q : Str) (params : Arguments) (body : Expr) (fr sc : Scope) (cl : List (Str × Addr)) (y : Str) (cap : List Str) (vals : St) (te : TE) (g : Nat → Bool),
  vs = [.int n, .ref f] ∧ n ≤ 10 ^ 6 ∧ LamScope fr sc [y] cap ∧ (∀ y, sc.names.lookup y = some .free → ∃ c, cl.lookup y = some c) ∧ IsLam H f q params body sc cl ∧ CellsAre s H cl cap vals ∧ vals.length = cap.length ∧
  (∀ (us : List Value), us.length = [y].length → ∀ (pm ctv : Value) (c' : Addr), bindArgs (PySem.W.kla_fn "<lambda>" q params body sc cl pm (.ref c') ctv) ⟨us, []⟩ = pure ([y].zip us)) ∧
  (∀ A outer s H f c', Room kk (A.deeper (PySem.W.envX q sc s.heap.objs.size f (.ref c') cl)) → PE (lamCx P w K mg base ([y] ++ cap) q sc f c' cl A outer s H) body te) ∧
  (∀ i, i < n → Ev K te (some (.int (i : Nat)) :: vals) H (.bool (g i))) ∧ ∀ H', Same H H' → Q (.int (hv g 0 n : Nat)) H'
def tMA (K : PySem.W.Frag) (P : Addr) (cr : Nat → Nat → Option Str) (js : List Nat) (t0 te : TE) : TE := fun σ H Q => t0 σ H fun v H1 => H1 P = some (.tbl cr) ∧ ∃ (n : Nat) (g : Nat → Bool), v = .int (n : Nat) ∧ n ≤ 10 ^ 6 ∧
  (∀ i, i < n → Ev K te (some (.int (i : Nat)) :: capV σ js) H1 (.bool (g i))) ∧ ∀ H', Same H1 H' → Q (.int (hv g 0 n : Nat)) H'
section
variable {X : Cx} {kk : Nat} {x y : Str} {f c P : Addr} {fd : FuncData} {cr : Nat → Nat → Option Str} {q : Str} {params : Arguments} {body e0 : Expr} {sc : Scope} {cap : List Str} {t0 te : TE} {p pos lpos : Pos}
theorem pe_ma (F : FnOkS X.prog X.w X.K X.mg X.base (kk + 3) f fd ["places", "lies_ahead"] (spMA X.prog X.w X.K X.mg X.base kk)) (hr : Room (kk + 3) X.A) (hg : Gl X x) (hm : X.mg x = some (.ref f)) (hk : PySem.W.keepIn X.K (.ref f) = true) (hb : Binds X.K fd ["places", "lies_ahead"] [])
    (hxe : ∀ e s, ¬ X.xe e s) {js : List Nat} (S : LamScope X.env.scope sc [y] cap) (hjs : js.map (fun j => X.N[j]?) = cap.map some) (hcode : X.env.code = .ref c) (C : PySem.W.CodeHd X.base c P) (hbm : BM X.mg X.base) (hq : q = X.env.qual ++ "<lambda>") (hcr : cr lpos.line lpos.col = some q)
    (hbind : ∀ (u pm ctv : Value) (c' : Addr) (cl : List (Str × Addr)), bindArgs (PySem.W.kla_fn "<lambda>" q params body sc cl pm (.ref c') ctv) ⟨[u], []⟩ = pure [(y, u)])
    (ha : PE X e0 t0)
    (hbody : ∀ A outer s H f c' cl, Room kk (A.deeper (PySem.W.envX q sc s.heap.objs.size f (.ref c') cl)) → PE (lamCx X.prog X.w X.K X.mg X.base ([y] ++ cap) q sc f c' cl A outer s H) body te)
    (hdef : defaultsOf params X.env = ([], []) := by rfl) (hdb : (x == ("__debug__" : Str)) = false := by decide)
    (he : starEach [e0, .Lambda params body sc lpos] X.env = (false, eval e0 X.env) :: starEach [.Lambda params body sc lpos] X.env := by rfl) (he2 : starEach [.Lambda params body sc lpos] X.env = (false, eval (.Lambda params body sc lpos) X.env) :: starEach [] X.env := by rfl)
    (hpl : (backTo pos (starEach [.Lambda params body sc lpos] X.env)).any (·.1) = false := by rfl) :
    PE X (.Call (.Name x p) [e0, .Lambda params body sc lpos] [] pos) (tMA X.K P cr js t0 te) := by
  intro pins s σ H Q I h
  refine wpAny_Call_Name_kw (ld_glob I hg hm ?_ hdb)
  have lenJ : js.length = cap.length := by have := congrArg List.length hjs; simpa using this
  refine PySem.W.callWith_K (h₀ := X.base) I.ok.mod.kin hk ?_ he hpl
  rw [he]
  show wpAny _ _ (spliced ((false, eval e0 X.env) :: backTo pos (starEach [.Lambda params body sc lpos] X.env))) _ _ s
  refine Calls.spliced_cons (thn (ha pins s σ H _ I h) fun u s1 ⟨v, H1, I1, r1, hP, n, g, e1, hn, hev, hQ⟩ => ?_)
  subst e1
  refine thn (pa_cons (pe_lam (c := c) (cr := cr) S hcode C hbm hq hcr hdef) pa_nil he2 pos pins s1 σ H1 (fun vs H2 => ∃ f, vs = [.ref f] ∧ Same H1 H2 ∧ IsLam H2 f q params body sc (clOf X.env sc.names [])) I1 ⟨hP, fun f H' hf sm L => ⟨f, rfl, sm, L⟩⟩) fun us s2 ⟨vs, H2, I2, r2, f', e2, sm, L⟩ => ⟨I2.kIn, ?_⟩
  subst e2
  have hsp : spMA X.prog X.w X.K X.mg X.base kk s2 [.int n, .ref f'] H2 Q := ⟨n, f', q, params, body, X.env.scope, sc, clOf X.env sc.names [], y, cap, capV σ js, te, g, rfl, hn, S, fun z hz => by
      obtain ⟨c', hc'⟩ := Option.isSome_iff_exists.mp (clOf_has (env := X.env) (acc := []) (PySem.mem_of_lookup hz))
      exact ⟨c', hc'⟩, L, I2.cellsAre S hjs, by unfold capV; rw [List.length_map, lenJ], fun us hl => match us, hl with | [u], _ => fun pm ctv c' => hbind u pm ctv c' _, fun A outer s H f c' hr' => hbody A outer s H f c' _ hr', fun i hi => (hev i hi).mono sm, fun H' s' => hQ H' (sm.trans s')⟩
  have rr : Vals [.int (n : Nat), .ref f'] (u :: us) := .cons r1 r2
  have hl : (u :: us).length = ["places", "lies_ahead"].length := by rw [← rr.length]; rfl
  have hb' := hb s2 (u :: us) I2.kIn (by rw [List.append_nil]; exact hl)
  rw [List.append_nil] at hb'
  refine wpAny_call (codeAny_mono (F.run X.A X.stack s2 H2 ⟨u :: us, []⟩ (u :: us) _ Q hr I2.env0 hb' rr hsp) fun r s' hq' => ?_)
  cases r with
  | error e => exact False.elim hq'
  | ok fl =>
    cases fl with
    | ret u => exact I2.after hq'
    | next => exact False.elim hq'
    | brk => exact False.elim hq'
    | cont => exact False.elim hq'
end
theorem ev_ma {K : PySem.W.Frag} {P : Addr} {cr : Nat → Nat → Option Str} {js : List Nat} {t0 te : TE} {σ : St} {G : Hp} {n : Nat} {g : Nat → Bool} (hP : G P = some (.tbl cr)) (h0 : Ev K t0 σ G (.int (n : Nat))) (hn : n ≤ 10 ^ 6) (he : ∀ i, i < n → Ev K te (some (.int (i : Nat)) :: capV σ js) G (.bool (g i))) :
    Ev K (tMA K P cr js t0 te) σ G (.int (hv g 0 n : Nat)) := fun G1 H s1 s2 Q k => h0 G1 H s1 s2 _ fun v G2 H2 g2 hv2 => by
  have s : Same G H2 := s1.trans (g2.gg.trans g2.gh)
  refine ⟨s _ _ hP, n, g, hv2.int, hn, fun i hi => (he i hi).mono s, fun H' sH => k _ G2 H' (g2.trans (grow_h g2.gh sH)) (dat_int _)⟩
def spPT (K : PySem.W.Frag) (P : Addr) (cr : Nat → Nat → Option Str) (R : List PyData → PyData → Prop) : Sp := fun vs H Q _ => ∃ (G : Hp) (ds : List PyData) (d : PyData), G P = some (.tbl cr) ∧ Same G H ∧ Dats K G vs ds ∧ R ds d ∧ ∀ v G' H', Grow G H G' H' → Dat K G' v d → Q v H'
theorem ev_callT {K : PySem.W.Frag} {P : Addr} {cr : Nat → Nat → Option Str} {σ : St} {G : Hp} {d : PyData} {R : List PyData → PyData → Prop} {E : XK} {t : TA} {ds : List PyData} (hP : G P = some (.tbl cr)) (h : EvA K t σ G ds) (hR : R ds d) : Ev K (tCall (spPT K P cr R) [] E t) σ G d :=
  fun G1 H s1 s2 Q k => h G1 H s1 s2 _ fun vs G2 H2 g2 hv => by
    refine ⟨G2, ds, d, g2.gg _ _ (s1 _ _ hP), g2.gh, ?_, hR, fun v G' H' g hd => k v G' H' (g2.trans g) hd⟩
    rw [List.append_nil]; exact hv
end L2
set_option maxHeartbeats 4000000
namespace L2
open PySem PySem.Spec PyProof.Rows
theorem mem_look {β : Type} {a : Addr} {b : β} : ∀ {l : List (Addr × β)}, l.lookup a = some b → (a, b) ∈ l
  | [], h => by simp at h
  | (z, v) :: l, h => by
    rw [List.lookup_cons] at h
    cases hb : a == z with
    | true =>
      rw [hb] at h
      have : a = z := by simpa using hb
      cases h; subst this; exact List.mem_cons_self
    | false => rw [hb] at h; exact List.mem_cons_of_mem _ (mem_look h)
theorem look_mem {β : Type} {a : Addr} {b : β} : ∀ {l : List (Addr × β)}, (l.map (·.1)).Nodup → (a, b) ∈ l → l.lookup a = some b
  | [], _, h => by simp at h
  | (z, v) :: l, nd, h => by
    rw [List.lookup_cons]
    rw [List.map_cons, List.nodup_cons] at nd
    rcases List.mem_cons.mp h with e | h
    · cases e; simp
    · have : a ≠ z := fun e => nd.1 (e ▸ List.mem_map_of_mem (f := (·.1)) h)
      have hb : (a == z) = false := by simpa using this
      rw [hb]
      exact look_mem nd.2 h
structure Bs (K : PySem.W.Frag) (mg : Str → Option Value) (base : Heap) : Prop where
  kin : K.In base
  bm : BM mg base
abbrev Tabs := List (Addr × (Nat → Nat → Option Str))
def TabsIn (H : Hp) (tabs : Tabs) : Prop := ∀ p ∈ tabs, H p.1 = some (.tbl p.2)
theorem law_callT {P : Program} {w : World} {K : PySem.W.Frag} {mg mb : Str → Option Value} {k : Nat} {fa a : Addr} {fd : FuncData} {x : Str} {sp : Sp} {s₁ : Shared} {vs : List Value} {ns : List Int} (tabs : Tabs)
    (KX : K.In s₁.heap) (hns : s₁.heap.Ns mainGlobals mg) (hb : s₁.heap.Ns builtinsNs mb) (hbb : ∀ x : Str, x ≠ "__name__" → mb x = bootBuiltins x) (hlim : s₁.heap.NoLimit) (hg : s₁.gens = #[])
    (ha : s₁.heap.get? a = some { cls := .type "list", data := .seq vs.toArray }) (hi : IntsAre vs ns) (hl : ns.length ≤ sizeLine) (hr : Room k callerA)
    (hbm : BM mg s₁.heap) (hT : ∀ p ∈ tabs, s₁.heap.get? p.1 = some { cls := .none, data := .fields #[] }) (hIs : ∀ p ∈ tabs, isCodeTable s₁.heap p.1) (hKt : ∀ p ∈ tabs, K.lookup p.1 = none) (hnd : (tabs.map (·.1)).Nodup)
    (F : ∀ base : Heap, K.In base → base.Ns mainGlobals mg → Bs K mg base → FnOk P w K mg base CX0 k fa fd [x] sp) (hbind : ∀ (s : Shared) (u : Value), BindsTo s fd ⟨[u], []⟩ [(x, u)])
    (hsp : ∀ H : Hp, TabsIn H tabs → SqL K H a (ns.map V.int) → sp [.ref a] H (fun v _ => v = .bl true) fun _ _ _ => False) :
    codeAny (model P w) callerA (.call (.ref fa) ⟨[.ref a], []⟩) (fun r s' => r = .ok (.ret (.bool true)) ∧ OldK s₁.heap s'.heap ∧ s'.os = s₁.os ∧ AllBare s'.gens) s₁ := by
  have rv := vals_ints hi
  have lenV := hi.length
  have core : ∀ H : Hp, TabsIn H tabs → SqL K H a (ns.map V.int) → HOk P w H s₁.heap → (∀ b, H b ≠ none → (b = a ∧ ∃ o xs, H b = some (.frz o (.lst xs))) ∨ ∃ p ∈ tabs, p.1 = b) → (H a ≠ none → K.lookup a = none) →
      codeAny (model P w) callerA (.call (.ref fa) ⟨[.ref a], []⟩) (fun r s' => r = .ok (.ret (.bool true)) ∧ OldK s₁.heap s'.heap ∧ s'.os = s₁.os ∧ AllBare s'.gens) s₁ := by
    intro H hTb hS hok hA hK
    have base_of : ∀ {b : Addr} {o : Obj}, s₁.heap.get? b = some o → H b = none → (hidT s₁.heap H).get? b = some o := fun e n => hidT_get e n
    have noT : ∀ {b : Addr} {o : Obj}, s₁.heap.get? b = some o → (∀ vs n, o.data ≠ .seq vs n) → (∀ vs, o.data ≠ .fields vs) → H b = none := fun {b o} e d1 d2 => by
      cases q : H b with
      | none => rfl
      | some u =>
        rcases hA b (by rw [q]; simp) with ⟨e', _⟩ | ⟨p, hp, e'⟩
        · subst e'
          rw [ha] at e; cases e
          exact absurd rfl (d1 _ _)
        · subst e'
          rw [hT p hp] at e; cases e
          exact absurd rfl (d2 _)
    have noA : ∀ {b : Addr} {o : Obj} {es : Array DictEntry} {ep : Nat}, s₁.heap.get? b = some o → o.data = .dict es ep → H b = none := fun {b o es ep} e d => noT e (fun vs n z => by rw [d] at z; cases z) fun vs z => by rw [d] at z; cases z
    have nsK : ∀ {b : Addr} {m : Str → Option Value}, s₁.heap.Ns b m → (hidT s₁.heap H).Ns b m := fun {b m} ⟨o, es, ep, e, d, r⟩ => ⟨o, es, ep, base_of e (noA e d), d, r⟩
    have hKb : K.In (hidT s₁.heap H) := fun b o e => base_of (KX b o e) (by
      cases q : H b with
      | none => rfl
      | some u =>
        rcases hA b (by rw [q]; simp) with ⟨e', _⟩ | ⟨p, hp, e'⟩
        · subst e'
          rw [hK (by rw [q]; simp)] at e; cases e
        · subst e'
          rw [hKt p hp] at e; cases e)
    have hBs : Bs K mg (hidT s₁.heap H) := ⟨hKb, by
      obtain ⟨bm, ob, b1, b2, b3, b4, b5, b6⟩ := hbm
      exact ⟨bm, ob, b1, b2, base_of b3 (noT b3 (fun vs n z => by rw [b6] at z; cases z) fun vs z => by rw [b6] at z; cases z), b4, b5, b6⟩⟩
    have hM : Mod K mg (hidT s₁.heap H) := ⟨hKb, nsK hns, ⟨mb, nsK hb, hbb⟩, let ⟨mc, h1, h2⟩ := hlim; ⟨mc, nsK h1, h2⟩⟩
    have e0 : Env0 P w K mg (hidT s₁.heap H) callerA [] s₁ H := ⟨rfl, hM, fun b o e => of_hidT e, Nat.le_of_eq (hidT_size _ _), trivial, fun b hb => absurd (show b ∈ ([] : List Addr) from hb) (by simp), hok, .of_eq hg⟩
    refine codeAny_mono ((F _ hKb (nsK hns) hBs).run callerA [] s₁ H ⟨[.ref a], []⟩ [.ref a] [.ref a] _ _ hr e0 (hbind s₁ (.ref a)) (.cons rfl .nil) (hsp H hTb hS)) fun r s' h => ?_
    cases r with
    | error e => exact False.elim h
    | ok fl =>
      cases fl with
      | next => exact False.elim h
      | brk => exact False.elim h
      | cont => exact False.elim h
      | ret u =>
        obtain ⟨v, H', os, bare, un, hok', r', q⟩ := h
        have q' : v = .bl true := q
        subst q'
        obtain rfl : u = Value.bool true := r'
        refine ⟨rfl, ⟨fun b o e => ?_, fun b o e => un.there b o e (by simp)⟩, os, bare⟩
        cases q : H b with
        | none => exact .inl (un.keep b o e q (by intro z; exact absurd (show b ∈ ([] : List Addr) from z) (by simp)) (by simp))
        | some u =>
          rcases hA b (by rw [q]; simp) with ⟨e', ob, xs, z⟩ | ⟨p, hp, e'⟩
          · have z2 := un.frzs b ob _ z
            obtain ⟨e1, _⟩ := hok b _ z
            obtain ⟨e2, _⟩ := hok' b _ z2
            rw [e] at e1; cases e1
            exact .inl e2
          · subst e'
            have z := un.tbls _ _ (hTb p hp)
            obtain ⟨ps, e1, _⟩ := hok' _ _ z
            rw [hT p hp] at e; cases e
            exact .inr (.inl ⟨hIs p hp, rfl, #[], ps, rfl, by rw [Array.empty_append]; exact e1⟩)
  have hpa : ∀ p ∈ tabs, p.1 ≠ a := fun p hp z => by
    have := hT p hp
    rw [z, ha] at this; cases this
  have tl : ∀ p ∈ tabs, tabs.lookup p.1 = some p.2 := fun p hp => look_mem hnd hp
  have okT : ∀ (H : Hp) (b : Addr) (cr : Nat → Nat → Option Str), tabs.lookup b = some cr → ObjOk P w H s₁.heap b (.tbl cr) := fun H b cr e =>
    ⟨#[], hT (b, cr) (mem_look e), trivial, fun pos v z => by cases z⟩
  cases hk : K.lookup a with
  | some o =>
    have e := KX a o hk
    rw [ha] at e
    cases e
    refine core (fun b => (tabs.lookup b).map HO.tbl) (fun p hp => by show (tabs.lookup p.1).map HO.tbl = _; rw [tl p hp]; rfl) (.inr ⟨_, vs.toArray, _, hk, rfl, rfl, rfl, by rw [List.size_toArray, lenV]; exact hl, by simpa using rv⟩) (fun b u z => ?_) (fun b z => ?_) fun z => ?_
    · obtain ⟨cr, e1, e2⟩ := Option.map_eq_some_iff.mp z
      subst e2
      exact okT _ b cr e1
    · replace z : (tabs.lookup b).map HO.tbl ≠ none := z
      cases e : tabs.lookup b with
      | none => rw [e] at z; exact absurd rfl z
      | some cr => exact .inr ⟨_, mem_look e, rfl⟩
    · replace z : (tabs.lookup a).map HO.tbl ≠ none := z
      cases e : tabs.lookup a with
      | none => rw [e] at z; exact absurd rfl z
      | some cr => exact absurd rfl (hpa _ (mem_look e))
  | none =>
    refine core (fun b => if b = a then some (.frz { cls := .type "list", data := .seq vs.toArray } (.lst (ns.map V.int))) else (tabs.lookup b).map HO.tbl) (fun p hp => ?_) (.inl (.inr ⟨{ cls := .type "list", data := .seq vs.toArray }, if_pos rfl⟩)) (fun b u z => ?_) (fun b z => ?_) fun _ => hk
    · show (if p.1 = a then _ else (tabs.lookup p.1).map HO.tbl) = _
      rw [if_neg (hpa p hp), tl p hp]; rfl
    · by_cases hb : b = a
      · have z' := (if_pos hb).symm.trans z
        cases z'
        subst hb
        exact ⟨ha, by rw [List.length_map]; exact hl, vs, _, rv, ha⟩
      · have z' := (if_neg hb).symm.trans z
        obtain ⟨cr, e1, e2⟩ := Option.map_eq_some_iff.mp z'
        subst e2
        exact okT _ b cr e1
    · by_cases hb : b = a
      · exact .inl ⟨hb, _, _, if_pos hb⟩
      · replace z : (if b = a then _ else (tabs.lookup b).map HO.tbl) ≠ none := z
        rw [if_neg hb] at z
        cases e : tabs.lookup b with
        | none => rw [e] at z; exact absurd rfl z
        | some cr => exact .inr ⟨_, mem_look e, rfl⟩
theorem walk_ofT {l : PySem.W.OpenLaw} {n k : Nat} {q : Program} {loose : List Str} {XP : (Str → Option Value) → Heap → Prop} {YP : World → Heap → Prop} {d : DefRec} {K : Params → PySem.W.Frag} {sp : World → Sp} {x : Str} (tabs : World → Tabs)
    (hn : l.most = some n) (hn2 : n ≤ sizeLine) (hdf : d.params.defaults = []) (hr : Room k callerA)
    (hY : ∀ (w : World) (h : Heap), YP w h → (K w.params).In h ∧ ∀ p ∈ tabs w, h.get? p.1 = some { cls := .none, data := .fields #[] })
    (F : ∀ (w : World) (mg : Str → Option Value) (fa : Addr) (h : Heap), (K w.params).In h → h.Ns mainGlobals mg → mg d.name = some (.ref fa) →
      ∃ fd : FuncData, (∀ (s : Shared) (u : Value), BindsTo s fd ⟨[u], []⟩ [(x, u)]) ∧ ((∀ p ∈ tabs w, (K w.params).lookup p.1 = none) ∧ (∀ p ∈ tabs w, isCodeTable h p.1) ∧ ((tabs w).map (·.1)).Nodup) ∧
        ∀ base : Heap, (K w.params).In base → base.Ns mainGlobals mg → Bs (K w.params) mg base → FnOk l.prog w (K w.params) mg base CX0 k fa fd [x] (sp w))
    (hsp : ∀ (w : World) (H : Hp) (a : Addr) (ns : List Int), ns.length ≤ n → TabsIn H (tabs w) → SqL (K w.params) H a (ns.map V.int) → sp w [.ref a] H (fun v _ => v = .bl true) fun _ _ _ => False) :
    PySem.W.WalkO q loose XP YP l.row.toRowW d [] (fun f vs => PySem.call f vs) := by
  refine Att.attach_call hn hdf fun w s₀ s₁ mg mb fa o pm cd doc a vs ns G Y ho hd hcd hmg hobj hints hlen hg => ?_
  obtain ⟨KX, hT⟩ := hY w _ Y
  obtain ⟨fd, hb, ⟨h1, h2, h3⟩, hF⟩ := F w mg fa _ KX G.T.g hmg
  exact law_callT (tabs w) KX G.T.g G.T.b G.T.builtins G.T.nolimit hg hobj hints (Nat.le_trans hlen hn2) hr G.T.bmain hT h2 h1 h3 hF hb (fun H hO hS => hsp w H a ns hlen hO hS)
def spLawT (K : PySem.W.Frag) (tabs : Tabs) : Sp := fun vs H Q _ => ∃ (a : Addr) (ns : List Int), vs = [.ref a] ∧ SqL K H a (ns.map V.int) ∧ ns.length ≤ 63 ∧ TabsIn H tabs ∧ ∀ H', Q (.bl true) H'
theorem isTab_of {K : PySem.W.Frag} {h : Heap} {c P : Addr} (X : K.In h) (e : PySem.W.codeHdIn K c P = true) : isCodeTable h P := by
  obtain ⟨o, vs, file, tf, flags, tg, inF, text, tt, e1, e2, e3, e4, _⟩ := PySem.W.codeHd_of_K X e
  exact ⟨c, o, vs, e1, e2, e3, e4⟩
end L2
set_option maxHeartbeats 4000000
namespace K08
open PySem L2 Frac Lw Dig PySem.NumText Nm
def top (i : Nat) : Stmt := PySem.Challenge.pw_ordertext_k08_whole_shown_and_read.main.body.getD i (.Pass ⟨0, 0, 0, 0⟩)
abbrev s_is_name : Stmt := top 9
abbrev s_many_ahead : Stmt := top 11
abbrev s_fraction : Stmt := top 16
abbrev s_common_divisor : Stmt := top 17
abbrev s_compared : Stmt := top 18
abbrev s_place_among : Stmt := top 19
abbrev s_rising : Stmt := top 20
abbrev s_read_number : Stmt := top 21
abbrev s_read_signed : Stmt := top 22
abbrev s_read_figures : Stmt := top 23
abbrev s_number_shown : Stmt := top 24
abbrev s_figures_of : Stmt := top 25
abbrev s_read_order : Stmt := top 27
abbrev s_read_word : Stmt := top 28
abbrev s_read_order_number : Stmt := top 29
abbrev s_reversed_parts : Stmt := top 30
abbrev s_order_shown : Stmt := top 31
abbrev s_word_shown : Stmt := top 32
abbrev s_numbers_of : Stmt := top 33
abbrev s__law_deck : Stmt := top 35
abbrev s__law_take : Stmt := top 36
abbrev s__law_common : Stmt := top 37
abbrev s__law_least : Stmt := top 38
abbrev s__law_whole_number : Stmt := top 39
abbrev s__law_number : Stmt := top 40
abbrev s__law_book : Stmt := top 41
abbrev s__law_options : Stmt := top 42
abbrev s__law_room : Stmt := top 43
abbrev s__law_order : Stmt := top 44
abbrev s__law_shown : Stmt := top 45
abbrev s__law_numbers : Stmt := top 46
abbrev s_law : Stmt := top 47
theorem sc_is_name : FnScope ["text"] ["text"] (defScope s_is_name) := ⟨rfl, rfl, rfl, by decide +kernel, rfl, by decide +kernel, by decide +kernel⟩
theorem sc_many_ahead : FnScope ["places", "lies_ahead", "low", "high", "half"] ["places", "lies_ahead"] (defScope s_many_ahead) := ⟨rfl, rfl, rfl, by decide +kernel, rfl, by decide +kernel, by decide +kernel⟩
theorem sc_compared : FnScope ["one", "other", "left", "right"] ["one", "other"] (defScope s_compared) := ⟨rfl, rfl, rfl, by decide +kernel, rfl, by decide +kernel, by decide +kernel⟩
theorem sc_place_among : FnScope ["numbers", "number"] ["numbers", "number"] (defScope s_place_among) := ⟨rfl, rfl, rfl, by decide +kernel, rfl, by decide +kernel, by decide +kernel⟩
theorem sc_rising : FnScope ["numbers", "row", "number", "place"] ["numbers"] (defScope s_rising) := ⟨rfl, rfl, rfl, by decide +kernel, rfl, by decide +kernel, by decide +kernel⟩
theorem sc_read_order : FnScope ["text", "book", "order", "fields", "needs", "word", "need", "field"] ["text", "book"] (defScope s_read_order) := ⟨rfl, rfl, rfl, by decide +kernel, rfl, by decide +kernel, by decide +kernel⟩
theorem sc_read_word : FnScope ["word", "need"] ["word", "need"] (defScope s_read_word) := ⟨rfl, rfl, rfl, by decide +kernel, rfl, by decide +kernel, by decide +kernel⟩
theorem sc_read_order_number : FnScope ["word", "refusal"] ["word"] (defScope s_read_order_number) := ⟨rfl, rfl, rfl, by decide +kernel, rfl, by decide +kernel, by decide +kernel⟩
theorem sc_reversed_parts : FnScope ["word"] ["word"] (defScope s_reversed_parts) := ⟨rfl, rfl, rfl, by decide +kernel, rfl, by decide +kernel, by decide +kernel⟩
theorem sc_order_shown : FnScope ["order"] ["order"] (defScope s_order_shown) := ⟨rfl, rfl, rfl, by decide +kernel, rfl, by decide +kernel, by decide +kernel⟩
theorem sc_word_shown : FnScope ["word"] ["word"] (defScope s_word_shown) := ⟨rfl, rfl, rfl, by decide +kernel, rfl, by decide +kernel, by decide +kernel⟩
theorem sc_numbers_of : FnScope ["order"] ["order"] (defScope s_numbers_of) := ⟨rfl, rfl, rfl, by decide +kernel, rfl, by decide +kernel, by decide +kernel⟩
theorem sc__law_options : FnScope ["want", "some"] ["want"] (defScope s__law_options) := ⟨rfl, rfl, rfl, by decide +kernel, rfl, by decide +kernel, by decide +kernel⟩
theorem sc__law_order : FnScope ["deck", "book", "numbers", "most", "words", "due", "want", "room", "some", "option"] ["deck", "book", "numbers", "most"] (defScope s__law_order) := ⟨rfl, rfl, rfl, by decide +kernel, rfl, by decide +kernel, by decide +kernel⟩
theorem sc__law_shown : FnScope ["order", "found", "word"] ["order"] (defScope s__law_shown) := ⟨rfl, rfl, rfl, by decide +kernel, rfl, by decide +kernel, by decide +kernel⟩
theorem sc_law : FnScope ["script", "deck", "book", "numbers", "orders", "case", "told", "order", "text", "parts"] ["script"] (defScope s_law) := ⟨rfl, rfl, rfl, by decide +kernel, rfl, by decide +kernel, by decide +kernel⟩
abbrev sTake : Stmt := s__law_take
abbrev sDeck : Stmt := s__law_deck
abbrev sCommon : Stmt := s__law_common
abbrev sLeast : Stmt := s__law_least
abbrev sWhole : Stmt := s__law_whole_number
abbrev sNumber : Stmt := s__law_number
abbrev sBook : Stmt := s__law_book
abbrev sRoom : Stmt := s__law_room
abbrev sNumbers : Stmt := s__law_numbers
abbrev sFrac : Stmt := s_fraction
abbrev sCD : Stmt := s_common_divisor
abbrev sRN : Stmt := s_read_number
abbrev sRS : Stmt := s_read_signed
abbrev sRF : Stmt := s_read_figures
abbrev sFO : Stmt := s_figures_of
abbrev sNS : Stmt := s_number_shown
abbrev lq_place_among : Str := (Str.ofString "place_among" ++ ".<locals>.") ++ "<lambda>"
set_option genInjectivity false in
structure Top (K : PySem.W.Frag) (mg : Str → Option Value) where
  f_is_name : Addr
  fd_is_name : FuncData
  F_is_name : Fun K "is_name" "is_name" s_is_name f_is_name fd_is_name
  b_is_name : Binds K fd_is_name ["text"] []
  m_is_name : mg "is_name" = some (.ref f_is_name)
  f_many_ahead : Addr
  fd_many_ahead : FuncData
  F_many_ahead : Fun K "many_ahead" "many_ahead" s_many_ahead f_many_ahead fd_many_ahead
  b_many_ahead : Binds K fd_many_ahead ["places", "lies_ahead"] []
  m_many_ahead : mg "many_ahead" = some (.ref f_many_ahead)
  f_fraction : Addr
  fd_fraction : FuncData
  F_fraction : Fun K "fraction" "fraction" s_fraction f_fraction fd_fraction
  b_fraction : Binds K fd_fraction ["above", "below"] []
  m_fraction : mg "fraction" = some (.ref f_fraction)
  f_common_divisor : Addr
  fd_common_divisor : FuncData
  F_common_divisor : Fun K "common_divisor" "common_divisor" s_common_divisor f_common_divisor fd_common_divisor
  b_common_divisor : Binds K fd_common_divisor ["one", "other"] []
  m_common_divisor : mg "common_divisor" = some (.ref f_common_divisor)
  f_compared : Addr
  fd_compared : FuncData
  F_compared : Fun K "compared" "compared" s_compared f_compared fd_compared
  b_compared : Binds K fd_compared ["one", "other"] []
  m_compared : mg "compared" = some (.ref f_compared)
  f_place_among : Addr
  fd_place_among : FuncData
  F_place_among : Fun K "place_among" "place_among" s_place_among f_place_among fd_place_among
  b_place_among : Binds K fd_place_among ["numbers", "number"] []
  m_place_among : mg "place_among" = some (.ref f_place_among)
  f_rising : Addr
  fd_rising : FuncData
  F_rising : Fun K "rising" "rising" s_rising f_rising fd_rising
  b_rising : Binds K fd_rising ["numbers"] []
  m_rising : mg "rising" = some (.ref f_rising)
  f_read_number : Addr
  fd_read_number : FuncData
  F_read_number : Fun K "read_number" "read_number" s_read_number f_read_number fd_read_number
  b_read_number : Binds K fd_read_number ["text"] []
  m_read_number : mg "read_number" = some (.ref f_read_number)
  f_read_signed : Addr
  fd_read_signed : FuncData
  F_read_signed : Fun K "read_signed" "read_signed" s_read_signed f_read_signed fd_read_signed
  b_read_signed : Binds K fd_read_signed ["text"] []
  m_read_signed : mg "read_signed" = some (.ref f_read_signed)
  f_read_figures : Addr
  fd_read_figures : FuncData
  F_read_figures : Fun K "read_figures" "read_figures" s_read_figures f_read_figures fd_read_figures
  b_read_figures : Binds K fd_read_figures ["text"] []
  m_read_figures : mg "read_figures" = some (.ref f_read_figures)
  f_number_shown : Addr
  fd_number_shown : FuncData
  F_number_shown : Fun K "number_shown" "number_shown" s_number_shown f_number_shown fd_number_shown
  b_number_shown : Binds K fd_number_shown ["number"] []
  m_number_shown : mg "number_shown" = some (.ref f_number_shown)
  f_figures_of : Addr
  fd_figures_of : FuncData
  F_figures_of : Fun K "figures_of" "figures_of" s_figures_of f_figures_of fd_figures_of
  b_figures_of : Binds K fd_figures_of ["number"] []
  m_figures_of : mg "figures_of" = some (.ref f_figures_of)
  f_read_order : Addr
  fd_read_order : FuncData
  F_read_order : Fun K "read_order" "read_order" s_read_order f_read_order fd_read_order
  b_read_order : Binds K fd_read_order ["text", "book"] []
  m_read_order : mg "read_order" = some (.ref f_read_order)
  f_read_word : Addr
  fd_read_word : FuncData
  F_read_word : Fun K "read_word" "read_word" s_read_word f_read_word fd_read_word
  b_read_word : Binds K fd_read_word ["word", "need"] []
  m_read_word : mg "read_word" = some (.ref f_read_word)
  f_read_order_number : Addr
  fd_read_order_number : FuncData
  F_read_order_number : Fun K "read_order_number" "read_order_number" s_read_order_number f_read_order_number fd_read_order_number
  b_read_order_number : Binds K fd_read_order_number ["word"] []
  m_read_order_number : mg "read_order_number" = some (.ref f_read_order_number)
  f_reversed_parts : Addr
  fd_reversed_parts : FuncData
  F_reversed_parts : Fun K "reversed_parts" "reversed_parts" s_reversed_parts f_reversed_parts fd_reversed_parts
  b_reversed_parts : Binds K fd_reversed_parts ["word"] []
  m_reversed_parts : mg "reversed_parts" = some (.ref f_reversed_parts)
  f_order_shown : Addr
  fd_order_shown : FuncData
  F_order_shown : Fun K "order_shown" "order_shown" s_order_shown f_order_shown fd_order_shown
  b_order_shown : Binds K fd_order_shown ["order"] []
  m_order_shown : mg "order_shown" = some (.ref f_order_shown)
  f_word_shown : Addr
  fd_word_shown : FuncData
  F_word_shown : Fun K "word_shown" "word_shown" s_word_shown f_word_shown fd_word_shown
  b_word_shown : Binds K fd_word_shown ["word"] []
  m_word_shown : mg "word_shown" = some (.ref f_word_shown)
  f_numbers_of : Addr
  fd_numbers_of : FuncData
  F_numbers_of : Fun K "numbers_of" "numbers_of" s_numbers_of f_numbers_of fd_numbers_of
  b_numbers_of : Binds K fd_numbers_of ["order"] []
  m_numbers_of : mg "numbers_of" = some (.ref f_numbers_of)
  f__law_deck : Addr
  fd__law_deck : FuncData
  F__law_deck : Fun K "_law_deck" "_law_deck" s__law_deck f__law_deck fd__law_deck
  b__law_deck : Binds K fd__law_deck ["script"] []
  m__law_deck : mg "_law_deck" = some (.ref f__law_deck)
  f__law_take : Addr
  fd__law_take : FuncData
  F__law_take : Fun K "_law_take" "_law_take" s__law_take f__law_take fd__law_take
  b__law_take : Binds K fd__law_take ["deck", "many"] []
  m__law_take : mg "_law_take" = some (.ref f__law_take)
  f__law_common : Addr
  fd__law_common : FuncData
  F__law_common : Fun K "_law_common" "_law_common" s__law_common f__law_common fd__law_common
  b__law_common : Binds K fd__law_common ["one", "other"] []
  m__law_common : mg "_law_common" = some (.ref f__law_common)
  f__law_least : Addr
  fd__law_least : FuncData
  F__law_least : Fun K "_law_least" "_law_least" s__law_least f__law_least fd__law_least
  b__law_least : Binds K fd__law_least ["top", "below"] []
  m__law_least : mg "_law_least" = some (.ref f__law_least)
  f__law_whole_number : Addr
  fd__law_whole_number : FuncData
  F__law_whole_number : Fun K "_law_whole_number" "_law_whole_number" s__law_whole_number f__law_whole_number fd__law_whole_number
  b__law_whole_number : Binds K fd__law_whole_number ["deck"] []
  m__law_whole_number : mg "_law_whole_number" = some (.ref f__law_whole_number)
  f__law_number : Addr
  fd__law_number : FuncData
  F__law_number : Fun K "_law_number" "_law_number" s__law_number f__law_number fd__law_number
  b__law_number : Binds K fd__law_number ["deck"] []
  m__law_number : mg "_law_number" = some (.ref f__law_number)
  f__law_book : Addr
  fd__law_book : FuncData
  F__law_book : Fun K "_law_book" "_law_book" s__law_book f__law_book fd__law_book
  b__law_book : Binds K fd__law_book ["deck"] []
  m__law_book : mg "_law_book" = some (.ref f__law_book)
  f__law_options : Addr
  fd__law_options : FuncData
  F__law_options : Fun K "_law_options" "_law_options" s__law_options f__law_options fd__law_options
  b__law_options : Binds K fd__law_options ["want"] []
  m__law_options : mg "_law_options" = some (.ref f__law_options)
  f__law_room : Addr
  fd__law_room : FuncData
  F__law_room : Fun K "_law_room" "_law_room" s__law_room f__law_room fd__law_room
  b__law_room : Binds K fd__law_room ["due"] []
  m__law_room : mg "_law_room" = some (.ref f__law_room)
  f__law_order : Addr
  fd__law_order : FuncData
  F__law_order : Fun K "_law_order" "_law_order" s__law_order f__law_order fd__law_order
  b__law_order : Binds K fd__law_order ["deck", "book", "numbers", "most"] []
  m__law_order : mg "_law_order" = some (.ref f__law_order)
  f__law_shown : Addr
  fd__law_shown : FuncData
  F__law_shown : Fun K "_law_shown" "_law_shown" s__law_shown f__law_shown fd__law_shown
  b__law_shown : Binds K fd__law_shown ["order"] []
  m__law_shown : mg "_law_shown" = some (.ref f__law_shown)
  f__law_numbers : Addr
  fd__law_numbers : FuncData
  F__law_numbers : Fun K "_law_numbers" "_law_numbers" s__law_numbers f__law_numbers fd__law_numbers
  b__law_numbers : Binds K fd__law_numbers ["deck"] []
  m__law_numbers : mg "_law_numbers" = some (.ref f__law_numbers)
  c_place_among : Addr
  P_place_among : Addr
  cd_place_among : fd_place_among.code = .ref c_place_among
  ch_place_among : PySem.W.codeHdIn K c_place_among P_place_among = true
  len_ : mg "len" = none
  range_ : mg "range" = none
  tuple_ : mg "tuple" = none
  isinstance_ : mg "isinstance" = none
  list_ : mg "list" = none
  sum_ : mg "sum" = none
  max_ : mg "max" = none
  str_ : mg "str" = none
  int_ : mg "int" = none
  abs_ : mg "abs" = none
  all_ : mg "all" = none
  reversed_ : mg "reversed" = none
  tt : PySem.W.kitOne K (.type "tuple") (.type "tuple") = some true
  ss : PySem.W.kitOne K (.type "str") (.type "str") = some true
  ts : PySem.W.kitOne K (.type "tuple") (.type "str") = some false
  st : PySem.W.kitOne K (.type "str") (.type "tuple") = some false
section
variable {P : Program} {w : World} {K : PySem.W.Frag} {mg : Str → Option Value} {base : Heap}
theorem scTake : FnScope ["deck", "many", "at", "cell"] ["deck", "many"] (defScope sTake) := ⟨rfl, rfl, rfl, by decide +kernel, rfl, by decide +kernel, by decide +kernel⟩
theorem ok_take {f : Addr} {fd : FuncData} (F : Fun K "_law_take" "_law_take" sTake f fd) (hlen : mg "len" = none) : FnOk P w K mg base CX0 1 f fd ["deck", "many"] spTake := by
  refine F.ok scTake (fun vs H Q E h => ?_) (fun cdv A outer s H vs Q E hr h => ?_)
  · obtain ⟨d, c, many, rfl, _⟩ := h
    rfl
  · obtain ⟨d, c, many, rfl, D, ⟨hm, hz⟩, k⟩ := h
    obtain ⟨n, ns, hd, hc, hl1, hl2, hn⟩ := id D.ex
    have ndc := D.ne
    refine ⟨_, pss_cons (ps_set (i := 2) scTake.nd rfl (Or.inl rfl) (pe_op op_mod (pe_ix ix_list (pv 0) pe_int (fun _ _ => rfl)) (pe_callB call_len_seq (by rfl) hlen PySem.boot_len (pa_cons (pe_ix ix_list (pv 0) pe_int (fun _ _ => rfl)) pa_nil))))
      (pss_cons (ps_asg (pe_op op_add (pe_ix ix_list (pv 0) pe_int (fun _ _ => rfl)) pe_int) (pg_sub (pv 0) pe_int set_list))
      (pss_cons (ps_set (i := 3) scTake.nd rfl (Or.inl rfl) (pe_ix ix_list (pe_ix ix_list (pv 0) pe_int (fun _ _ => rfl)) (pv 2) (fun _ _ => rfl)))
      (pss_cons (ps_asg (pe_op op_fdivP (pv 3) (pv 1)) (pg_sub (pe_ix ix_list (pv 0) pe_int (fun _ _ => rfl)) (pv 2) set_list))
      (pss_one (ps_ret (pe_op op_mod (pv 3) (pv 1))))))), ?_⟩
    have hi0 : 0 ≤ n % ((ns.map V.int).length : Int) := Int.emod_nonneg _ (by rw [List.length_map]; omega)
    have hi1 : n % ((ns.map V.int).length : Int) < ns.length := by
      have := Int.emod_lt_of_pos n (show (0 : Int) < ((ns.map V.int).length : Int) by rw [List.length_map]; omega)
      rw [List.length_map] at this ⊢; exact this
    obtain ⟨z, j, hat, hix, hj⟩ := atI_ints hi0 hi1
    refine ⟨_, rfl, d, _, 1, _, rfl, rfl, SqL.of hd, rfl, _, rfl, d, _, 0, _, rfl, rfl, SqL.of hd, rfl, c, _, rfl, .inl (SqL.of hc), _, _, rfl, rfl, (by rw [List.length_map]; omega), ?_⟩
    refine ⟨_, rfl, d, _, 1, _, rfl, rfl, SqL.of hd, rfl, _, _, rfl, rfl, _, rfl, d, _, 1, 1, rfl, rfl, hd, rfl, ?_⟩
    have hc1 : ∀ o, (upd H d o) c = some (.lst (ns.map V.int)) := fun o => by rw [upd_ne (Ne.symm ndc)]; exact hc
    refine ⟨_, rfl, d, _, 0, _, rfl, rfl, SqL.of upd_same, rfl, _, rfl, c, _, _, _, rfl, rfl, SqL.of (hc1 _), hat, ?_⟩
    refine ⟨_, rfl, _, rfl, _, _, rfl, rfl, ⟨by omega, w0 hz⟩, _, rfl, d, _, 0, _, rfl, rfl, SqL.of upd_same, rfl, _, rfl, c, _, _, j, rfl, rfl, hc1 _, hix, ?_⟩
    refine ⟨_, rfl, _, rfl, _, _, rfl, rfl, (by omega), ?_⟩
    refine k _ _ (Int.emod_nonneg _ (by omega)) (Int.emod_lt_of_pos _ (by omega)) ⟨n + 1, ns.set j (z / many), ?_, ?_, by simpa using hl1, by simpa using hl2, by omega⟩ fun b o e h1 h2 => ?_
    · rw [upd_ne ndc, upd_same]; rfl
    · rw [upd_same, set_ints]
    · rw [upd_ne h2, upd_ne h1]; exact e
theorem scDeck : FnScope ["script", "cells", "k", "mixed"] ["script"] (defScope sDeck) := ⟨rfl, rfl, rfl, by decide +kernel, rfl, by decide +kernel, by decide +kernel⟩
theorem ok_deck {f : Addr} {fd : FuncData} (F : Fun K "_law_deck" "_law_deck" sDeck f fd) (hlen : mg "len" = none) (hsum : mg "sum" = none) (hrange : mg "range" = none) : FnOk P w K mg base CX0 1 f fd ["script"] (spDeck K) := by
  refine F.ok scDeck (fun vs H Q E h => ?_) (fun cdv A outer s H vs Q E hr h => ?_)
  · obtain ⟨a, ns, rfl, _⟩ := h
    rfl
  · obtain ⟨a, ns, rfl, hS, hlen63, k⟩ := h
    refine ⟨_, pss_cons (ps_set (i := 1) scDeck.nd rfl (Or.inl rfl) (pe_op op_cat (pe_slice sl_list (pv 0) po_none (po_some pe_int)) (pe_lst (pa_cons (pe_callB call_len_seq (by rfl) hlen PySem.boot_len (pa_cons (pv 0) pa_nil)) pa_nil))))
      (pss_cons (ps_if (pt_cmpR op_eq (pe_op op_mod (pe_callB (call_sum rfl) (by rfl) hsum bSum (pa_cons (pe_slice sl_list (pv 0) po_none (po_some pe_int)) pa_nil)) pe_int) pe_int (nomark _))
        (pss_one (ps_for PassesOwn.never rfl (pi_range1 rfl hrange (pa_cons (pe_callB call_len_seq (by rfl) hlen PySem.boot_len (pa_cons (pv 1) pa_nil)) pa_nil)) (pg_name (i := 2) scDeck.nd rfl (Or.inl rfl))
          (pss_cons (ps_set (i := 3) scDeck.nd rfl (Or.inl rfl) (pe_op op_mod (pe_op op_mulW (pe_op op_add (pe_op op_add (pe_op op_mod (pe_ix ix_list (pv 1) (pv 2) (fun _ _ => rfl)) pe_int) (pe_op op_mulW pe_int (pv 2))) pe_int) pe_int) pe_int))
          (pss_cons (ps_set (i := 3) scDeck.nd rfl (Or.inl rfl) (pe_op op_mod (pe_op op_mulW (pe_op op_mod (pe_op op_add (pe_op op_mulW (pv 3) (pv 3)) (pe_op op_mulW pe_int (pv 2))) pe_int) pe_int) pe_int))
          (pss_one (ps_asg (pe_op op_add (pe_op op_mulW (pe_op op_mulW (pv 3) (pv 3)) pe_int) (pe_op op_mod (pe_op op_mulW (pv 3) pe_int) pe_int)) (pg_sub (pv 1) (pv 2) set_list)))))))
        pss_nil)
      (pss_one (ps_ret (pe_lst (pa_cons (pv 1) (pa_cons pe_int pa_nil)))))), ?_⟩
    refine ⟨_, rfl, 63, rfl, a, _, rfl, hS, fun p hp => ?_⟩
    have s1 := same_new (o := .lst (cutV (ns.map V.int) none (some 63))) hp
    refine ⟨_, rfl, a, _, rfl, .inl (s1.seq hS), (by show 1 ≤ sizeLine; decide), fun q hq => ?_⟩
    have npq : p ≠ q := ne_of_none (H := upd H p (.lst (cutV (ns.map V.int) none (some 63)))) upd_same hq
    refine ⟨p, q, _, _, rfl, rfl, (by rw [upd_ne npq, upd_same]), upd_same, ?_, fun c hc => ?_⟩
    · rw [cut63 hlen63, List.length_map]
      show ns.length + 1 ≤ sizeLine
      rw [sizeLine_eq]; omega
    have s2 := s1.trans (same_new (o := .lst [V.int ((ns.map V.int).length : Nat)]) hq)
    have s3 := s2.trans (same_new (o := .lst (cutV (ns.map V.int) none (some 63) ++ [V.int ((ns.map V.int).length : Nat)])) hc)
    have ec : cutV (ns.map V.int) none (some 63) ++ [V.int ((ns.map V.int).length : Nat)] = (ns ++ [((ns.map V.int).length : Int)]).map V.int := by
      rw [cut63 hlen63, List.map_append]; rfl
    have nc0 : H c = none := s2.free hc
    generalize hH3 : upd (upd (upd H p (.lst (cutV (ns.map V.int) none (some 63)))) q (.lst [V.int ((ns.map V.int).length : Nat)])) c (.lst (cutV (ns.map V.int) none (some 63) ++ [V.int ((ns.map V.int).length : Nat)])) = H3 at s3
    have hc3 : H3 c = some (.lst ((ns ++ [((ns.map V.int).length : Int)]).map V.int)) := by rw [← hH3, upd_same, ec]
    have hlc : (ns ++ [((ns.map V.int).length : Int)]).length = ns.length + 1 := by simp
    have fin : ∀ (v2 v3 : Option V) (H4 : Hp) (ms : List Int), Same H H4 → H4 c = some (.lst (ms.map V.int)) → ms.length = ns.length + 1 →
        tRet (tLst (tCons (tVar 1) (tCons (tC (.int 0)) tNil))) { nx := fun _ H' => Q .non H', rt := Q } [some (.ref a), some (.ref c), v2, v3] H4 := fun v2 v3 H4 ms s4 h4 hl4 => by
      refine ⟨_, rfl, (by show 2 ≤ sizeLine; decide), fun d hd => ?_⟩
      have ncd : c ≠ d := ne_of_none h4 hd
      exact k d c _ ⟨0, ms, upd_same, (by rw [upd_ne ncd]; exact h4), by omega, by omega, by omega⟩ (s4.free hd) nc0 (s4.trans (same_new hd))
    refine ⟨_, rfl, 63, rfl, a, _, rfl, s3.seq hS, fun e he => ?_⟩
    have s4 := s3.trans (same_new (o := .lst (cutV (ns.map V.int) none (some 63))) he)
    have hce : c ≠ e := ne_of_none hc3 he
    have hc4 : (upd H3 e (.lst (cutV (ns.map V.int) none (some 63)))) c = some (.lst ((ns ++ [((ns.map V.int).length : Int)]).map V.int)) := by rw [upd_ne hce]; exact hc3
    refine ⟨e, ns, rfl, SqL.of (by rw [upd_same, cut63 hlen63]), _, _, rfl, rfl, (by show (0 : Int) < 2; decide), rfl, _, rfl, ?_⟩
    refine ite2 (fun _ => ?_) (fun _ => fin _ _ _ _ s4 hc4 hlc)
    refine ⟨_, rfl, c, _, rfl, .inl (SqL.of hc4), _, rfl, ?_, ?_, for_range (Pv := fun i σ H5 => ∃ (v2 v3 : Option V) (ms : List Int), σ = [some (.ref a), some (.ref c), v2, v3] ∧ Same H H5 ∧ H5 c = some (.lst (ms.map V.int)) ∧ ms.length = ns.length + 1) ⟨_, _, _, rfl, s4, hc4, hlc⟩ ?_ ?_⟩
    · rw [List.length_map, hlc]; omega
    · rw [List.length_map, hlc]; omega
    · rintro i σ H5 hi ⟨v2, v3, ms, rfl, s5, h5, hl5⟩
      have hi' : i < ms.length := by
        rw [List.length_map, hlc] at hi
        omega
      obtain ⟨z, j, hat, hix, hj⟩ := atI_ints (ns := ms) (i := 0 + (i : Int)) (by omega) (by omega)
      have hb1 : (0 : Int) ≤ z % 2147483587 ∧ z % 2147483587 < 2147483587 := ⟨Int.emod_nonneg _ (by decide), Int.emod_lt_of_pos _ (by decide)⟩
      refine ⟨_, rfl, _, rfl, c, _, _, _, rfl, rfl, SqL.of h5, hat, _, _, rfl, rfl, (by show (0 : Int) < 2147483587; decide), _, rfl, _, _, rfl, rfl, mw (by decide) (by omega), _, _, rfl, rfl, _, _, rfl, rfl, _, _, rfl, rfl, mw (by omega) (by decide), _, _, rfl, rfl, (by show (0 : Int) < 2147483629; decide), ?_⟩
      (try dsimp only)
      generalize hM1 : (z % 2147483587 + 911 * (0 + (i : Int)) + 3) * 69621 % 2147483629 = m1
      have hm1 : 0 ≤ m1 ∧ m1 < 2147483629 := by rw [← hM1]; exact ⟨Int.emod_nonneg _ (by decide), Int.emod_lt_of_pos _ (by decide)⟩
      have hmm : (m1 * m1).natAbs ≤ 2147483629 * 2147483629 := mulb (by omega) (by omega)
      refine ⟨_, rfl, _, rfl, _, _, rfl, rfl, mw (by omega) (by omega), _, rfl, _, _, rfl, rfl, mw (by decide) (by omega), _, _, rfl, rfl, _, _, rfl, rfl, (by show (0 : Int) < 2147483563; decide), _, _, rfl, rfl, mw ?_ (by decide), _, _, rfl, rfl, (by show (0 : Int) < 2147483549; decide), ?_⟩
      · have := Int.emod_nonneg (m1 * m1 + 29 * (0 + (i : Int))) (show (2147483563 : Int) ≠ 0 by decide)
        have := Int.emod_lt_of_pos (m1 * m1 + 29 * (0 + (i : Int))) (show (0 : Int) < 2147483563 by decide)
        omega
      (try dsimp only)
      generalize hM2 : (m1 * m1 + 29 * (0 + (i : Int))) % 2147483563 * 16807 % 2147483549 = m2
      have hm2 : 0 ≤ m2 ∧ m2 < 2147483549 := by rw [← hM2]; exact ⟨Int.emod_nonneg _ (by decide), Int.emod_lt_of_pos _ (by decide)⟩
      have hmm2 : (m2 * m2).natAbs ≤ 2147483629 * 2147483629 := mulb (by omega) (by omega)
      refine ⟨_, rfl, _, rfl, _, _, rfl, rfl, mw (by omega) (by omega), _, _, rfl, rfl, mw (by omega) (by decide), _, rfl, _, _, rfl, rfl, mw (by omega) (by decide), _, _, rfl, rfl, (by show (0 : Int) < 2147483579; decide), _, _, rfl, rfl, _, rfl, _, rfl, c, _, _, j, rfl, rfl, h5, hix, ?_⟩
      refine ⟨_, _, ms.set j (m2 * m2 * 2147483543 + m2 * 48271 % 2147483579), rfl, fun b o eb => ?_, (by rw [upd_same, set_ints]), by simpa using hl5⟩
      rw [upd_ne (ne_of_none eb nc0)]
      exact s5 b o eb
    · rintro σ H5 ⟨v2, v3, ms, rfl, s5, h5, hl5⟩
      exact fin _ _ _ _ s5 h5 hl5
theorem scCommon : FnScope ["one", "other"] ["one", "other"] (defScope sCommon) := ⟨rfl, rfl, rfl, by decide +kernel, rfl, by decide +kernel, by decide +kernel⟩
theorem ok_common {f : Addr} {fd : FuncData} (F : Fun K "_law_common" "_law_common" sCommon f fd) : FnOk P w K mg base CX0 1 f fd ["one", "other"] spCommon := by
  refine F.ok scCommon (fun vs H Q E h => ?_) (fun cdv A outer s H vs Q E hr h => ?_)
  · obtain ⟨a, b, rfl, _⟩ := h
    rfl
  · obtain ⟨a, b, rfl, ha, hb, k⟩ := h
    refine ⟨_, pss_cons (ps_while PassesOwn.never (pt_cmpR op_gt (pv 1) pe_int (nomark _)) (pss_one (ps_par (i := 0) (j := 1) rfl scCommon.nd rfl rfl (by decide) rfl rfl (pa_cons (pv 1) (pa_cons (pe_op op_mod (pv 0) (pv 1)) pa_nil)) (by rfl))))
      (pss_one (ps_ret (pv 0))), ?_⟩
    refine while_by (fun σ H2 => ∃ x y : Int, σ = [some (.int x), some (.int y)] ∧ H2 = H ∧ 0 ≤ x ∧ 0 ≤ y ∧ Int.gcd x y = Int.gcd a b) (fun σ _ => match σ with | [_, some (.int y)] => y.toNat | _ => 0) ⟨a, b, rfl, rfl, ha, hb, rfl⟩ ?_ ?_
    · rintro σ H2 ⟨x, y, rfl, rfl, hx, hy, hg⟩
      refine ⟨_, rfl, _, _, rfl, rfl, _, rfl, ?_⟩
      by_cases h0 : 0 < y
      · rw [decide_eq_true h0]
        refine iteT ?_
        have hr0 := Int.emod_nonneg x (show y ≠ 0 by omega)
        have hr1 := Int.emod_lt_of_pos x h0
        refine ⟨_, rfl, _, rfl, _, rfl, _, _, rfl, rfl, h0, _, _, rfl, ⟨y, x % y, rfl, rfl, hy, hr0, ?_⟩, ?_⟩
        · rw [gcd_step x y h0]; exact hg
        · show (x % y).toNat < y.toNat
          omega
      · rw [decide_eq_false h0]
        refine iteF ?_
        have y0 : y = 0 := by omega
        subst y0
        refine ⟨_, rfl, ?_⟩
        have e := gcd_zero x hx
        rw [hg] at e
        rw [← e]
        exact k
    · rintro σ H2 Q1 Q2 hq ⟨v, e, i, j, e1, e2, b', e3, q⟩
      exact ⟨v, e, i, j, e1, e2, b', e3, hq _ _ q⟩
theorem scLeast : FnScope ["top", "below", "by"] ["top", "below"] (defScope sLeast) := ⟨rfl, rfl, rfl, by decide +kernel, rfl, by decide +kernel, by decide +kernel⟩
theorem ok_least {f fC : Addr} {fd fdC : FuncData} (F : Fun K "_law_least" "_law_least" sLeast f fd) (hmax : mg "max" = none) (FC : Fun K "_law_common" "_law_common" sCommon fC fdC) (bC : Binds K fdC ["one", "other"] []) (mC : mg "_law_common" = some (.ref fC)) : FnOk P w K mg base CX0 2 f fd ["top", "below"] spLeast := by
  have GC : FnOk P w K mg base CX0 1 fC fdC ["one", "other"] spCommon := ok_common FC
  refine F.ok scLeast (fun vs H Q E h => ?_) (fun cdv A outer s H vs Q E hr h => ?_)
  · obtain ⟨a, b, rfl, _⟩ := h
    rfl
  · obtain ⟨a, b, rfl, hb, ⟨za, zb⟩, k⟩ := h
    refine ⟨_, pss_cons (ps_if (pt_cmpR op_lt (pv 1) pe_int (nomark _)) (pss_cons (ps_set (i := 0) scLeast.nd rfl (Or.inl rfl) (pe_op op_sub pe_int (pv 0))) (pss_one (ps_set (i := 1) scLeast.nd rfl (Or.inl rfl) (pe_op op_sub pe_int (pv 1))))) pss_nil)
      (pss_cons (ps_set (i := 2) scLeast.nd rfl (Or.inl rfl) (pe_call GC hr (by rfl) mC FC.kp bC .nil pass0 (pa_cons (pe_callB (call_max2 rfl) (by rfl) hmax bMax (pa_cons (pv 0) (pa_cons (pe_op op_sub pe_int (pv 0)) pa_nil))) (pa_cons (pv 1) pa_nil))))
      (pss_one (ps_ret (pe_tup (pa_cons (pe_op op_fdivP (pv 0) (pv 2)) (pa_cons (pe_op op_fdivP (pv 1) (pv 2)) pa_nil)))))), ?_⟩
    have fin : ∀ (x y : Int) (v : Option V), 0 < y → norm a b = norm x y → y.natAbs < 10 ^ 100 → (tSeq (tAsg (tCall spCommon [] E0 (tCons (tCB (fun xs H Q => ∃ i j, xs = [.int i, .int j] ∧ Q (.int (if j > i then j else i)) H) (tCons (tVar 0) (tCons (tOp (rI0 fun i j => .int (i - j)) (tC (.int 0)) (tVar 0)) tNil))) (tCons (tVar 1) tNil))) (gName 2))
        (tRet (tTup (tCons (tOp (rI CDivP fun i j => .int (i / j)) (tVar 0) (tVar 2)) (tCons (tOp (rI CDivP fun i j => .int (i / j)) (tVar 1) (tVar 2)) tNil))))) { nx := fun _ H' => Q .non H', rt := Q } [some (.int x), some (.int y), v] H := fun x y v hy he hz => by
      have em : (if 0 - x > x then 0 - x else x) = (x.natAbs : Int) := by split <;> omega
      have eg : Int.gcd (if 0 - x > x then 0 - x else x) y = Int.gcd x y := by rw [em]; unfold Int.gcd; rw [Int.natAbs_natCast]
      refine ⟨_, rfl, _, rfl, _, _, rfl, rfl, _, _, rfl, _, rfl, _, _, rfl, (by split <;> omega), by omega, ?_⟩
      rw [eg]
      have hg := gpos (a := x) (show y ≠ 0 by omega)
      have hgz : (Int.gcd x y : Int).natAbs < 10 ^ 100 := by
        have := Int.le_of_dvd hy (dvd_r x y)
        omega
      refine ⟨_, rfl, _, rfl, _, _, rfl, rfl, ⟨hg, w0 hgz⟩, _, rfl, _, rfl, _, _, rfl, rfl, ⟨hg, w0 hgz⟩, (by show 2 ≤ sizeLine; decide), fun p hp => ?_⟩
      have := k p hp
      rw [he, norm_pos x y hy] at this
      exact this
    refine ⟨_, rfl, _, _, rfl, rfl, _, rfl, ?_⟩
    by_cases h0 : b < 0
    · rw [decide_eq_true h0]
      refine iteT ?_
      refine ⟨_, rfl, _, _, rfl, rfl, _, rfl, _, _, rfl, rfl, ?_⟩
      refine fin (0 - a) (0 - b) _ (by omega) ?_ (by omega)
      rw [norm_flip a b h0, Int.zero_sub, Int.zero_sub]
    · rw [decide_eq_false h0]
      refine iteF ?_
      exact fin a b _ (by omega) rfl zb
theorem scWhole : FnScope ["deck", "way"] ["deck"] (defScope sWhole) := ⟨rfl, rfl, rfl, by decide +kernel, rfl, by decide +kernel, by decide +kernel⟩
theorem ok_whole {f fT : Addr} {fd fdT : FuncData} (F : Fun K "_law_whole_number" "_law_whole_number" sWhole f fd) (FT : Fun K "_law_take" "_law_take" sTake fT fdT) (bT : Binds K fdT ["deck", "many"] []) (mT : mg "_law_take" = some (.ref fT)) (hlen : mg "len" = none) : FnOk P w K mg base CX0 2 f fd ["deck"] spWhole := by
  have GT : FnOk P w K mg base CX0 1 fT fdT ["deck", "many"] spTake := ok_take FT hlen
  refine F.ok scWhole (fun vs H Q E h => ?_) (fun cdv A outer s H vs Q E hr h => ?_)
  · obtain ⟨d, c, rfl, _⟩ := h
    rfl
  · obtain ⟨d, c, rfl, D, k⟩ := h
    refine ⟨_, pss_cons (ps_set (i := 1) scWhole.nd rfl (Or.inl rfl) (pe_call GT hr (by rfl) mT FT.kp bT .nil pass0 (pa_cons (pv 0) (pa_cons pe_int pa_nil))))
      (pss_cons (ps_if (pt_cmpR op_lt (pv 1) pe_int (nomark _)) (pss_one (ps_ret (pe_call GT hr (by rfl) mT FT.kp bT .nil pass0 (pa_cons (pv 0) (pa_cons pe_int pa_nil))))) pss_nil)
      (pss_cons (ps_if (pt_cmpR op_eq (pv 1) pe_int (nomark _)) (pss_one (ps_ret (pe_call GT hr (by rfl) mT FT.kp bT .nil pass0 (pa_cons (pv 0) (pa_cons pe_int pa_nil))))) pss_nil)
      (pss_one (ps_ret (pe_op op_add (pe_op op_add (pe_op op_mulW (pe_call GT hr (by rfl) mT FT.kp bT .nil pass0 (pa_cons (pv 0) (pa_cons (pe_op op_pow pe_int pe_int) pa_nil))) (pe_op op_pow pe_int pe_int))
        (pe_op op_mulW (pe_call GT hr (by rfl) mT FT.kp bT .nil pass0 (pa_cons (pv 0) (pa_cons (pe_op op_pow pe_int pe_int) pa_nil))) (pe_op op_pow pe_int pe_int)))
        (pe_call GT hr (by rfl) mT FT.kp bT .nil pass0 (pa_cons (pv 0) (pa_cons (pe_op op_pow pe_int pe_int) pa_nil)))))))), ?_⟩
    have cp : ∀ i j : Int, 0 ≤ j → j ≤ 100 → i = 10 → CPow i j := fun i j h1 h2 h3 => ⟨h1, by omega, by rw [h3]; decide⟩
    refine ⟨_, rfl, d, c, 8, rfl, D, ⟨by decide, by decide⟩, fun way H1 hw0 hw1 D1 K1 => ?_⟩
    refine ⟨_, rfl, _, _, rfl, rfl, _, rfl, ?_⟩
    refine ite2 (fun _ => ?_) (fun _ => ?_)
    · exact ⟨_, rfl, d, c, 9, rfl, D1, ⟨by decide, by decide⟩, fun r H2 h0 h1 D2 K2 => k r H2 h0 (by omega) D2 (K1.trans K2)⟩
    refine ⟨_, rfl, rfl, _, rfl, ?_⟩
    refine ite2 (fun _ => ?_) (fun _ => ?_)
    · exact ⟨_, rfl, d, c, 1000, rfl, D1, ⟨by decide, by decide⟩, fun r H2 h0 h1 D2 K2 => k r H2 h0 (by omega) D2 (K1.trans K2)⟩
    refine ⟨_, rfl, _, _, rfl, rfl, cp _ _ (by decide) (by decide) rfl, d, c, _, rfl, D1, ⟨by decide, by decide⟩, fun r1 H2 h10 h11 D2 K2 => ?_⟩
    have h11' : r1 < 100000 := h11
    refine ⟨_, _, rfl, rfl, cp _ _ (by decide) (by decide) rfl, _, _, rfl, rfl, mw (by omega) (by decide), ?_⟩
    refine ⟨_, rfl, _, _, rfl, rfl, cp _ _ (by decide) (by decide) rfl, d, c, _, rfl, D2, ⟨by decide, by decide⟩, fun r2 H3 h20 h21 D3 K3 => ?_⟩
    have h21' : r2 < 100000 := h21
    refine ⟨_, _, rfl, rfl, cp _ _ (by decide) (by decide) rfl, _, _, rfl, rfl, mw (by omega) (by decide), _, _, rfl, rfl, ?_⟩
    refine ⟨_, rfl, _, _, rfl, rfl, cp _ _ (by decide) (by decide) rfl, d, c, _, rfl, D3, ⟨by decide, by decide⟩, fun r3 H4 h30 h31 D4 K4 => ?_⟩
    have h31' : r3 < 10000000000 := h31
    refine ⟨_, _, rfl, rfl, k _ H4 ?_ ?_ D4 (K1.trans (K2.trans (K3.trans K4)))⟩
    · show 0 ≤ r1 * 1000000000000000 + r2 * 10000000000 + r3
      omega
    · show r1 * 1000000000000000 + r2 * 10000000000 + r3 < 10 ^ 20
      omega
end
section
variable {P : Program} {w : World} {K : PySem.W.Frag} {mg : Str → Option Value} {base : Heap}
theorem scCD : FnScope ["one", "other", "rest"] ["one", "other"] (defScope sCD) := ⟨rfl, rfl, rfl, by decide +kernel, rfl, by decide +kernel, by decide +kernel⟩
theorem ok_cd {f : Addr} {fd : FuncData} (F : Fun K "common_divisor" "common_divisor" sCD f fd) (habs : mg "abs" = none) : FnOk P w K mg base CX0 1 f fd ["one", "other"] spCD := by
  refine F.ok scCD (fun vs H Q E h => ?_) (fun cdv A outer s H vs Q E hr h => ?_)
  · obtain ⟨a, b, rfl, _⟩ := h
    rfl
  · obtain ⟨a, b, rfl, k⟩ := h
    refine ⟨_, pss_cons (ps_set (i := 0) scCD.nd rfl (Or.inl rfl) (pe_callB call_abs (by rfl) habs bAbs (pa_cons (pv 0) pa_nil)))
      (pss_cons (ps_set (i := 1) scCD.nd rfl (Or.inl rfl) (pe_callB call_abs (by rfl) habs bAbs (pa_cons (pv 1) pa_nil)))
      (pss_cons (ps_while PassesOwn.never (pt_cmpR op_ne (pv 1) pe_int (nomark _)) (pss_cons (ps_set (i := 2) scCD.nd rfl (Or.inl rfl) (pe_op op_mod (pv 0) (pv 1))) (pss_cons (ps_set (i := 0) scCD.nd rfl (Or.inl rfl) (pv 1)) (pss_one (ps_set (i := 1) scCD.nd rfl (Or.inl rfl) (pv 2))))))
      (pss_one (ps_ret (pv 0))))), ?_⟩
    refine ⟨_, rfl, _, rfl, _, rfl, _, rfl, ?_⟩
    refine while_by (fun σ H2 => ∃ (x y : Int) (v : Option V), σ = [some (.int x), some (.int y), v] ∧ H2 = H ∧ 0 ≤ x ∧ 0 ≤ y ∧ Int.gcd x y = Int.gcd a b) (fun σ _ => match σ with | [_, some (.int y), _] => y.toNat | _ => 0) ⟨_, _, _, rfl, rfl, by split <;> omega, by split <;> omega, ?_⟩ ?_ ?_
    · have ab : ∀ x : Int, (if x < 0 then -x else x) = (x.natAbs : Int) := fun x => by split <;> omega
      rw [ab, ab, Int.gcd_eq_natAbs_gcd_natAbs, Int.gcd_eq_natAbs_gcd_natAbs, Int.natAbs_natCast, Int.natAbs_natCast]
    · rintro σ H2 ⟨x, y, v, rfl, rfl, hx, hy, hg⟩
      refine ⟨_, rfl, rfl, _, rfl, ?_⟩
      by_cases h0 : y = 0
      · subst h0
        refine iteNS rfl ?_
        refine ⟨_, rfl, ?_⟩
        have e := gcd_zero x hx
        rw [hg] at e
        rw [← e]
        exact k
      · have e0 : (!decide (V.int y = V.int 0)) = true := by
          rw [decide_eq_false (fun z => h0 (by injection z))]; rfl
        rw [e0]
        refine iteT ?_
        have hr0 := Int.emod_nonneg x h0
        have hr1 := Int.emod_lt_of_pos x (show 0 < y by omega)
        refine ⟨_, rfl, _, rfl, _, _, rfl, rfl, (by show 0 < y; omega), _, rfl, _, rfl, ⟨y, x % y, _, rfl, rfl, hy, hr0, ?_⟩, ?_⟩
        · rw [gcd_step x y (by omega)]; exact hg
        · show (x % y).toNat < y.toNat
          omega
    · rintro σ H2 Q1 Q2 hq ⟨v, e, e1, b', e3, q⟩
      exact ⟨v, e, e1, b', e3, hq _ _ q⟩
theorem scFrac : FnScope ["above", "below", "divisor"] ["above", "below"] (defScope sFrac) := ⟨rfl, rfl, rfl, by decide +kernel, rfl, by decide +kernel, by decide +kernel⟩
theorem ok_frac {f fC : Addr} {fd fdC : FuncData} (F : Fun K "fraction" "fraction" sFrac f fd) (habs : mg "abs" = none) (FC : Fun K "common_divisor" "common_divisor" sCD fC fdC) (bC : Binds K fdC ["one", "other"] []) (mC : mg "common_divisor" = some (.ref fC)) : FnOk P w K mg base CX0 2 f fd ["above", "below"] spLeast := by
  have GC : FnOk P w K mg base CX0 1 fC fdC ["one", "other"] spCD := ok_cd FC habs
  refine F.ok scFrac (fun vs H Q E h => ?_) (fun cdv A outer s H vs Q E hr h => ?_)
  · obtain ⟨a, b, rfl, _⟩ := h
    rfl
  · obtain ⟨a, b, rfl, hb, ⟨za, zb⟩, k⟩ := h
    refine ⟨_, pss_cons (ps_if (pt_cmpR op_eq (pv 1) pe_int (nomark _)) pss_never pss_nil)
      (pss_cons (ps_set (i := 2) scFrac.nd rfl (Or.inl rfl) (pe_call GC hr (by rfl) mC FC.kp bC .nil pass0 (pa_cons (pv 0) (pa_cons (pv 1) pa_nil))))
      (pss_cons (ps_if (pt_cmpR op_lt (pv 1) pe_int (nomark _)) (pss_one (ps_set (i := 2) scFrac.nd rfl (Or.inl rfl) (pe_un un_neg (pv 2)))) pss_nil)
      (pss_one (ps_ret (pe_tup (pa_cons (pe_op op_fdivW (pv 0) (pv 2)) (pa_cons (pe_op op_fdivW (pv 1) (pv 2)) pa_nil))))))), ?_⟩
    refine ⟨_, rfl, rfl, _, rfl, ?_⟩
    have e0 : decide (V.int b = V.int 0) = false := decide_eq_false (fun z => hb (by injection z))
    rw [e0]
    refine iteF ?_
    refine ⟨_, rfl, _, rfl, _, _, rfl, ?_⟩
    have hg := gpos (a := a) hb
    have hgz : (Int.gcd a b : Int).natAbs < 10 ^ 100 := by
      have h1 := Int.gcd_dvd_natAbs_right a b
      have := Nat.le_of_dvd (by omega) h1
      omega
    have e := norm_prog a b hb
    refine ⟨_, rfl, _, _, rfl, rfl, _, rfl, ?_⟩
    by_cases h0 : b < 0
    · rw [decide_eq_true h0]
      refine iteT ?_
      rw [if_pos h0] at e
      refine ⟨_, rfl, _, rfl, ?_⟩
      refine ⟨_, rfl, _, rfl, _, _, rfl, rfl, ⟨by omega, w0 (by omega)⟩, _, rfl, _, rfl, _, _, rfl, rfl, ⟨by omega, w0 (by omega)⟩, (by show 2 ≤ sizeLine; decide), fun p hp => ?_⟩
      have := k p hp
      rw [e] at this
      exact this
    · rw [decide_eq_false h0]
      refine iteF ?_
      rw [if_neg h0] at e
      refine ⟨_, rfl, _, rfl, _, _, rfl, rfl, ⟨by omega, w0 hgz⟩, _, rfl, _, rfl, _, _, rfl, rfl, ⟨by omega, w0 hgz⟩, (by show 2 ≤ sizeLine; decide), fun p hp => ?_⟩
      have := k p hp
      rw [e] at this
      exact this
end
section
variable {P : Program} {w : World} {K : PySem.W.Frag} {mg : Str → Option Value} {base : Heap}
theorem sgn2 {r : Int} (h0 : 0 ≤ r) (h1 : r < 2) : ∃ e : Int, (e = 1 ∨ e = -1) ∧ atI [V.int 1, V.int (-1)] r = some (V.int e) := by
  have : r = 0 ∨ r = 1 := by omega
  rcases this with rfl | rfl
  · exact ⟨1, .inl rfl, rfl⟩
  · exact ⟨-1, .inr rfl, rfl⟩
theorem mulS {x e : Int} {n : Nat} (he : e = 1 ∨ e = -1) (hx : x.natAbs < n) : (x * e).natAbs < n := by
  rcases he with rfl | rfl
  · rw [Int.mul_one]; exact hx
  · rw [Int.mul_neg, Int.mul_one, Int.natAbs_neg]; exact hx
theorem scNumber : FnScope ["deck", "top"] ["deck"] (defScope sNumber) := ⟨rfl, rfl, rfl, by decide +kernel, rfl, by decide +kernel, by decide +kernel⟩
theorem ok_number {f fT fW fL fC : Addr} {fd fdT fdW fdL fdC : FuncData} (F : Fun K "_law_number" "_law_number" sNumber f fd) (hlen : mg "len" = none) (hmax : mg "max" = none)
    (FT : Fun K "_law_take" "_law_take" sTake fT fdT) (bT : Binds K fdT ["deck", "many"] []) (mT : mg "_law_take" = some (.ref fT))
    (FC : Fun K "_law_common" "_law_common" sCommon fC fdC) (bC : Binds K fdC ["one", "other"] []) (mC : mg "_law_common" = some (.ref fC))
    (FL : Fun K "_law_least" "_law_least" sLeast fL fdL) (bL : Binds K fdL ["top", "below"] []) (mL : mg "_law_least" = some (.ref fL))
    (FW : Fun K "_law_whole_number" "_law_whole_number" sWhole fW fdW) (bW : Binds K fdW ["deck"] []) (mW : mg "_law_whole_number" = some (.ref fW)) : FnOk P w K mg base CX0 3 f fd ["deck"] spNumber := by
  have GT : FnOk P w K mg base CX0 2 fT fdT ["deck", "many"] spTake := (ok_take FT hlen).mono (by decide)
  have GL : FnOk P w K mg base CX0 2 fL fdL ["top", "below"] spLeast := ok_least FL hmax FC bC mC
  have GW : FnOk P w K mg base CX0 2 fW fdW ["deck"] spWhole := ok_whole FW FT bT mT hlen
  refine F.ok scNumber (fun vs H Q E h => ?_) (fun cdv A outer s H vs Q E hr h => ?_)
  · obtain ⟨d, c, rfl, _⟩ := h
    rfl
  · obtain ⟨d, c, rfl, D, k⟩ := h
    refine ⟨_, pss_cons (ps_set (i := 1) scNumber.nd rfl (Or.inl rfl) (pe_op op_mulW (pe_call GW hr (by rfl) mW FW.kp bW .nil pass0 (pa_cons (pv 0) pa_nil)) (pe_ix ix_list (pe_lst (pa_cons pe_int (pa_cons (pe_un un_neg pe_int) pa_nil))) (pe_call GT hr (by rfl) mT FT.kp bT .nil pass0 (pa_cons (pv 0) (pa_cons pe_int pa_nil))) (fun _ _ => rfl))))
      (pss_one (ps_ret (pe_call GL hr (by rfl) mL FL.kp bL .nil pass0 (pa_cons (pv 1) (pa_cons (pe_ix ix_list (pe_lst (pa_cons pe_int (pa_cons (pe_op op_add pe_int (pe_op op_mod (pe_call GW hr (by rfl) mW FW.kp bW .nil pass0 (pa_cons (pv 0) pa_nil)) (pe_op op_sub (pe_op op_pow pe_int pe_int) pe_int))) pa_nil))) (pe_call GT hr (by rfl) mT FT.kp bT .nil pass0 (pa_cons (pv 0) (pa_cons pe_int pa_nil))) (fun _ _ => rfl)) pa_nil))))), ?_⟩
    refine ⟨_, rfl, d, c, rfl, D, fun t H3 t0 t1 D3 K3 => ?_⟩
    refine ⟨_, rfl, (by show 2 ≤ sizeLine; decide), fun p hp => ?_⟩
    refine ⟨_, rfl, d, c, 2, rfl, D3.new hp, ⟨by decide, by decide⟩, fun r H4 r0 r1 D4 K4 => ?_⟩
    obtain ⟨e, he, hat⟩ := sgn2 r0 r1
    refine ⟨p, _, r, _, rfl, rfl, SqL.of (K4 p _ upd_same (D3.free hp).1 (D3.free hp).2), hat, _, _, rfl, rfl, mw (by omega) (by rcases he with rfl | rfl <;> decide), ?_⟩
    have K34 : KeptBut d c H H4 := K3.trans ((Same.but (same_new hp)).trans K4)
    have ht : (t * e).natAbs < 10 ^ 20 := mulS he (by omega)
    (try dsimp only)
    generalize t * e = a0 at ht
    have cp : CPow 10 20 := ⟨by decide, by decide, by decide⟩
    refine ⟨_, rfl, _, rfl, d, c, rfl, D4, fun u H5 u0 u1 D5 K5 => ?_⟩
    refine ⟨_, _, rfl, rfl, cp, _, _, rfl, rfl, _, _, rfl, rfl, (by show (0 : Int) < 10 ^ 20 - 1; decide), _, _, rfl, rfl, (by show 2 ≤ sizeLine; decide), fun q hq => ?_⟩
    have v0 := Int.emod_nonneg u (show (10 ^ (20 : Int).toNat - 1 : Int) ≠ 0 by decide)
    have v1 := Int.emod_lt_of_pos u (show (0 : Int) < 10 ^ (20 : Int).toNat - 1 by decide)
    have e20 : (10 ^ (20 : Int).toNat - 1 : Int) = 99999999999999999999 := by decide
    (try dsimp only)
    generalize u % (10 ^ (20 : Int).toNat - 1) = v at v0 v1
    rw [e20] at v1
    refine ⟨_, rfl, d, c, 2, rfl, D5.new hq, ⟨by decide, by decide⟩, fun r' H6 r0' r1' D6 K6 => ?_⟩
    have two : ∃ b : Int, (1 ≤ b ∧ b ≤ 99999999999999999999) ∧ atI [V.int 1, V.int (1 + v)] r' = some (V.int b) := by
      have : r' = 0 ∨ r' = 1 := by omega
      rcases this with rfl | rfl
      · exact ⟨1, by decide, rfl⟩
      · exact ⟨1 + v, by omega, rfl⟩
    obtain ⟨b0, hb, hat'⟩ := two
    refine ⟨q, _, r', _, rfl, rfl, SqL.of (K6 q _ upd_same (D5.free hq).1 (D5.free hq).2), hat', ?_⟩
    have K56 : KeptBut d c H H6 := K34.trans (K5.trans ((Same.but (same_new hq)).trans K6))
    refine ⟨_, _, rfl, by omega, ⟨by omega, by omega⟩, fun z hz => ?_⟩
    have sz := norm_size a0 b0 (by omega)
    have ok := norm_ok a0 b0 (by omega)
    refine k _ _ z _ ok.1 ok.2.2 (by omega) (by omega) ?_ upd_same (D6.new hz) (K56.trans (Same.but (same_new hz)))
    cases hh : H z with
    | none => rfl
    | some o =>
      exfalso
      obtain ⟨n1, n2⟩ := D6.free hz
      have := K56 z o hh n1 n2
      rw [hz] at this
      cases this
end
end K08
set_option maxHeartbeats 4000000
namespace K08
open PySem L2 Frac Lw Dig PySem.NumText Nm
theorem bStr : bootBuiltins "str" = some (.type "str") := by decide +kernel
theorem sl47 : (Str.ofString "/" : Str) = ⟨#[47]⟩ := by decide +kernel
theorem mn45 : (Str.ofString "-" : Str) = ⟨#[45]⟩ := by decide +kernel
theorem z48 : (Str.ofString "0" : Str) = ⟨#[48]⟩ := by decide +kernel
theorem em : (Str.ofString "" : Str) = ⟨#[]⟩ := by decide +kernel
theorem lg {i : Int} (h : i.natAbs < 10 ^ 100) : i.natAbs.log2 < 1920 := by
  by_cases h0 : i.natAbs = 0
  · rw [h0]; decide
  · exact (Nat.log2_lt h0).mpr (Nat.lt_of_lt_of_le h (by decide +kernel))
theorem p99 {n : Nat} (h : n < 10 ^ 99) : (dig n).length ≤ 99 := dig_len (by decide) h
theorem for_range3 {lo c : Int} {n : Nat} {g : TG} {tb : TS} {D : Ends} {σ : St} {H : Hp} (Pv : Nat → St → Hp → Prop) (h0 : Pv 0 σ H)
    (hs : ∀ i σ H, i < n → Pv i σ H → g (.int (lo + i * c)) σ H fun σ2 H2 => tb { D with nx := Pv (i + 1), ct := Pv (i + 1), bk := D.nx } σ2 H2) (hd : ∀ σ H, Pv n σ H → D.nx σ H) :
    ∃ W : Nat → Nat → St → Hp → Prop, (∃ m, W 0 m σ H) ∧ ∀ i m σ H, W i m σ H →
      ((Itr3 lo c n).stop i H ∧ D.nx σ H) ∨ ((Itr3 lo c n).go i H ∧ ∃ N : St → Hp → Prop, (∀ σ' H', N σ' H' → ∃ m', m' < m ∧ W (i + 1) m' σ' H') ∧ ∀ x H', (Itr3 lo c n).yld i H x H' → g x σ H' fun σ2 H2 => tb { D with nx := N, ct := N, bk := D.nx } σ2 H2) := by
  refine ⟨fun i m σ H => m = n - i ∧ i ≤ n ∧ Pv i σ H, ⟨n, by simp, Nat.zero_le _, h0⟩, ?_⟩
  rintro i m σ H ⟨rfl, hi, p⟩
  by_cases hlt : i < n
  · refine .inr ⟨hlt, Pv (i + 1), fun σ' H' p' => ⟨n - (i + 1), by omega, rfl, hlt, p'⟩, fun x H' y => ?_⟩
    obtain ⟨e, y⟩ := y
    subst e y
    exact hs i σ _ hlt p
  · have e : i = n := by omega
    subst e
    exact .inl ⟨Nat.le_refl _, hd σ H p⟩
structure Glb (mg : Str → Option Value) : Prop where
  fig : ∃ t, mg "FIGURES" = some (.str "0123456789" t)
  blk : ∃ t, mg "BLOCK" = some (.int 18 t)
  wor : ∃ t, mg "BLOCK_WORTH" = some (.int 1000000000000000000 t)
def spFO : Sp := fun vs H Q _ => ∃ n : Int, vs = [.int n] ∧ (0 ≤ n ∧ n.natAbs < 10 ^ 99) ∧ ∀ (x : Str) (H' : Hp), x.cps.toList = dig n.toNat → Same H H' → Q (.str x) H'
def spRF : Sp := fun vs H Q _ => ∃ x : Str, vs = [.str x] ∧ Fig x.cps.toList ∧ x.cps.toList.length ≤ 200 ∧ ∀ H', Same H H' → Q (.int (digitsVal x.cps.toList : Nat)) H'
def spRS : Sp := fun vs H Q _ => ∃ (x : Str) (z : Int), vs = [.str x] ∧ x.cps.toList = tp z ∧ z.natAbs < 10 ^ 99 ∧ ∀ H', Same H H' → Q (.int z) H'
def spRN : Sp := fun vs H Q _ => ∃ (x : Str) (a : Int × Int), vs = [.str x] ∧ x.cps.toList = nt a ∧ Lst a ∧ (a.1.natAbs < 10 ^ 99 ∧ a.2.natAbs < 10 ^ 99) ∧ ∀ p H', H p = none → H' p = some (.tup [.int a.1, .int a.2]) → Same H H' → Q (.ref p) H'
def spNS (K : PySem.W.Frag) : Sp := fun vs H Q _ => ∃ (p : Addr) (a : Int × Int), vs = [.ref p] ∧ SqT K H p [.int a.1, .int a.2] ∧ 1 ≤ a.2 ∧ (a.1.natAbs < 10 ^ 99 ∧ a.2.natAbs < 10 ^ 99) ∧ ∀ (x : Str) (H' : Hp), x.cps.toList = nt a → Same H H' → Q (.str x) H'
section
variable {P : Program} {w : World} {K : PySem.W.Frag} {mg : Str → Option Value} {base : Heap}
theorem scFO : FnScope ["number", "blocks"] ["number"] (defScope sFO) := ⟨rfl, rfl, rfl, by decide +kernel, rfl, by decide +kernel, by decide +kernel⟩
theorem ok_fo {f : Addr} {fd : FuncData} (F : Fun K "figures_of" "figures_of" sFO f fd) (g : Glb mg) (hstr : mg "str" = none) (hlist : mg "list" = none) (hrev : mg "reversed" = none) : FnOk P w K mg base CX0 1 f fd ["number"] spFO := by
  obtain ⟨tB, hB⟩ := g.blk
  obtain ⟨tW, hW⟩ := g.wor
  refine F.ok scFO (fun vs H Q E h => ?_) (fun cdv A outer s H vs Q E hr h => ?_)
  · obtain ⟨n, rfl, _⟩ := h
    rfl
  · obtain ⟨n, rfl, ⟨hn0, hn⟩, k⟩ := h
    refine ⟨_, pss_cons (ps_set (i := 1) scFO.nd rfl (Or.inl rfl) (pe_lst pa_nil))
      (pss_cons (ps_while PassesOwn.never (pt_cmpR op_ge (pv 0) (pe_glob (v := .int 1000000000000000000) (by rfl) hW ⟨_, rfl⟩) (nomark _))
        (pss_cons (ps_expr (pe_bm PySem.F.plainAttrs_list PySem.F.slot_list_append PySem.F.type_list_append mt_append (pv 1) (pa_cons (pe_bm PySem.F.plainAttrs_str PySem.F.slot_str_zfill PySem.F.type_str_zfill mt_zfill (pe_callTy call_str_int (by rfl) hstr bStr (pa_cons (pe_op op_mod (pv 0) (pe_glob (v := .int 1000000000000000000) (by rfl) hW ⟨_, rfl⟩)) pa_nil)) (pa_cons (pe_glob (v := .int 18) (by rfl) hB ⟨_, rfl⟩) pa_nil)) pa_nil)))
        (pss_one (ps_set (i := 0) scFO.nd rfl (Or.inl rfl) (pe_op op_fdivP (pv 0) (pe_glob (v := .int 1000000000000000000) (by rfl) hW ⟨_, rfl⟩))))))
      (pss_cons (ps_expr (pe_bm PySem.F.plainAttrs_list PySem.F.slot_list_append PySem.F.type_list_append mt_append (pv 1) (pa_cons (pe_callTy call_str_int (by rfl) hstr bStr (pa_cons (pv 0) pa_nil)) pa_nil)))
      (pss_one (ps_ret (pe_bm PySem.F.plainAttrs_str PySem.F.slot_str_join PySem.F.type_str_join (mt_join (K := K) rfl) pe_str (pa_cons (pe_lrev rfl (by rfl) hlist (by rfl) hrev (pv 1)) pa_nil)))))), ?_⟩
    refine ⟨(by show 0 ≤ sizeLine; decide), fun l hl => ?_⟩
    have hN := p99 (n := n.toNat) (by omega)
    refine while_by (fun σ H2 => ∃ (m : Int) (B : List Str), σ = [some (.int m), some (.ref l)] ∧ Same H H2 ∧ H2 l = some (.lst (B.map V.str)) ∧ 0 ≤ m ∧ m ≤ n ∧ dig n.toNat = dig m.toNat ++ (B.reverse.map fun y => y.cps.toList).flatten ∧ B.length + (dig m.toNat).length ≤ (dig n.toNat).length) (fun σ _ => match σ with | [some (.int m), _] => m.toNat | _ => 0)
      ⟨n, [], rfl, same_new hl, upd_same, hn0, Int.le_refl _, by simp, by simp⟩ ?_ ?_
    · rintro σ H2 ⟨m, B, rfl, s2, h2, hm0, hmn, hd, hlb⟩
      refine ⟨_, rfl, _, _, rfl, rfl, _, rfl, ?_⟩
      by_cases hge : (1000000000000000000 : Int) ≤ m
      · rw [decide_eq_true hge]
        refine iteT ?_
        obtain ⟨mm, rfl⟩ := Int.eq_ofNat_of_zero_le hm0
        have hr0 : ((mm : Int) % 1000000000000000000) = ((mm % 10 ^ 18 : Nat) : Int) := by omega
        have hq0 : ((mm : Int) / 1000000000000000000) = ((mm / 10 ^ 18 : Nat) : Int) := by omega
        have hbl := dig_block 18 mm (by omega)
        have hrl : mm % 10 ^ 18 < 10 ^ 18 := Nat.mod_lt _ (by decide)
        refine ⟨_, rfl, .inl ⟨rfl, _, SqL.of h2⟩, _, rfl, _, _, rfl, rfl, (by show (0 : Int) < 1000000000000000000; decide), _, rfl, lg (by rw [hr0]; omega), rfl, _, 18, rfl, rfl, (by decide +kernel), l, _, _, rfl, rfl, h2, ?_, ?_⟩
        · rw [List.length_map, sizeLine_eq]; omega
        have hz := zfill_codes (x := Str.ofString (toString ((mm : Int) % 1000000000000000000))) (r := mm % 10 ^ 18) (by rw [hr0]; exact codes_num _) hrl
        refine ⟨_, rfl, _, _, rfl, rfl, ⟨by decide, w0 (by decide)⟩, ⟨_, B ++ [Txt.zfill (Str.ofString (toString ((mm : Int) % 1000000000000000000))) 18], rfl, fun b o e => ?_, ?_, ?_, ?_, ?_, ?_⟩, ?_⟩
        · rw [upd_ne (ne_of_none e hl)]; exact s2 b o e
        · rw [upd_same, List.map_append]; rfl
        · show 0 ≤ (mm : Int) / 1000000000000000000
          omega
        · show (mm : Int) / 1000000000000000000 ≤ n
          omega
        · show dig n.toNat = dig ((mm : Int) / 1000000000000000000).toNat ++ _
          rw [hq0, Int.toNat_natCast, List.reverse_append, List.map_append, List.flatten_append]
          simp only [List.reverse_cons, List.reverse_nil, List.nil_append, List.map_cons, List.map_nil, List.flatten_cons, List.flatten_nil, List.append_nil]
          rw [hz, ← List.append_assoc, ← hbl]
          exact hd
        · show (B ++ [_]).length + (dig ((mm : Int) / 1000000000000000000).toNat).length ≤ _
          have e1 : (dig mm).length = (dig (mm / 10 ^ 18)).length + 18 := by rw [hbl, List.length_append, pk_len]
          rw [hq0, Int.toNat_natCast, List.length_append]
          rw [Int.toNat_natCast] at hlb
          show B.length + 1 + _ ≤ _
          omega
        · show ((mm : Int) / 1000000000000000000).toNat < (mm : Int).toNat
          omega
      · rw [decide_eq_false hge]
        refine iteF ?_
        obtain ⟨mm, rfl⟩ := Int.eq_ofNat_of_zero_le hm0
        refine ⟨_, rfl, .inl ⟨rfl, _, SqL.of h2⟩, _, rfl, _, rfl, lg (by omega), l, _, _, rfl, rfl, h2, ?_, ?_⟩
        · rw [List.length_map, sizeLine_eq]; omega
        have hcs := codes_num mm
        refine ⟨rfl, _, rfl, l, _, rfl, SqL.of upd_same, fun q hq => ?_⟩
        have e1 : (B.map V.str ++ [V.str (Str.ofString (toString (mm : Int)))]).reverse = ((B ++ [Str.ofString (toString (mm : Int))]).reverse).map V.str := by rw [List.map_reverse, List.map_append]; rfl
        have e2 : (((B ++ [Str.ofString (toString (mm : Int))]).reverse).map fun y => y.cps.toList).flatten = dig n.toNat := by
          rw [List.reverse_append]
          simp only [List.reverse_cons, List.reverse_nil, List.nil_append, List.cons_append, List.map_cons, List.flatten_cons]
          rw [hcs]
          exact hd.symm
        refine ⟨_, q, (B ++ [Str.ofString (toString (mm : Int))]).reverse, rfl, rfl, SqL.of (by rw [upd_same, ← e1]), ?_, ?_⟩
        · have e3 : ((B ++ [Str.ofString (toString (mm : Int))]).reverse.map fun y => y.length).sum = (dig n.toNat).length := by
            rw [← e2, List.length_flatten, List.map_map]
            exact congrArg List.sum (List.map_congr_left fun y _ => len_codes y)
          have e4 : (Str.ofString "" : Str).length = 0 := by rw [em]; rfl
          rw [e3, e4, Nat.mul_zero]
          exact Nat.le_trans hN (by decide)
        · refine k _ _ ?_ (fun b o e => ?_)
          · rw [em, join_codes]; exact e2
          · have hb : b ≠ l := ne_of_none e hl
            have e5 : (upd H2 l (.lst (B.map V.str ++ [V.str (Str.ofString (toString (mm : Int)))]))) b = some o := by rw [upd_ne hb]; exact s2 b o e
            rw [upd_ne (ne_of_none e5 hq)]
            exact e5
    · rintro σ H2 Q1 Q2 hq ⟨v, e, i, j, e1, e2, b', e3, q⟩
      exact ⟨v, e, i, j, e1, e2, b', e3, hq _ _ q⟩
theorem ofFig {x : Str} (h : Fig x.cps.toList) (hl : x.cps.toList.length ≤ 200) {y : Str} {a b : Nat} (hab : a < b) (hb : b ≤ x.cps.toList.length) (e : y.cps.toList = (x.cps.toList.drop a).take (b - a)) : intText? y = some ((digitsVal ((x.cps.toList.drop a).take (b - a)) : Nat) : Int) ∧ y.length ≤ 640 := by
  have ly : y.cps.toList.length = b - a := by rw [e, List.length_take, List.length_drop]; omega
  have hy : y.length ≤ 640 := by rw [len_codes]; omega
  refine ⟨?_, hy⟩
  have hd : AllDigits y.cps.toList := fun c hc => h.dg c (by rw [e] at hc; exact List.mem_of_mem_drop (List.mem_of_mem_take hc))
  have := intText_digits hd (by intro z; rw [z] at ly; simp at ly; omega) (by omega)
  rw [e] at this
  exact this
theorem scRF : FnScope ["text", "number", "first", "start"] ["text"] (defScope sRF) := ⟨rfl, rfl, rfl, by decide +kernel, rfl, by decide +kernel, by decide +kernel⟩
theorem ok_rf {f : Addr} {fd : FuncData} (F : Fun K "read_figures" "read_figures" sRF f fd) (g : Glb mg) (hall : mg "all" = none) (hlen : mg "len" = none) (hint : mg "int" = none) (hrange : mg "range" = none) : FnOk P w K mg base CX0 1 f fd ["text"] spRF := by
  obtain ⟨tB, hB⟩ := g.blk
  obtain ⟨tW, hW⟩ := g.wor
  obtain ⟨tF, hF⟩ := g.fig
  refine F.ok scRF (fun vs H Q E h => ?_) (fun cdv A outer s H vs Q E hr h => ?_)
  · obtain ⟨x, rfl, _⟩ := h
    rfl
  · obtain ⟨x, rfl, fg, hl, k⟩ := h
    refine ⟨_, pss_cons (ps_if (pw_or (pt_cmpR op_eq (pv 0) pe_str (nomark _)) (pw_or1 (pt_not (pt_val (pe_callB (call_all rfl) (by rfl) hall bAll (pa_cons (pe_lc (x := "sign") (cap := []) (js := []) ⟨rfl, by decide +kernel, by decide +kernel, rfl, (by show ∀ p ∈ (_ : List (Str × NameKind)), p.2 = NameKind.free → List.lookup p.1 (defScope sRF).names = some NameKind.cell; decide +kernel), by decide, by decide, by decide⟩ rfl rfl (fun _ _ h => h) (pi_str (pv 0))
          (fun _ _ _ _ => ⟨pif_nil, pe_cmpR op_in_str (pv 0) (pe_glob (v := .str "0123456789") (by rfl) hF ⟨_, rfl⟩) (by rfl)⟩)) pa_nil)))))).pt pss_never pss_nil)
      (pss_cons (ps_if (pw_and (pt_val (pe_bm PySem.F.plainAttrs_str PySem.F.slot_str_startswith PySem.F.type_str_startswith mt_startswith (pv 0) (pa_cons pe_str pa_nil))) (pw_and1 (pt_cmpR op_ne (pv 0) pe_str (nomark _)))).pt pss_never pss_nil)
      (pss_cons (ps_set (i := 1) scRF.nd rfl (Or.inl rfl) pe_int)
      (pss_cons (ps_set (i := 2) scRF.nd rfl (Or.inl rfl) (pe_op op_mod (pe_callB call_len_str (by rfl) hlen PySem.boot_len (pa_cons (pv 0) pa_nil)) (pe_glob (v := .int 18) (by rfl) hB ⟨_, rfl⟩)))
      (pss_cons (ps_if (pt_cmpR op_gt (pv 2) pe_int (nomark _)) (pss_one (ps_set (i := 1) scRF.nd rfl (Or.inl rfl) (pe_callTy call_int_text (by rfl) hint bInt (pa_cons (pe_slice sl_str (pv 0) po_none (po_some (pv 2))) pa_nil)))) pss_nil)
      (pss_cons (ps_for PassesOwn.never rfl (pi_range3 (by rfl) hrange (pa_cons (pv 2) (pa_cons (pe_callB call_len_str (by rfl) hlen PySem.boot_len (pa_cons (pv 0) pa_nil)) (pa_cons (pe_glob (v := .int 18) (by rfl) hB ⟨_, rfl⟩) pa_nil)))) (pg_name (i := 3) scRF.nd rfl (Or.inl rfl))
        (pss_one (ps_set (i := 1) scRF.nd rfl (Or.inl rfl) (pe_op op_add (pe_op op_mulW (pv 1) (pe_glob (v := .int 1000000000000000000) (by rfl) hW ⟨_, rfl⟩)) (pe_callTy call_int_text (by rfl) hint bInt (pa_cons (pe_slice sl_str (pv 0) (po_some (pv 3)) (po_some (pe_op op_add (pv 3) (pe_glob (v := .int 18) (by rfl) hB ⟨_, rfl⟩)))) pa_nil))))))
      (pss_one (ps_ret (pv 1)))))))), ?_⟩
    have hx0 : x ≠ Str.ofString "" := fun e => fg.ne (by rw [e, em])
    have hxl : x.length = x.cps.toList.length := len_codes x
    have hzl : x.length ≤ sizeLine := by rw [sizeLine_eq]; omega
    refine ⟨_, rfl, rfl, _, rfl, ?_⟩
    rw [decide_eq_false (fun z => hx0 (by injection z))]
    refine iteF ?_
    refine ⟨_, rfl, x, rfl, fun i m ys H1 => m = x.cps.size - i ∧ i ≤ x.cps.size ∧ ys = (List.replicate i true).map V.bl ∧ Same H H1, ⟨_, rfl, Nat.zero_le _, rfl, Same.refl _⟩, ?_⟩
    rintro i m ys H1 ⟨rfl, hi, rfl, s1⟩
    have hsz : x.cps.size = x.cps.toList.length := by simp
    refine ⟨by rw [List.length_map, List.length_replicate, sizeLine_eq]; omega, ?_⟩
    by_cases hlt : i < x.cps.size
    · refine .inr ⟨hlt, fun v H' yl => ?_⟩
      obtain ⟨rfl, c, hc, rfl⟩ := yl
      refine tNoIf_of ?_
      refine ⟨_, rfl, _, _, rfl, rfl, x.cps.size - (i + 1), by omega, rfl, hlt, ?_, s1⟩
      have hcd := fg.dg c (List.mem_of_getElem? hc)
      have hin : c ∈ (Str.ofString "0123456789" : Str).cps.toList := by
        have e : (Str.ofString "0123456789" : Str).cps.toList = [48, 49, 50, 51, 52, 53, 54, 55, 56, 57] := by decide +kernel
        rw [e]
        simp only [List.mem_cons, List.not_mem_nil, or_false]
        omega
      rw [PySem.StrLaws.found_one, decide_eq_true hin, List.replicate_succ', List.map_append]
      rfl
    · refine .inl ⟨show x.cps.size ≤ i by omega, fun q hq => ?_⟩
      refine ⟨q, List.replicate i true, rfl, SqL.of upd_same, true, by simp, iteF ?_⟩
      have s2 := s1.trans (same_new (o := .lst ((List.replicate i true).map V.bl)) hq)
      (try dsimp only)
      generalize upd H1 q (.lst ((List.replicate i true).map V.bl)) = H2 at s2
      refine ⟨_, rfl, rfl, _, _, rfl, rfl, _, rfl, ?_⟩
      have fin : tSeq (tAsg (tC (.int 0)) (gName 1)) (tSeq (tAsg (tOp (rI (fun _ j => 0 < j) fun i j => .int (i % j)) (tCB (fun xs H Q => ∃ z, xs = [.str z] ∧ z.length ≤ sizeLine ∧ Q (.int z.length) H) (tCons (tVar 0) tNil)) (tC (.int 18))) (gName 2))
          (tSeq (tIfS (tTest (tOp (rI0 fun i j => .bl (decide (j < i))) (tVar 2) (tC (.int 0)))) (tAsg (tCB (fun xs H Q => ∃ x n, xs = [.str x] ∧ intText? x = some n ∧ x.length ≤ 640 ∧ Q (.int n) H) (tCons (tSl rSlS (tVar 0) tNoPart (tPart (tVar 2))) tNil)) (gName 1)) tNext)
          (tSeq (tFor (iRng3 (tCons (tVar 2) (tCons (tCB (fun xs H Q => ∃ z, xs = [.str z] ∧ z.length ≤ sizeLine ∧ Q (.int z.length) H) (tCons (tVar 0) tNil)) (tCons (tC (.int 18)) tNil)))) (gName 3) (tAsg (tOp (rI0 fun i j => .int (i + j)) (tOp (rI CMulW fun i j => .int (i * j)) (tVar 1) (tC (.int 1000000000000000000))) (tCB (fun xs H Q => ∃ x n, xs = [.str x] ∧ intText? x = some n ∧ x.length ≤ 640 ∧ Q (.int n) H) (tCons (tSl rSlS (tVar 0) (tPart (tVar 3)) (tPart (tOp (rI0 fun i j => .int (i + j)) (tVar 3) (tC (.int 18))))) tNil))) (gName 1)))
          (tRet (tVar 1))))) { nx := fun _ H' => Q .non H', rt := Q } [some (.str x), none, none, none] H2 := by
        refine ⟨_, rfl, _, rfl, hzl, _, _, rfl, rfl, (by show (0 : Int) < 18; decide), ?_⟩
        generalize hLn : x.cps.toList.length = L at hl hxl hsz
        have hL0 : 0 < L := by
          rw [← hLn]
          cases hcs : x.cps.toList with
          | nil => exact absurd hcs fg.ne
          | cons c r => simp
        have hfm : ((x.length : Int) % 18) = ((L % 18 : Nat) : Int) := by rw [hxl]; omega
        have hq : L = L % 18 + 18 * (L / 18) := by omega
        have loop : ∀ z : Int, z = ((digitsVal (x.cps.toList.take (L % 18)) : Nat) : Int) → (tSeq (tFor (iRng3 (tCons (tVar 2) (tCons (tCB (fun xs H Q => ∃ z, xs = [.str z] ∧ z.length ≤ sizeLine ∧ Q (.int z.length) H) (tCons (tVar 0) tNil)) (tCons (tC (.int 18)) tNil)))) (gName 3) (tAsg (tOp (rI0 fun i j => .int (i + j)) (tOp (rI CMulW fun i j => .int (i * j)) (tVar 1) (tC (.int 1000000000000000000))) (tCB (fun xs H Q => ∃ x n, xs = [.str x] ∧ intText? x = some n ∧ x.length ≤ 640 ∧ Q (.int n) H) (tCons (tSl rSlS (tVar 0) (tPart (tVar 3)) (tPart (tOp (rI0 fun i j => .int (i + j)) (tVar 3) (tC (.int 18))))) tNil))) (gName 1)))
            (tRet (tVar 1))) { nx := fun _ H' => Q .non H', rt := Q } [some (.str x), some (.int z), some (.int ((x.length : Int) % 18)), none] H2 := fun z hz => by
          have hsize : (Builtin.Range.rangeSize ((x.length : Int) % 18) (x.length : Int) 18).toNat = L / 18 := by
            unfold Builtin.Range.rangeSize
            rw [if_pos (by decide), hxl]
            split <;> omega
          refine ⟨_, rfl, _, rfl, _, rfl, hzl, _, _, 18, rfl, ⟨by decide, by decide⟩, ⟨by rw [hfm]; omega, by rw [hfm]; omega, by omega, by rw [hxl]; omega⟩, ?_⟩
          rw [hsize]
          refine for_range3 (Pv := fun i σ H3 => ∃ v3 : Option V, σ = [some (.str x), some (.int ((digitsVal (x.cps.toList.take (L % 18 + 18 * i)) : Nat) : Int)), some (.int ((x.length : Int) % 18)), v3] ∧ H3 = H2) ⟨_, by rw [hz]; rfl, rfl⟩ ?_ ?_
          · rintro i σ H3 hi ⟨v3, rfl, rfl⟩
            have hs : ((x.length : Int) % 18 + (i : Int) * 18) = ((L % 18 + 18 * i : Nat) : Int) := by rw [hfm]; omega
            have he : (((L % 18 + 18 * i : Nat) : Int) + 18) = ((L % 18 + 18 * (i + 1) : Nat) : Int) := by omega
            have hle : L % 18 + 18 * (i + 1) ≤ L := by omega
            have hsl := slice_codes x (a := L % 18 + 18 * i) (b := L % 18 + 18 * (i + 1)) (by omega) (by rw [hxl]; exact hle)
            obtain ⟨it, il⟩ := ofFig fg (by rw [hLn]; exact hl) (y := Txt.slice x (some ((L % 18 + 18 * i : Nat) : Int)) (some ((L % 18 + 18 * (i + 1) : Nat) : Int))) (by omega) (by rw [hLn]; exact hle) hsl
            have hbig : (digitsVal (x.cps.toList.take (L % 18 + 18 * i)) : Int).natAbs < 2 ^ 4000 := by
              have := valBound (x.cps.toList.take (L % 18 + 18 * i)) (fun c hc => fg.dg c (List.mem_of_mem_take hc))
              have hl2 : (x.cps.toList.take (L % 18 + 18 * i)).length ≤ 200 := by rw [List.length_take]; omega
              refine Nat.lt_of_lt_of_le (show _ < 10 ^ 200 from Nat.lt_of_lt_of_le (by omega) (Nat.pow_le_pow_right (by decide) hl2)) (by decide +kernel)
            refine ⟨_, rfl, _, _, rfl, rfl, ⟨hbig, by decide +kernel⟩, _, rfl, _, rfl, _, rfl, _, rfl, _, _, rfl, rfl, _, rfl, x, rfl, hzl, _, _, rfl, (by rw [hs, he]; exact it), (by rw [hs, he]; exact il), _, _, rfl, rfl, ?_⟩
            refine ⟨some (.int ((x.length : Int) % 18 + (i : Int) * 18)), ?_, rfl⟩
            have hap : x.cps.toList.take (L % 18 + 18 * (i + 1)) = x.cps.toList.take (L % 18 + 18 * i) ++ (x.cps.toList.drop (L % 18 + 18 * i)).take 18 := by
              rw [show L % 18 + 18 * (i + 1) = (L % 18 + 18 * i) + 18 by omega, List.take_add]
            have h18 : ((x.cps.toList.drop (L % 18 + 18 * i)).take 18).length = 18 := by rw [List.length_take, List.length_drop, hLn]; omega
            have e18 : (L % 18 + 18 * (i + 1)) - (L % 18 + 18 * i) = 18 := by omega
            have ez : ((digitsVal (x.cps.toList.take (L % 18 + 18 * (i + 1))) : Nat) : Int) = ((digitsVal (x.cps.toList.take (L % 18 + 18 * i)) : Nat) : Int) * 1000000000000000000 + ((digitsVal ((x.cps.toList.drop (L % 18 + 18 * i)).take ((L % 18 + 18 * (i + 1)) - (L % 18 + 18 * i))) : Nat) : Int) := by
              rw [e18, hap, val_append, h18]
              omega
            rw [ez]
            rfl
          · rintro σ H3 ⟨v3, rfl, rfl⟩
            refine ⟨_, rfl, ?_⟩
            rw [← hq, List.take_of_length_le (by omega)]
            exact k _ s2
        refine ⟨_, rfl, _, _, rfl, rfl, _, rfl, ?_⟩
        by_cases hf : 0 < (x.length : Int) % 18
        · rw [decide_eq_true hf]
          refine iteT ?_
          have hsl := slice_codes x (a := 0) (b := L % 18) (by omega) (by rw [hxl]; omega)
          have hlo := slice_lo x ((L % 18 : Nat) : Int)
          rw [← hlo] at hsl
          obtain ⟨it, il⟩ := ofFig fg (by rw [hLn]; exact hl) (y := Txt.slice x none (some ((L % 18 : Nat) : Int))) (a := 0) (b := L % 18) (by omega) (by rw [hLn]; omega) hsl
          refine ⟨_, rfl, _, rfl, _, rfl, x, rfl, hzl, _, _, rfl, (by rw [hfm]; exact it), (by rw [hfm]; exact il), ?_⟩
          refine loop _ ?_
          rw [List.drop_zero, Nat.sub_zero]
        · rw [decide_eq_false hf]
          refine iteF ?_
          refine loop 0 ?_
          rw [show L % 18 = 0 by omega]
          rfl
      cases hst : Txt.startswith x (Str.ofString "0") with
      | false => exact iteF fin
      | true =>
        refine iteT ?_
        rw [z48] at hst
        obtain ⟨r, hr'⟩ := (startswith_code x 48).mp hst
        have := fg.hd r hr'
        subst this
        have hx : x = Str.ofString "0" := by rw [z48]; exact str_ext hr'
        refine ⟨_, rfl, rfl, _, rfl, ?_⟩
        rw [hx]
        rw [hx] at fin
        exact iteNS rfl fin
end
section
variable {P : Program} {w : World} {K : PySem.W.Frag} {mg : Str → Option Value} {base : Heap}
theorem scRS : FnScope ["text", "number"] ["text"] (defScope sRS) := ⟨rfl, rfl, rfl, by decide +kernel, rfl, by decide +kernel, by decide +kernel⟩
theorem ok_rs {f fF : Addr} {fd fdF : FuncData} (F : Fun K "read_signed" "read_signed" sRS f fd) (g : Glb mg) (hall : mg "all" = none) (hlen : mg "len" = none) (hint : mg "int" = none) (hrange : mg "range" = none)
    (FF : Fun K "read_figures" "read_figures" sRF fF fdF) (bF : Binds K fdF ["text"] []) (mF : mg "read_figures" = some (.ref fF)) : FnOk P w K mg base CX0 2 f fd ["text"] spRS := by
  have GF : FnOk P w K mg base CX0 1 fF fdF ["text"] spRF := ok_rf FF g hall hlen hint hrange
  refine F.ok scRS (fun vs H Q E h => ?_) (fun cdv A outer s H vs Q E hr h => ?_)
  · obtain ⟨x, z, rfl, _⟩ := h
    rfl
  · obtain ⟨x, z, rfl, hx, hz, k⟩ := h
    have hd := p99 hz
    refine ⟨_, pss_cons (ps_if (pt_not (pt_val (pe_bm PySem.F.plainAttrs_str PySem.F.slot_str_startswith PySem.F.type_str_startswith mt_startswith (pv 0) (pa_cons pe_str pa_nil)))) (pss_one (ps_ret (pe_call GF hr (by rfl) mF FF.kp bF .nil pass0 (pa_cons (pv 0) pa_nil)))) pss_nil)
      (pss_cons (ps_set (i := 1) scRS.nd rfl (Or.inl rfl) (pe_call GF hr (by rfl) mF FF.kp bF .nil pass0 (pa_cons (pe_slice sl_str (pv 0) (po_some pe_int) po_none) pa_nil)))
      (pss_cons (ps_if (pt_cmpR op_eq (pv 1) pe_int (nomark _)) pss_never pss_nil)
      (pss_one (ps_ret (pe_un un_neg (pv 1)))))), ?_⟩
    refine ⟨_, rfl, rfl, _, _, rfl, rfl, _, rfl, ?_⟩
    unfold tp at hx
    by_cases h0 : z < 0
    · rw [if_pos h0] at hx
      have hst : Txt.startswith x (Str.ofString "-") = true := by rw [mn45]; exact (startswith_code x 45).mpr ⟨_, hx⟩
      rw [hst]
      refine iteF ?_
      have hxl : x.length = 1 + (dig z.natAbs).length := by rw [len_codes, hx, List.length_cons]; omega
      have hsl : (Txt.slice x (some 1) none).cps.toList = dig z.natAbs := by
        have e := slice_hi x 1
        rw [e]
        have := slice_codes x (a := 1) (b := x.length) (by omega) (Nat.le_refl _)
        rw [show ((1 : Nat) : Int) = 1 from rfl] at this
        rw [this, hx]
        show (dig z.natAbs).take (x.length - 1) = _
        exact List.take_of_length_le (by omega)
      refine ⟨_, rfl, 1, rfl, x, rfl, (by rw [sizeLine_eq]; omega), _, rfl, (by rw [hsl]; exact fig_dig _), (by rw [hsl]; omega), fun H1 s1 => ?_⟩
      rw [hsl, dig_val]
      refine ⟨_, rfl, rfl, _, rfl, ?_⟩
      rw [decide_eq_false (show ¬ V.int ((z.natAbs : Nat) : Int) = V.int 0 from fun e => by injection e with e; omega)]
      refine iteF ?_
      refine ⟨_, rfl, _, rfl, ?_⟩
      have := k H1 s1
      have ez : -((z.natAbs : Nat) : Int) = z := by omega
      rw [← ez] at this
      exact this
    · rw [if_neg h0] at hx
      have hst : Txt.startswith x (Str.ofString "-") = false := by
        rw [mn45]
        refine Bool.eq_false_iff.mpr fun e => ?_
        obtain ⟨r, hr'⟩ := (startswith_code x 45).mp e
        exact no45 (dig_digits z.natAbs) (by rw [← hx, hr']; exact List.mem_cons_self)
      rw [hst]
      refine iteT ?_
      refine ⟨_, rfl, x, rfl, (by rw [hx]; exact fig_dig _), (by rw [hx]; omega), fun H1 s1 => ?_⟩
      rw [hx, dig_val]
      have := k H1 s1
      have ez : ((z.natAbs : Nat) : Int) = z := by omega
      rw [← ez] at this
      exact this
theorem scRN : FnScope ["text", "parts", "above"] ["text"] (defScope sRN) := ⟨rfl, rfl, rfl, by decide +kernel, rfl, by decide +kernel, by decide +kernel⟩
theorem ok_rn {f fF fS fA fX : Addr} {fd fdF fdS fdA fdX : FuncData} (F : Fun K "read_number" "read_number" sRN f fd) (g : Glb mg) (hall : mg "all" = none) (hlen : mg "len" = none) (hint : mg "int" = none) (hrange : mg "range" = none) (habs : mg "abs" = none)
    (FF : Fun K "read_figures" "read_figures" sRF fF fdF) (bF : Binds K fdF ["text"] []) (mF : mg "read_figures" = some (.ref fF))
    (FS : Fun K "read_signed" "read_signed" sRS fS fdS) (bS : Binds K fdS ["text"] []) (mS : mg "read_signed" = some (.ref fS))
    (FA : Fun K "fraction" "fraction" sFrac fA fdA) (bA : Binds K fdA ["above", "below"] []) (mA : mg "fraction" = some (.ref fA))
    (FX : Fun K "common_divisor" "common_divisor" sCD fX fdX) (bX : Binds K fdX ["one", "other"] []) (mX : mg "common_divisor" = some (.ref fX)) : FnOk P w K mg base CX0 3 f fd ["text"] spRN := by
  have GF : FnOk P w K mg base CX0 2 fF fdF ["text"] spRF := (ok_rf FF g hall hlen hint hrange).mono (by decide)
  have GS : FnOk P w K mg base CX0 2 fS fdS ["text"] spRS := ok_rs FS g hall hlen hint hrange FF bF mF
  have GA : FnOk P w K mg base CX0 2 fA fdA ["above", "below"] spLeast := ok_frac FA habs FX bX mX
  refine F.ok scRN (fun vs H Q E h => ?_) (fun cdv A outer s H vs Q E hr h => ?_)
  · obtain ⟨x, a, rfl, _⟩ := h
    rfl
  · obtain ⟨x, a, rfl, hx, la, ⟨z1, z2⟩, k⟩ := h
    have l1 := p99 z1
    have l2 := p99 z2
    have hpos := la.pos
    have tpl : (tp a.1).length ≤ 100 := by
      unfold tp
      split
      · rw [List.length_cons]; omega
      · omega
    refine ⟨_, pss_cons (ps_set (i := 1) scRN.nd rfl (Or.inl rfl) (pe_bm PySem.F.plainAttrs_str PySem.F.slot_str_split PySem.F.type_str_split mt_split (pv 0) (pa_cons pe_str pa_nil)))
      (pss_cons (ps_if (pt_cmpR op_gt (pe_callB call_len_seq (by rfl) hlen PySem.boot_len (pa_cons (pv 1) pa_nil)) pe_int (nomark _)) pss_never pss_nil)
      (pss_cons (ps_set (i := 2) scRN.nd rfl (Or.inl rfl) (pe_call GS hr (by rfl) mS FS.kp bS .nil pass0 (pa_cons (pe_ix ix_list (pv 1) pe_int (fun _ _ => rfl)) pa_nil)))
      (pss_cons (ps_if (pt_cmpR op_eq (pe_callB call_len_seq (by rfl) hlen PySem.boot_len (pa_cons (pv 1) pa_nil)) pe_int (nomark _)) (pss_one (ps_ret (pe_tup (pa_cons (pv 2) (pa_cons pe_int pa_nil))))) pss_nil)
      (pss_one (ps_ret (pe_call GA hr (by rfl) mA FA.kp bA .nil pass0 (pa_cons (pv 2) (pa_cons (pe_call GF hr (by rfl) mF FF.kp bF .nil pass0 (pa_cons (pe_ix ix_list (pv 1) pe_int (fun _ _ => rfl)) pa_nil)) pa_nil)))))))), ?_⟩
    have hxl : x.length ≤ 300 := by
      rw [len_codes, hx]
      unfold nt
      rw [List.length_append]
      split <;> simp <;> omega
    refine ⟨_, rfl, rfl, x, 47, rfl, (by rw [sl47]), (by rw [sizeLine_eq]; omega), fun l hl => ?_⟩
    unfold nt at hx
    by_cases h1 : a.2 = 1
    · rw [if_pos h1, List.append_nil] at hx
      have hsp : Txt.split x ⟨#[47]⟩ = [x] := split_one (by rw [hx]; exact tp47 _)
      rw [hsp]
      have s1 := same_new (o := .lst ([x].map V.str)) hl
      have hl1 : (upd H l (.lst ([x].map V.str))) l = some (.lst [.str x]) := upd_same
      (try dsimp only)
      generalize upd H l (.lst ([x].map V.str)) = H1 at s1 hl1
      refine ⟨_, rfl, l, _, rfl, .inl (SqL.of hl1), _, _, rfl, rfl, _, rfl, iteF ?_⟩
      refine ⟨_, rfl, l, _, 0, _, rfl, rfl, SqL.of hl1, at0, x, a.1, rfl, hx, z1, fun H2 s2 => ?_⟩
      have hl2 := s2 _ _ hl1
      refine ⟨_, rfl, l, _, rfl, .inl (SqL.of hl2), rfl, _, rfl, iteT ?_⟩
      refine ⟨_, rfl, (by show 2 ≤ sizeLine; decide), fun p hp => ?_⟩
      refine k p _ ((s1.trans s2).free hp) (by rw [upd_same, h1]) ((s1.trans s2).trans (same_new hp))
    · rw [if_neg h1] at hx
      obtain ⟨p1, p2, hsp, c1, c2⟩ := split_two hx (tp47 _) (no47 (dig_digits _))
      rw [hsp]
      have s1 := same_new (o := .lst ([p1, p2].map V.str)) hl
      have hl1 : (upd H l (.lst ([p1, p2].map V.str))) l = some (.lst [.str p1, .str p2]) := upd_same
      (try dsimp only)
      generalize upd H l (.lst ([p1, p2].map V.str)) = H1 at s1 hl1
      refine ⟨_, rfl, l, _, rfl, .inl (SqL.of hl1), _, _, rfl, rfl, _, rfl, iteF ?_⟩
      refine ⟨_, rfl, l, _, 0, _, rfl, rfl, SqL.of hl1, at0, p1, a.1, rfl, c1, z1, fun H2 s2 => ?_⟩
      have hl2 := s2 _ _ hl1
      refine ⟨_, rfl, l, _, rfl, .inl (SqL.of hl2), rfl, _, rfl, iteF ?_⟩
      refine ⟨_, rfl, _, rfl, l, _, 1, _, rfl, rfl, SqL.of hl2, rfl, p2, rfl, (by rw [c2]; exact fig_dig _), (by rw [c2]; omega), fun H3 s3 => ?_⟩
      rw [c2, dig_val]
      have e2 : ((a.2.natAbs : Nat) : Int) = a.2 := by omega
      rw [e2]
      refine ⟨_, _, rfl, by omega, ⟨by omega, by omega⟩, fun p hp => ?_⟩
      rw [norm_id la]
      have s4 := (s1.trans s2).trans s3
      exact k p _ (s4.free hp) upd_same (s4.trans (same_new hp))
theorem scNS : FnScope ["number", "above"] ["number"] (defScope sNS) := ⟨rfl, rfl, rfl, by decide +kernel, rfl, by decide +kernel, by decide +kernel⟩
theorem ok_ns {f fO : Addr} {fd fdO : FuncData} (F : Fun K "number_shown" "number_shown" sNS f fd) (g : Glb mg) (hstr : mg "str" = none) (hlist : mg "list" = none) (hrev : mg "reversed" = none) (habs : mg "abs" = none)
    (FO : Fun K "figures_of" "figures_of" sFO fO fdO) (bO : Binds K fdO ["number"] []) (mO : mg "figures_of" = some (.ref fO)) : FnOk P w K mg base CX0 2 f fd ["number"] (spNS K) := by
  have GO : FnOk P w K mg base CX0 1 fO fdO ["number"] spFO := ok_fo FO g hstr hlist hrev
  refine F.ok scNS (fun vs H Q E h => ?_) (fun cdv A outer s H vs Q E hr h => ?_)
  · obtain ⟨p, a, rfl, _⟩ := h
    rfl
  · obtain ⟨p, a, rfl, hp, hpos, ⟨z1, z2⟩, k⟩ := h
    have l1 := p99 z1
    have l2 := p99 z2
    refine ⟨_, pss_cons (ps_set (i := 1) scNS.nd rfl (Or.inl rfl) (pe_call GO hr (by rfl) mO FO.kp bO .nil pass0 (pa_cons (pe_callB call_abs (by rfl) habs bAbs (pa_cons (pe_ix ix_tup (pv 0) pe_int (fun _ _ => rfl)) pa_nil)) pa_nil)))
      (pss_cons (ps_if (pt_cmpR op_lt (pe_ix ix_tup (pv 0) pe_int (fun _ _ => rfl)) pe_int (nomark _)) (pss_one (ps_set (i := 1) scNS.nd rfl (Or.inl rfl) (pe_op op_add_str pe_str (pv 1)))) pss_nil)
      (pss_cons (ps_if (pt_cmpR op_eq (pe_ix ix_tup (pv 0) pe_int (fun _ _ => rfl)) pe_int (nomark _)) (pss_one (ps_ret (pv 1))) pss_nil)
      (pss_one (ps_ret (pe_op op_add_str (pe_op op_add_str (pv 1) pe_str) (pe_call GO hr (by rfl) mO FO.kp bO .nil pass0 (pa_cons (pe_ix ix_tup (pv 0) pe_int (fun _ _ => rfl)) pa_nil))))))), ?_⟩
    have ea : (if a.1 < 0 then -a.1 else a.1) = ((a.1.natAbs : Nat) : Int) := by split <;> omega
    refine ⟨_, rfl, p, _, 0, _, rfl, rfl, hp, rfl, _, rfl, _, rfl, ⟨by rw [ea]; omega, by rw [ea]; omega⟩, fun x H1 cx s1 => ?_⟩
    rw [ea, Int.toNat_natCast] at cx
    have hp1 := s1.tup hp
    have fin : ∀ y : Str, y.cps.toList = tp a.1 → (tSeq (tIfS (tTest (tOp rEq (tOp (rIxT K) (tVar 0) (tC (.int 1))) (tC (.int 1)))) (tRet (tVar 1)) tNext) (tRet (tOp (fun x y H Q => ∃ i j, x = .str i ∧ y = .str j ∧ i.length + j.length ≤ sizeLine ∧ Q (.str (i ++ j)) H) (tOp (fun x y H Q => ∃ i j, x = .str i ∧ y = .str j ∧ i.length + j.length ≤ sizeLine ∧ Q (.str (i ++ j)) H) (tVar 1) (tC (.str (Str.ofString "/")))) (tCall spFO [] E0 (tCons (tOp (rIxT K) (tVar 0) (tC (.int 1))) tNil))))) { nx := fun _ H' => Q .non H', rt := Q } [some (.ref p), some (.str y)] H1 := fun y hy => by
      have ly : y.length ≤ 100 := by
        rw [len_codes, hy]
        unfold tp
        split
        · rw [List.length_cons]; omega
        · omega
      refine ⟨_, rfl, p, _, 1, _, rfl, rfl, hp1, rfl, rfl, _, rfl, ?_⟩
      by_cases h1 : a.2 = 1
      · rw [decide_eq_true (show V.int a.2 = V.int 1 by rw [h1])]
        refine iteT ⟨_, rfl, k y H1 ?_ s1⟩
        unfold nt
        rw [if_pos h1, List.append_nil]
        exact hy
      · rw [decide_eq_false (show ¬ V.int a.2 = V.int 1 from fun e => h1 (by injection e))]
        refine iteF ?_
        have l47 : (Str.ofString "/" : Str).length = 1 := by rw [sl47]; rfl
        have c47 : (Str.ofString "/" : Str).cps.toList = [47] := by rw [sl47]
        refine ⟨_, rfl, _, _, rfl, rfl, (by rw [l47, sizeLine_eq]; omega), _, rfl, p, _, 1, _, rfl, rfl, hp1, rfl, _, rfl, ⟨by omega, by omega⟩, fun z H2 cz s2 => ?_⟩
        have lz : z.length ≤ 99 := by rw [len_codes, cz, show a.2.toNat = a.2.natAbs by omega]; exact l2
        refine ⟨_, _, rfl, rfl, (by rw [PySem.Str.length_append, l47, sizeLine_eq]; omega), k _ H2 ?_ (s1.trans s2)⟩
        unfold nt
        rw [if_neg h1, PySem.Str.cps_append, PySem.Str.cps_append, Array.toList_append, Array.toList_append, hy, c47, cz, show a.2.toNat = a.2.natAbs by omega]
        simp
    refine ⟨_, rfl, p, _, 0, _, rfl, rfl, hp1, rfl, _, _, rfl, rfl, _, rfl, ?_⟩
    by_cases h0 : a.1 < 0
    · rw [decide_eq_true h0]
      refine iteT ?_
      have l45 : (Str.ofString "-" : Str).length = 1 := by rw [mn45]; rfl
      have c45 : (Str.ofString "-" : Str).cps.toList = [45] := by rw [mn45]
      refine ⟨_, rfl, _, _, rfl, rfl, (by rw [l45, len_codes, cx, sizeLine_eq]; omega), fin _ ?_⟩
      rw [PySem.Str.cps_append, Array.toList_append, c45, cx]
      unfold tp
      rw [if_pos h0]
      rfl
    · rw [decide_eq_false h0]
      refine iteF (fin x ?_)
      unfold tp
      rw [if_neg h0]
      exact cx
end
structure Glb2 (mg : Str → Option Value) : Prop where
  g : Glb mg
  let_ : ∃ t, mg "LETTERS" = some (.str "abcdefghijklmnopqrstuvwxyz" t)
  nl : ∃ t, mg "NAME_LENGTH" = some (.int 8 t)
end K08
set_option maxHeartbeats 4000000
namespace K08
open PySem L2 Frac Lw Dig PySem.NumText Nm
section
variable {P : Program} {w : World} {K : PySem.W.Frag} {mg : Str → Option Value} {base : Heap}
theorem scBook : FnScope ["deck", "letters", "base", "at", "names", "k", "place", "name", "words"] ["deck"] (defScope sBook) := ⟨rfl, rfl, rfl, by decide +kernel, rfl, by decide +kernel, by decide +kernel⟩
theorem ok_book {f fT : Addr} {fd fdT : FuncData} (F : Fun K "_law_book" "_law_book" sBook f fd) (hlen : mg "len" = none) (hrange : mg "range" = none) (htup : mg "tuple" = none)
    (FT : Fun K "_law_take" "_law_take" sTake fT fdT) (bT : Binds K fdT ["deck", "many"] []) (mT : mg "_law_take" = some (.ref fT)) : FnOk P w K mg base CX0 2 f fd ["deck"] spBook := by
  have GT : FnOk P w K mg base CX0 1 fT fdT ["deck", "many"] spTake := ok_take FT hlen
  refine F.ok scBook (fun vs H Q E h => ?_) (fun cdv A outer s H vs Q E hr h => ?_)
  · obtain ⟨d, c, rfl, _⟩ := h
    rfl
  · obtain ⟨d, c, rfl, D, k⟩ := h
    refine ⟨_, pss_cons (ps_set (i := 1) scBook.nd rfl (Or.inr rfl) pe_str)
      (pss_cons (ps_set (i := 2) scBook.nd rfl (Or.inl rfl) (pe_bm PySem.F.plainAttrs_str PySem.F.slot_str_join PySem.F.type_str_join (mt_join (K := K) rfl) pe_str (pa_cons (pe_lc (x := "k") (cap := ["letters", "deck"]) (js := [1, 0]) ⟨rfl, by decide +kernel, by decide +kernel, rfl, (by show ∀ p ∈ (_ : List (Str × NameKind)), p.2 = NameKind.free → List.lookup p.1 (defScope sBook).names = some NameKind.cell; decide +kernel), by decide +kernel, by decide +kernel, by decide +kernel⟩ rfl rfl (fun _ _ h => h) (pi_range1 rfl hrange (pa_cons (pe_op op_add pe_int (pe_call GT hr (by rfl) mT FT.kp bT .nil pass0 (pa_cons (pv 0) (pa_cons pe_int pa_nil)))) pa_nil))
        (fun _ _ _ _ => ⟨pif_nil, pe_ix ix_str (pv 1) (pe_call GT hr (by rfl) mT FT.kp bT .nil pass0 (pa_cons (pv 2) (pa_cons pe_int pa_nil))) (fun _ _ => rfl)⟩)) pa_nil)))
      (pss_cons (ps_set (i := 3) scBook.nd rfl (Or.inl rfl) (pe_call GT hr (by rfl) mT FT.kp bT .nil pass0 (pa_cons (pv 0) (pa_cons (pe_callB call_len_str (by rfl) hlen PySem.boot_len (pa_cons (pv 2) pa_nil)) pa_nil))))
      (pss_cons (ps_set (i := 4) scBook.nd rfl (Or.inl rfl) (pe_lst pa_nil))
      (pss_cons (ps_for PassesOwn.never rfl (pi_range1 rfl hrange (pa_cons (pe_op op_add pe_int (pe_call GT hr (by rfl) mT FT.kp bT .nil pass0 (pa_cons (pv 0) (pa_cons pe_int pa_nil)))) pa_nil)) (pg_name (i := 5) scBook.nd rfl (Or.inl rfl))
        (pss_cons (ps_set (i := 6) scBook.nd rfl (Or.inl rfl) (pe_op op_add (pe_bm PySem.F.plainAttrs_str PySem.F.slot_str_index PySem.F.type_str_index mt_index (pv 1) (pa_cons (pe_ix ix_str (pv 2) (pv 3) (fun _ _ => rfl)) pa_nil)) (pe_op op_mulW pe_int (pv 5))))
        (pss_cons (ps_set (i := 7) scBook.nd rfl (Or.inl rfl) (pe_op op_add_str (pe_op op_add_str (pe_slice sl_str (pv 2) po_none (po_some (pv 3))) (pe_ix ix_str (pv 1) (pe_op op_mod (pv 6) pe_int) (fun _ _ => rfl))) (pe_slice sl_str (pv 2) (po_some (pe_op op_add (pv 3) pe_int)) po_none)))
        (pss_cons (ps_set (i := 8) scBook.nd rfl (Or.inl rfl) pe_str)
        (pss_cons (ps_if (pt_cmpR op_in_seq (pv 7) (pe_bm PySem.F.plainAttrs_str PySem.F.slot_str_split PySem.F.type_str_split mt_split (pv 8) (pa_cons pe_str pa_nil)) (by rfl))
          (pss_one (ps_set (i := 7) scBook.nd rfl (Or.inl rfl) (pe_op op_add_str pe_str (pe_slice sl_str (pv 7) po_none (po_some pe_int))))) pss_nil)
        (pss_one (ps_expr (pe_bm PySem.F.plainAttrs_list PySem.F.slot_list_append PySem.F.type_list_append mt_append (pv 4) (pa_cons (pv 7) pa_nil)))))))))
      (pss_one (ps_ret (pe_callTy call_tuple_of (by rfl) htup bTup (pa_cons (pv 4) pa_nil)))))))), ?_⟩
    refine ⟨rfl, _, rfl, d, c, 8, rfl, D, ⟨by decide, by decide⟩, fun r0 H1 a0 a1 D1 K1 => ?_⟩
    refine ⟨_, _, rfl, rfl, _, rfl, by omega, by omega, fun i m ys H2 => m = (1 + r0).toNat - i ∧ i ≤ (1 + r0).toNat ∧ ∃ cs : List Nat, ys = (cs.map fun c => (⟨#[c]⟩ : Str)).map V.str ∧ cs.length = i ∧ Low cs ∧ DeckAt H2 d c ∧ KeptBut d c H H2, ⟨_, rfl, by omega, [], rfl, rfl, (fun c m => by cases m), D1, K1⟩, ?_⟩
    rintro i m ys H2 ⟨rfl, hi, cs, rfl, hcl, low, D2, K2⟩
    refine ⟨by rw [List.length_map, List.length_map, hcl, sizeLine_eq]; omega, ?_⟩
    by_cases hn : i < (1 + r0).toNat
    · refine .inr ⟨hn, fun x H' yl => ?_⟩
      obtain ⟨rfl, rfl⟩ := yl
      refine tNoIf_of ?_
      refine ⟨_, rfl, _, rfl, d, c, 26, rfl, D2, ⟨by decide, by decide⟩, fun r H3 b0 b1 D3 K3 => ?_⟩
      refine ⟨_, r, 97 + r.toNat, rfl, rfl, (by show letters.length ≤ _; rw [let_len]; decide), let_at b0 b1, ?_⟩
      refine ⟨(1 + r0).toNat - (i + 1), by omega, rfl, by omega, cs ++ [97 + r.toNat], by simp, by simp [hcl], low.app (Low.one (by omega)), D3, K2.trans K3⟩
    refine .inl ⟨show (1 + r0).toNat ≤ i by omega, fun l hl => ?_⟩
    have hcs : 1 ≤ cs.length ∧ cs.length ≤ 8 := by omega
    have D3 := D2.new (o := .lst ((cs.map fun c => (⟨#[c]⟩ : Str)).map V.str)) hl
    have K3 := K2.trans (Same.but (d := d) (c := c) (same_new (o := .lst ((cs.map fun c => (⟨#[c]⟩ : Str)).map V.str)) hl))
    refine ⟨_, l, cs.map fun c => (⟨#[c]⟩ : Str), rfl, rfl, SqL.of upd_same, (by rw [sum_ones, List.length_map, em']; show _ + _ * 0 ≤ _; omega), ?_⟩
    have hb : (Txt.join (Str.ofString "") (cs.map fun c => (⟨#[c]⟩ : Str))).cps.toList = cs := by rw [em']; exact join_ones cs
    (try dsimp only)
    generalize Txt.join (Str.ofString "") (cs.map fun c => (⟨#[c]⟩ : Str)) = bs at hb
    generalize upd H2 l (.lst ((cs.map fun c => (⟨#[c]⟩ : Str)).map V.str)) = H3 at D3 K3
    have lbs : bs.length = cs.length := by rw [len_codes, hb]
    refine ⟨_, rfl, _, rfl, bs, rfl, (by rw [sizeLine_eq]; omega), d, c, _, rfl, D3, ⟨by omega, by omega⟩, fun at' H4 c0 c1 D4 K4 => ?_⟩
    obtain ⟨an, rfl⟩ := Int.eq_ofNat_of_zero_le c0
    have K4' := K3.trans K4
    refine ⟨(by show 0 ≤ sizeLine; decide), fun p hp => ?_⟩
    have hp0 : H p = none := KeptBut.free K4' D4 hp
    have D5 := D4.new (o := .lst []) hp
    have K5 := K4'.trans (Same.but (d := d) (c := c) (same_new (o := .lst []) hp))
    have np := D4.free hp
    refine ⟨_, rfl, d, c, 4, rfl, D5, ⟨by decide, by decide⟩, fun r4 H5 e0 e1 D6 K6 => ?_⟩
    have K6' := K5.trans K6
    have hp6 : H5 p = some (.lst (([] : List Str).map V.str)) := K6 p _ upd_same np.1 np.2
    refine ⟨_, _, rfl, rfl, _, rfl, by omega, by omega, for_range (Pv := fun i σ H5 => ∃ (v5 v6 v7 v8 : Option V) (xs : List Str), σ = [some (.ref d), some (.str letters), some (.str bs), some (.int (an : Int)), some (.ref p), v5, v6, v7, v8] ∧ H5 p = some (.lst (xs.map V.str)) ∧ xs.length = i ∧ (∀ x ∈ xs, IsName x) ∧ DeckAt H5 d c ∧ KeptBut d c H H5)
      ⟨_, _, _, _, [], rfl, hp6, rfl, (fun x m => by cases m), D6, K6'⟩ ?_ ?_⟩
    · rintro i σ H7 hi7 ⟨v5, v6, v7, v8, xs, rfl, h7, hxl, hxs, D7, K7⟩
      have hat : ∃ ch, atI bs.cps.toList (an : Int) = some ch ∧ 97 ≤ ch ∧ ch ≤ 122 := by
        have hj : an < cs.length := by omega
        refine ⟨cs[an], ?_, low _ (List.getElem_mem hj)⟩
        have q := atI_nat (xs := cs) (j := an) (v := cs[an]) (List.getElem?_eq_getElem hj)
        rw [hb]; exact q
      obtain ⟨ch, hat, hch⟩ := hat
      have sbs : bs.length ≤ sizeLine := by rw [sizeLine_eq]; omega
      refine ⟨_, rfl, rfl, _, rfl, _, rfl, bs, (an : Int), ch, rfl, rfl, sbs, hat, _, _, rfl, rfl, let_in hch, _, rfl, _, _, rfl, rfl, mw (by decide) (by omega), _, _, rfl, rfl, ?_⟩
      (try dsimp only)
      generalize Txt.find letters ⟨#[ch]⟩ + 7 * (0 + (i : Int)) = pl
      have m0 := Int.emod_nonneg pl (show (26 : Int) ≠ 0 by decide)
      have m1 := Int.emod_lt_of_pos pl (show (0 : Int) < 26 by decide)
      have s1 : (Txt.slice bs none (some (an : Int))).cps.toList = cs.take an := by
        have e1 := slice_codes bs (a := 0) (b := an) (by omega) (by omega)
        rw [slice_lo, e1, hb]
        simp
      have s2 : (Txt.slice bs (some ((an : Int) + 1)) none).cps.toList = cs.drop (an + 1) := by
        have e1 := slice_codes bs (a := an + 1) (b := bs.length) (by omega) (Nat.le_refl _)
        rw [slice_hi, show (an : Int) + 1 = ((an + 1 : Nat) : Int) by omega, e1, hb]
        exact List.take_of_length_le (by rw [List.length_drop]; omega)
      have l1 : (Txt.slice bs none (some (an : Int))).length ≤ 8 := by rw [len_codes, s1, List.length_take]; omega
      have l2 : (Txt.slice bs (some ((an : Int) + 1)) none).length ≤ 8 := by rw [len_codes, s2, List.length_drop]; omega
      have l3 : (Txt.slice bs none (some (an : Int)) ++ (⟨#[97 + (pl % 26).toNat]⟩ : Str)).length ≤ 9 := by rw [PySem.Str.length_append]; show _ + 1 ≤ 9; omega
      refine ⟨_, rfl, _, rfl, (an : Int), rfl, bs, rfl, sbs, _, rfl, _, rfl, _, _, rfl, rfl, (by show (0 : Int) < 26; decide), _, _, _, rfl, rfl, (by show letters.length ≤ _; rw [let_len]; decide), let_at m0 m1, _, _, rfl, rfl, (by rw [sizeLine_eq]; show _ + 1 ≤ _; omega), _, rfl, _, rfl, _, _, rfl, rfl, (an : Int) + 1, rfl, bs, rfl, sbs, _, _, rfl, rfl, (by rw [sizeLine_eq]; omega), ?_⟩
      have hnm : (Txt.slice bs none (some (an : Int)) ++ (⟨#[97 + (pl % 26).toNat]⟩ : Str) ++ Txt.slice bs (some ((an : Int) + 1)) none).cps.toList = cs.take an ++ [97 + (pl % 26).toNat] ++ cs.drop (an + 1) := by
        rw [PySem.Str.cps_append, PySem.Str.cps_append, Array.toList_append, Array.toList_append, s1, s2]
      (try dsimp only)
      generalize Txt.slice bs none (some (an : Int)) ++ (⟨#[97 + (pl % 26).toNat]⟩ : Str) ++ Txt.slice bs (some ((an : Int) + 1)) none = nm at hnm
      have lnm : nm.cps.toList.length = cs.length := by
        rw [hnm, List.length_append, List.length_append, List.length_take, List.length_drop]
        show min _ _ + 1 + _ = _
        omega
      have lownm : Low nm.cps.toList := by rw [hnm]; exact ((low.take _).app (Low.one (by omega))).app (low.drop _)
      have done : ∀ (v5 v6 v7 v8 : Option V) (nn : Str) (H8 : Hp), IsName nn → Same H7 H8 → ∃ (v5' v6' v7' v8' : Option V) (ys : List Str), [some (V.ref d), some (V.str letters), some (V.str bs), some (V.int (an : Int)), some (V.ref p), v5, v6, v7, v8] = [some (V.ref d), some (V.str letters), some (V.str bs), some (V.int (an : Int)), some (V.ref p), v5', v6', v7', v8'] ∧ (upd H8 p (.lst (xs.map V.str ++ [V.str nn]))) p = some (.lst (ys.map V.str)) ∧ ys.length = i + 1 ∧ (∀ x ∈ ys, IsName x) ∧ DeckAt (upd H8 p (.lst (xs.map V.str ++ [V.str nn]))) d c ∧ KeptBut d c H (upd H8 p (.lst (xs.map V.str ++ [V.str nn]))) := fun v5 v6 v7 v8 nn H8 hn s8 => by
        refine ⟨v5, v6, v7, v8, xs ++ [nn], rfl, by rw [upd_same, List.map_append]; rfl, by simp [hxl], fun x m => ?_, Nm.DeckAt.upd (D7.same s8) np.1 np.2, fun b o e h1 h2 => ?_⟩
        · rcases List.mem_append.mp m with m | m
          · exact hxs x m
          · have : x = nn := by simpa using m
            subst this; exact hn
        · rw [upd_ne (ne_of_none e hp0)]
          exact s8 b o (K7 b o e h1 h2)
      refine ⟨_, rfl, _, rfl, rfl, _, 32, rfl, (by rw [sp32]), (by show wordsS.length + 2 ≤ _; decide +kernel), fun l hl => ⟨l, _, rfl, .inl (SqL.of upd_same), rfl, flat_strs _, _, rfl, ?_⟩⟩
      have s8 := same_new (o := .lst ((Txt.split wordsS ⟨#[32]⟩).map V.str)) hl
      rw [if_neg Bool.false_ne_true, inV_strs]
      by_cases hw : nm ∈ wordsL
      · rw [decide_eq_true (show nm ∈ Txt.split _ _ from hw)]
        refine iteT ?_
        have z1 := slice_to nm 6
        have z2 : (Str.ofString "zz" ++ Txt.slice nm none (some ((6 : Nat) : Int))).cps.toList = 122 :: 122 :: nm.cps.toList.take 6 := by
          rw [PySem.Str.cps_append, Array.toList_append, zz_codes, z1]; rfl
        refine ⟨_, rfl, 6, rfl, nm, rfl, (by rw [len_codes, sizeLine_eq]; omega), _, _, rfl, rfl, ?_, ?_⟩
        · show (Str.ofString "zz").length + (Txt.slice nm none (some ((6 : Nat) : Int))).length ≤ _
          rw [len_codes, len_codes, zz_codes, z1, List.length_take, sizeLine_eq]
          show 2 + _ ≤ _
          omega
        refine ⟨_, rfl, .inl ⟨rfl, _, SqL.of (s8 _ _ h7)⟩, _, rfl, p, _, _, rfl, rfl, s8 _ _ h7, (by rw [List.length_map, sizeLine_eq]; omega), ?_⟩
        exact done _ _ _ _ _ _ (zz_name z2 lownm) s8
      · rw [decide_eq_false (show ¬ nm ∈ Txt.split _ _ from hw)]
        refine iteF ?_
        refine ⟨_, rfl, .inl ⟨rfl, _, SqL.of (s8 _ _ h7)⟩, _, rfl, p, _, _, rfl, rfl, s8 _ _ h7, (by rw [List.length_map, sizeLine_eq]; omega), ?_⟩
        exact done _ _ _ _ nm _ ⟨by omega, by omega, lownm, hw⟩ s8
    · rintro σ H7 ⟨v5, v6, v7, v8, xs, rfl, h7, hxl, hxs, D7, K7⟩
      refine ⟨_, rfl, p, _, rfl, .inl ⟨SqL.of h7, fun q hq => ?_⟩⟩
      exact k xs q _ (by omega) (by omega) hxs (KeptBut.free K7 D7 hq) upd_same (D7.new hq) (K7.trans (Same.but (same_new hq)))
end
section
variable {P : Program} {w : World} {K : PySem.W.Frag} {mg : Str → Option Value} {base : Heap}
theorem scRoom : FnScope ["due"] ["due"] (defScope sRoom) := ⟨rfl, rfl, rfl, by decide +kernel, rfl, by decide +kernel, by decide +kernel⟩
theorem ok_room {f : Addr} {fd : FuncData} (F : Fun K "_law_room" "_law_room" sRoom f fd) (hsum : mg "sum" = none) : FnOk P w K mg base CX0 1 f fd ["due"] (spRoom K) := by
  refine F.ok scRoom (fun vs H Q E h => ?_) (fun cdv A outer s H vs Q E hr h => ?_)
  · obtain ⟨p, ws, rfl, _⟩ := h
    rfl
  · obtain ⟨p, ws, rfl, hp, hwl, k⟩ := h
    have hu := Nat.lt_of_le_of_lt (Nat.add_le_add_left (show 1 ≤ 64 by decide) _) hr.units
    refine ⟨_, pss_one (ps_ret (pe_callB (call_sum rfl) (by rfl) hsum bSum (pa_cons (pe_lc (x := "want") (cap := []) (js := []) ⟨rfl, by decide +kernel, by decide +kernel, rfl, (by show ∀ p ∈ (_ : List (Str × NameKind)), p.2 = NameKind.free → List.lookup p.1 (defScope sRoom).names = some NameKind.cell; decide +kernel), by decide +kernel, by decide +kernel, by decide +kernel⟩ rfl rfl (fun _ _ h => h) (pi_list (pv 0))
        (fun _ _ _ _ => ⟨pif_nil, pe_dget2 hu (pe_disp (pps_cons pe_str pe_int (pps_cons pe_str pe_int (pps_cons pe_str pe_int pps_nil))) rfl rfl (by simp) (by decide)) (pv 0) pe_int ⟨rfl, rfl, rfl, rfl⟩⟩)) pa_nil))), ?_⟩
    refine ⟨_, rfl, p, rfl, ⟨_, SqL.of hp⟩, fun j m ys H9 => m = ws.length - j ∧ j ≤ ws.length ∧ ys = ((ws.take j).map roomW).map V.int ∧ Same H H9, ⟨ws.length, rfl, Nat.zero_le _, rfl, Same.refl _⟩, ?_⟩
    rintro j m ys H9 ⟨rfl, hj, rfl, s9⟩
    refine ⟨by rw [List.length_map, List.length_map, List.length_take, sizeLine_eq]; omega, ?_⟩
    have hp9 := s9 _ _ hp
    by_cases hjl : j = ws.length
    · subst hjl
      refine .inl ⟨⟨_, SqL.of hp9, by rw [List.length_map]; exact Nat.le_refl _⟩, fun z hz => ?_⟩
      rw [List.take_of_length_le (Nat.le_refl _)]
      exact ⟨z, ws.map roomW, rfl, SqL.of upd_same, k _ (s9.trans (same_new hz))⟩
    · have hj' : j < ws.length := by omega
      refine .inr ⟨⟨_, _, SqL.of hp9, by rw [List.getElem?_map, List.getElem?_eq_getElem hj']; rfl⟩, fun x H' yl => ?_⟩
      obtain ⟨rfl, hv⟩ := yl
      have hv' := hv _ (SqL.of hp9)
      rw [List.getElem?_map, List.getElem?_eq_getElem hj'] at hv'
      obtain rfl : V.str ws[j] = x := Option.some.inj hv'
      refine tNoIf_of ?_
      refine fun q hq => ⟨upd_same, [(Sum.inr (Str.ofString "order"), V.int 1), (Sum.inr (Str.ofString "case"), V.int 2), (Sum.inr (Str.ofString "mark"), V.int 3)], rfl, by decide, q, rfl, .inl ⟨_, Rd.of upd_same⟩, _, rfl, _, DGet.k (k := Sum.inr ws[j]) upd_same, ?_⟩
      rw [room_is]
      refine ⟨ws.length - (j + 1), by omega, rfl, by omega, ?_, fun b o e => ?_⟩
      · rw [List.take_succ_eq_append_getElem hj', List.map_append, List.map_append]; rfl
      · have := s9 b o e
        rw [upd_ne (ne_of_none this hq), upd_ne (ne_of_none this hq)]
        exact this
theorem scNumbers : FnScope ["deck"] ["deck"] (defScope sNumbers) := ⟨rfl, rfl, rfl, by decide +kernel, rfl, by decide +kernel, by decide +kernel⟩
theorem ok_numbers {f fT fC fL fW fN : Addr} {fd fdT fdC fdL fdW fdN : FuncData} (F : Fun K "_law_numbers" "_law_numbers" sNumbers f fd) (hlen : mg "len" = none) (hmax : mg "max" = none) (hrange : mg "range" = none)
    (FT : Fun K "_law_take" "_law_take" sTake fT fdT) (bT : Binds K fdT ["deck", "many"] []) (mT : mg "_law_take" = some (.ref fT))
    (FC : Fun K "_law_common" "_law_common" sCommon fC fdC) (bC : Binds K fdC ["one", "other"] []) (mC : mg "_law_common" = some (.ref fC))
    (FL : Fun K "_law_least" "_law_least" sLeast fL fdL) (bL : Binds K fdL ["top", "below"] []) (mL : mg "_law_least" = some (.ref fL))
    (FW : Fun K "_law_whole_number" "_law_whole_number" sWhole fW fdW) (bW : Binds K fdW ["deck"] []) (mW : mg "_law_whole_number" = some (.ref fW))
    (FN : Fun K "_law_number" "_law_number" sNumber fN fdN) (bN : Binds K fdN ["deck"] []) (mN : mg "_law_number" = some (.ref fN)) : FnOk P w K mg base CX0 4 f fd ["deck"] spNumbers := by
  have GT : FnOk P w K mg base CX0 3 fT fdT ["deck", "many"] spTake := (ok_take FT hlen).mono (by decide)
  have GN : FnOk P w K mg base CX0 3 fN fdN ["deck"] spNumber := ok_number FN hlen hmax FT bT mT FC bC mC FL bL mL FW bW mW
  refine F.ok scNumbers (fun vs H Q E h => ?_) (fun cdv A outer s H vs Q E hr h => ?_)
  · obtain ⟨d, c, rfl, _⟩ := h
    rfl
  · obtain ⟨d, c, rfl, D, k⟩ := h
    refine ⟨_, pss_one (ps_ret (pe_lc (x := "k") (cap := ["deck"]) (js := [0]) ⟨rfl, by decide +kernel, by decide +kernel, rfl, (by show ∀ p ∈ (_ : List (Str × NameKind)), p.2 = NameKind.free → List.lookup p.1 (defScope sNumbers).names = some NameKind.cell; decide +kernel), by decide +kernel, by decide +kernel, by decide +kernel⟩ rfl rfl (fun _ _ h => h) (pi_range1 rfl hrange (pa_cons (pe_op op_add pe_int (pe_call GT hr (by rfl) mT FT.kp bT .nil pass0 (pa_cons (pv 0) (pa_cons pe_int pa_nil)))) pa_nil))
        (fun _ _ _ _ => ⟨pif_nil, pe_call GN hr (by rfl) mN FN.kp bN .nil pass0 (pa_cons (pv 1) pa_nil)⟩))), ?_⟩
    refine ⟨_, rfl, d, c, 4, rfl, D, ⟨by decide, by decide⟩, fun r0 H1 a0 a1 D1 K1 => ?_⟩
    refine ⟨_, _, rfl, rfl, _, rfl, by omega, by omega, fun i m ys H2 => m = (1 + r0).toNat - i ∧ i ≤ (1 + r0).toNat ∧ ∃ ps : List Addr, ys = ps.map V.ref ∧ ps.length = i ∧ (∀ p ∈ ps, ∃ b, NumAt H2 p b) ∧ DeckAt H2 d c ∧ KeptBut d c H H2, ⟨_, rfl, by omega, [], rfl, rfl, (fun p m => by cases m), D1, K1⟩, ?_⟩
    rintro i m ys H2 ⟨rfl, hi, ps, rfl, hpl, hps, D2, K2⟩
    refine ⟨by rw [List.length_map, hpl, sizeLine_eq]; omega, ?_⟩
    by_cases hn : i < (1 + r0).toNat
    · refine .inr ⟨hn, fun x H' yl => ?_⟩
      obtain ⟨rfl, rfl⟩ := yl
      refine tNoIf_of ?_
      refine ⟨_, rfl, d, c, rfl, D2, fun x y p H3 hy hg hx1 hy1 hp hp3 D3 K3 => ?_⟩
      refine ⟨(1 + r0).toNat - (i + 1), by omega, rfl, by omega, ps ++ [p], by simp, by simp [hpl], fun q hq => ?_, D3, K2.trans K3⟩
      rcases List.mem_append.mp hq with hq | hq
      · obtain ⟨b, nb⟩ := hps q hq
        exact ⟨b, nb.kept D2 K3⟩
      · have e : q = p := by simpa using hq
        subst e
        exact ⟨(x, y), hp3, hy, hg, hx1, hy1⟩
    refine .inl ⟨show (1 + r0).toNat ≤ i by omega, fun l hl => ?_⟩
    refine k ps l _ (by omega) (by omega) (fun p hp => ?_) (KeptBut.free K2 D2 hl) upd_same (D2.new hl) (K2.trans (Same.but (same_new hl)))
    obtain ⟨b, nb⟩ := hps p hp
    exact ⟨b, nb.same (same_new hl)⟩
end
end K08
set_option maxHeartbeats 4000000
namespace K08
open PySem L2 Frac Lw Dig PySem.NumText Nm
open Ord
theorem roomW_eq (w : Str) : roomW w = roomOf w := by
  have e : mergeK [] [((Sum.inr (Str.ofString "order") : Key), V.int 1), (Sum.inr (Str.ofString "case"), V.int 2), (Sum.inr (Str.ofString "mark"), V.int 3)] = [(Sum.inr (Str.ofString "order"), V.int 1), (Sum.inr (Str.ofString "case"), V.int 2), (Sum.inr (Str.ofString "mark"), V.int 3)] := by rfl
  have n1 : Str.ofString "order" ≠ Str.ofString "case" := by decide +kernel
  have n2 : Str.ofString "order" ≠ Str.ofString "mark" := by decide +kernel
  have n3 : Str.ofString "case" ≠ Str.ofString "mark" := by decide +kernel
  unfold roomW roomOf S
  rw [e]
  unfold valV
  by_cases h1 : Str.ofString "order" = w
  · subst h1; simp [n1, n2]
  · by_cases h2 : Str.ofString "case" = w
    · subst h2; simp [h1]
    · by_cases h3 : Str.ofString "mark" = w
      · subst h3; simp [h1, h2, Ne.symm n3]
      · simp [h1, h2, h3, Ne.symm h2, Ne.symm h3]
theorem room_eq (ws : List Str) : room ws = rooms ws := by
  unfold room rooms
  congr 1
  exact List.map_congr_left fun w _ => roomW_eq w
abbrev dS (ws : List Str) : PyData := .list (ws.map PyData.str)
def ROpts : List PyData → PyData → Prop := fun as d => ∃ want : Str, as = [.str want] ∧ d = .list ((optsOf want).map dS)
def stAt (i : Nat) : Stmt := (defBody s__law_options).getD i (.Pass ⟨0, 0, 0, 0⟩)
def inIf (s : Stmt) (j : Nat) : Stmt := match s with | .If _ b _ _ => b.getD j (.Pass ⟨0, 0, 0, 0⟩) | s => s
def valOf (s : Stmt) : Expr := match s with | .Return (some e) _ => e | .Assign _ e _ => e | _ => .Constant .none 0 ⟨0, 0, 0, 0⟩
def rightOf (e : Expr) : Expr := match e with | .BinOp _ _ b _ => b | e => e
@[irreducible] def eA : Expr := valOf (inIf (stAt 0) 0)
@[irreducible] def eB : Expr := rightOf (valOf (inIf (stAt 0) 1))
@[irreducible] def eC : Expr := valOf (inIf (stAt 1) 0)
@[irreducible] def eD : Expr := rightOf (valOf (inIf (stAt 1) 1))
@[irreducible] def eE : Expr := valOf (stAt 2)
def dA : PyData := (.list [(.list [(.str (Str.ofString "like"))]), (.list [(.str (Str.ofString "up")), (.str (Str.ofString "field"))]), (.list [(.str (Str.ofString "down")), (.str (Str.ofString "field"))]), (.list [(.str (Str.ofString "then")), (.str (Str.ofString "order")), (.str (Str.ofString "order"))]), (.list [(.str (Str.ofString "turn")), (.str (Str.ofString "order"))])])
theorem litA : litD 6 eA = some dA := by kernel_rfl
def dB : PyData := (.list [(.list [(.str (Str.ofString "pick")), (.str (Str.ofString "case")), (.str (Str.ofString "order")), (.str (Str.ofString "order"))])])
theorem litB : litD 6 eB = some dB := by kernel_rfl
def dC : PyData := (.list [(.list [(.str (Str.ofString "same")), (.str (Str.ofString "field"))]), (.list [(.str (Str.ofString "both")), (.str (Str.ofString "mark"))]), (.list [(.str (Str.ofString "either")), (.str (Str.ofString "mark"))]), (.list [(.str (Str.ofString "not")), (.str (Str.ofString "case"))]), (.list [(.str (Str.ofString "and")), (.str (Str.ofString "case")), (.str (Str.ofString "case"))])])
theorem litC : litD 6 eC = some dC := by kernel_rfl
def dD : PyData := (.list [(.list [(.str (Str.ofString "or")), (.str (Str.ofString "case")), (.str (Str.ofString "case"))])])
theorem litD_ : litD 6 eD = some dD := by kernel_rfl
def dE : PyData := (.list [(.list [(.str (Str.ofString "under")), (.str (Str.ofString "field")), (.str (Str.ofString "number"))]), (.list [(.str (Str.ofString "is")), (.str (Str.ofString "field")), (.str (Str.ofString "number"))])])
theorem litE : litD 6 eE = some dE := by kernel_rfl
theorem body_opts : defBody s__law_options = [Stmt.If (.Compare (.Name "want" ⟨202, 7, 202, 11⟩) [.Eq] [.Constant (.str "order") 0 ⟨202, 15, 202, 22⟩] ⟨202, 7, 202, 22⟩) [.Assign [.Name "some" ⟨203, 8, 203, 12⟩] eA ⟨203, 8, 203, 108⟩, .Return (some (.BinOp (.Name "some" ⟨204, 15, 204, 19⟩) .Add eB ⟨204, 15, 204, 58⟩)) ⟨204, 8, 204, 58⟩] [] ⟨202, 4, 204, 58⟩, Stmt.If (.Compare (.Name "want" ⟨205, 7, 205, 11⟩) [.Eq] [.Constant (.str "case") 0 ⟨205, 15, 205, 21⟩] ⟨205, 7, 205, 21⟩) [.Assign [.Name "some" ⟨206, 8, 206, 12⟩] eC ⟨206, 8, 206, 114⟩, .Return (some (.BinOp (.Name "some" ⟨207, 15, 207, 19⟩) .Add eD ⟨207, 15, 207, 46⟩)) ⟨207, 8, 207, 46⟩] [] ⟨205, 4, 207, 46⟩, .Return (some eE) ⟨208, 4, 208, 68⟩] := by kernel_rfl
section
variable {P : Program} {w : World} {K : PySem.W.Frag} {mg : Str → Option Value} {base : Heap}
theorem ev_eqS {σ : St} {G : Hp} {ta tb : TE} {x y : Str} (ha : Ev K ta σ G (.str x)) (hb : Ev K tb σ G (.str y)) : Ev K (tOp rEq ta tb) σ G (.bool (decide (x = y))) :=
  ev_op ha hb fun G1 H u v Q s1 s2 hx hy k => by
    rw [hx.str, hy.str]
    refine ⟨rfl, ?_⟩
    have e : decide (V.str x = V.str y) = decide (x = y) := by
      by_cases h : x = y
      · rw [decide_eq_true h, decide_eq_true (by rw [h])]
      · rw [decide_eq_false h, decide_eq_false fun z => h (by injection z)]
    rw [e]
    exact k _ G1 H (Grow.refl s2) (dat_bl _)
theorem ev_cat {σ : St} {G : Hp} {ta tb : TE} {xs ys : List PyData} (ha : Ev K ta σ G (.list xs)) (hb : Ev K tb σ G (.list ys)) (hl : xs.length + ys.length ≤ sizeLine) : Ev K (tOp rCat ta tb) σ G (.list (xs ++ ys)) :=
  ev_op ha hb fun G1 H u v Q s1 s2 hx hy k => by
    obtain ⟨p, us, rfl, hp, hus⟩ := hx.lst
    obtain ⟨q, vs, rfl, hq, hvs⟩ := hy.lst
    refine ⟨p, q, us, vs, rfl, rfl, s2 _ _ hp, s2 _ _ hq, by rw [hus.length, hvs.length]; exact hl, fun l hl => ?_⟩
    have g := grow_new (o := .lst (us ++ vs)) s2 hl
    exact k _ _ _ g (dat_lst upd_same ((dats_append hus hvs).same g.gg))
theorem ok_opts (T : Top K mg) : FnOk P w K mg base CX0 1 T.f__law_options T.fd__law_options ["want"] (spP K ROpts) := by
  refine T.F__law_options.ok sc__law_options (fun vs H Q E h => ?_) (fun cdv A outer s H vs Q E hr h => ?_)
  · obtain ⟨G, as, d, sg, hv, ⟨want, rfl, _⟩, _⟩ := h
    rw [hv.length]; rfl
  · obtain ⟨G, as, d, sg, hv, ⟨want, rfl, rfl⟩, k⟩ := h
    obtain ⟨v1, r1, rfl, h1, hv⟩ := hv.cons
    cases hv.nil
    rw [body_opts]
    refine ⟨_, pss_cons (ps_if (pt_cmpR op_eq (pv 0) pe_str (nomark _)) (pss_cons (ps_set (i := 1) sc__law_options.nd rfl (Or.inl rfl) (pe_lit litA) (hs := litD_swaps litA)) (pss_one (ps_ret (pe_op op_cat (pv 1) (pe_lit litB))))) pss_nil)
      (pss_cons (ps_if (pt_cmpR op_eq (pv 0) pe_str (nomark _)) (pss_cons (ps_set (i := 1) sc__law_options.nd rfl (Or.inl rfl) (pe_lit litC) (hs := litD_swaps litC)) (pss_one (ps_ret (pe_op op_cat (pv 1) (pe_lit litD_))))) pss_nil)
      (pss_one (ps_ret (pe_lit litE)))), ?_⟩
    refine if_ev (evt_test (ev_eqS (ev_var rfl h1) ev_str)) sg (fun e G1 H1 g1 => ?_) (fun e G1 H1 g1 => ?_)
    · have e1 := of_decide_eq_true e
      subst e1
      refine asg_ev ev_lit g1.gh fun v G2 H2 g2 hv => ?_
      refine ret_ev (ev_cat (ev_var rfl hv) ev_lit (by decide)) g2.gh fun v G3 H3 g3 hv => k v G3 H3 ((g1.trans g2).trans g3) ?_
      have q : optsOf (Str.ofString "order") = [[S "like"], [S "up", S "field"], [S "down", S "field"], [S "then", S "order", S "order"], [S "turn", S "order"]] ++ [[S "pick", S "case", S "order", S "order"]] := by decide +kernel
      rw [q, List.map_append]
      exact hv
    · have e1 := of_decide_eq_false e
      have h1' := h1.same g1.gg
      refine if_ev (evt_test (ev_eqS (ev_var rfl h1') ev_str)) g1.gh (fun e' G2 H2 g2 => ?_) (fun e' G2 H2 g2 => ?_)
      · have e2 := of_decide_eq_true e'
        subst e2
        refine asg_ev ev_lit g2.gh fun v G3 H3 g3 hv => ?_
        refine ret_ev (ev_cat (ev_var rfl hv) ev_lit (by decide)) g3.gh fun v G4 H4 g4 hv => k v G4 H4 (((g1.trans g2).trans g3).trans g4) ?_
        have q : optsOf (Str.ofString "case") = [[S "same", S "field"], [S "both", S "mark"], [S "either", S "mark"], [S "not", S "case"], [S "and", S "case", S "case"]] ++ [[S "or", S "case", S "case"]] := by decide +kernel
        rw [q, List.map_append]
        exact hv
      · have e2 := of_decide_eq_false e'
        refine ret_ev (σ := []) ev_lit g2.gh fun v G3 H3 g3 hv => k v G3 H3 ((g1.trans g2).trans g3) ?_
        have q : optsOf want = [[S "under", S "field", S "number"], [S "is", S "field", S "number"]] := by
          unfold optsOf; rw [if_neg e1, if_neg e2]
        rw [q]
        exact hv
end
end K08
set_option maxHeartbeats 4000000
namespace K08
open PySem L2 Frac Lw Dig PySem.NumText Nm
open Ord
abbrev dF (p : Int × Int) : PyData := .tuple [.int p.1, .int p.2]
def Want (p : Str) : Prop := p = S "order" ∨ p = S "case" ∨ p = S "mark" ∨ p = S "field" ∨ p = S "number"
theorem pl_want {n : Nat} {p : Str} (h : Want p) : Pl n (.str p) := by
  refine ⟨?_, by unfold PyData.depth; omega, by unfold noBool; rfl⟩
  unfold PyData.canLay0
  rcases h with rfl | rfl | rfl | rfl | rfl <;> decide +kernel
def spOrder (K : PySem.W.Frag) : Sp := fun vs H Q _ => ∃ (d c : Addr) (vb vn : V) (most : Int) (G : Hp) (book : List Str) (nums : List (Int × Int)), vs = [.ref d, vb, vn, .int most] ∧ DeckAt H d c ∧ (Same G H ∧ G d = none ∧ G c = none) ∧
  Dat K G vb (.tuple (book.map PyData.str)) ∧ Dat K G vn (.list (nums.map dF)) ∧ (1 ≤ book.length ∧ book.length ≤ 4 ∧ 1 ≤ nums.length ∧ nums.length ≤ 8 ∧ 1 ≤ most ∧ most ≤ 100) ∧
  ∀ (ws : List Wd) (v : V) (G' H' : Hp), IsOrd (· ∈ book) (fun a b => (a, b) ∈ nums) ws → (ws.length : Int) ≤ most → Same G G' → Same G' H' → G' d = none → G' c = none → Dat K G' v (.tuple (ws.map Wd.d)) → DeckAt H' d c → KeptBut d c H H' → Q v H'
theorem dats_strs {K : PySem.W.Frag} {G : Hp} : ∀ ws : List Str, Dats K G (ws.map V.str) (ws.map PyData.str)
  | [] => dats_nil
  | w :: ws => dats_cons (dat_str w) (dats_strs ws)
theorem datStrs {K : PySem.W.Frag} {G : Hp} : ∀ {ws : List Str} {xs : List V}, Dats K G xs (ws.map PyData.str) → xs = ws.map V.str
  | [], _, h => h.nil
  | w :: ws, _, h => by
    obtain ⟨y, ys, rfl, hd, r⟩ := h.cons
    rw [hd.str, datStrs r]; rfl
theorem fm_filter {α β : Type} (p : α → Bool) (g : α → β) : ∀ l : List α, l.filterMap (fun o => if p o = true then some (g o) else none) = (l.filter p).map g
  | [] => rfl
  | x :: l => by
    rw [List.filterMap_cons, List.filter_cons]
    cases h : p x with
    | true => simp [fm_filter p g l]
    | false => simp [fm_filter p g l]
theorem opts_few (want : Str) : (optsOf want).length < sizeLine := by
  have : (optsOf want).length ≤ 6 := by unfold optsOf; split <;> (try split) <;> decide
  exact Nat.lt_of_le_of_lt this (by decide)
theorem pick_rev {α : Type} (x : α) (ps : List α) (h : ps.length ≤ 3) : pickV (x :: ps) none (some 0) (some (-1)) = ps.reverse := by
  match ps, h with
  | [], _ => rfl
  | [a], _ => kernel_rfl
  | [a, b], _ => kernel_rfl
  | [a, b, c], _ => kernel_rfl
  | _ :: _ :: _ :: _ :: _, h => simp at h
theorem cut_one {α : Type} [Inhabited α] (xs : List V) : cutV xs (some 1) none = xs.drop 1 := by
  unfold cutV
  have e1 : HT.sIx xs.length 0 (some 1) = min 1 xs.length := by
    have := HT.sIx_nat xs.length 0 1
    exact this
  have e2 : HT.sIx xs.length xs.length none = xs.length := rfl
  rw [e1, e2]
  cases xs with
  | nil => rfl
  | cons a r =>
    have : min 1 (a :: r).length = 1 := by simp
    rw [this]
    exact List.take_of_length_le (by simp)
section
variable {P : Program} {w : World} {K : PySem.W.Frag} {mg : Str → Option Value} {base : Heap}
theorem ev_room {σ : St} {G : Hp} {te : TE} {E : XK} {ws : List Str} (h : Ev K te σ G (dS ws)) (hl : ws.length ≤ 1000) : Ev K (tCall (spRoom K) [] E (tCons te tNil)) σ G (.int (rooms ws)) :=
  fun G1 H s1 s2 Q k => h G1 H s1 s2 _ fun v G2 H2 g2 hv => by
    obtain ⟨p, xs, rfl, hp, hxs⟩ := hv.lst
    have e := datStrs hxs
    subst e
    exact ⟨p, ws, rfl, g2.gh _ _ hp, hl, fun H3 s3 => by rw [room_eq]; exact k _ G2 H3 (g2.trans (grow_h g2.gh s3)) (dat_int _)⟩
theorem ev_drop1 {σ : St} {G : Hp} {te : TE} {ds : List PyData} (h : Ev K te σ G (.list ds)) : Ev K (tSl (rSlL K) te (tPart (tC (.int 1))) tNoPart) σ G (.list (ds.drop 1)) :=
  fun G1 H s1 s2 Q k => h G1 H s1 s2 _ fun v G2 H2 g2 hv => by
    obtain ⟨p, xs, rfl, hp, hxs⟩ := hv.lst
    refine ⟨1, rfl, p, xs, rfl, SqL.of (g2.gh _ _ hp), fun l hl => ?_⟩
    have g := grow_new (o := .lst (cutV xs (some 1) none)) g2.gh hl
    refine k _ _ _ (g2.trans g) (dat_lst upd_same ?_)
    have q := dats_drop 1 (hxs.same g.gg)
    rw [← cut_one (α := Nat)] at q
    exact q
theorem ok_order (T : Top K mg) : FnOk P w K mg base CX0 2 T.f__law_order T.fd__law_order ["deck", "book", "numbers", "most"] (spOrder K) := by
  have G__law_take : FnOk P w K mg base CX0 1 T.f__law_take T.fd__law_take ["deck", "many"] spTake := ok_take T.F__law_take T.len_
  have G__law_room : FnOk P w K mg base CX0 1 T.f__law_room T.fd__law_room ["due"] (spRoom K) := ok_room T.F__law_room T.sum_
  have G__law_options : FnOk P w K mg base CX0 1 T.f__law_options T.fd__law_options ["want"] (spP K ROpts) := ok_opts T
  refine T.F__law_order.ok sc__law_order (fun vs H Q E h => ?_) (fun cdv A outer s H vs Q E hr h => ?_)
  · obtain ⟨d, c, vb, vn, most, G, book, nums, rfl, _⟩ := h
    rfl
  · obtain ⟨d, c, vb, vn, most, G, book, nums, rfl, D, ⟨sg, gd, gc⟩, hb, hn, ⟨b1, b2, n1, n2, m1, m2⟩, fin⟩ := h
    have hu := hr.units
    have zl : (2000 : Nat) ≤ sizeLine := by decide
    refine ⟨_, (pss_cons (ps_set (i := 4) sc__law_order.nd rfl (Or.inl rfl) (pe_lst pa_nil))
      (pss_cons (ps_set (i := 5) sc__law_order.nd rfl (Or.inl rfl) (pe_lst (pa_cons pe_str pa_nil st_Constant)))
      (pss_cons (ps_while PassesOwn.never (pt_cmpR (op_neDK (K := K) rfl hu) (pv 5) (pe_lst pa_nil) (nomark _)) (pss_cons (ps_set (i := 6) sc__law_order.nd rfl (Or.inl rfl) (pe_bm0 PySem.F.plainAttrs_list PySem.F.slot_list_pop PySem.F.type_list_pop mt_pop (pv 5)))
      (pss_one (ps_if (pt_cmpR op_eq (pv 6) pe_str (nomark _)) (pss_one (ps_expr (pe_bm PySem.F.plainAttrs_list PySem.F.slot_list_append PySem.F.type_list_append mt_append (pv 4) (pa_cons (pe_ix (ix_tupK (K := K) rfl) (pv 1) (pe_call G__law_take hr (by rfl) T.m__law_take T.F__law_take.kp T.b__law_take .nil pass0 (pa_cons (pv 0) (pa_cons (pe_callB (call_lenK (K := K) rfl) (by rfl) T.len_ PySem.boot_len (pa_cons (pv 1) pa_nil st_Name)) pa_nil st_Call) st_Name)) (fun _ _ => rfl)) pa_nil st_Subscript)))) (pss_one (ps_if (pt_cmpR op_eq (pv 6) pe_str (nomark _)) (pss_one (ps_expr (pe_bm PySem.F.plainAttrs_list PySem.F.slot_list_append PySem.F.type_list_append mt_append (pv 4) (pa_cons (pe_ix (ix_listK (K := K) rfl) (pv 2) (pe_call G__law_take hr (by rfl) T.m__law_take T.F__law_take.kp T.b__law_take .nil pass0 (pa_cons (pv 0) (pa_cons (pe_callB (call_lenK (K := K) rfl) (by rfl) T.len_ PySem.boot_len (pa_cons (pv 2) pa_nil st_Name)) pa_nil st_Call) st_Name)) (fun _ _ => rfl)) pa_nil st_Subscript)))) (pss_cons (ps_set (i := 7) sc__law_order.nd rfl (Or.inr rfl) (pe_op op_sub (pe_op op_sub (pv 3) (pe_callB (call_lenK (K := K) rfl) (by rfl) T.len_ PySem.boot_len (pa_cons (pv 4) pa_nil st_Name))) (pe_call G__law_room hr (by rfl) T.m__law_room T.F__law_room.kp T.b__law_room .nil pass0 (pa_cons (pv 5) pa_nil st_Name))))
      (pss_cons (ps_lc (x := "option") (cap := ["room"]) (js := [7]) (i := 8) (y := "some") ⟨rfl, by decide +kernel, by decide +kernel, rfl, (by show ∀ p ∈ (_ : List (Str × NameKind)), p.2 = NameKind.free → List.lookup p.1 (defScope s__law_order).names = some NameKind.cell; decide +kernel), by decide +kernel, by decide +kernel, by decide +kernel⟩ rfl rfl (fun _ _ h => h) sc__law_order.nd rfl rfl (pi_list (pe_call G__law_options hr (by rfl) T.m__law_options T.F__law_options.kp T.b__law_options .nil pass0 (pa_cons (pv 6) pa_nil st_Name))) (fun _ _ _ _ => ⟨(pif_one (pt_cmpR op_le (pe_op op_add pe_int (pe_call G__law_room hr (by rfl) T.m__law_room T.F__law_room.kp T.b__law_room .nil pass0 (pa_cons (pe_slice (sl_listK (K := K) rfl) (pv 0) (po_some pe_int) po_none) pa_nil st_Subscript))) (pv 1) (nomark _))), (pv 0)⟩))
      (pss_cons (ps_set (i := 9) sc__law_order.nd rfl (Or.inl rfl) (pe_ix (ix_listK (K := K) rfl) (pv 8) (pe_op op_mod (pe_call G__law_take hr (by rfl) T.m__law_take T.F__law_take.kp T.b__law_take .nil pass0 (pa_cons (pv 0) (pa_cons pe_int pa_nil st_Constant) st_Name)) (pe_callB (call_lenK (K := K) rfl) (by rfl) T.len_ PySem.boot_len (pa_cons (pv 8) pa_nil st_Name))) (fun _ _ => rfl)))
      (pss_cons (ps_expr (pe_bm PySem.F.plainAttrs_list PySem.F.slot_list_append PySem.F.type_list_append mt_append (pv 4) (pa_cons (pe_ix (ix_listK (K := K) rfl) (pv 9) pe_int (fun _ _ => rfl)) pa_nil st_Subscript)))
      (pss_one (ps_set (i := 5) sc__law_order.nd rfl (Or.inl rfl) (pe_op op_cat (pv 5) (pe_slice3 (pv 9) po_none (po_some pe_int) (po_some (pe_un un_neg pe_int))))))))))))))))
      (pss_one (ps_ret (pe_callTy (call_tupleK (K := K) rfl) (by rfl) T.tuple_ bTup (pa_cons (pv 4) pa_nil st_Name))))))) , ?_⟩
    refine ⟨(by show 0 ≤ sizeLine; decide), fun pw hpw => ?_⟩
    refine ⟨(by show 1 ≤ sizeLine; decide), fun pd0 hpd0 => ?_⟩
    have nwd := D.free hpw
    have npd := (D.new (o := .lst []) hpw).free hpd0
    have npp : pw ≠ pd0 := ne_of_none (H := L2.upd H pw (.lst [])) upd_same hpd0
    have s2 : Same H (L2.upd (L2.upd H pw (.lst [])) pd0 (.lst [V.str (S "order")])) := (same_new hpw).trans (same_new hpd0)
    have er0 : ((([] : List Wd).length : Nat) : Int) + rooms [S "order"] ≤ most := by
      have e : rooms [S "order"] = 1 := by decide +kernel
      rw [e]; show (0 : Int) + 1 ≤ most; omega
    refine while_by (fun σ H' => ∃ (ws : List Wd) (st : List Str) (pd : Addr) (xs : List V) (G' : Hp) (v6 v7 v8 v9 : Option V), σ = [some (.ref d), some vb, some vn, some (.int most), some (.ref pw), some (.ref pd), v6, v7, v8, v9] ∧
        Run (· ∈ book) (fun a b => (a, b) ∈ nums) [S "order"] ws st ∧ (∀ p ∈ st, Want p) ∧ (ws.length : Int) + rooms st ≤ most ∧ (H' pw = some (.lst xs) ∧ Dats K G' xs (ws.map Wd.d) ∧ H' pd = some (.lst (st.reverse.map V.str))) ∧ (pw ≠ pd ∧ pd ≠ d ∧ pd ≠ c ∧ H pd = none) ∧
        (Same G G' ∧ Same G' H' ∧ G' d = none ∧ G' c = none ∧ G' pw = none ∧ G' pd = none) ∧ DeckAt H' d c ∧ KeptBut d c H H') (fun σ H' => match H' pw with | some (.lst xs) => 200 - xs.length | _ => 0)
      ⟨[], [S "order"], pd0, [], G, _, _, _, _, rfl, .nil, fun p hp => .inl (List.mem_singleton.mp hp), er0, ⟨by rw [upd_ne npp, upd_same], dats_nil, by rw [upd_same]; rfl⟩, ⟨npp, npd.1, npd.2, (same_new hpw).free hpd0⟩,
        ⟨Same.refl _, sg.trans s2, gd, gc, sg.free hpw, sg.free ((same_new hpw).free hpd0)⟩, D.same s2, Same.but s2⟩ ?_ ?_
    · rintro σ H1 ⟨ws, st, pd, xs, G1, v6, v7, v8, v9, rfl, run, hw, hroom, ⟨h1, h2, h3⟩, ⟨q1, q2, q3, q4⟩, ⟨g1, g2, g3, g4, g5, g6⟩, D1, K1⟩
      have hxl := h2.length
      rw [List.length_map] at hxl
      have hrg := rooms_ge st
      refine ⟨_, rfl, (by show 0 ≤ sizeLine; decide), fun e he => ?_⟩
      have npe : pd ≠ e := ne_of_none h3 he
      have nwe : pw ≠ e := ne_of_none h1 he
      have s1e : Same H1 (L2.upd H1 e (.lst [])) := same_new he
      have pls : Pl 2 (dS st.reverse) := pl_lst fun x hx => by
        obtain ⟨p, hp, rfl⟩ := List.mem_map.mp hx
        exact pl_want (hw p (List.mem_reverse.mp hp))
      have pl0 : Pl 2 (.list []) := pl_lst fun x hx => by cases hx
      refine ⟨_, dS st.reverse, .list [], Same.refl _, dat_lst (s1e _ _ h3) (dats_strs _), dat_lst upd_same dats_nil, ⟨pls.shaped (by decide), pl0.shaped (by decide), pls.mix pl0⟩, _, rfl, ?_⟩
      have h1' := s1e _ _ h1
      have h3' := s1e _ _ h3
      have D1' := D1.same s1e
      have K1' := K1.trans (Same.but (d := d) (c := c) s1e)
      have g2' := g2.trans s1e
      generalize L2.upd H1 e (.lst []) = H2 at h1' h3' D1' K1' g2'
      cases st with
      | nil =>
        rw [show PySem.Spec.same (dS ([] : List Str).reverse) (.list []) = true from PySem.Spec.same_self _]
        refine iteF ?_
        refine ⟨_, rfl, pw, _, rfl, .inl ⟨SqL.of h1', fun p hp => ?_⟩⟩
        have g := grow_new (o := .tup xs) g2' hp
        have nf := D1'.free hp
        exact fin ws _ _ _ run (by simp [rooms] at hroom; omega) (g1.trans g.gg) g.gh (upd_none g3 (Ne.symm nf.1)) (upd_none g4 (Ne.symm nf.2)) (dat_tup (SqT.of upd_same) (h2.same g.gg)) (D1'.new hp) (K1'.trans (Same.but (same_new hp)))
      | cons want st' =>
        have esf : PySem.Spec.same (dS (want :: st').reverse) (.list []) = false := same_ne fun z => by
          have z' : (want :: st').reverse.map PyData.str = [] := by injection z
          simp at z'
        rw [esf]
        refine iteT ?_
        rw [rooms_cons] at hroom hrg
        have hrg' := rooms_ge st'
        have hwr := roomOf_ge want
        have hwant := hw want List.mem_cons_self
        have hw' : ∀ p ∈ st', Want p := fun p hp => hw p (List.mem_cons_of_mem _ hp)
        refine ⟨_, rfl, .inl ⟨rfl, _, SqL.of h3'⟩, pd, _, V.str want, rfl, rfl, h3', by rw [List.reverse_cons, List.map_append]; simp, ?_⟩
        have edl : ((want :: st').reverse.map V.str).dropLast = st'.reverse.map V.str := by rw [List.reverse_cons, List.map_append]; simp
        have h3'' : L2.upd H2 pd (.lst ((want :: st').reverse.map V.str).dropLast) pd = some (.lst (st'.reverse.map V.str)) := by rw [upd_same, edl]
        have h1'' : L2.upd H2 pd (.lst ((want :: st').reverse.map V.str).dropLast) pw = some (.lst xs) := by rw [upd_ne q1]; exact h1'
        have D3 := Nm.DeckAt.upd (o := .lst ((want :: st').reverse.map V.str).dropLast) D1' q2 q3
        have g23 := same_upd (o := .lst ((want :: st').reverse.map V.str).dropLast) g2' g6
        have K3 : KeptBut d c H (L2.upd H2 pd (.lst ((want :: st').reverse.map V.str).dropLast)) := fun b o eb hbd hbc => by
          rw [upd_ne (ne_of_none eb q4)]; exact K1' b o eb hbd hbc
        (try dsimp only)
        generalize L2.upd H2 pd (.lst ((want :: st').reverse.map V.str).dropLast) = H3 at h3'' h1'' D3 g23 K3
        have hmu : (match H1 pw with | some (.lst xs) => 200 - xs.length | _ => 0) = 200 - xs.length := by rw [h1]
        clear h1 h1' h3 h3' D1 D1' g2 g2' K1 K1' s1e he npe nwe pls
        have next : ∀ (x : Wd) (st2 : List Str) (pd2 : Addr) (y : V) (G4 H4 : Hp) (v6 v7 v8 v9 : Option V), Step (· ∈ book) (fun a b => (a, b) ∈ nums) (want :: st') x st2 → (∀ p ∈ st2, Want p) → (ws.length : Int) + 1 + rooms st2 ≤ most →
            Same G1 G4 → Same G4 H4 → G4 d = none → G4 c = none → G4 pw = none → G4 pd2 = none → H4 pw = some (.lst (xs ++ [y])) → Dat K G4 y x.d → H4 pd2 = some (.lst (st2.reverse.map V.str)) → pw ≠ pd2 → pd2 ≠ d → pd2 ≠ c → H pd2 = none → DeckAt H4 d c → KeptBut d c H H4 →
            (∃ (ws : List Wd) (st : List Str) (pd : Addr) (xs : List V) (G' : Hp) (w6 w7 w8 w9 : Option V), [some (.ref d), some vb, some vn, some (.int most), some (.ref pw), some (.ref pd2), v6, v7, v8, v9] = [some (.ref d), some vb, some vn, some (.int most), some (.ref pw), some (.ref pd), w6, w7, w8, w9] ∧
        Run (· ∈ book) (fun a b => (a, b) ∈ nums) [S "order"] ws st ∧ (∀ p ∈ st, Want p) ∧ (ws.length : Int) + rooms st ≤ most ∧ (H4 pw = some (.lst xs) ∧ Dats K G' xs (ws.map Wd.d) ∧ H4 pd = some (.lst (st.reverse.map V.str))) ∧ (pw ≠ pd ∧ pd ≠ d ∧ pd ≠ c ∧ H pd = none) ∧
        (Same G G' ∧ Same G' H4 ∧ G' d = none ∧ G' c = none ∧ G' pw = none ∧ G' pd = none) ∧ DeckAt H4 d c ∧ KeptBut d c H H4) := fun x st2 pd2 y G4 H4 v6 v7 v8 v9 hst hw2 hr2 a1 a2 a3 a4 a5 a6 a7 a8 a9 a10 a11 a12 a13 a14 a15 =>
          ⟨ws ++ [x], st2, pd2, xs ++ [y], G4, v6, v7, v8, v9, rfl, run.snoc hst, hw2, by rw [List.length_append]; show ((ws.length + 1 : Nat) : Int) + rooms st2 ≤ most; omega, ⟨a7, by rw [List.map_append]; exact dats_snoc (h2.same a1) a8, a9⟩, ⟨a10, a11, a12, a13⟩, ⟨g1.trans a1, a2, a3, a4, a5, a6⟩, a14, a15⟩
        have less : ∀ (H4 : Hp) (y : V), H4 pw = some (.lst (xs ++ [y])) → (match H4 pw with | some (.lst xs) => 200 - xs.length | _ => 0) < 200 - xs.length := fun H4 y e4 => by
          rw [e4]
          show 200 - (xs ++ [y]).length < 200 - xs.length
          rw [List.length_append]; show 200 - (xs.length + 1) < _; omega
        refine ⟨_, rfl, rfl, _, rfl, ?_⟩
        by_cases hf : want = S "field"
        · subst hf
          rw [decide_eq_true rfl]
          refine iteT ?_
          obtain ⟨pb, bs, rfl, hpb, hbs⟩ := hb.tup
          have eb := datStrs hbs
          subst eb
          have hpb1 := (g1.trans g23).tup hpb
          refine ⟨_, rfl, .inl ⟨rfl, _, SqL.of h1''⟩, _, rfl, _, rfl, _, rfl, pb, _, rfl, .inr hpb1, d, c, _, rfl, D3, ⟨by rw [List.length_map]; omega, by rw [List.length_map]; omega⟩, fun r H4 r0 r1 D4 K4 => ?_⟩
          rw [List.length_map] at r1
          have hi : r.toNat < book.length := by omega
          have g4' : Same G1 H4 := fun b o e => K4 b o (g23 b o e) (ne_of_none e g3) (ne_of_none e g4)
          have hat : atI (book.map V.str) r = some (V.str book[r.toNat]) := by
            have q := atI_nat (xs := book.map V.str) (j := r.toNat) (v := V.str book[r.toNat]) (by rw [List.getElem?_map, List.getElem?_eq_getElem hi]; rfl)
            have er : ((r.toNat : Nat) : Int) = r := by omega
            rw [er] at q; exact q
          have h4w := K4 _ _ h1'' nwd.1 nwd.2
          have h4d := K4 _ _ h3'' q2 q3
          refine ⟨pb, _, r, _, rfl, rfl, (g1.trans g4').tup hpb, hat, pw, xs, _, rfl, rfl, h4w, by omega, ?_⟩
          refine ⟨next (.t book[r.toNat]) st' pd _ G1 _ _ _ _ _ (.field (List.getElem_mem hi)) hw' (by omega) (Same.refl _) (same_upd g4' g5) g3 g4 g5 g6 upd_same (dat_str _) (by rw [upd_ne (Ne.symm q1)]; exact h4d) q1 q2 q3 q4 (Nm.DeckAt.upd D4 nwd.1 nwd.2) (fun b o e hbd hbc => by
            rw [upd_ne (ne_of_none e hpw)]; exact K4 _ _ (K3 b o e hbd hbc) hbd hbc), ?_⟩
          show _ < (match H1 pw with | some (.lst xs) => 200 - xs.length | _ => 0)
          rw [hmu]
          exact less _ _ upd_same
        · rw [decide_eq_false (fun z => hf (by injection z))]
          refine iteF ?_
          refine ⟨_, rfl, rfl, _, rfl, ?_⟩
          by_cases hm : want = S "number"
          · subst hm
            rw [decide_eq_true rfl]
            refine iteT ?_
            obtain ⟨pn, bs, rfl, hpn, hbs⟩ := hn.lst
            have hbl := hbs.length
            rw [List.length_map] at hbl
            have hpn1 := (g1.trans g23) _ _ hpn
            refine ⟨_, rfl, .inl ⟨rfl, _, SqL.of h1''⟩, _, rfl, _, rfl, _, rfl, pn, _, rfl, .inl (SqL.of hpn1), d, c, _, rfl, D3, ⟨by omega, by omega⟩, fun r H4 r0 r1 D4 K4 => ?_⟩
            have hi : r.toNat < nums.length := by omega
            have g4' : Same G1 H4 := fun b o e => K4 b o (g23 b o e) (ne_of_none e g3) (ne_of_none e g4)
            obtain ⟨y, hy, hyd⟩ := hbs.get (show (nums.map dF)[r.toNat]? = some (dF nums[r.toNat]) by rw [List.getElem?_map, List.getElem?_eq_getElem hi]; rfl)
            have hat : atI bs r = some y := by
              have q := atI_nat (xs := bs) (j := r.toNat) (v := y) hy
              have er : ((r.toNat : Nat) : Int) = r := by omega
              rw [er] at q; exact q
            have h4w := K4 _ _ h1'' nwd.1 nwd.2
            have h4d := K4 _ _ h3'' q2 q3
            refine ⟨pn, _, r, _, rfl, rfl, SqL.of ((g1.trans g4') _ _ hpn), hat, pw, xs, _, rfl, rfl, h4w, by omega, ?_⟩
            refine ⟨next (.n nums[r.toNat].1 nums[r.toNat].2) st' pd _ G1 _ _ _ _ _ (.number (List.getElem_mem hi)) hw' (by omega) (Same.refl _) (same_upd g4' g5) g3 g4 g5 g6 upd_same (hyd.same g1) (by rw [upd_ne (Ne.symm q1)]; exact h4d) q1 q2 q3 q4 (Nm.DeckAt.upd D4 nwd.1 nwd.2) (fun b o e hbd hbc => by
              rw [upd_ne (ne_of_none e hpw)]; exact K4 _ _ (K3 b o e hbd hbc) hbd hbc), ?_⟩
            show _ < (match H1 pw with | some (.lst xs) => 200 - xs.length | _ => 0)
            rw [hmu]
            exact less _ _ upd_same
          · rw [decide_eq_false (fun z => hm (by injection z))]
            refine iteF ?_
            have hwo : want = S "order" ∨ want = S "case" ∨ want = S "mark" := by
              rcases hwant with h | h | h | h | h
              · exact .inl h
              · exact .inr (.inl h)
              · exact .inr (.inr h)
              · exact absurd h hf
              · exact absurd h hm
            refine ⟨_, rfl, _, rfl, pw, _, rfl, .inl (SqL.of h1''), _, _, rfl, rfl, _, rfl, pd, st'.reverse, rfl, h3'', by rw [List.length_reverse]; omega, fun H4 s4 => ⟨_, _, rfl, rfl, ?_⟩⟩
            have hR0 : most - (xs.length : Nat) - room st'.reverse = most - xs.length - rooms st' := by rw [room_eq, rooms_rev]
            (try dsimp only)
            rw [hR0]
            generalize hR : most - (xs.length : Int) - rooms st' = R
            have h4w := s4 _ _ h1''
            have h4d := s4 _ _ h3''
            have D4 := D3.same s4
            have g44 := g23.trans s4
            have K4 : KeptBut d c H H4 := K3.trans (Same.but s4)
            obtain ⟨dk, dns, hd4, hc4, _⟩ := id D4.ex
            refine (ev_lcL (K := K) (optsOf want) dS (fun o => if (decide (1 + rooms (o.drop 1) ≤ R)) = true then some (dS o) else none) (ev_call (eva_cons (ev_var rfl (dat_str want)) eva_nil) ⟨want, rfl, rfl⟩) (opts_few want) fun G2 i o x s3 ho hx =>
              lcB (evt_test (ev_i0 (ev_i0 ev_int (ev_room (ws := o.drop 1) (ev_d (ev_drop1 (ev_var rfl hx)) (by show PyData.list ((o.map PyData.str).drop 1) = PyData.list ((o.drop 1).map PyData.str); rw [List.map_drop])) (by
                obtain ⟨a, b, e, hl, _⟩ := opts_form want o (List.mem_of_getElem? ho)
                subst e; show b.length ≤ 1000; omega)) (dat_int _)) (ev_var rfl (dat_int R)) (dat_bl _))) (fun _ => ev_var rfl hx)).use (G := G1) g44 fun v8' G5 H5 g5' hv8 => ?_
            rw [fm_filter] at hv8
            generalize hcd : (optsOf want).filter (fun o => decide (1 + rooms (o.drop 1) ≤ R)) = cand at hv8
            have hcmem : ∀ o ∈ cand, o ∈ optsOf want ∧ 1 + rooms (o.drop 1) ≤ R := fun o ho => by
              rw [← hcd] at ho
              obtain ⟨h1, h2⟩ := List.mem_filter.mp ho
              exact ⟨h1, of_decide_eq_true h2⟩
            have hcne : 0 < cand.length := by
              obtain ⟨o, ho, hro⟩ := opts_small want hwo
              refine List.length_pos_of_mem (a := o) ?_
              rw [← hcd]
              exact List.mem_filter.mpr ⟨ho, decide_eq_true (by omega)⟩
            obtain ⟨ps8, ys8, rfl, hp8, hys8⟩ := hv8.lst
            have hyl := hys8.length
            rw [List.length_map] at hyl
            have D5 := D4.same g5'.hh
            refine ⟨_, rfl, _, rfl, d, c, 12, rfl, D5, ⟨by decide, by decide⟩, fun r H6 r0 r1 D6 K6 => ?_⟩
            have g5d := g5'.out hd4 g3
            have g5c := g5'.out hc4 g4
            have g5w := g5'.out h4w g5
            have g5p := g5'.out h4d g6
            have g56 : Same G5 H6 := fun b o e => K6 b o (g5'.gh b o e) (ne_of_none e g5d) (ne_of_none e g5c)
            have hp86 := g56 _ _ hp8
            have j0 : 0 ≤ r % (ys8.length : Int) := Int.emod_nonneg _ (by omega)
            have j1 : r % (ys8.length : Int) < ys8.length := Int.emod_lt_of_pos _ (by omega)
            obtain ⟨j, hj⟩ : ∃ j : Nat, r % (ys8.length : Int) = j := ⟨(r % (ys8.length : Int)).toNat, by omega⟩
            have hjl : j < cand.length := by omega
            obtain ⟨yo, hyo, hyod⟩ := hys8.get (show (cand.map dS)[j]? = some (dS cand[j]) by rw [List.getElem?_map, List.getElem?_eq_getElem hjl]; rfl)
            obtain ⟨ho1, ho2⟩ := hcmem _ (List.getElem_mem hjl)
            generalize cand[j] = o at hyod ho1 ho2
            obtain ⟨x, ps, rfl, hpl, hpw'⟩ := opts_form want o ho1
            obtain ⟨po, zs, rfl, hpo, hzs⟩ := hyod.lst
            have ez := datStrs hzs
            subst ez
            refine ⟨_, rfl, ps8, _, rfl, .inl (SqL.of hp86), _, _, rfl, rfl, (by omega), ps8, _, _, _, rfl, rfl, SqL.of hp86, (by rw [hj]; exact atI_nat hyo), ?_⟩
            have h6w := K6 _ _ (g5'.hh _ _ h4w) nwd.1 nwd.2
            have h6d := K6 _ _ (g5'.hh _ _ h4d) q2 q3
            have hpo6 := g56 _ _ hpo
            refine ⟨_, rfl, .inl ⟨rfl, _, SqL.of h6w⟩, _, rfl, po, _, 0, _, rfl, rfl, SqL.of hpo6, at0, pw, xs, _, rfl, rfl, h6w, by omega, ?_⟩
            have npo : po ≠ pw := ne_of_none hpo g5w
            have hpo7 : L2.upd H6 pw (.lst (xs ++ [V.str x])) po = some (.lst ((x :: ps).map V.str)) := by rw [upd_ne npo]; exact hpo6
            have h7d : L2.upd H6 pw (.lst (xs ++ [V.str x])) pd = some (.lst (st'.reverse.map V.str)) := by rw [upd_ne (Ne.symm q1)]; exact h6d
            have D7 := Nm.DeckAt.upd (o := .lst (xs ++ [V.str x])) D6 nwd.1 nwd.2
            have g57 := same_upd (o := .lst (xs ++ [V.str x])) g56 g5w
            have K7 : KeptBut d c H (L2.upd H6 pw (.lst (xs ++ [V.str x]))) := fun b o e hbd hbc => by
              rw [upd_ne (ne_of_none e hpw)]; exact K6 b o (g5'.hh b o (K4 b o e hbd hbc)) hbd hbc
            have h7w : L2.upd H6 pw (.lst (xs ++ [V.str x])) pw = some (.lst (xs ++ [V.str x])) := upd_same
            (try dsimp only)
            generalize L2.upd H6 pw (.lst (xs ++ [V.str x])) = H7 at hpo7 h7d D7 g57 K7 h7w
            have epk : pickV ((x :: ps).map V.str) none (some 0) (some (-1)) = ps.reverse.map V.str := by
              rw [List.map_cons, pick_rev _ _ (by rw [List.length_map]; exact hpl), List.map_reverse]
            refine ⟨_, rfl, _, rfl, 0, rfl, 1, rfl, -1, rfl, po, _, rfl, SqL.of hpo7, by decide, by rw [epk, List.length_map, List.length_reverse]; omega, fun p8 hp8' => ?_⟩
            have s8 := same_new (o := .lst (pickV ((x :: ps).map V.str) none (some 0) (some (-1)))) hp8'
            refine ⟨pd, p8, _, _, rfl, rfl, s8 _ _ h7d, upd_same, by rw [epk, List.length_map, List.length_map, List.length_reverse, List.length_reverse]; omega, fun p9 hp9 => ?_⟩
            have s9 := same_new (o := .lst (st'.reverse.map V.str ++ pickV ((x :: ps).map V.str) none (some 0) (some (-1)))) hp9
            have D8 := D7.same s8
            have nf := D8.free hp9
            have K8 := K7.trans (Same.but (d := d) (c := c) s8)
            refine ⟨next (.t x) (ps ++ st') p9 (V.str x) G5 _ _ _ _ _ (.word hf hm ho1) (fun p hp => ?_) ?_ g5'.gg ((g57.trans s8).trans s9) g5d g5c g5w ((g57.trans s8).free hp9) (s9 _ _ (s8 _ _ h7w)) (dat_str _) ?_ (ne_of_none (s8 _ _ h7w) hp9) nf.1 nf.2 (KeptBut.free K8 D8 hp9) (D8.same s9) (K8.trans (Same.but s9)), ?_⟩
            · rcases List.mem_append.mp hp with hp | hp
              · exact hpw' p hp
              · exact hw' p hp
            · rw [rooms_app]
              have e1 : rooms ((x :: ps).drop 1) = rooms ps := rfl
              rw [e1] at ho2
              omega
            · rw [upd_same, epk, ← List.map_append, List.reverse_append]
            · show _ < (match H1 pw with | some (.lst xs) => 200 - xs.length | _ => 0)
              rw [hmu]
              exact less _ _ (s9 _ _ (s8 _ _ h7w))
    · rintro σ H1 Q1 Q2 hq ⟨v, e1, z, q⟩
      exact ⟨v, e1, z, fun e he => by
        obtain ⟨G0, a, b, x1, x2, x3, x4, b', x5, x6⟩ := q e he
        exact ⟨G0, a, b, x1, x2, x3, x4, b', x5, hq _ _ x6⟩⟩
end
end K08
set_option maxHeartbeats 4000000
namespace K08
open PySem L2 Frac Lw Dig PySem.NumText Nm
open Ord Rdo
def RName : List PyData → PyData → Prop := fun as d => ∃ x : Str, as = [.str x] ∧ IsName x ∧ d = .bool true
def RNum : List PyData → PyData → Prop := fun as d => ∃ a b : Int, as = [.str (shN a b)] ∧ (Lst (a, b) ∧ a.natAbs < 10 ^ 40 ∧ b.natAbs < 10 ^ 40) ∧ d = .tuple [.int a, .int b]
def RParts : List PyData → PyData → Prop := fun as d => ∃ (x want : Str) (ps : List Str), as = [.str x] ∧ wordT x = some (x, want, ps) ∧ d = .list (ps.reverse.map PyData.str)
def RWord : List PyData → PyData → Prop := fun as d => ∃ (w : Wd) (need : Str), as = [.str (shW w), .str need] ∧ d = w.d ∧
  ((∃ x, w = .t x ∧ need = S "field" ∧ IsName x) ∨ (∃ a b, w = .n a b ∧ need = S "number" ∧ Lst (a, b) ∧ a.natAbs < 10 ^ 40 ∧ b.natAbs < 10 ^ 40) ∨ ∃ x ps, w = .t x ∧ need ≠ S "field" ∧ need ≠ S "number" ∧ wordT x = some (x, need, ps))
section
variable {P : Program} {w : World} {K : PySem.W.Frag} {mg : Str → Option Value} {base : Heap}
theorem ok_isname (T : Top K mg) (g : Glb2 mg) (W : Wds K w.params mg) : FnOk P w K mg base CX0 1 T.f_is_name T.fd_is_name ["text"] (spP K RName) := by
  obtain ⟨tL, gL⟩ := g.let_
  obtain ⟨tN, gN⟩ := g.nl
  refine T.F_is_name.ok sc_is_name (fun vs H Q E h => ?_) (fun cdv A outer s H vs Q E hr h => ?_)
  · obtain ⟨G, as, d, sg, hv, ⟨x, rfl, _⟩, _⟩ := h
    rw [hv.length]; rfl
  · obtain ⟨G, as, d, sg, hv, ⟨x, rfl, nm, rfl⟩, k⟩ := h
    obtain ⟨v1, r1, rfl, h1, hv⟩ := hv.cons
    cases hv.nil
    cases h1.str
    have hxl : x.length = x.cps.toList.length := len_codes x
    have := nm.le
    have hzl : x.length ≤ sizeLine := by rw [sizeLine_eq]; omega
    have hx0 : x ≠ Str.ofString "" := fun e => by have := nm.ne; rw [e, em'] at this; simp at this
    have hno : W.g x = none := W.no x (wordT_none (by have := nm.now; rw [wordsL_eq] at this; exact this))
    refine ⟨_, (pss_cons (ps_if ((pw_or (pt_cmpR op_eq (pv 0) pe_str (nomark _)) (pw_or (pt_cmpR op_gt (pe_callB call_len_str (by rfl) T.len_ PySem.boot_len (pa_cons (pv 0) pa_nil st_Name)) (pe_glob (v := .int 8) (by rfl) gN ⟨_, rfl⟩) (nomark _)) (pw_or1 (pt_cmpR op_inK (pv 0) (pe_glob (v := .ref W.a) (by rfl) W.m rfl) (by rfl)))))).pt (pss_one (ps_ret pe_bl)) pss_nil)
      (pss_one (ps_ret (pe_callB (call_all rfl) (by rfl) T.all_ bAll (pa_cons (pe_lc (x := "sign") (cap := []) (js := []) ⟨rfl, by decide +kernel, by decide +kernel, rfl, (by show ∀ p ∈ (_ : List (Str × NameKind)), p.2 = NameKind.free → List.lookup p.1 (defScope s_is_name).names = some NameKind.cell; decide +kernel), by decide +kernel, by decide +kernel, by decide +kernel⟩ rfl rfl (fun _ _ h => h) (pi_str (pv 0)) (fun _ _ _ _ => ⟨pif_nil, (pe_cmpR op_in_str (pv 0) (pe_glob (v := .str "abcdefghijklmnopqrstuvwxyz") (by rfl) gL ⟨_, rfl⟩) (by rfl))⟩)) pa_nil st_ListComp))))) , ?_⟩
    refine ⟨_, rfl, rfl, _, rfl, ?_⟩
    rw [decide_eq_false (fun z => hx0 (by injection z))]
    refine iteF ?_
    refine ⟨_, rfl, x, rfl, hzl, _, _, rfl, rfl, _, rfl, ?_⟩
    rw [decide_eq_false (show ¬ (8 : Int) < (x.length : Int) by omega)]
    refine iteF ?_
    refine ⟨_, rfl, x, W.a, W.g, rfl, rfl, W.D, _, rfl, ?_⟩
    rw [hno]
    refine iteF ?_
    refine ⟨_, rfl, x, rfl, fun i m ys H1 => m = x.cps.size - i ∧ i ≤ x.cps.size ∧ ys = (List.replicate i true).map V.bl ∧ Same H H1, ⟨_, rfl, Nat.zero_le _, rfl, Same.refl _⟩, ?_⟩
    rintro i m ys H1 ⟨rfl, hi, rfl, s1⟩
    have hsz : x.cps.size = x.cps.toList.length := by simp
    refine ⟨by rw [List.length_map, List.length_replicate, sizeLine_eq]; omega, ?_⟩
    by_cases hlt : i < x.cps.size
    · refine .inr ⟨hlt, fun v H' yl => ?_⟩
      obtain ⟨rfl, c, hc, rfl⟩ := yl
      refine tNoIf_of ?_
      refine ⟨_, rfl, _, _, rfl, rfl, x.cps.size - (i + 1), by omega, rfl, hlt, ?_, s1⟩
      have hlo := nm.low c (List.mem_of_getElem? hc)
      have hin : c ∈ letters.cps.toList := by
        rw [let_codes]
        exact List.mem_map.mpr ⟨c - 97, List.mem_range.mpr (by omega), by omega⟩
      rw [PySem.StrLaws.found_one, decide_eq_true hin, List.replicate_succ', List.map_append]
      rfl
    · refine .inl ⟨show x.cps.size ≤ i by omega, fun q hq => ?_⟩
      refine ⟨q, List.replicate i true, rfl, SqL.of upd_same, ?_⟩
      have e : (List.replicate i true).all (fun b => b) = true := by simp
      have s2 := s1.trans (same_new (o := .lst ((List.replicate i true).map V.bl)) hq)
      have := k (.bl true) G _ (grow_h sg s2) (dat_bl true)
      simpa using this
theorem ok_ron (T : Top K mg) (g : Glb2 mg) : FnOk P w K mg base CX0 4 T.f_read_order_number T.fd_read_order_number ["word"] (spP K RNum) := by
  have G_read_number : FnOk P w K mg base CX0 3 T.f_read_number T.fd_read_number ["text"] spRN := ok_rn T.F_read_number g.g T.all_ T.len_ T.int_ T.range_ T.abs_ T.F_read_figures T.b_read_figures T.m_read_figures T.F_read_signed T.b_read_signed T.m_read_signed T.F_fraction T.b_fraction T.m_fraction T.F_common_divisor T.b_common_divisor T.m_common_divisor
  refine T.F_read_order_number.ok sc_read_order_number (fun vs H Q E h => ?_) (fun cdv A outer s H vs Q E hr h => ?_)
  · obtain ⟨G, as, d, sg, hv, ⟨a, b, rfl, _⟩, _⟩ := h
    rw [hv.length]; rfl
  · obtain ⟨G, as, d, sg, hv, ⟨a, b, rfl, ⟨l, z1, z2⟩, rfl⟩, k⟩ := h
    obtain ⟨v1, r1, rfl, h1, hv⟩ := hv.cons
    cases hv.nil
    cases h1.str
    refine ⟨_, (pss_one (ps_try0 (fun _ _ h => h) (pss_one (ps_ret (pe_call G_read_number hr (by rfl) T.m_read_number T.F_read_number.kp T.b_read_number .nil pass0 (pa_cons (pv 0) pa_nil st_Name)))))) , ?_⟩
    refine ⟨_, rfl, shN a b, (a, b), rfl, shN_codes l.pos, l, ⟨Nat.lt_of_lt_of_le z1 (by decide), Nat.lt_of_lt_of_le z2 (by decide)⟩, fun p H' hp hp' s1 => ?_⟩
    have sg' := sg.trans s1
    have hgp : G p = none := by
      cases e : G p with
      | none => rfl
      | some o => rw [sg _ _ e] at hp; cases hp
    refine k (.ref p) (upd G p (.tup [.int a, .int b])) H' ⟨same_new hgp, fun b' o e => ?_, s1, fun b' o e => ?_⟩ (dat_tup (SqT.of upd_same) (dats_cons (dat_int _) (dats_cons (dat_int _) dats_nil)))
    · by_cases hb : b' = p
      · subst hb; rw [upd_same] at e; cases e; exact hp'
      · rw [upd_ne hb] at e; exact sg' _ _ e
    · by_cases hb : b' = p
      · subst hb; exact .inr hp
      · rw [upd_ne hb] at e; exact .inl e
theorem ok_parts (T : Top K mg) (W : Wds K w.params mg) : FnOk P w K mg base CX0 1 T.f_reversed_parts T.fd_reversed_parts ["word"] (spP K RParts) := by
  refine T.F_reversed_parts.ok sc_reversed_parts (fun vs H Q E h => ?_) (fun cdv A outer s H vs Q E hr h => ?_)
  · obtain ⟨G, as, d, sg, hv, ⟨x, want, ps, rfl, _⟩, _⟩ := h
    rw [hv.length]; rfl
  · obtain ⟨G, as, d, sg, hv, ⟨x, want, ps, rfl, hw, rfl⟩, k⟩ := h
    obtain ⟨v1, r1, rfl, h1, hv⟩ := hv.cons
    cases hv.nil
    cases h1.str
    obtain ⟨v, u, hg, hd⟩ := W.yes x _ hw
    obtain ⟨pt, xs, rfl, hpt, hxs⟩ := (hd H).tup
    obtain ⟨y1, r1, rfl, d1, hxs⟩ := hxs.cons
    obtain ⟨y2, r2, rfl, d2, hxs⟩ := hxs.cons
    cases hxs.nil
    obtain ⟨pp, zs, rfl, hpp, hzs⟩ := d2.tup
    refine ⟨_, (pss_one (ps_ret (pe_lrevT rfl (by rfl) T.list_ (by rfl) T.reversed_ (pe_ix (ix_tupK (K := K) rfl) (pe_ix ix_dictK (pe_glob (v := .ref W.a) (by rfl) W.m rfl) (pv 0) (fun _ _ => rfl)) pe_int (fun _ _ => rfl))))) , ?_⟩
    refine ⟨_, rfl, x, W.a, W.g, _, _, rfl, rfl, W.D, hg, pt, _, 1, _, rfl, rfl, hpt, rfl, pp, zs, rfl, hpp, fun l hl => ?_⟩
    have e := datStrs hzs
    have g9 := grow_new (o := .lst zs.reverse) sg hl
    refine k _ _ _ g9 (dat_lst upd_same ?_)
    rw [e, ← List.map_reverse]
    exact dats_strs _
theorem dec_no {a b : Str} (h : a ≠ b) : decide (V.str a = V.str b) = false := decide_eq_false fun z => h (by injection z)
theorem ok_word (T : Top K mg) (g : Glb2 mg) (W : Wds K w.params mg) : FnOk P w K mg base CX0 5 T.f_read_word T.fd_read_word ["word", "need"] (spP K RWord) := by
  have G_is_name : FnOk P w K mg base CX0 4 T.f_is_name T.fd_is_name ["text"] (spP K RName) := (ok_isname T g W).mono (by decide)
  have G_read_order_number : FnOk P w K mg base CX0 4 T.f_read_order_number T.fd_read_order_number ["word"] (spP K RNum) := ok_ron T g
  refine T.F_read_word.ok sc_read_word (fun vs H Q E h => ?_) (fun cdv A outer s H vs Q E hr h => ?_)
  · obtain ⟨G, as, d, sg, hv, ⟨wd, need, rfl, _⟩, _⟩ := h
    rw [hv.length]; rfl
  · obtain ⟨G, as, d, sg, hv, ⟨wd, need, rfl, rfl, cs⟩, k⟩ := h
    obtain ⟨v1, r1, rfl, h1, hv⟩ := hv.cons
    obtain ⟨v2, r2, rfl, h2, hv⟩ := hv.cons
    cases hv.nil
    cases h1.str
    cases h2.str
    have n1 : S "field" ≠ S "number" := by decide +kernel
    refine ⟨_, (pss_cons (ps_if (pt_cmpR op_eq (pv 1) pe_str (nomark _)) (pss_one (ps_ret (pe_call G_read_order_number hr (by rfl) T.m_read_order_number T.F_read_order_number.kp T.b_read_order_number .nil pass0 (pa_cons (pv 0) pa_nil st_Name)))) pss_nil)
      (pss_cons (ps_if (pt_cmpR op_eq (pv 1) pe_str (nomark _)) (pss_one (ps_if (pt_not (pt_val (pe_call G_is_name hr (by rfl) T.m_is_name T.F_is_name.kp T.b_is_name .nil pass0 (pa_cons (pv 0) pa_nil st_Name)))) pss_never pss_nil)) (pss_one (ps_if ((pw_or (pt_cmpR op_notInK (pv 0) (pe_glob (v := .ref W.a) (by rfl) W.m rfl) (by rfl)) (pw_or1 (pt_cmpR op_ne (pe_ix (ix_tupK (K := K) rfl) (pe_ix ix_dictK (pe_glob (v := .ref W.a) (by rfl) W.m rfl) (pv 0) (fun _ _ => rfl)) pe_int (fun _ _ => rfl)) (pv 1) (nomark _))))).pt pss_never pss_nil)))
      (pss_one (ps_ret (pv 0))))) , ?_⟩
    refine ⟨_, rfl, rfl, _, rfl, ?_⟩
    rcases cs with ⟨x, rfl, rfl, nm⟩ | ⟨a, b, rfl, rfl, l, z1, z2⟩ | ⟨x, ps, rfl, nf, nn, hw⟩
    · rw [dec_no n1]
      refine iteF ?_
      refine ⟨_, rfl, rfl, _, rfl, ?_⟩
      rw [decide_eq_true rfl]
      refine iteT ?_
      refine if_no (G := G) (evt_c (evt_not (evt_b (K := K) (ev_call (eva_cons (ev_var rfl (dat_str x)) eva_nil) ⟨x, rfl, nm, rfl⟩))) rfl) sg fun G' H' g' => ?_
      exact ⟨_, rfl, k _ G' H' g' (dat_str x)⟩
    · rw [decide_eq_true rfl]
      refine iteT ?_
      exact ret_ev (K := K) (ev_call (eva_cons (ev_var rfl (dat_str _)) eva_nil) ⟨a, b, rfl, ⟨l, z1, z2⟩, rfl⟩) sg fun v G' H' g' hv => k v G' H' g' hv
    · rw [dec_no nn]
      refine iteF ?_
      refine ⟨_, rfl, rfl, _, rfl, ?_⟩
      rw [dec_no nf]
      refine iteF ?_
      obtain ⟨v, u, hg, hd⟩ := W.yes x _ hw
      obtain ⟨pt, xs, rfl, hpt, hxs⟩ := (hd H).tup
      obtain ⟨y1, r1, rfl, d1, hxs⟩ := hxs.cons
      obtain ⟨y2, r2, rfl, d2, hxs⟩ := hxs.cons
      cases hxs.nil
      cases d1.str
      refine ⟨_, rfl, x, W.a, W.g, rfl, rfl, W.D, _, rfl, ?_⟩
      rw [hg]
      refine iteF ?_
      refine ⟨_, rfl, x, W.a, W.g, _, _, rfl, rfl, W.D, hg, pt, _, 0, .str need, rfl, rfl, hpt, rfl, _, rfl, rfl, _, rfl, ?_⟩
      rw [decide_eq_true rfl]
      refine iteF ?_
      exact ⟨_, rfl, k _ G H (Grow.refl sg) (dat_str x)⟩
end
open Ord Rdo
def RShown : List PyData → PyData → Prop := fun as d => ∃ ws : List Wd, as = [.tuple (ws.map Wd.d)] ∧ (∀ w ∈ ws, WOk w) ∧ ws.length ≤ 200 ∧ d = .str (shown ws)
theorem grow_ons {G H G' H' H'' : Hp} (g : Grow G H G' H') (s : Same H' H'') : Grow G H G' H'' := ⟨g.gg, g.gh.trans s, g.hh.trans s, g.fr⟩
theorem grow_muts {G H G' H' : Hp} {p : Addr} {o : HO} (g : Grow G H G' H') (gp : G' p = none) (hp : H p = none) : Grow G H G' (upd H' p o) := ⟨g.gg, fun b u e => by rw [upd_ne (ne_of_none e gp)]; exact g.gh b u e, fun b u e => by rw [upd_ne (ne_of_none e hp)]; exact g.hh b u e, g.fr⟩
section
variable {P : Program} {w : World} {K : PySem.W.Frag} {mg : Str → Option Value} {base : Heap}
theorem ok_shown (T : Top K mg) : FnOk P w K mg base CX0 1 T.f__law_shown T.fd__law_shown ["order"] (spP K RShown) := by
  refine T.F__law_shown.ok sc__law_shown (fun vs H Q E h => ?_) (fun cdv A outer s H vs Q E hr h => ?_)
  · obtain ⟨G, as, d, sg, hv, ⟨ns, rfl, _⟩, _⟩ := h
    rw [hv.length]; rfl
  · obtain ⟨G, as, d, sg, hv, ⟨ws, rfl, hall, hlen, rfl⟩, k⟩ := h
    obtain ⟨v1, r1, rfl, h1, hv⟩ := hv.cons
    cases hv.nil
    obtain ⟨pa, xs, rfl, hpa, hxs⟩ := h1.tup
    have hu := hr.units
    have zl : (2000 : Nat) ≤ sizeLine := by decide
    have hxl := hxs.length
    rw [List.length_map] at hxl
    refine ⟨_, (pss_cons (ps_set (i := 1) sc__law_shown.nd rfl (Or.inl rfl) (pe_lst pa_nil))
      (pss_cons (ps_for PassesOwn.never rfl (pi_tup (pv 0)) (pg_name (i := 2) sc__law_shown.nd rfl (Or.inl rfl)) (pss_one (ps_if (pt_val (pe_callB (call_isD (K := K) rfl) (by rfl) T.isinstance_ bIsi (pa_cons (pv 2) (pa_cons (pe_bltn (v := .ty "str") (by rfl) T.str_ bStr rfl) pa_nil)))) (pss_one (ps_expr (pe_bm PySem.F.plainAttrs_list PySem.F.slot_list_append PySem.F.type_list_append mt_append (pv 1) (pa_cons (pv 2) pa_nil st_Name)))) (pss_one (ps_expr (pe_bm PySem.F.plainAttrs_list PySem.F.slot_list_append PySem.F.type_list_append mt_append (pv 1) (pa_cons (pe_op op_add_str (pe_callTy call_str_int (by rfl) T.str_ bStr (pa_cons (pe_ix (ix_tupK (K := K) rfl) (pv 2) pe_int (fun _ _ => rfl)) pa_nil st_Subscript)) (pe_ix (ix_listK (K := K) rfl) (pe_lst (pa_cons (pe_op op_add_str pe_str (pe_callTy call_str_int (by rfl) T.str_ bStr (pa_cons (pe_ix (ix_tupK (K := K) rfl) (pv 2) pe_int (fun _ _ => rfl)) pa_nil st_Subscript))) (pa_cons pe_str pa_nil st_Constant) st_BinOp)) (pe_callTy call_int1 (by rfl) T.int_ bInt (pa_cons (pe_cmpR op_eq (pe_ix (ix_tupK (K := K) rfl) (pv 2) pe_int (fun _ _ => rfl)) pe_int (nomark _)) pa_nil st_Compare)) (fun _ _ => rfl))) pa_nil st_BinOp)))))))
      (pss_one (ps_ret (pe_bm PySem.F.plainAttrs_str PySem.F.slot_str_join PySem.F.type_str_join (mt_join (K := K) rfl) pe_str (pa_cons (pv 1) pa_nil st_Name)))))) , ?_⟩
    refine ⟨(by show 0 ≤ sizeLine; decide), fun pr hpr => ?_⟩
    have hpa0 := sg.tup hpa
    refine ⟨_, rfl, pa, rfl, ⟨xs, (same_new hpr).tup hpa0⟩, for_tup (xs := xs) (fun i σ H' => ∃ (v2 : Option V) (G' : Hp), σ = [some (.ref pa), some (.ref pr), v2] ∧ Grow G H G' H' ∧ G' pr = none ∧ H' pr = some (.lst (((ws.take i).map shW).map V.str)))
      ⟨_, G, rfl, grow_h sg (same_new hpr), sg.free hpr, upd_same⟩ ?_ ?_ ?_⟩
    · rintro i σ H' _ ⟨v2, G', rfl, g, _⟩
      exact g.hh.tup hpa0
    · rintro i x σ H' hx ⟨v2, G', rfl, g, gp, hp⟩
      obtain ⟨d, hd, hxd⟩ := hxs.get' hx
      rw [List.getElem?_map] at hd
      cases en : ws[i]? with
      | none => rw [en] at hd; cases hd
      | some wd =>
        rw [en] at hd; cases hd
        have hin : i < ws.length := (List.getElem?_eq_some_iff.mp en).1
        have hwd := hall wd (List.mem_of_getElem? en)
        have et : (ws.take (i + 1)).map shW = (ws.take i).map shW ++ [shW wd] := by
          rw [List.take_add_one, en, List.map_append]; rfl
        have hx' : Dat K G' x wd.d := hxd.same g.gg
        have hll : (((ws.take i).map shW).map V.str).length < sizeLine := by
          rw [List.length_map, List.length_map, List.length_take]; omega
        have fin : ∀ (H2 : Hp) (v2 : Option V), Same H' H2 → ∃ (v2' : Option V) (G' : Hp), [some (V.ref pa), some (V.ref pr), v2] = [some (V.ref pa), some (V.ref pr), v2'] ∧ Grow G H G' (upd H2 pr (.lst (((ws.take i).map shW).map V.str ++ [V.str (shW wd)]))) ∧ G' pr = none ∧ (upd H2 pr (.lst (((ws.take i).map shW).map V.str ++ [V.str (shW wd)]))) pr = some (.lst (((ws.take (i + 1)).map shW).map V.str)) := fun H2 v2 s2 =>
          ⟨v2, G', rfl, grow_muts (grow_ons g s2) gp hpr, gp, by rw [upd_same, et, List.map_append]; rfl⟩
        cases wd with
        | t y =>
          have e := Dat.str hx'
          refine if_ev (G := G') (evt_b (K := K) (ev_isD (ev_var rfl hx') T.ss)) g.gh (fun _ G3 H3 g3 => ?_) (fun z => nomatch z)
          refine ⟨_, rfl, .inl ⟨rfl, _, SqL.of (g3.hh _ _ hp)⟩, _, rfl, pr, _, _, rfl, rfl, g3.hh _ _ hp, hll, ?_⟩
          rw [e]
          exact fin H3 _ g3.hh
        | n a b =>
          obtain ⟨l, z1, z2⟩ := id hwd
          have c1 := str_int' a
          have c2 := str_int' b
          have t1 := tp_len z1
          have t2 := tp_len z2
          have l47 : (Str.ofString "/" : Str).length = 1 := by rw [sl47']; rfl
          have l1 : (Str.ofString (toString a)).length ≤ 41 := by rw [len_codes, c1]; exact t1
          have l2 : (Str.ofString (toString b)).length ≤ 41 := by rw [len_codes, c2]; exact t2
          have hx'' : Dat K G' x (.tuple [.int a, .int b]) := hx'
          refine if_ev (G := G') (evt_b (K := K) (ev_isD (ev_var rfl hx'') T.ts)) g.gh (fun z => nomatch z) (fun _ G3 H3 g3 => ?_)
          have hx3 := hx''.same g3.gg
          have hb : Ev K (tOp (rIxT K) (tVar 2) (tC (.int 1))) [some (.ref pa), some (.ref pr), some x] G3 (.int b) := ev_ixT (ev_var rfl hx3) ev_int rfl rfl
          have htl : [PyData.str (Str.ofString "/" ++ Str.ofString (toString b)), .str (Str.ofString "")][if decide (b = 1) = true then 1 else 0]? = some (.str (tailN b)) := by
            unfold tailN
            by_cases h1 : b = 1
            · rw [if_pos h1, if_pos (decide_eq_true h1)]; rfl
            · rw [if_neg h1, if_neg (by rw [decide_eq_false h1]; exact Bool.false_ne_true)]; rfl
          have l3 : (tailN b).length ≤ 42 := by
            unfold tailN
            split
            · rw [em']; decide
            · rw [PySem.Str.length_append, l47]; omega
          refine ⟨_, rfl, .inl ⟨rfl, _, SqL.of (g3.hh _ _ hp)⟩, (eva_cons (ev_addS (ev_strI (eva_cons (ev_ixT (ev_var rfl hx3) ev_int rfl rfl) eva_nil) (log_small z1))
            (ev_ixL (n := if decide (b = 1) = true then 1 else 0) (ev_lst (eva_cons (ev_addS ev_str (ev_strI (eva_cons hb eva_nil) (log_small z2)) (by rw [l47]; omega)) (eva_cons ev_str eva_nil)) (by show 2 ≤ sizeLine; decide)) (ev_intB (eva_cons (ev_eqI hb ev_int) eva_nil)) (by cases decide (b = 1) <;> rfl) htl) (by omega)) eva_nil) G3 H3 (Same.refl _) g3.gh _ fun vs G4 H4 g4 hvs => ?_⟩
          obtain ⟨y1, r1, rfl, hy, hvs⟩ := hvs.cons
          cases hvs.nil
          cases hy.str
          have s4 := g3.hh.trans g4.hh
          exact ⟨pr, _, _, rfl, rfl, s4 _ _ hp, hll, fin H4 _ s4⟩
    · rintro σ H' ⟨v2, G', rfl, g, gp, hp⟩
      rw [hxl, List.take_length] at hp
      have sl := shown_len hall
      refine ⟨rfl, _, rfl, _, pr, ws.map shW, rfl, rfl, SqL.of hp, ?_, ?_⟩
      · rw [sp32, List.length_map, List.map_map]
        show _ + ws.length * 1 ≤ sizeLine
        have : (ws.map ((fun x => x.length) ∘ shW)).sum = (ws.map fun w => (shW w).length).sum := rfl
        have zb : (20000 : Nat) ≤ sizeLine := by decide
        omega
      · rw [sp32]
        exact k _ G' H' g (dat_str _)
end
open Ord Rdo
def ROrder : List PyData → PyData → Prop := fun as d => ∃ (ws : List Wd) (book : List Str) (fld : Str → Prop) (num : Int → Int → Prop), as = [.str (shown ws), .tuple (book.map PyData.str)] ∧ IsOrd fld num ws ∧ (∀ x, fld x → IsName x ∧ x ∈ book) ∧
  (∀ a b, num a b → Lst (a, b) ∧ a.natAbs < 10 ^ 40 ∧ b.natAbs < 10 ^ 40) ∧ ws.length ≤ 200 ∧ book.length ≤ 100 ∧ d = .tuple (ws.map Wd.d)
theorem Jc_len (c : Nat) : ∀ L : List (List Nat), (Jc c L).length ≤ (L.map List.length).sum + L.length
  | [] => by simp [Jc]
  | [a] => by simp [Jc]
  | a :: b :: r => by
    have := Jc_len c (b :: r)
    rw [Jc, List.length_append, List.length_cons, List.map_cons, List.sum_cons, List.length_cons]
    omega
theorem shown_le (ws : List Wd) : (shown ws).length ≤ (ws.map fun w => (shW w).length).sum + ws.length := by
  have e0 : shown ws = Str.join ⟨#[32]⟩ (ws.map shW) := by unfold shown Txt.join; rw [PySem.StrLaws.glued_eq_join]
  rw [e0, len_codes, joinC]
  have := Jc_len 32 ((ws.map shW).map fun p => p.cps.toList)
  have e : (((ws.map shW).map fun p => p.cps.toList).map List.length) = ws.map fun w => (shW w).length := by
    rw [List.map_map, List.map_map]
    exact List.map_congr_left fun w _ => (len_codes _).symm
  rw [e, List.length_map, List.length_map] at this
  exact this
abbrev kinds : List Str := [S "order", S "case", S "mark", S "field", S "number"]
theorem pl_kind {n : Nat} {p : Str} (h : p ∈ kinds) : Pl n (.str p) := pl_want (by
  simp only [List.mem_cons, List.not_mem_nil, or_false] at h
  exact h)
theorem pl_kinds {n : Nat} {ps : List Str} (h : ∀ p ∈ ps, p ∈ kinds) : Pl (n + 1) (.list (ps.map PyData.str)) := pl_lst fun d hd => by
  obtain ⟨x, hx, rfl⟩ := List.mem_map.mp hd
  exact pl_kind (h x hx)
theorem run_at {fld : Str → Prop} {num : Int → Int → Prop} {st st' : List Str} {ws : List Wd} (h : Run fld num st ws st') (hk : ∀ x ∈ st, x ∈ kinds) : ∃ f : Nat → List Str, f 0 = st ∧ f ws.length = st' ∧ (∀ i, i ≤ ws.length → ∀ x ∈ f i, x ∈ kinds) ∧ (∀ i, i ≤ ws.length → (f i).length ≤ st.length + 3 * i) ∧ ∀ i w, ws[i]? = some w → Step fld num (f i) w (f (i + 1)) := by
  induction h with
  | nil => exact ⟨fun _ => _, rfl, rfl, fun i _ => hk, fun i _ => by show _ ≤ _; simp only []; omega, fun i w e => by cases e⟩
  | @cons st st1 st2 w ws a _ ih =>
    have hk1 : ∀ x ∈ st1, x ∈ kinds := by
      rcases step_word a hk with ⟨x, st0, rfl, _, _, rfl⟩ | ⟨p, q, st0, rfl, _, _, rfl⟩ | ⟨want, x, ps, st0, rfl, rfl, _, _, hw, _, rfl⟩
      · exact fun y m => hk y (List.mem_cons_of_mem _ m)
      · exact fun y m => hk y (List.mem_cons_of_mem _ m)
      · intro y m
        rcases List.mem_append.mp m with m | m
        · have := (wordT_mem hw).1
          have key : ∀ r ∈ wordsT, ∀ p ∈ r.2.2, p ∈ kinds := by decide +kernel
          exact key _ this y m
        · exact hk y (List.mem_cons_of_mem _ m)
    have hl1 : st1.length ≤ st.length + 3 := by
      rcases step_word a hk with ⟨x, st0, rfl, _, _, rfl⟩ | ⟨p, q, st0, rfl, _, _, rfl⟩ | ⟨want, x, ps, st0, rfl, rfl, _, _, hw, hl, rfl⟩
      · simp; omega
      · simp; omega
      · simp; omega
    obtain ⟨f, f0, fl, fk, fz, fs⟩ := ih hk1
    refine ⟨fun i => match i with | 0 => st | i + 1 => f i, rfl, fl, fun i hi => ?_, fun i hi => ?_, fun i w' e => ?_⟩
    · cases i with
      | zero => exact hk
      | succ i => exact fk i (by simp at hi; omega)
    · cases i with
      | zero => simp
      | succ i =>
        have := fz i (by simp at hi; omega)
        show (f i).length ≤ _
        omega
    · cases i with
      | zero =>
        have : w = w' := by simpa using e
        subst this
        show Step fld num st w (f 0)
        rw [f0]; exact a
      | succ i => exact fs i w' (by simpa using e)
section
variable {P : Program} {w : World} {K : PySem.W.Frag} {mg : Str → Option Value} {base : Heap}
theorem ok_ro (T : Top K mg) (g : Glb2 mg) (W : Wds K w.params mg) : FnOk P w K mg base CX0 6 T.f_read_order T.fd_read_order ["text", "book"] (spP K ROrder) := by
  have G_read_word : FnOk P w K mg base CX0 5 T.f_read_word T.fd_read_word ["word", "need"] (spP K RWord) := ok_word T g W
  have G_reversed_parts : FnOk P w K mg base CX0 5 T.f_reversed_parts T.fd_reversed_parts ["word"] (spP K RParts) := (ok_parts T W).mono (by decide)
  refine T.F_read_order.ok sc_read_order (fun vs H Q E h => ?_) (fun cdv A outer s H vs Q E hr h => ?_)
  · obtain ⟨G, as, d, sg, hv, ⟨ws, book, fld, num, rfl, _⟩, _⟩ := h
    rw [hv.length]; rfl
  · obtain ⟨G, as, d, sg, hv, ⟨ws, book, fld, num, rfl, ord, hfld, hnum, hlen, hbl, rfl⟩, k⟩ := h
    obtain ⟨v1, r1, rfl, h1, hv⟩ := hv.cons
    obtain ⟨v2, r2, rfl, h2, hv⟩ := hv.cons
    cases hv.nil
    cases h1.str
    obtain ⟨pb, bs, rfl, hpb, hbs⟩ := h2.tup
    cases datStrs hbs
    have hu := hr.units
    have zl : (20000 : Nat) ≤ sizeLine := by decide
    have hk0 : ∀ x ∈ [S "order"], x ∈ kinds := fun x hx => by rw [List.mem_singleton.mp hx]; exact List.mem_cons_self
    have hall := run_ok (fun x hx => (hfld x hx).1) hnum ord hk0
    obtain ⟨f, f0, fl, fk, fz, fs⟩ := run_at ord hk0
    have hsl := shown_len hall
    have hsp := split_shown (run_ne ord) hall
    have htl : (shown ws).length + 2 ≤ sizeLine := by
      have := shown_le ws
      omega
    refine ⟨_, (pss_cons (ps_set (i := 2) sc_read_order.nd rfl (Or.inl rfl) (pe_lst pa_nil))
      (pss_cons (ps_set (i := 3) sc_read_order.nd rfl (Or.inl rfl) (pe_lst pa_nil))
      (pss_cons (ps_set (i := 4) sc_read_order.nd rfl (Or.inl rfl) (pe_lst (pa_cons pe_str pa_nil st_Constant)))
      (pss_cons (ps_for PassesOwn.never rfl (pi_list (pe_bm PySem.F.plainAttrs_str PySem.F.slot_str_split PySem.F.type_str_split mt_split (pv 0) (pa_cons pe_str pa_nil st_Constant))) (pg_name (i := 5) sc_read_order.nd rfl (Or.inl rfl)) (pss_cons (ps_if (pt_cmpR (op_eqDK (K := K) rfl hu) (pv 4) (pe_lst pa_nil) (nomark _)) pss_never pss_nil)
      (pss_cons (ps_set (i := 6) sc_read_order.nd rfl (Or.inl rfl) (pe_bm0 PySem.F.plainAttrs_list PySem.F.slot_list_pop PySem.F.type_list_pop mt_pop (pv 4)))
      (pss_cons (ps_expr (pe_bm PySem.F.plainAttrs_list PySem.F.slot_list_append PySem.F.type_list_append mt_append (pv 2) (pa_cons (pe_call G_read_word hr (by rfl) T.m_read_word T.F_read_word.kp T.b_read_word .nil pass0 (pa_cons (pv 5) (pa_cons (pv 6) pa_nil st_Name) st_Name)) pa_nil st_Call)))
      (pss_one (ps_if (pt_cmpR op_eq (pv 6) pe_str (nomark _)) (pss_one (ps_expr (pe_bm PySem.F.plainAttrs_list PySem.F.slot_list_append PySem.F.type_list_append mt_append (pv 3) (pa_cons (pv 5) pa_nil st_Name)))) (pss_one (ps_if (pt_cmpR op_ne (pv 6) pe_str (nomark _)) (pss_one (ps_expr (pe_bm PySem.F.plainAttrs_list PySem.F.slot_list_extend PySem.F.type_list_extend mt_extend (pv 4) (pa_cons (pe_call G_reversed_parts hr (by rfl) T.m_reversed_parts T.F_reversed_parts.kp T.b_reversed_parts .nil pass0 (pa_cons (pv 5) pa_nil st_Name)) pa_nil st_Call)))) pss_nil))))))))
      (pss_cons (ps_if (pt_cmpR (op_neDK (K := K) rfl hu) (pv 4) (pe_lst pa_nil) (nomark _)) pss_never pss_nil)
      (pss_cons (ps_for PassesOwn.never rfl (pi_list (pv 3)) (pg_name (i := 7) sc_read_order.nd rfl (Or.inl rfl)) (pss_one (ps_if (pt_cmpR op_notIn_seq (pv 7) (pv 1) (by rfl)) pss_never pss_nil)))
      (pss_one (ps_ret (pe_callTy (call_tupleK (K := K) rfl) (by rfl) T.tuple_ bTup (pa_cons (pv 2) pa_nil st_Name)))))))))) , ?_⟩
    refine ⟨(by show 0 ≤ sizeLine; decide), fun po hpo => ?_⟩
    refine ⟨(by show 0 ≤ sizeLine; decide), fun pf hpf => ?_⟩
    refine ⟨(by show 1 ≤ sizeLine; decide), fun pn hpn => ?_⟩
    have nfo : pf ≠ po := fun e => by rw [e, upd_same] at hpf; cases hpf
    have hpf0 : H pf = none := by rw [upd_ne nfo] at hpf; exact hpf
    have nnf : pn ≠ pf := fun e => by rw [e, upd_same] at hpn; cases hpn
    have hpn1 : upd H po (.lst []) pn = none := by rw [upd_ne nnf] at hpn; exact hpn
    have nno : pn ≠ po := fun e => by rw [e, upd_same] at hpn1; cases hpn1
    have hpn0 : H pn = none := by rw [upd_ne nno] at hpn1; exact hpn1
    have s3 : Same H (upd (upd (upd H po (.lst [])) pf (.lst [])) pn (.lst [V.str (S "order")])) := ((same_new hpo).trans (same_new hpf)).trans (same_new hpn)
    have ho3 : (upd (upd (upd H po (.lst [])) pf (.lst [])) pn (.lst [V.str (S "order")])) po = some (.lst []) := by rw [upd_ne (Ne.symm nno), upd_ne (Ne.symm nfo), upd_same]
    have hf3 : (upd (upd (upd H po (.lst [])) pf (.lst [])) pn (.lst [V.str (S "order")])) pf = some (.lst []) := by rw [upd_ne (Ne.symm nnf), upd_same]
    have hn3 : (upd (upd (upd H po (.lst [])) pf (.lst [])) pn (.lst [V.str (S "order")])) pn = some (.lst [V.str (S "order")]) := upd_same
    (try dsimp only [gName])
    generalize upd (upd (upd H po (.lst [])) pf (.lst [])) pn (.lst [V.str (S "order")]) = H3 at s3 ho3 hf3 hn3
    refine ⟨_, rfl, rfl, shown ws, 32, rfl, (by rw [sp32]), htl, fun pl hpl => ?_⟩
    rw [hsp]
    have npo : pl ≠ po := fun e => by rw [e, ho3] at hpl; cases hpl
    have npf : pl ≠ pf := fun e => by rw [e, hf3] at hpl; cases hpl
    have npn : pl ≠ pn := fun e => by rw [e, hn3] at hpl; cases hpl
    have s4 := same_new (o := .lst ((ws.map shW).map V.str)) hpl
    refine ⟨pl, rfl, ⟨_, SqL.of upd_same⟩, for_list (xs := (ws.map shW).map V.str) (fun i σ H' => ∃ (v5 v6 v7 : Option V) (G' : Hp) (os : List V) (fsl : List Str), σ = [some (.str (shown ws)), some (.ref pb), some (.ref po), some (.ref pf), some (.ref pn), v5, v6, v7] ∧ Grow G H G' H' ∧ (G' po = none ∧ G' pf = none ∧ G' pn = none) ∧
        H' pl = some (.lst ((ws.map shW).map V.str)) ∧ H' po = some (.lst os) ∧ Dats K G' os ((ws.take i).map Wd.d) ∧ H' pf = some (.lst (fsl.map V.str)) ∧ (∀ x ∈ fsl, x ∈ book) ∧ fsl.length ≤ i ∧ H' pn = some (.lst ((f i).reverse.map V.str)))
      ⟨_, _, _, G, [], [], rfl, grow_h sg (s3.trans s4), ⟨sg.free hpo, sg.free hpf0, sg.free hpn0⟩, upd_same, s4 _ _ ho3, dats_nil, s4 _ _ hf3, (fun x m => by cases m), Nat.le_refl _, by rw [f0]; exact s4 _ _ hn3⟩ ?_ ?_ ?_⟩
    · rintro i σ H' _ ⟨v5, v6, v7, G', os, fsl, rfl, g, _, hpl', _⟩
      exact SqL.of hpl'
    · rintro i x σ H' hx ⟨v5, v6, v7, G', os, fsl, rfl, g', ⟨go, gf, gn⟩, hpl', hpo', hos, hpf', hfs, hfl, hpn'⟩
      rw [List.getElem?_map, List.getElem?_map] at hx
      cases en : ws[i]? with
      | none => rw [en] at hx; cases hx
      | some wd =>
        rw [en] at hx
        have hin : i < ws.length := (List.getElem?_eq_some_iff.mp en).1
        have exv : V.str (shW wd) = x := by simpa using hx
        subst exv
        have stp := fs i wd en
        have hki := fk i (by omega)
        have hzi := fz i (by omega)
        have hosl := hos.length
        rw [List.length_map, List.length_take] at hosl
        have et : (ws.take (i + 1)).map Wd.d = (ws.take i).map Wd.d ++ [wd.d] := by
          rw [List.take_add_one, en, List.map_append]; rfl
        have hrow : Dat K H' (.ref pn) (.list ((f i).reverse.map PyData.str)) := dat_lst hpn' (dats_strs _)
        have pl0 : Pl 2 (.list []) := pl_lst fun x hx => by cases hx
        obtain ⟨need, st0, est⟩ : ∃ need st0, f i = need :: st0 := by
          rcases step_word stp hki with ⟨x, st0, e, _⟩ | ⟨p, q, st0, e, _⟩ | ⟨want, x, ps, st0, e, _⟩
          · exact ⟨_, _, e⟩
          · exact ⟨_, _, e⟩
          · exact ⟨_, _, e⟩
        have hne : PySem.Spec.same (.list ((f i).reverse.map PyData.str)) (.list []) = false := same_ne fun e => by
          rw [est] at e
          injection e with e
          simp at e
        refine if_no (G := H') (evt_c (evt_test (K := K) (ev_eqD (ev_var rfl hrow) (ev_lst eva_nil (by decide)) (pl_kinds (n := 1) fun p hp => hki p (by simpa using hp)) pl0 (by decide))) hne) (Same.refl _) fun G3 H3 g3 => ?_
        have s3' := g3.hh
        have hn3' := s3' _ _ hpn'
        have er : (f i).reverse.map V.str = st0.reverse.map V.str ++ [V.str need] := by rw [est, List.reverse_cons, List.map_append]; rfl
        refine ⟨_, rfl, .inl ⟨rfl, _, SqL.of hn3'⟩, pn, _, V.str need, rfl, rfl, hn3', ?_, ?_⟩
        · rw [er]; simp
        have ed : ((f i).reverse.map V.str).dropLast = st0.reverse.map V.str := by rw [er]; simp
        rw [ed]
        have g4 : Grow G H G' (upd H3 pn (.lst (st0.reverse.map V.str))) := grow_muts (grow_ons g' s3') gn hpn0
        have hn4 : (upd H3 pn (.lst (st0.reverse.map V.str))) pn = some (.lst (st0.reverse.map V.str)) := upd_same
        have ho4 : (upd H3 pn (.lst (st0.reverse.map V.str))) po = some (.lst os) := by rw [upd_ne (Ne.symm nno)]; exact s3' _ _ hpo'
        have hf4 : (upd H3 pn (.lst (st0.reverse.map V.str))) pf = some (.lst (fsl.map V.str)) := by rw [upd_ne (Ne.symm nnf)]; exact s3' _ _ hpf'
        have hl4 : (upd H3 pn (.lst (st0.reverse.map V.str))) pl = some (.lst ((ws.map shW).map V.str)) := by rw [upd_ne npn]; exact s3' _ _ hpl'
        (try dsimp only [gName])
        generalize upd H3 pn (.lst (st0.reverse.map V.str)) = H4 at g4 hn4 ho4 hf4 hl4
        have RW : RWord [.str (shW wd), .str need] wd.d := by
          refine ⟨wd, need, rfl, rfl, ?_⟩
          rcases step_word stp hki with ⟨x, st1, e, rfl, hx, _⟩ | ⟨p, q, st1, e, rfl, hx, _⟩ | ⟨want, x, ps, st1, e, rfl, n1, n2, hw, _⟩
          · rw [est] at e; injection e with e _; exact .inl ⟨x, rfl, e, (hfld x hx).1⟩
          · rw [est] at e; injection e with e _; exact .inr (.inl ⟨p, q, rfl, e, hnum p q hx⟩)
          · rw [est] at e; injection e with e _; subst e; exact .inr (.inr ⟨x, ps, rfl, n1, n2, hw⟩)
        refine ⟨_, rfl, .inl ⟨rfl, _, SqL.of ho4⟩, (eva_cons (ev_call (eva_cons (ev_var rfl (dat_str _)) (eva_cons (ev_var rfl (dat_str _)) eva_nil)) RW) eva_nil) G' H4 (Same.refl _) g4.gh _ fun vs G5 H5 g5 hvs => ?_⟩
        obtain ⟨y1, r1, rfl, hy, hvs⟩ := hvs.cons
        cases hvs.nil
        have go5 := g5.out ho4 go
        have gf5 := g5.out hf4 gf
        have gn5 := g5.out hn4 gn
        refine ⟨po, _, _, rfl, rfl, g5.hh _ _ ho4, by omega, ?_⟩
        have g6 : Grow G H G5 (upd H5 po (.lst (os ++ [y1]))) := grow_muts (g4.trans g5) go5 hpo
        have ho6 : (upd H5 po (.lst (os ++ [y1]))) po = some (.lst (os ++ [y1])) := upd_same
        have hn6 : (upd H5 po (.lst (os ++ [y1]))) pn = some (.lst (st0.reverse.map V.str)) := by rw [upd_ne nno]; exact g5.hh _ _ hn4
        have hf6 : (upd H5 po (.lst (os ++ [y1]))) pf = some (.lst (fsl.map V.str)) := by rw [upd_ne nfo]; exact g5.hh _ _ hf4
        have hl6 : (upd H5 po (.lst (os ++ [y1]))) pl = some (.lst ((ws.map shW).map V.str)) := by rw [upd_ne npo]; exact g5.hh _ _ hl4
        have hos6 : Dats K G5 (os ++ [y1]) ((ws.take (i + 1)).map Wd.d) := by rw [et]; exact dats_snoc (hos.same g5.gg) hy
        (try dsimp only)
        generalize upd H5 po (.lst (os ++ [y1])) = H6 at g6 ho6 hn6 hf6 hl6
        refine ⟨_, rfl, rfl, _, rfl, ?_⟩
        rcases step_word stp hki with ⟨x, st1, e, rfl, hx, e1⟩ | ⟨p, q, st1, e, rfl, hx, e1⟩ | ⟨want, x, ps, st1, e, rfl, n1, n2, hw, hpl3, e1⟩
        · rw [est] at e
          injection e with e e2
          subst e e2
          rw [decide_eq_true rfl]
          refine iteT ?_
          refine ⟨_, rfl, .inl ⟨rfl, _, SqL.of hf6⟩, _, rfl, pf, _, _, rfl, rfl, hf6, by rw [List.length_map]; omega, ?_⟩
          refine ⟨_, _, _, G5, os ++ [y1], fsl ++ [x], rfl, grow_muts g6 gf5 hpf0, ⟨go5, gf5, gn5⟩, ?_, ?_, hos6, ?_, ?_, ?_, ?_⟩
          · rw [upd_ne npf]; exact hl6
          · rw [upd_ne (Ne.symm nfo)]; exact ho6
          · rw [upd_same, List.map_append]; rfl
          · intro y m
            rcases List.mem_append.mp m with m | m
            · exact hfs y m
            · rw [List.mem_singleton.mp m]; exact (hfld x hx).2
          · simp; omega
          · rw [upd_ne nnf, e1]; exact hn6
        · rw [est] at e
          injection e with e e2
          subst e e2
          rw [dec_no (show S "number" ≠ S "field" by decide +kernel)]
          refine iteF ?_
          refine ⟨_, rfl, rfl, _, rfl, ?_⟩
          rw [decide_eq_true rfl]
          refine iteF ?_
          exact ⟨_, _, _, G5, os ++ [y1], fsl, rfl, g6, ⟨go5, gf5, gn5⟩, hl6, ho6, hos6, hf6, hfs, by omega, by rw [e1]; exact hn6⟩
        · rw [est] at e
          injection e with e e2
          subst e e2
          rw [dec_no n1]
          refine iteF ?_
          refine ⟨_, rfl, rfl, _, rfl, ?_⟩
          rw [dec_no n2]
          refine iteT ?_
          refine ⟨_, rfl, .inl ⟨rfl, _, SqL.of hn6⟩, (eva_cons (ev_call (eva_cons (ev_var rfl (dat_str _)) eva_nil) (show RParts [.str x] _ from ⟨x, need, ps, rfl, hw, rfl⟩)) eva_nil) G5 H6 (Same.refl _) g6.gh _ fun vs G7 H7 g7 hvs => ?_⟩
          obtain ⟨y2, r2, rfl, hy2, hvs⟩ := hvs.cons
          cases hvs.nil
          obtain ⟨pz, zs, rfl, hpz, hzs⟩ := hy2.lst
          cases datStrs hzs
          have go7 := g7.out ho6 go5
          have gf7 := g7.out hf6 gf5
          have gn7 := g7.out hn6 gn5
          refine ⟨pn, pz, _, _, rfl, rfl, g7.hh _ _ hn6, g7.gh _ _ hpz, ?_, ?_⟩
          · rw [est] at hzi
            simp only [List.length_map, List.length_reverse, List.length_cons, List.length_nil] at hzi ⊢
            omega
          refine ⟨_, _, _, G7, os ++ [y1], fsl, rfl, grow_muts (g6.trans g7) gn7 hpn0, ⟨go7, gf7, gn7⟩, ?_, ?_, hos6.same g7.gg, ?_, hfs, by omega, ?_⟩
          · rw [upd_ne npn]; exact g7.hh _ _ hl6
          · rw [upd_ne (Ne.symm nno)]; exact g7.hh _ _ ho6
          · rw [upd_ne (Ne.symm nnf)]; exact g7.hh _ _ hf6
          · rw [upd_same, e1, List.reverse_append, List.map_append]
    · rintro σ H' ⟨v5, v6, v7, G', os, fsl, rfl, g', ⟨go, gf, gn⟩, hpl', hpo', hos, hpf', hfs, hfl, hpn'⟩
      rw [List.length_map, List.length_map] at hos hpn' hfl
      rw [fl] at hpn'
      rw [List.take_length] at hos
      have hrow : Dat K H' (.ref pn) (.list []) := dat_lst hpn' dats_nil
      have pl0 : Pl 2 (.list []) := pl_lst fun x hx => by cases hx
      refine if_no (G := H') (evt_c (evt_test (K := K) (ev_eqD (ev_var rfl hrow) (ev_lst eva_nil (by decide)) pl0 pl0 (by decide))) (by rw [PySem.Spec.same_self]; rfl)) (Same.refl _) fun G3 H3 g3 => ?_
      have g4 := grow_ons g' g3.hh
      have hf4 := g3.hh _ _ hpf'
      have ho4 := g3.hh _ _ hpo'
      refine ⟨_, rfl, pf, rfl, ⟨_, SqL.of hf4⟩, for_list (xs := fsl.map V.str) (fun i σ H' => ∃ v7 : Option V, σ = [some (.str (shown ws)), some (.ref pb), some (.ref po), some (.ref pf), some (.ref pn), v5, v6, v7] ∧ H' = H3) ⟨_, rfl, rfl⟩ ?_ ?_ ?_⟩
      · rintro i σ H' _ ⟨v7, rfl, rfl⟩
        exact SqL.of hf4
      · rintro i x σ H' hx ⟨v7, rfl, rfl⟩
        rw [List.getElem?_map] at hx
        obtain ⟨y, hy, rfl⟩ := Option.map_eq_some_iff.mp hx
        have hyb := hfs y (List.mem_of_getElem? hy)
        refine ⟨_, rfl, _, rfl, pb, _, rfl, .inr ((g4.gg.trans g4.gh).tup hpb), rfl, flat_strs _, _, rfl, ?_⟩
        rw [inV_strs, decide_eq_true hyb]
        refine iteF ?_
        exact ⟨_, rfl, rfl⟩
      · rintro σ H' ⟨v7, rfl, rfl⟩
        refine ⟨_, rfl, po, _, rfl, .inl ⟨SqL.of ho4, fun l hl => ?_⟩⟩
        have g9 := grow_new (o := .tup os) g4.gh hl
        exact k _ _ _ (g4.trans g9) (dat_tup (SqT.of upd_same) (hos.same g9.gg))
end
end K08
set_option maxHeartbeats 4000000
namespace K08
open PySem L2 Frac Lw Dig PySem.NumText Nm
theorem two_div {i : Int} : CDivP i 2 := ⟨by decide, Nat.lt_of_lt_of_le (show (2 : Int).natAbs < 2 ^ 2 by decide) (Nat.pow_le_pow_right (by decide) (by decide))⟩
section
variable {P : Program} {w : World} {K : PySem.W.Frag} {mg : Str → Option Value} {base : Heap}
theorem ok_ma (T : Top K mg) (kk : Nat) : FnOkS P w K mg base (kk + 3) T.f_many_ahead T.fd_many_ahead ["places", "lies_ahead"] (spMA P w K mg base kk) := by
  refine T.F_many_ahead.okS (k := kk + 2) sc_many_ahead (fun s vs H Q h => ?_) (fun cdv A outer s H vs Q hr h => ?_)
  · obtain ⟨n, f, q, params, body, fr, sc, cl, y, cap, vals, te, g, rfl, _⟩ := h
    rfl
  · obtain ⟨n, f, q, params, body, fr, sc, cl, y, cap, vals, te, g, rfl, hn, S, hcap, L, C, hvl, hbind, hbody, hev, fin⟩ := h
    refine ⟨_, (pss_cons (ps_set (i := 2) sc_many_ahead.nd rfl (Or.inl rfl) pe_int) (pss_cons (ps_set (i := 3) sc_many_ahead.nd rfl (Or.inl rfl) (pv 0))
      (pss_cons (ps_while PassesOwn.never (pt_cmpR op_lt (pv 2) (pv 3) (nomark _)) (pss_cons (ps_set (i := 4) sc_many_ahead.nd rfl (Or.inl rfl) (pe_op op_fdivP (pe_op op_add (pv 2) (pv 3)) pe_int))
        (pss_one (ps_if (pt_val (pe_callV (i := 1) rfl (Or.inl rfl) (hr.mono (by omega)) rfl L C S hcap hbind hvl hbody (pa_cons (pv 4) pa_nil st_Name)))
          (pss_one (ps_set (i := 2) sc_many_ahead.nd rfl (Or.inl rfl) (pe_op op_add (pv 4) pe_int))) (pss_one (ps_set (i := 3) sc_many_ahead.nd rfl (Or.inl rfl) (pv 4)))))))
      (pss_one (ps_ret (pv 2)))))), ?_⟩
    refine ⟨_, rfl, ?_⟩
    refine while_by (fun σ H' => ∃ (low high : Nat) (v : Option V), σ = [some (.int (n : Nat)), some (.ref f), some (.int (low : Nat)), some (.int (high : Nat)), v] ∧ high ≤ n ∧ hv g low high = hv g 0 n ∧ Same H H') (fun σ _ => match σ with | [_, _, some (.int l), some (.int h), _] => (h - l).toNat | _ => 0)
      ⟨0, n, none, rfl, Nat.le_refl _, rfl, Same.refl _⟩ ?_ ?_
    · rintro σ H1 ⟨low, high, v, rfl, c2, c3, s1⟩
      refine ⟨_, rfl, _, rfl, _, _, rfl, rfl, _, rfl, ?_⟩
      by_cases hlt : (low : Int) < high
      · rw [decide_eq_true hlt]
        refine iteT ?_
        have hlt' : low < high := by omega
        refine ⟨_, rfl, _, rfl, _, _, rfl, rfl, _, _, rfl, rfl, two_div, ?_⟩
        obtain ⟨half, hhalf⟩ : ∃ half : Nat, ((low : Int) + high) / 2 = half := ⟨(((low : Int) + high) / 2).toNat, by omega⟩
        have hh : (low + high) / 2 = half := by omega
        (try dsimp only)
        rw [hhalf]
        have b1 : low ≤ half := by omega
        have b2 : half < high := by omega
        have e3 : hv g low high = if g half then hv g (half + 1) high else hv g low half := by
          rw [hv, dif_pos hlt', hh]
        refine if_ev (c := g half) (G := H1) ?_ (Same.refl _) (fun e G2 H2 g2 => ?_) (fun e G2 H2 g2 => ?_)
        · refine fun G1 H2 sa sb Q1 k1 => ⟨rfl, _, rfl, rfl, ?_⟩
          exact (hev half (by omega)) G1 H2 (s1.trans sa) sb _ fun v' G' H' g' hv' => ⟨_, hv'.bl, k1 G' H' g'⟩
        · refine ⟨_, rfl, _, _, rfl, rfl, ⟨half + 1, high, _, rfl, c2, ?_, s1.trans g2.hh⟩, ?_⟩
          · rw [← c3, e3, if_pos e]
          · show ((high : Int) - ((half : Int) + 1)).toNat < ((high : Int) - low).toNat
            omega
        · refine ⟨_, rfl, ⟨low, half, _, rfl, by omega, ?_, s1.trans g2.hh⟩, ?_⟩
          · rw [← c3, e3, if_neg (by rw [e]; exact Bool.false_ne_true)]
          · show ((half : Int) - low).toNat < ((high : Int) - low).toNat
            omega
      · rw [decide_eq_false hlt]
        refine iteF ?_
        refine ⟨_, rfl, ?_⟩
        have e3 : hv g low high = low := by rw [hv, dif_neg (by omega)]
        rw [← e3, c3]
        exact fin H1 s1
    · rintro σ H1 Q1 Q2 hq ⟨a, e1, b, e2, i, j, e3, e4, c, e5, q⟩
      exact ⟨a, e1, b, e2, i, j, e3, e4, c, e5, hq _ _ q⟩
end
end K08
set_option maxHeartbeats 4000000
namespace K08
open PySem L2 Frac Lw Dig PySem.NumText Nm
open Ord Num
def Sz (p : Int × Int) : Prop := p.1.natAbs < 10 ^ 40 ∧ p.2.natAbs < 10 ^ 40
def RCmp : List PyData → PyData → Prop := fun as d => ∃ p q : Int × Int, as = [dF p, dF q] ∧ Sz p ∧ Sz q ∧ d = .int (cmp p q)
def RPlace : List PyData → PyData → Prop := fun as d => ∃ (row : List (Int × Int)) (n : Int × Int), as = [.list (row.map dF), dF n] ∧ Srt row ∧ (∀ r ∈ row, Lst r ∧ Sz r) ∧ Lst n ∧ Sz n ∧ row.length ≤ 1000 ∧ d = .int (cnt row n)
def RRise : List PyData → PyData → Prop := fun as d => ∃ ns : List (Int × Int), as = [.list (ns.map dF)] ∧ (∀ r ∈ ns, Lst r ∧ Sz r) ∧ ns.length ≤ 900 ∧ d = .list ((ns.foldl ins []).map dF)
def numsIn (ws : List Wd) : List (Int × Int) := ws.filterMap fun w => match w with | .n a b => some (a, b) | .t _ => none
def RNums : List PyData → PyData → Prop := fun as d => ∃ ws : List Wd, as = [.tuple (ws.map Wd.d)] ∧ (∀ r ∈ numsIn ws, Lst r ∧ Sz r) ∧ ws.length ≤ 900 ∧ d = .tuple (((numsIn ws).foldl ins []).map dF)
theorem pl_dF {n : Nat} (p : Int × Int) : Pl (n + 1) (dF p) := pl_tup fun x hx => by
  rcases List.mem_cons.mp hx with rfl | hx
  · exact pl_int _
  · rw [List.mem_singleton.mp hx]; exact pl_int _
theorem dF_inj {p q : Int × Int} (h : dF p = dF q) : p = q := by
  injection h with h
  injection h with h1 h2
  injection h2 with h2 _
  injection h1 with h1
  injection h2 with h2
  exact Prod.ext h1 h2
structure Rw (row : List (Int × Int)) : Prop where
  srt : Srt row
  all : ∀ r ∈ row, Lst r ∧ Sz r
theorem Rw.ins {row : List (Int × Int)} {n : Int × Int} (h : Rw row) (hn : Lst n ∧ Sz n) : Rw (Num.ins row n) :=
  ⟨ins_srt h.srt (fun r hr => (h.all r hr).1) hn.1, fun r hr => by
    rcases ins_mem hr with rfl | hr
    · exact hn
    · exact h.all r hr⟩
theorem rw_nil : Rw [] := ⟨List.Pairwise.nil, fun _ h => by cases h⟩
theorem rw_fold : ∀ (ns : List (Int × Int)) (row : List (Int × Int)), Rw row → (∀ r ∈ ns, Lst r ∧ Sz r) → Rw (ns.foldl Num.ins row)
  | [], _, h, _ => h
  | n :: ns, row, h, hn => rw_fold ns _ (h.ins (hn n List.mem_cons_self)) fun r hr => hn r (List.mem_cons_of_mem _ hr)
theorem fold_len : ∀ (ns : List (Int × Int)) (row : List (Int × Int)), (ns.foldl Num.ins row).length ≤ row.length + ns.length
  | [], _ => by simp
  | n :: ns, row => by
    rw [List.foldl_cons, List.length_cons]
    have := fold_len ns (Num.ins row n)
    have := ins_len row n
    omega
section
variable {P : Program} {w : World} {K : PySem.W.Frag} {mg : Str → Option Value} {base : Heap}
theorem ok_compared (T : Top K mg) : FnOk P w K mg base CX0 1 T.f_compared T.fd_compared ["one", "other"] (spP K RCmp) := by
  refine T.F_compared.ok sc_compared (fun vs H Q E h => ?_) (fun cdv A outer s H vs Q E hr h => ?_)
  · obtain ⟨G, as, d, sg, hv, ⟨p, q, rfl, _⟩, _⟩ := h
    rw [hv.length]; rfl
  · obtain ⟨G, as, d, sg, hv, ⟨p, q, rfl, hp, hq, rfl⟩, k⟩ := h
    obtain ⟨v1, r1, rfl, h1, hv⟩ := hv.cons
    obtain ⟨v2, r2, rfl, h2, hv⟩ := hv.cons
    cases hv.nil
    have zz : ∀ {x : Int}, x.natAbs < 10 ^ 40 → x.natAbs < 10 ^ 100 := fun h => Nat.lt_of_lt_of_le h (by decide)
    refine ⟨_, (pss_cons (ps_set (i := 2) sc_compared.nd rfl (Or.inl rfl) (pe_op op_mulW (pe_ix (ix_tupK (K := K) rfl) (pv 0) pe_int (fun _ _ => rfl)) (pe_ix (ix_tupK (K := K) rfl) (pv 1) pe_int (fun _ _ => rfl))))
      (pss_cons (ps_set (i := 3) sc_compared.nd rfl (Or.inl rfl) (pe_op op_mulW (pe_ix (ix_tupK (K := K) rfl) (pv 1) pe_int (fun _ _ => rfl)) (pe_ix (ix_tupK (K := K) rfl) (pv 0) pe_int (fun _ _ => rfl))))
      (pss_cons (ps_if (pt_cmpR op_lt (pv 2) (pv 3) (nomark _)) (pss_one (ps_ret (pe_un un_neg pe_int))) pss_nil)
      (pss_cons (ps_if (pt_cmpR op_gt (pv 2) (pv 3) (nomark _)) (pss_one (ps_ret pe_int)) pss_nil)
      (pss_one (ps_ret pe_int)))))) , ?_⟩
    refine asg_ev (K := K) (ev_iC (ev_ixT (ev_var rfl h1) ev_int rfl rfl) (ev_ixT (ev_var rfl h2) ev_int rfl rfl) (mw (zz hp.1) (zz hq.2)) (dat_int _)) sg fun v3 G1 H1 g1 h3 => ?_
    refine asg_ev (K := K) (ev_iC (ev_ixT (ev_var rfl (h2.same g1.gg)) ev_int rfl rfl) (ev_ixT (ev_var rfl (h1.same g1.gg)) ev_int rfl rfl) (mw (zz hq.1) (zz hp.2)) (dat_int _)) g1.gh fun v4 G2 H2 g2 h4 => ?_
    have g12 := g1.trans g2
    refine if_ev (evt_test (K := K) (ev_i0 (ev_var rfl (h3.same g2.gg)) (ev_var rfl h4) (dat_bl _))) g2.gh (fun e G3 H3 g3 => ?_) (fun e G3 H3 g3 => ?_)
    · have e' := of_decide_eq_true e
      have : cmp p q = -1 := by unfold cmp; rw [if_pos e']
      exact ⟨1, rfl, k (.int (-1)) G3 H3 (g12.trans g3) (by rw [this]; exact dat_int _)⟩
    · have e' := of_decide_eq_false e
      refine if_ev (evt_test (K := K) (ev_i0 (ev_var rfl ((h3.same g2.gg).same g3.gg)) (ev_var rfl (h4.same g3.gg)) (dat_bl _))) g3.gh (fun f G4 H4 g4 => ?_) (fun f G4 H4 g4 => ?_)
      · have f' := of_decide_eq_true f
        have : cmp p q = 1 := by unfold cmp; rw [if_neg e', if_pos f']
        exact k (.int 1) G4 H4 ((g12.trans g3).trans g4) (by rw [this]; exact dat_int _)
      · have f' := of_decide_eq_false f
        have : cmp p q = 0 := by unfold cmp; rw [if_neg e', if_neg f']
        exact k (.int 0) G4 H4 ((g12.trans g3).trans g4) (by rw [this]; exact dat_int _)
abbrev crPA : Nat → Nat → Option Str := fun _ _ => some lq_place_among
theorem ok_place (T : Top K mg) (M : Bs K mg base) : FnOk P w K mg base CX0 5 T.f_place_among T.fd_place_among ["numbers", "number"] (spPT K T.P_place_among crPA RPlace) := by
  have G_compared : FnOk P w K mg base CX0 1 T.f_compared T.fd_compared ["one", "other"] (spP K RCmp) := ok_compared T
  have G_many_ahead : FnOkS P w K mg base 4 T.f_many_ahead T.fd_many_ahead ["places", "lies_ahead"] (spMA P w K mg base 1) := ok_ma T 1
  refine T.F_place_among.okC sc_place_among (fun vs H Q E h => ?_) (fun cdv A outer s H vs Q E hcd hr h => ?_)
  · obtain ⟨G, as, d, hT, sg, hv, ⟨p, q, rfl, _⟩, _⟩ := h
    rw [hv.length]; rfl
  · obtain ⟨G, as, d, hT, sg, hv, ⟨row, n, rfl, hs, hall, hn, hz, hlen, rfl⟩, k⟩ := h
    obtain ⟨v1, r1, rfl, h1, hv⟩ := hv.cons
    obtain ⟨v2, r2, rfl, h2, hv⟩ := hv.cons
    cases hv.nil
    have hc := cnt_le row n
    refine ⟨_, (pss_one (ps_ret (pe_ma (kk := 1) (y := "place") (cap := ["numbers", "number"]) (js := [0, 1]) (q := lq_place_among) (cr := fun _ _ => some lq_place_among) G_many_ahead (hr.mono (by decide)) (by rfl) T.m_many_ahead T.F_many_ahead.kp T.b_many_ahead (fun _ _ h => h) ⟨rfl, rfl, rfl, by decide +kernel, by decide +kernel, (by show ∀ p ∈ (_ : List (Str × NameKind)), p.2 = NameKind.free → List.lookup p.1 (defScope s_place_among).names = some NameKind.cell; decide +kernel), by decide +kernel, by decide +kernel, by decide +kernel⟩ rfl (hcd.trans T.cd_place_among) (PySem.W.codeHd_of_K M.kin T.ch_place_among) M.bm rfl rfl (fun _ _ _ _ _ => rfl) (pe_callB (call_lenK (K := K) rfl) (by rfl) T.len_ PySem.boot_len (pa_cons (pv 0) pa_nil st_Name)) (fun _ _ _ _ _ _ _ hr2 => (pe_cmpR op_lt (pe_call G_compared (hr2.mono (by decide)) (by rfl) T.m_compared T.F_compared.kp T.b_compared .nil pass0 (pa_cons (pe_ix (ix_listK (K := K) rfl) (pv 1) (pv 0) (fun _ _ => rfl)) (pa_cons (pv 2) pa_nil st_Name) st_Subscript)) pe_int (nomark _)))))) , ?_⟩
    refine ret_ev (K := K) (σ := [some v1, some v2]) (ev_ma (n := row.length) (g := fun i => decide (cmp (row.getD i (0, 0)) n < 0)) hT (ev_d (ev_lenL (eva_cons (ev_var rfl h1) eva_nil)) (by rw [List.length_map])) (by omega) fun i hi => ?_) sg fun v G' H' g hv' => k v G' H' g ?_
    · have hge : (row.map dF)[i]? = some (dF (row.getD i (0, 0))) := by rw [List.getElem?_map, List.getD_eq_getElem?_getD, List.getElem?_eq_getElem hi]; rfl
      have hm : row.getD i (0, 0) ∈ row := by rw [List.getD_eq_getElem?_getD, List.getElem?_eq_getElem hi]; exact List.getElem_mem hi
      have rc : RCmp [dF (row.getD i (0, 0)), dF n] (.int (cmp (row.getD i (0, 0)) n)) := ⟨_, _, rfl, (hall _ hm).2, hz, rfl⟩
      exact ev_i0 (ev_call (eva_cons (ev_ixL (ev_var rfl h1) (ev_var rfl (dat_int _)) (by rw [List.length_map]; exact ixN_nat hi) hge) (eva_cons (ev_var rfl h2) eva_nil)) rc) ev_int (dat_bl _)
    · have e : L2.hv (fun i => decide (cmp (row.getD i (0, 0)) n < 0)) 0 row.length = cnt row n := hv_eq _ _ (fun i hi => by
        have hcp := cnt_pre hs (fun r hr => (hall r hr).1) hn i hi
        rw [List.getD_eq_getElem?_getD, List.getElem?_eq_getElem hi]
        exact ⟨fun z => hcp.mpr (of_decide_eq_true z), fun z => decide_eq_true (hcp.mp z)⟩) (Nat.zero_le _) hc
      rw [e] at hv'; exact hv'
end
end K08
set_option maxHeartbeats 4000000
namespace K08
open PySem L2 Frac Lw Dig PySem.NumText Nm
open Ord Num
theorem grow_mut {G H G' H' H3 : Hp} {p : Addr} {o : HO} (g : Grow G H G' H') (s : Same H' H3) (h1 : G' p = none) (h2 : H p = none) : Grow G H G' (L2.upd H3 p o) :=
  ⟨g.gg, same_upd (g.gh.trans s) h1, fun b u e => by rw [upd_ne (ne_of_none e h2)]; exact s b u (g.hh b u e), g.fr⟩
theorem grow_on {G H G' H' H3 : Hp} (g : Grow G H G' H') (s : Same H' H3) : Grow G H G' H3 := ⟨g.gg, g.gh.trans s, g.hh.trans s, g.fr⟩
theorem grow_frz {G H G' H' : Hp} {p : Addr} {o : HO} (g : Grow G H G' H') (h1 : G' p = none) (h2 : H p = none) (h3 : H' p = some o) : Grow G H (L2.upd G' p o) H' :=
  ⟨g.gg.trans (same_new h1), fun b u e => by
    by_cases h : b = p
    · subst h; rw [upd_same] at e; rw [← e]; exact h3
    · rw [upd_ne h] at e; exact g.gh b u e, g.hh, fun b u e => by
    by_cases h : b = p
    · subst h; exact .inr h2
    · rw [upd_ne h] at e; exact g.fr b u e⟩
theorem not_in_iff {R : List (Int × Int)} {n : Int × Int} (hR : Rw R) (hn : Lst n) : (decide ((cnt R n : Int) = ((R.map dF).length : Nat)) || !PySem.Spec.same (dF (R.getD (cnt R n) (0, 0))) (dF n)) = !decide (n ∈ R) := by
  have hm := mem_at hR.srt (fun r hr => (hR.all r hr).1) hn
  have hc := cnt_le R n
  rw [List.length_map]
  by_cases h : n ∈ R
  · have e := hm.mp h
    have hl := (List.getElem?_eq_some_iff.mp e).1
    rw [decide_eq_true h, decide_eq_false (by omega), List.getD_eq_getElem?_getD, e]
    show (false || !PySem.Spec.same (dF n) (dF n)) = !true
    rw [PySem.Spec.same_self]; rfl
  · rw [decide_eq_false h]
    by_cases hl : (cnt R n : Int) = (R.length : Nat)
    · rw [decide_eq_true hl]; rfl
    · rw [decide_eq_false hl]
      have hne : dF (R.getD (cnt R n) (0, 0)) ≠ dF n := fun z => h (hm.mpr (by
        have z' := dF_inj z
        rw [List.getD_eq_getElem?_getD, List.getElem?_eq_getElem (show cnt R n < R.length by omega)] at z'
        rw [List.getElem?_eq_getElem (show cnt R n < R.length by omega)]
        exact congrArg some z'))
      rw [same_ne hne]; rfl
theorem ins_no {R : List (Int × Int)} {n : Int × Int} (h : n ∈ R) : Num.ins R n = R := by unfold Num.ins; rw [if_pos h]
theorem ins_yes {R : List (Int × Int)} {n : Int × Int} (h : n ∉ R) : Num.ins R n = R.take (cnt R n) ++ n :: R.drop (cnt R n) := by unfold Num.ins; rw [if_neg h]
section
variable {P : Program} {w : World} {K : PySem.W.Frag} {mg : Str → Option Value} {base : Heap}
theorem dats_ins {G : Hp} {ys : List V} {x : V} {R : List (Int × Int)} {n : Int × Int} (h : Dats K G ys (R.map dF)) (hx : Dat K G x (dF n)) (c : Nat) : Dats K G (ys.take c ++ x :: ys.drop c) ((R.take c ++ n :: R.drop c).map dF) := by
  rw [List.map_append, List.map_cons, List.map_take, List.map_drop]
  exact dats_append (dats_take c h) (dats_cons hx (dats_drop c h))
theorem ok_rising (T : Top K mg) (M : Bs K mg base) : FnOk P w K mg base CX0 6 T.f_rising T.fd_rising ["numbers"] (spPT K T.P_place_among crPA RRise) := by
  have G_place_among : FnOk P w K mg base CX0 5 T.f_place_among T.fd_place_among ["numbers", "number"] (spPT K T.P_place_among crPA RPlace) := ok_place T M
  refine T.F_rising.ok sc_rising (fun vs H Q E h => ?_) (fun cdv A outer s H vs Q E hr h => ?_)
  · obtain ⟨G, as, d, hT, sg, hv, ⟨ns, rfl, _⟩, _⟩ := h
    rw [hv.length]; rfl
  · obtain ⟨G, as, d, hT, sg, hv, ⟨ns, rfl, hall, hlen, rfl⟩, k⟩ := h
    obtain ⟨v1, r1, rfl, h1, hv⟩ := hv.cons
    cases hv.nil
    obtain ⟨pa, xs, rfl, hpa, hxs⟩ := h1.lst
    have hu := hr.units
    have zl : (2000 : Nat) ≤ sizeLine := by decide
    have hxl := hxs.length
    rw [List.length_map] at hxl
    refine ⟨_, (pss_cons (ps_set (i := 1) sc_rising.nd rfl (Or.inl rfl) (pe_lst pa_nil))
      (pss_cons (ps_for PassesOwn.never rfl (pi_list (pv 0)) (pg_name (i := 2) sc_rising.nd rfl (Or.inl rfl)) (pss_cons (ps_set (i := 3) sc_rising.nd rfl (Or.inl rfl) (pe_call G_place_among hr (by rfl) T.m_place_among T.F_place_among.kp T.b_place_among .nil pass0 (pa_cons (pv 1) (pa_cons (pv 2) pa_nil st_Name) st_Name)))
      (pss_one (ps_if ((pw_or (pt_cmpR op_eq (pv 3) (pe_callB (call_lenK (K := K) rfl) (by rfl) T.len_ PySem.boot_len (pa_cons (pv 1) pa_nil st_Name)) (nomark _)) (pw_or1 (pt_cmpR (op_neDK (K := K) rfl hu) (pe_ix (ix_listK (K := K) rfl) (pv 1) (pv 3) (fun _ _ => rfl)) (pv 2) (nomark _))))).pt (pss_one (ps_expr (pe_bm PySem.F.plainAttrs_list PySem.F.slot_list_insert PySem.F.type_list_insert mt_insert (pv 1) (pa_cons (pv 3) (pa_cons (pv 2) pa_nil st_Name) st_Name)))) pss_nil))))
      (pss_one (ps_ret (pv 1))))) , ?_⟩
    refine ⟨(by show 0 ≤ sizeLine; decide), fun pr hpr => ?_⟩
    have hpa0 := sg _ _ hpa
    refine ⟨_, rfl, pa, rfl, ⟨xs, SqL.of (same_new hpr _ _ hpa0)⟩, for_list (xs := xs) (fun i σ H' => ∃ (v2 v3 : Option V) (ys : List V) (G' : Hp), σ = [some (.ref pa), some (.ref pr), v2, v3] ∧ Grow G H G' H' ∧ G' pr = none ∧ H' pr = some (.lst ys) ∧ Dats K G' ys (((ns.take i).foldl Num.ins []).map dF))
      ⟨_, _, [], G, rfl, grow_h sg (same_new hpr), sg.free hpr, upd_same, dats_nil⟩ ?_ ?_ ?_⟩
    · rintro i σ H' _ ⟨v2, v3, ys, G', rfl, g, _⟩
      exact SqL.of (g.hh _ _ hpa0)
    · rintro i x σ H' hx ⟨v2, v3, ys, G', rfl, g, gp, hp, hys⟩
      obtain ⟨d, hd, hxd⟩ := hxs.get' hx
      rw [List.getElem?_map] at hd
      cases en : ns[i]? with
      | none => rw [en] at hd; cases hd
      | some n =>
        rw [en] at hd; cases hd
        have hn := hall n (List.mem_of_getElem? en)
        have hin : i < ns.length := (List.getElem?_eq_some_iff.mp en).1
        have hR : Rw ((ns.take i).foldl Num.ins []) := rw_fold _ _ rw_nil fun r hr => hall r (List.mem_of_mem_take hr)
        have hRl := fold_len (ns.take i) []
        rw [List.length_take] at hRl
        have et : (ns.take (i + 1)).foldl Num.ins [] = Num.ins ((ns.take i).foldl Num.ins []) n := by
          rw [List.take_add_one, en, List.foldl_append]; rfl
        rw [et]
        generalize (ns.take i).foldl Num.ins [] = R at hR hRl hys
        have hRl' : R.length ≤ 900 := by simp at hRl; omega
        have hrow : Dat K H' (.ref pr) (.list (R.map dF)) := dat_lst hp (hys.same g.gh)
        have hx' : Dat K H' x (dF n) := hxd.same (g.gg.trans g.gh)
        refine asg_ev (K := K) (G := H') (ev_callT ((g.gg.trans g.gh) _ _ hT) (eva_cons (ev_var rfl hrow) (eva_cons (ev_var rfl hx') eva_nil)) ⟨R, n, rfl, hR.srt, hR.all, hn.1, hn.2, by omega, rfl⟩) (Same.refl _) fun v3' G2 H2 g2 h3 => ?_
        rw [h3.int]
        have hrow2 := hrow.same g2.hh
        have hx2 := hx'.same g2.hh
        have hc := cnt_le R n
        refine if_ev (G := H2) (evt_c (evt_or (evt_test (K := K) (ev_eqI (ev_var rfl (dat_int _)) (ev_lenL (eva_cons (ev_var rfl hrow2) eva_nil)))) fun e => evt_test (K := K) (ev_eqD (a := dF (R.getD (cnt R n) (0, 0))) (ev_ixL (n := cnt R n) (ev_var rfl hrow2) (ev_var rfl (dat_int _)) ?_ ?_) (ev_var rfl hx2) (pl_dF (n := 1) _) (pl_dF (n := 1) _) (by decide))) (not_in_iff hR hn.1)) (Same.refl _) (fun e G3 H3 g3 => ?_) (fun e G3 H3 g3 => ?_)
        · have e' := of_decide_eq_false e
          rw [List.length_map] at e' ⊢
          exact ixN_nat (by omega)
        · have e' := of_decide_eq_false e
          rw [List.length_map] at e'
          rw [List.getElem?_map, List.getD_eq_getElem?_getD, List.getElem?_eq_getElem (show cnt R n < R.length by omega)]; rfl
        · have hni : n ∉ R := fun z => by rw [decide_eq_true z] at e; cases e
          have s3 := g2.hh.trans g3.hh
          have h3r := s3 _ _ hp
          have hyl := hys.length
          rw [List.length_map] at hyl
          refine ⟨_, rfl, .inl ⟨rfl, _, SqL.of h3r⟩, _, rfl, _, rfl, pr, ys, _, _, rfl, rfl, h3r, by omega, by omega, by omega, ?_⟩
          refine ⟨_, _, _, G', rfl, grow_mut g s3 gp hpr, gp, upd_same, ?_⟩
          rw [ins_yes hni]
          exact dats_ins hys (hxd.same g.gg) _
        · have hni : n ∈ R := by
            by_cases z : n ∈ R
            · exact z
            · rw [decide_eq_false z] at e; cases e
          have s3 := g2.hh.trans g3.hh
          refine ⟨_, _, ys, G', rfl, grow_on g s3, gp, s3 _ _ hp, ?_⟩
          rw [ins_no hni]; exact hys
    · rintro σ H' ⟨v2, v3, ys, G', rfl, g, gp, hp, hys⟩
      rw [hxl, List.take_length] at hys
      exact ⟨_, rfl, k (.ref pr) _ H' (grow_frz g gp hpr hp) (dat_lst upd_same (hys.same (same_new gp)))⟩
theorem nums_fm (ws : List Wd) : ws.filterMap (fun w => match w with | .n a b => some (dF (a, b)) | .t _ => none) = (numsIn ws).map dF := by
  unfold numsIn
  rw [List.map_filterMap]
  congr 1
  funext w
  cases w <;> rfl
theorem numsIn_len (ws : List Wd) : (numsIn ws).length ≤ ws.length := List.length_filterMap_le _ _
theorem ok_nums (T : Top K mg) (M : Bs K mg base) : FnOk P w K mg base CX0 7 T.f_numbers_of T.fd_numbers_of ["order"] (spPT K T.P_place_among crPA RNums) := by
  have G_rising : FnOk P w K mg base CX0 6 T.f_rising T.fd_rising ["numbers"] (spPT K T.P_place_among crPA RRise) := ok_rising T M
  refine T.F_numbers_of.ok sc_numbers_of (fun vs H Q E h => ?_) (fun cdv A outer s H vs Q E hr h => ?_)
  · obtain ⟨G, as, d, hT, sg, hv, ⟨ns, rfl, _⟩, _⟩ := h
    rw [hv.length]; rfl
  · obtain ⟨G, as, d, hT, sg, hv, ⟨ws, rfl, hall, hlen, rfl⟩, k⟩ := h
    obtain ⟨v1, r1, rfl, h1, hv⟩ := hv.cons
    cases hv.nil
    have zl : (2000 : Nat) ≤ sizeLine := by decide
    refine ⟨_, (pss_one (ps_ret (pe_callTy (call_tupleK (K := K) rfl) (by rfl) T.tuple_ bTup (pa_cons (pe_call G_rising hr (by rfl) T.m_rising T.F_rising.kp T.b_rising .nil pass0 (pa_cons (pe_lc (x := "word") (cap := []) (js := []) ⟨rfl, by decide +kernel, by decide +kernel, rfl, (by show ∀ p ∈ (_ : List (Str × NameKind)), p.2 = NameKind.free → List.lookup p.1 (defScope s_numbers_of).names = some NameKind.cell; decide +kernel), by decide +kernel, by decide +kernel, by decide +kernel⟩ rfl rfl (fun _ _ h => h) (pi_tup (pv 0)) (fun _ _ _ _ => ⟨(pif_one (pt_val (pe_callB (call_isD (K := K) rfl) (by rfl) T.isinstance_ bIsi (pa_cons (pv 0) (pa_cons (pe_bltn (v := .ty "tuple") (by rfl) T.tuple_ bTup rfl) pa_nil))))), (pv 0)⟩)) pa_nil st_ListComp)) pa_nil st_Call)))) , ?_⟩
    refine ret_ev (K := K) (ev_tupleL (eva_cons (ev_callT hT (eva_cons (ev_d (ev_lcT ws Wd.d (fun w => match w with | .n a b => some (dF (a, b)) | .t _ => none) (ev_var rfl h1) (by omega) fun G2 i wd x s3 hw hx => ?_) (by rw [nums_fm])) eva_nil) ⟨numsIn ws, rfl, hall, Nat.le_trans (numsIn_len ws) hlen, rfl⟩) eva_nil)) sg fun v G' H' g hv => k v G' H' g hv
    cases wd with
    | t y => exact lc0 (evt_b (K := K) (ev_isD (ev_var rfl hx) T.st))
    | n a b => exact lc1 (evt_b (K := K) (ev_isD (ev_var rfl hx) T.tt)) (ev_var rfl hx)
end
end K08
set_option maxHeartbeats 4000000
namespace K08
open PySem L2 Frac Lw Dig PySem.NumText Nm
open Ord Rdo
def RWS : List PyData → PyData → Prop := fun as d => ∃ w : Wd, as = [w.d] ∧ WOk w ∧ d = .str (shW w)
theorem shW_n {a b : Int} (h : Lst (a, b)) {x : Str} (e : x.cps.toList = nt (a, b)) : x = shN a b := str_ext (by rw [e, shN_codes h.pos])
theorem filterMap_some {α β : Type} (f : α → β) : ∀ l : List α, l.filterMap (fun x => some (f x)) = l.map f
  | [] => rfl
  | x :: r => by rw [List.filterMap_cons, filterMap_some f r]; rfl
section
variable {P : Program} {w : World} {K : PySem.W.Frag} {mg : Str → Option Value} {base : Heap}
theorem ev_neS {σ : St} {G : Hp} {ta tb : TE} {x y : Str} (ha : Ev K ta σ G (.str x)) (hb : Ev K tb σ G (.str y)) : Ev K (tOp rNe ta tb) σ G (.bool (!decide (x = y))) :=
  ev_op ha hb fun G1 H u v Q s1 s2 hu hv k => by
    rw [hu.str, hv.str]
    refine ⟨rfl, ?_⟩
    have e : decide (V.str x = V.str y) = decide (x = y) := decide_eq_decide.mpr ⟨fun z => by injection z, fun z => by rw [z]⟩
    rw [e]
    exact k _ G1 H (Grow.refl s2) (dat_bl _)
theorem ok_ws (T : Top K mg) (g : Glb2 mg) : FnOk P w K mg base CX0 3 T.f_word_shown T.fd_word_shown ["word"] (spP K RWS) := by
  have G_number_shown : FnOk P w K mg base CX0 2 T.f_number_shown T.fd_number_shown ["number"] (spNS K) := ok_ns T.F_number_shown g.g T.str_ T.list_ T.reversed_ T.abs_ T.F_figures_of T.b_figures_of T.m_figures_of
  refine T.F_word_shown.ok sc_word_shown (fun vs H Q E h => ?_) (fun cdv A outer s H vs Q E hr h => ?_)
  · obtain ⟨G, as, d, sg, hv, ⟨wd, rfl, _⟩, _⟩ := h
    rw [hv.length]; rfl
  · obtain ⟨G, as, d, sg, hv, ⟨wd, rfl, ok, rfl⟩, k⟩ := h
    obtain ⟨v1, r1, rfl, h1, hv⟩ := hv.cons
    cases hv.nil
    refine ⟨_, (pss_cons (ps_if (pt_val (pe_callB (call_isD (K := K) rfl) (by rfl) T.isinstance_ bIsi (pa_cons (pv 0) (pa_cons (pe_bltn (v := .ty "str") (by rfl) T.str_ bStr rfl) pa_nil)))) (pss_one (ps_ret (pv 0))) pss_nil)
      (pss_one (ps_ret (pe_call G_number_shown hr (by rfl) T.m_number_shown T.F_number_shown.kp T.b_number_shown .nil pass0 (pa_cons (pv 0) pa_nil st_Name))))) , ?_⟩
    cases wd with
    | t x =>
      refine if_ev (G := G) (evt_b (K := K) (ev_isD (ev_var rfl h1) T.ss)) sg (fun _ G1 H1 g1 => ?_) (fun z => nomatch z)
      exact ⟨_, rfl, k _ G1 H1 g1 (h1.same g1.gg)⟩
    | n a b =>
      have h1' : Dat K G v1 (.tuple [.int a, .int b]) := h1
      refine if_ev (G := G) (evt_b (K := K) (ev_isD (ev_var rfl h1') T.ts)) sg (fun z => nomatch z) (fun _ G1 H1 g1 => ?_)
      obtain ⟨l, z1, z2⟩ := ok
      obtain ⟨p, xs, rfl, hp, hxs⟩ := (h1'.same g1.gg).tup
      obtain ⟨y1, r1, rfl, d1, hxs⟩ := hxs.cons
      obtain ⟨y2, r2, rfl, d2, hxs⟩ := hxs.cons
      cases hxs.nil
      cases d1.int
      cases d2.int
      refine ⟨_, rfl, p, (a, b), rfl, g1.gh.tup hp, l.pos, ⟨Nat.lt_of_lt_of_le z1 (by decide), Nat.lt_of_lt_of_le z2 (by decide)⟩, fun x H2 cx s2 => ?_⟩
      rw [shW_n l cx]
      exact k _ G1 H2 (g1.trans (grow_h g1.gh s2)) (dat_str _)
theorem ok_os (T : Top K mg) (g : Glb2 mg) : FnOk P w K mg base CX0 4 T.f_order_shown T.fd_order_shown ["order"] (spP K RShown) := by
  have G_word_shown : FnOk P w K mg base CX0 3 T.f_word_shown T.fd_word_shown ["word"] (spP K RWS) := ok_ws T g
  refine T.F_order_shown.ok sc_order_shown (fun vs H Q E h => ?_) (fun cdv A outer s H vs Q E hr h => ?_)
  · obtain ⟨G, as, d, sg, hv, ⟨ns, rfl, _⟩, _⟩ := h
    rw [hv.length]; rfl
  · obtain ⟨G, as, d, sg, hv, ⟨ws, rfl, hall, hlen, rfl⟩, k⟩ := h
    obtain ⟨v1, r1, rfl, h1, hv⟩ := hv.cons
    cases hv.nil
    have zl : (20000 : Nat) ≤ sizeLine := by decide
    refine ⟨_, (pss_one (ps_ret (pe_bm PySem.F.plainAttrs_str PySem.F.slot_str_join PySem.F.type_str_join (mt_join (K := K) rfl) pe_str (pa_cons (pe_lc (x := "word") (cap := []) (js := []) ⟨rfl, by decide +kernel, by decide +kernel, rfl, (by show ∀ p ∈ (_ : List (Str × NameKind)), p.2 = NameKind.free → List.lookup p.1 (defScope s_order_shown).names = some NameKind.cell; decide +kernel), by decide +kernel, by decide +kernel, by decide +kernel⟩ rfl rfl (fun _ _ h => h) (pi_tup (pv 0)) (fun _ _ _ _ => ⟨pif_nil, (pe_call G_word_shown hr (by rfl) T.m_word_shown T.F_word_shown.kp T.b_word_shown .nil pass0 (pa_cons (pv 0) pa_nil st_Name))⟩)) pa_nil st_ListComp)))) , ?_⟩
    refine ⟨rfl, (eva_cons (ev_d (ev_lcT ws Wd.d (fun w => some (.str (shW w))) (ev_var rfl h1) (by omega) fun G2 i wd x s3 hw hx => lc1 evt_noif (ev_call (eva_cons (ev_var rfl hx) eva_nil) ⟨wd, rfl, hall wd (List.mem_of_getElem? hw), rfl⟩)) (show _ = PyData.list ((ws.map shW).map PyData.str) by rw [filterMap_some, List.map_map]; rfl)) eva_nil) G H (Same.refl _) sg _ fun vs G1 H1 g1 hvs => ?_⟩
    obtain ⟨v, rr, rfl, hv, hvs⟩ := hvs.cons
    cases hvs.nil
    obtain ⟨p, xs, rfl, hp, hxs⟩ := hv.lst
    cases datStrs hxs
    have sl := shown_len hall
    refine ⟨_, p, ws.map shW, rfl, rfl, SqL.of (g1.gh _ _ hp), ?_, ?_⟩
    · rw [sp32, List.length_map, List.map_map]
      show _ + ws.length * 1 ≤ sizeLine
      have : (ws.map ((fun x => x.length) ∘ shW)).sum = (ws.map fun w => (shW w).length).sum := rfl
      omega
    · rw [sp32]
      exact k _ G1 H1 g1 (dat_str _)
end
end K08
set_option maxHeartbeats 4000000
namespace K08
open PySem L2 Frac Lw Dig PySem.NumText Nm
open Ord Rdo Num
mutual
def noL : PyData → Bool
  | .list _ => false
  | .tuple ds => noLs ds
  | .dict _ => false
  | _ => true
def noLs : List PyData → Bool
  | [] => true
  | d :: r => noL d && noLs r
end
def offP (p : Addr) (G : Hp) : Hp := fun b => if b = p then none else G b
theorem offP_p (p : Addr) (G : Hp) : offP p G p = none := by unfold offP; rw [if_pos rfl]
theorem offP_ne {p b : Addr} {G : Hp} (h : b ≠ p) : offP p G b = G b := by unfold offP; rw [if_neg h]
theorem offP_same (p : Addr) (G : Hp) : Same (offP p G) G := fun b o e => by
  unfold offP at e
  split at e
  · cases e
  · exact e
theorem sqT_off {K : PySem.W.Frag} {G : Hp} {p q : Addr} {us xs : List V} (hp : G p = some (.lst us)) (h : SqT K G q xs) : SqT K (offP p G) q xs := by
  rcases h with h | h
  · refine .inl ?_
    have hq : q ≠ p := by
      rintro rfl
      rcases h with h | ⟨o, h⟩
      · rw [hp] at h; cases h
      · rw [hp] at h; cases h
    unfold Rd at h ⊢
    rw [offP_ne hq]; exact h
  · exact .inr h
mutual
theorem dat_off {K : PySem.W.Frag} {G : Hp} {p : Addr} {us : List V} (hp : G p = some (.lst us)) : ∀ (d : PyData) (v : V), noL d = true → Dat K G v d → Dat K (offP p G) v d
  | .none, v, _, h => by rw [h.non]; exact dat_non
  | .bool b, v, _, h => by rw [h.bl]; exact dat_bl b
  | .int i, v, _, h => by rw [h.int]; exact dat_int i
  | .str x, v, _, h => by rw [h.str]; exact dat_str x
  | .tuple ds, v, n, h => by
    obtain ⟨q, xs, rfl, hq, hx⟩ := h.tup
    exact dat_tup (sqT_off hp hq) (dats_off hp ds xs (by unfold noL at n; exact n) hx)
  | .list _, v, n, _ => by unfold noL at n; cases n
  | .dict _, v, n, _ => by unfold noL at n; cases n
theorem dats_off {K : PySem.W.Frag} {G : Hp} {p : Addr} {us : List V} (hp : G p = some (.lst us)) : ∀ (ds : List PyData) (xs : List V), noLs ds = true → Dats K G xs ds → Dats K (offP p G) xs ds
  | [], xs, _, h => by rw [h.nil]; exact dats_nil
  | d :: r, xs, n, h => by
    obtain ⟨y, ys, rfl, hy, hr⟩ := h.cons
    unfold noLs at n
    rw [Bool.and_eq_true] at n
    exact dats_cons (dat_off hp d y n.1 hy) (dats_off hp r ys n.2 hr)
end
theorem noLs_str : ∀ xs : List Str, noLs (xs.map PyData.str) = true
  | [] => rfl
  | x :: r => by
    show (noL (.str x) && noLs (r.map PyData.str)) = true
    rw [noLs_str r]; rfl
theorem noL_wd (w : Wd) : noL w.d = true := by cases w <;> rfl
theorem noLs_wd : ∀ ws : List Wd, noLs (ws.map Wd.d) = true
  | [] => rfl
  | w :: r => by
    show (noL w.d && noLs (r.map Wd.d)) = true
    rw [noL_wd, noLs_wd r]; rfl
abbrev dO (ws : List Wd) : PyData := .tuple (ws.map Wd.d)
theorem noLs_dO : ∀ os : List (List Wd), noLs (os.map dO) = true
  | [] => rfl
  | o :: r => by
    show (noL (dO o) && noLs (r.map dO)) = true
    rw [noLs_dO r]
    show (noLs (o.map Wd.d) && true) = true
    rw [noLs_wd]; rfl
def offD (d c : Addr) (H : Hp) : Hp := fun b => if b = d ∨ b = c then none else H b
theorem offD_same (d c : Addr) (H : Hp) : Same (offD d c H) H := fun b o e => by
  unfold offD at e
  split at e
  · cases e
  · exact e
theorem offD_at {d c b : Addr} {H : Hp} {o : HO} (h : H b = some o) (h1 : b ≠ d) (h2 : b ≠ c) : offD d c H b = some o := by
  unfold offD; rw [if_neg (by rintro (z | z); exact h1 z; exact h2 z)]; exact h
theorem offD_d (d c : Addr) (H : Hp) : offD d c H d = none := by unfold offD; rw [if_pos (.inl rfl)]
theorem offD_c (d c : Addr) (H : Hp) : offD d c H c = none := by unfold offD; rw [if_pos (.inr rfl)]
theorem kept_same {d c : Addr} {G H H' : Hp} (s : Same G H) (k : KeptBut d c H H') (h1 : G d = none) (h2 : G c = none) : Same G H' := fun b o e => k b o (s b o e) (ne_of_none e h1) (ne_of_none e h2)
theorem nums_at {K : PySem.W.Frag} {d c : Addr} {H : Hp} (D : DeckAt H d c) : ∀ ps : List Addr, (∀ p ∈ ps, ∃ b, NumAt H p b) → ∃ nums : List (Int × Int), nums.length = ps.length ∧ Dats K (offD d c H) (ps.map V.ref) (nums.map dF) ∧ ∀ n ∈ nums, (Lst n ∧ Sz n) ∧ n.1.natAbs < 10 ^ 20 ∧ n.2.natAbs ≤ 10 ^ 20
  | [], _ => ⟨[], rfl, dats_nil, fun _ h => by cases h⟩
  | p :: ps, h => by
    obtain ⟨nums, e1, e2, e3⟩ := nums_at D ps fun q hq => h q (List.mem_cons_of_mem _ hq)
    obtain ⟨b, nb⟩ := h p List.mem_cons_self
    obtain ⟨k, ns, hd, hc, _⟩ := id D.ex
    have n1 : p ≠ d := ne_of nb.tup hd (by intro z; cases z)
    have n2 : p ≠ c := ne_of nb.tup hc (by intro z; cases z)
    refine ⟨b :: nums, by rw [List.length_cons, List.length_cons, e1], dats_cons (dat_tup (SqT.of (offD_at nb.tup n1 n2)) (dats_cons (dat_int _) (dats_cons (dat_int _) dats_nil))) e2, fun n hn => ?_⟩
    rcases List.mem_cons.mp hn with rfl | hn
    · exact ⟨⟨⟨nb.pos, nb.gcd⟩, Nat.lt_of_lt_of_le nb.s1 (by decide), Nat.lt_of_le_of_lt nb.s2 (by decide)⟩, nb.s1, nb.s2⟩
    · exact e3 n hn
theorem run_nums {fld : Str → Prop} {num : Int → Int → Prop} {st st' : List Str} {ws : List Wd} (h : Run fld num st ws st') : ∀ r ∈ numsIn ws, num r.1 r.2 := by
  induction h with
  | nil => intro r hr; cases hr
  | cons s _ ih =>
    intro r hr
    obtain ⟨a, ha, e⟩ := List.mem_filterMap.mp hr
    rcases List.mem_cons.mp ha with rfl | ha
    · cases s with
      | field _ => cases e
      | number hn => cases e; exact hn
      | word _ _ _ => cases e
    · exact ih r (List.mem_filterMap.mpr ⟨a, ha, e⟩)
theorem pl_dFs {n : Nat} (X : List (Int × Int)) : Pl (n + 2) (.tuple (X.map dF)) := pl_tup fun x hx => by
  obtain ⟨r, _, rfl⟩ := List.mem_map.mp hx
  exact pl_dF _
theorem grow_frz' {G H G' H' : Hp} {p : Addr} {o : HO} (h1 : G' p = none) (h2 : Same G' H') (h3 : H' p = some o) : Same (upd G' p o) H' := fun b u e => by
  by_cases h : b = p
  · subst h; rw [upd_same] at e; rw [h3, e]
  · rw [upd_ne h] at e; exact h2 b u e
theorem put_len {κ : Type} [DecidableEq κ] (kvs : List (κ × V)) (k : κ) (v : V) : (putK kvs k v).length ≤ kvs.length + 1 := by
  unfold putK
  split
  · rw [List.length_map]; omega
  · rw [List.length_append]; simp
def Od (book : List Str) (nums : List (Int × Int)) (ws : List Wd) : Prop := IsOrd (· ∈ book) (fun a b => (a, b) ∈ nums) ws ∧ ws.length ≤ 40
section
variable {P : Program} {w : World} {K : PySem.W.Frag} {mg : Str → Option Value} {base : Heap}
theorem ok_law {f : Addr} {fd : FuncData} (F : Fun K "law" "law" s_law f fd) (T : Top K mg) (g : Glb2 mg) (W : Wds K w.params mg) (M : Bs K mg base) : FnOk P w K mg base CX0 8 f fd ["script"] (spLawT K [(T.P_place_among, fun _ _ => some lq_place_among)]) := by
  have G__law_deck : FnOk P w K mg base CX0 7 T.f__law_deck T.fd__law_deck ["script"] (spDeck K) := (ok_deck T.F__law_deck T.len_ T.sum_ T.range_).mono (by decide)
  have G__law_take : FnOk P w K mg base CX0 7 T.f__law_take T.fd__law_take ["deck", "many"] spTake := (ok_take T.F__law_take T.len_).mono (by decide)
  have G__law_book : FnOk P w K mg base CX0 7 T.f__law_book T.fd__law_book ["deck"] spBook := (ok_book T.F__law_book T.len_ T.range_ T.tuple_ T.F__law_take T.b__law_take T.m__law_take).mono (by decide)
  have G__law_numbers : FnOk P w K mg base CX0 7 T.f__law_numbers T.fd__law_numbers ["deck"] spNumbers := (ok_numbers T.F__law_numbers T.len_ T.max_ T.range_ T.F__law_take T.b__law_take T.m__law_take T.F__law_common T.b__law_common T.m__law_common T.F__law_least T.b__law_least T.m__law_least T.F__law_whole_number T.b__law_whole_number T.m__law_whole_number T.F__law_number T.b__law_number T.m__law_number).mono (by decide)
  have G__law_order : FnOk P w K mg base CX0 7 T.f__law_order T.fd__law_order ["deck", "book", "numbers", "most"] (spOrder K) := (ok_order T).mono (by decide)
  have G__law_shown : FnOk P w K mg base CX0 7 T.f__law_shown T.fd__law_shown ["order"] (spP K RShown) := (ok_shown T).mono (by decide)
  have G_order_shown : FnOk P w K mg base CX0 7 T.f_order_shown T.fd_order_shown ["order"] (spP K RShown) := (ok_os T g).mono (by decide)
  have G_read_order : FnOk P w K mg base CX0 7 T.f_read_order T.fd_read_order ["text", "book"] (spP K ROrder) := (ok_ro T g W).mono (by decide)
  have G_numbers_of : FnOk P w K mg base CX0 7 T.f_numbers_of T.fd_numbers_of ["order"] (spPT K T.P_place_among crPA RNums) := ok_nums T M
  refine F.ok sc_law (fun vs H Q E h => ?_) (fun cdv A outer s H vs Q E hr h => ?_)
  · obtain ⟨a, ns, rfl, _⟩ := h
    rfl
  · obtain ⟨a, ns, rfl, hS, hlen, hTs, fin⟩ := h
    have hT0 : H T.P_place_among = some (.tbl crPA) := hTs _ List.mem_cons_self
    have hu := hr.units
    have hu1 := Nat.lt_of_le_of_lt (Nat.add_le_add_left (show 1 ≤ 64 by decide) _) hr.units
    have zl : (20000 : Nat) ≤ sizeLine := by decide
    refine ⟨_, (pss_cons (ps_set (i := 1) sc_law.nd rfl (Or.inr rfl) (pe_call G__law_deck hr (by rfl) T.m__law_deck T.F__law_deck.kp T.b__law_deck .nil pass0 (pa_cons (pv 0) pa_nil st_Name)))
      (pss_cons (ps_set (i := 2) sc_law.nd rfl (Or.inr rfl) (pe_call G__law_book hr (by rfl) T.m__law_book T.F__law_book.kp T.b__law_book .nil pass0 (pa_cons (pv 1) pa_nil st_Name)))
      (pss_cons (ps_set (i := 3) sc_law.nd rfl (Or.inr rfl) (pe_call G__law_numbers hr (by rfl) T.m__law_numbers T.F__law_numbers.kp T.b__law_numbers .nil pass0 (pa_cons (pv 1) pa_nil st_Name)))
      (pss_cons (ps_lc (x := "k") (cap := ["deck", "book", "numbers"]) (js := [1, 2, 3]) (i := 4) (y := "orders") ⟨rfl, by decide +kernel, by decide +kernel, rfl, (by show ∀ p ∈ (_ : List (Str × NameKind)), p.2 = NameKind.free → List.lookup p.1 (defScope s_law).names = some NameKind.cell; decide +kernel), by decide +kernel, by decide +kernel, by decide +kernel⟩ rfl rfl (fun _ _ h => h) sc_law.nd rfl rfl (pi_range1 (by rfl) T.range_ (pa_cons pe_int pa_nil st_Constant)) (fun _ _ _ _ => ⟨pif_nil, (pe_call G__law_order hr (by rfl) T.m__law_order T.F__law_order.kp T.b__law_order .nil pass0 (pa_cons (pv 1) (pa_cons (pv 2) (pa_cons (pv 3) (pa_cons (pe_ix (ix_listK (K := K) rfl) (pe_lst (pa_cons pe_int (pa_cons pe_int (pa_cons pe_int pa_nil st_Constant) st_Constant) st_Constant)) (pv 0) (fun _ _ => rfl)) pa_nil st_Subscript) st_Name) st_Name) st_Name))⟩))
      (pss_cons (ps_set (i := 5) sc_law.nd rfl (Or.inl rfl) (pe_tup (pa_cons pe_str (pa_cons (pe_ix (ix_tupK (K := K) rfl) (pv 2) (pe_call G__law_take hr (by rfl) T.m__law_take T.F__law_take.kp T.b__law_take .nil pass0 (pa_cons (pv 1) (pa_cons (pe_callB (call_lenK (K := K) rfl) (by rfl) T.len_ PySem.boot_len (pa_cons (pv 2) pa_nil st_Name)) pa_nil st_Call) st_Name)) (fun _ _ => rfl)) pa_nil st_Subscript) st_Constant)))
      (pss_cons (ps_set (i := 4) sc_law.nd rfl (Or.inl rfl) (pe_op op_cat (pv 4) (pe_lst (pa_cons (pe_op (op_catTK (K := K) rfl) (pe_op (op_catTK (K := K) rfl) (pe_tup (pa_cons pe_str pa_nil st_Constant)) (pe_ix (ix_listK (K := K) rfl) (pv 4) pe_int (fun _ _ => rfl))) (pe_ix (ix_listK (K := K) rfl) (pv 4) pe_int (fun _ _ => rfl))) (pa_cons (pe_op (op_catTK (K := K) rfl) (pe_tup (pa_cons pe_str pa_nil st_Constant)) (pe_ix (ix_listK (K := K) rfl) (pv 4) pe_int (fun _ _ => rfl))) pa_nil st_BinOp) st_BinOp))))
      (pss_cons (ps_expr (pe_bm PySem.F.plainAttrs_list PySem.F.slot_list_append PySem.F.type_list_append mt_append (pv 4) (pa_cons (pe_op (op_catTK (K := K) rfl) (pe_op (op_catTK (K := K) rfl) (pe_op (op_catTK (K := K) rfl) (pe_tup (pa_cons pe_str pa_nil st_Constant)) (pv 5)) (pe_ix (ix_listK (K := K) rfl) (pv 4) pe_int (fun _ _ => rfl))) (pe_ix (ix_listK (K := K) rfl) (pv 4) pe_int (fun _ _ => rfl))) pa_nil st_BinOp)))
      (pss_cons (ps_set (i := 6) sc_law.nd rfl (Or.inl rfl) pe_dnewK)
      (pss_cons (ps_for PassesOwn.never rfl (pi_list (pv 4)) (pg_name (i := 7) sc_law.nd rfl (Or.inl rfl)) (pss_cons (ps_set (i := 8) sc_law.nd rfl (Or.inl rfl) (pe_call G_order_shown hr (by rfl) T.m_order_shown T.F_order_shown.kp T.b_order_shown .nil pass0 (pa_cons (pv 7) pa_nil st_Name)))
      (pss_cons (ps_if ((pw_or (pt_not (pt_val (pe_callB (call_isD (K := K) rfl) (by rfl) T.isinstance_ bIsi (pa_cons (pv 8) (pa_cons (pe_bltn (v := .ty "str") (by rfl) T.str_ bStr rfl) pa_nil))))) (pw_or (pt_cmpR op_ne (pv 8) (pe_call G__law_shown hr (by rfl) T.m__law_shown T.F__law_shown.kp T.b__law_shown .nil pass0 (pa_cons (pv 7) pa_nil st_Name)) (nomark _)) (pw_or1 (pt_cmpR (op_neDK (K := K) rfl hu) (pe_call G_read_order hr (by rfl) T.m_read_order T.F_read_order.kp T.b_read_order .nil pass0 (pa_cons (pv 8) (pa_cons (pv 2) pa_nil st_Name) st_Name)) (pv 7) (nomark _)))))).pt (pss_one (ps_ret pe_bl)) pss_nil)
      (pss_cons (ps_if ((pw_or (pt_cmpR (op_neDK (K := K) rfl hu) (pe_call G_numbers_of hr (by rfl) T.m_numbers_of T.F_numbers_of.kp T.b_numbers_of .nil pass0 (pa_cons (pe_call G_read_order hr (by rfl) T.m_read_order T.F_read_order.kp T.b_read_order .nil pass0 (pa_cons (pv 8) (pa_cons (pv 2) pa_nil st_Name) st_Name)) pa_nil st_Call)) (pe_call G_numbers_of hr (by rfl) T.m_numbers_of T.F_numbers_of.kp T.b_numbers_of .nil pass0 (pa_cons (pv 7) pa_nil st_Name)) (nomark _)) (pw_or1 (pt_cmpR (op_neDK (K := K) rfl hu) (pe_dget2 hu1 (pv 6) (pv 8) (pv 7) ⟨rfl, rfl, rfl, rfl⟩) (pv 7) (nomark _))))).pt (pss_one (ps_ret pe_bl)) pss_nil)
      (pss_one (ps_dput hu1 (pv 6) (pv 8) (pv 7) (by rfl)))))))
      (pss_cons (ps_set (i := 9) sc_law.nd rfl (Or.inl rfl) (pe_op op_add_str (pe_op op_add_str (pe_call G_order_shown hr (by rfl) T.m_order_shown T.F_order_shown.kp T.b_order_shown .nil pass0 (pa_cons (pe_ix (ix_listK (K := K) rfl) (pv 4) pe_int (fun _ _ => rfl)) pa_nil st_Subscript)) pe_str) (pe_call G_order_shown hr (by rfl) T.m_order_shown T.F_order_shown.kp T.b_order_shown .nil pass0 (pa_cons (pe_ix (ix_listK (K := K) rfl) (pv 4) pe_int (fun _ _ => rfl)) pa_nil st_Subscript))))
      (pss_cons (ps_if ((pw_or (pt_cmpR op_ne (pe_call G_order_shown hr (by rfl) T.m_order_shown T.F_order_shown.kp T.b_order_shown .nil pass0 (pa_cons (pe_ix (ix_listK (K := K) rfl) (pv 4) pe_int (fun _ _ => rfl)) pa_nil st_Subscript)) (pe_op op_add_str pe_str (pv 9)) (nomark _)) (pw_or1 (pt_cmpR op_ne (pe_call G_order_shown hr (by rfl) T.m_order_shown T.F_order_shown.kp T.b_order_shown .nil pass0 (pa_cons (pe_ix (ix_listK (K := K) rfl) (pv 4) pe_int (fun _ _ => rfl)) pa_nil st_Subscript)) (pe_op op_add_str pe_str (pe_call G_order_shown hr (by rfl) T.m_order_shown T.F_order_shown.kp T.b_order_shown .nil pass0 (pa_cons (pe_ix (ix_listK (K := K) rfl) (pv 4) pe_int (fun _ _ => rfl)) pa_nil st_Subscript))) (nomark _))))).pt (pss_one (ps_ret pe_bl)) pss_nil)
      (pss_one (ps_ret (pe_cmpR op_eq (pe_call G_order_shown hr (by rfl) T.m_order_shown T.F_order_shown.kp T.b_order_shown .nil pass0 (pa_cons (pe_ix (ix_listK (K := K) rfl) (pv 4) pe_int (fun _ _ => rfl)) pa_nil st_Subscript)) (pe_op op_add_str (pe_op op_add_str (pe_op op_add_str pe_str (pe_call G__law_shown hr (by rfl) T.m__law_shown T.F__law_shown.kp T.b__law_shown .nil pass0 (pa_cons (pv 5) pa_nil st_Name))) pe_str) (pv 9)) (nomark _))))))))))))))) , ?_⟩
    refine ⟨_, rfl, a, ns, rfl, hS, hlen, fun d c H1 D1 hd hc s1 => ?_⟩
    refine ⟨_, rfl, d, c, rfl, D1, fun book pb H2 b1 b2 bn hpb hpb2 D2 K2 => ?_⟩
    refine ⟨_, rfl, d, c, rfl, D2, fun ps pn H3 l1 l2 hnum hpn hpn3 D3 K3 => ?_⟩
    obtain ⟨nums, e1, hnums, hall'⟩ := nums_at (K := K) D3 ps hnum
    have hall : ∀ n ∈ nums, Lst n ∧ Sz n := fun n hn => (hall' n hn).1
    obtain ⟨dk, dns, hd3, hc3, _⟩ := id D3.ex
    obtain ⟨dk2, dns2, hd2, hc2, _⟩ := id D2.ex
    have nb1 : pb ≠ d := ne_of hpb2 hd2 (by intro z; cases z)
    have nb2 : pb ≠ c := ne_of hpb2 hc2 (by intro z; cases z)
    have hpb3 := K3 _ _ hpb2 nb1 nb2
    have nn1 : pn ≠ d := Ne.symm (ne_of_none hd2 hpn)
    have nn2 : pn ≠ c := Ne.symm (ne_of_none hc2 hpn)
    have hb : Dat K (offD d c H3) (.ref pb) (.tuple (book.map PyData.str)) := dat_tup (SqT.of (offD_at hpb3 nb1 nb2)) (dats_strs book)
    have hn : Dat K (offD d c H3) (.ref pn) (.list (nums.map dF)) := dat_lst (offD_at hpn3 nn1 nn2) hnums
    have nT1 : T.P_place_among ≠ d := ne_of_none hT0 hd
    have nT2 : T.P_place_among ≠ c := ne_of_none hT0 hc
    have hT3 : offD d c H3 T.P_place_among = some (.tbl crPA) := offD_at (K3 _ _ (K2 _ _ (s1 _ _ hT0) nT1 nT2) nT1 nT2) nT1 nT2
    have sg := offD_same d c H3
    have gd := offD_d d c H3
    have gc := offD_c d c H3
    generalize offD d c H3 = G3 at hb hn sg gd gc hnums hT3
    have n1 : 1 ≤ nums.length := by omega
    have n2 : nums.length ≤ 4 := by omega
    have hnm : ∀ a b : Int, (a, b) ∈ nums → Lst (a, b) ∧ a.natAbs < 10 ^ 40 ∧ b.natAbs < 10 ^ 40 := fun a b h => ⟨(hall _ h).1, (hall _ h).2.1, (hall _ h).2.2⟩
    have hk0 : ∀ x ∈ [S "order"], x ∈ kinds := fun x hx => by rw [List.mem_singleton.mp hx]; exact List.mem_cons_self
    have hok : ∀ ws, Od book nums ws → ∀ w ∈ ws, WOk w := fun ws h => run_ok (fun x hx => bn x hx) hnm h.1 hk0
    have hne : ∀ ws, Od book nums ws → ws ≠ [] := fun ws h => run_ne h.1
    have RS : ∀ ws, Od book nums ws → RShown [dO ws] (.str (shown ws)) := fun ws h => ⟨ws, rfl, hok ws h, by have := h.2; omega, rfl⟩
    have RO : ∀ ws, Od book nums ws → ROrder [.str (shown ws), .tuple (book.map PyData.str)] (dO ws) := fun ws h => ⟨ws, book, (· ∈ book), _, rfl, h.1, fun x hx => ⟨bn x hx, hx⟩, hnm, by have := h.2; omega, by omega, rfl⟩
    have RN : ∀ ws, Od book nums ws → RNums [dO ws] (.tuple (((numsIn ws).foldl Num.ins []).map dF)) := fun ws h => ⟨ws, rfl, fun r hr => hall r (run_nums h.1 r hr), by have := h.2; omega, rfl⟩
    have hsl : ∀ ws, Od book nums ws → (shown ws).length ≤ 4000 := fun ws h => by
      have := shown_le ws
      have := shown_len (hok ws h)
      have := h.2
      omega
    refine ⟨3, rfl, by decide, by decide, fun i m ys H' => m = 3 - i ∧ i ≤ 3 ∧ ∃ (G' : Hp) (os : List (List Wd)), Same G3 G' ∧ Same G' H' ∧ G' d = none ∧ G' c = none ∧ DeckAt H' d c ∧ os.length = i ∧ Dats K G' ys (os.map dO) ∧ ∀ j ws, os[j]? = some ws → IsOrd (· ∈ book) (fun a b => (a, b) ∈ nums) ws ∧ ws.length ≤ [18, 18, 40].getD j 0,
      ⟨3, rfl, by decide, G3, [], Same.refl _, sg, gd, gc, D3, rfl, dats_nil, fun j ws e => by cases e⟩, ?_⟩
    rintro i m ys H' ⟨rfl, hi, G', os, s3', sg', gd', gc', D', hol, hys, hos⟩
    have hyl := hys.length
    rw [List.length_map] at hyl
    refine ⟨by omega, ?_⟩
    by_cases hi3 : i < 3
    · refine .inr ⟨hi3, fun x H'' yl => ?_⟩
      obtain ⟨rfl, rfl⟩ := yl
      refine tNoIf_of ?_
      refine ⟨_, rfl, _, rfl, _, rfl, (by show 3 ≤ sizeLine; decide), fun q hq => ?_⟩
      obtain ⟨mst, hm, hat⟩ : ∃ mst : Int, (1 ≤ mst ∧ mst ≤ 100 ∧ mst = (([18, 18, 40].getD i 0 : Nat) : Int)) ∧ atI [V.int 18, V.int 18, V.int 40] (0 + (i : Int)) = some (V.int mst) := by
        have : i = 0 ∨ i = 1 ∨ i = 2 := by omega
        rcases this with rfl | rfl | rfl
        · exact ⟨18, by decide, rfl⟩
        · exact ⟨18, by decide, rfl⟩
        · exact ⟨40, by decide, rfl⟩
      have sq := same_new (o := .lst [V.int 18, V.int 18, V.int 40]) hq
      refine ⟨_, rfl, q, _, _, _, rfl, rfl, SqL.of upd_same, hat, d, c, .ref pb, .ref pn, mst, G', book, nums, rfl, D'.same sq, ⟨sg'.trans sq, gd', gc'⟩, hb.same s3', hn.same s3', ⟨b1, b2, n1, by omega, hm.1, hm.2.1⟩, fun ws v G7 H7 ord wl s67 s7 gd7 gc7 hv D7 K7 => ?_⟩
      refine ⟨3 - (i + 1), by omega, rfl, by omega, G7, os ++ [ws], s3'.trans s67, s7, gd7, gc7, D7, by simp [hol], ?_, fun j wx e => ?_⟩
      · rw [List.map_append]; exact dats_append (hys.same s67) (dats_cons hv dats_nil)
      · by_cases hj : j < os.length
        · rw [List.getElem?_append_left hj] at e; exact hos j wx e
        · rw [List.getElem?_append_right (by omega)] at e
          have hj2 : j = i := by
            have : j - os.length < 1 := (List.getElem?_eq_some_iff.mp e).1
            omega
          subst hj2
          rw [hol, Nat.sub_self] at e
          have : ws = wx := by simpa using e
          subst this
          refine ⟨ord, ?_⟩
          have := hm.2.2
          omega
    refine .inl ⟨show (3 : Int).toNat ≤ i by show 3 ≤ i; omega, fun l hl => ?_⟩
    have hi' : i = 3 := by omega
    subst hi'
    obtain ⟨o0, o1, o2, rfl⟩ : ∃ o0 o1 o2, os = [o0, o1, o2] := by
      match os, hol with
      | [a, b, c], _ => exact ⟨a, b, c, rfl⟩
    have z0 := hos 0 o0 rfl
    have z1 := hos 1 o1 rfl
    have z2 := hos 2 o2 rfl
    have l0 : o0.length ≤ 18 := z0.2
    have l1' : o1.length ≤ 18 := z1.2
    have l2' : o2.length ≤ 40 := z2.2
    have g4 := grow_new (o := .lst ys) sg' hl
    have D4 := D'.new (o := .lst ys) hl
    obtain ⟨dk', dns', hd', hc', _⟩ := id D'.ex
    have gd4 := g4.out hd' gd'
    have gc4 := g4.out hc' gc'
    have hO4 : Dat K (upd G' l (.lst ys)) (.ref l) (.list ([o0, o1, o2].map dO)) := dat_lst upd_same (hys.same g4.gg)
    have hb4 := (hb.same s3').same g4.gg
    have hT4 := g4.gg _ _ (s3' _ _ hT3)
    have s4 := g4.gh
    (try dsimp only [gName])
    clear g4
    generalize upd G' l (.lst ys) = G4 at s4 gd4 gc4 hO4 hb4 hT4
    generalize upd H' l (.lst ys) = H4 at s4 D4
    obtain ⟨pb', xb, epb, hpb4, hxb⟩ := hb4.tup
    cases epb
    cases datStrs hxb
    refine ⟨_, rfl, _, rfl, _, rfl, pb, _, rfl, .inr (s4.tup hpb4), d, c, _, rfl, D4, ⟨by rw [List.length_map]; omega, by rw [List.length_map]; omega⟩, fun r H5 r0 r1 D5 K5 => ?_⟩
    rw [List.length_map] at r1
    have s5 := kept_same s4 K5 gd4 gc4
    obtain ⟨rn, rfl⟩ := Int.eq_ofNat_of_zero_le r0
    have hrn : rn < book.length := by omega
    refine ⟨pb, _, (rn : Int), V.str book[rn], rfl, rfl, s5.tup hpb4, atI_nat (by rw [List.getElem?_map, List.getElem?_eq_getElem hrn]; rfl), (by show 2 ≤ sizeLine; decide), fun pc hpc => ?_⟩
    have hxin : book[rn] ∈ book := List.getElem_mem hrn
    generalize book[rn] = x at hxin
    have g6 := grow_new (o := .tup [V.str (S "same"), V.str x]) s5 hpc
    obtain ⟨dk5, dns5, hd5, hc5, _⟩ := id D5.ex
    have D6 := D5.new (o := .tup [V.str (S "same"), V.str x]) hpc
    have hc6 : Dat K (upd G4 pc (.tup [V.str (S "same"), V.str x])) (.ref pc) (dO [.t (S "same"), .t x]) := dat_tup (SqT.of upd_same) (dats_cons (dat_str _) (dats_cons (dat_str _) dats_nil))
    have hO6 := hO4.same g6.gg
    have hb6 := hb4.same g6.gg
    have hT6 := g6.gg _ _ hT4
    have gd6 := g6.out hd5 gd4
    have gc6 := g6.out hc5 gc4
    have s6 := g6.gh
    (try dsimp only [gName])
    clear g6
    generalize upd G4 pc (.tup [V.str (S "same"), V.str x]) = G6 at hc6 hO6 hb6 hT6 gd6 gc6 s6
    generalize upd H5 pc (.tup [V.str (S "same"), V.str x]) = H6 at D6 s6
    have h3 : Od book nums (.t (S "then") :: (o0 ++ o1)) := ⟨o_then z0.1 z1.1, by simp; omega⟩
    have h4 : Od book nums (.t (S "turn") :: o1) := ⟨o_turn z1.1, by simp; omega⟩
    have h5 : Od book nums (.t (S "pick") :: .t (S "same") :: .t x :: (o0 ++ o1)) := ⟨o_pick hxin z0.1 z1.1, by simp; omega⟩
    have h0 : Od book nums o0 := ⟨z0.1, by omega⟩
    have h1 : Od book nums o1 := ⟨z1.1, by omega⟩
    have h2 : Od book nums o2 := ⟨z2.1, by omega⟩
    refine ⟨_, rfl, ?_⟩
    refine Ev.use (K := K) (G := G6) (d := .list [dO (.t (S "then") :: (o0 ++ o1)), dO (.t (S "turn") :: o1)]) (ev_lst (eva_cons (ev_d (ev_catT (ev_catT (ev_tup (eva_cons ev_str eva_nil) (by show 1 ≤ sizeLine; decide)) (ev_ixL (n := 0) (ev_var rfl hO6) ev_int rfl rfl) (by simp) (by simp; omega)) (ev_ixL (n := 1) (ev_var rfl hO6) ev_int rfl rfl) (by simp) (by simp; omega)) (by simp [dO, Wd.d])) (eva_cons (ev_d (ev_catT (ev_tup (eva_cons ev_str eva_nil) (by show 1 ≤ sizeLine; decide)) (ev_ixL (n := 1) (ev_var rfl hO6) ev_int rfl rfl) (by simp) (by simp; omega)) (by simp [dO, Wd.d])) eva_nil)) (by show 2 ≤ sizeLine; decide)) s6 fun v7 G7 H7 g7 h7 => ?_
    obtain ⟨p7, x7, rfl, hp7, hx7⟩ := h7.lst
    obtain ⟨l', x6, el, hl6, hx6⟩ := (hO6.same g7.gg).lst
    cases el
    have lx6 := hx6.length
    have lx7 := hx7.length
    refine ⟨l, p7, x6, x7, rfl, rfl, g7.gh _ _ hl6, g7.gh _ _ hp7, by rw [lx6, lx7]; simp; omega, fun p hp => ?_⟩
    have gp7 : G7 p = none := g7.gh.free hp
    have g8 := grow_new (o := .lst (x6 ++ x7)) g7.gh hp
    have hO8 : Dat K (upd G7 p (.lst (x6 ++ x7))) (.ref p) (.list ([o0, o1, o2, .t (S "then") :: (o0 ++ o1), .t (S "turn") :: o1].map dO)) := dat_lst upd_same ((dats_append hx6 hx7).same g8.gg)
    have hc8 := (hc6.same g7.gg).same g8.gg
    have hb8 := (hb6.same g7.gg).same g8.gg
    have hT8 := g8.gg _ _ (g7.gg _ _ hT6)
    have hpH : (upd H7 p (.lst (x6 ++ x7))) p = some (.lst (x6 ++ x7)) := upd_same
    have hpG : (upd G7 p (.lst (x6 ++ x7))) p = some (.lst (x6 ++ x7)) := upd_same
    have s8 := g8.gh
    (try dsimp only [gName])
    clear g8
    generalize upd G7 p (.lst (x6 ++ x7)) = G8 at hO8 hc8 hb8 hT8 hpG s8
    generalize upd H7 p (.lst (x6 ++ x7)) = H8 at hpH s8
    refine ⟨_, rfl, .inl ⟨rfl, _, SqL.of hpH⟩, (eva_cons (ev_d (ev_catT (ev_catT (ev_catT (ev_tup (eva_cons ev_str eva_nil) (by show 1 ≤ sizeLine; decide)) (ev_var rfl hc8) (by simp) (by simp; omega)) (ev_ixL (n := 0) (ev_var rfl hO8) ev_int rfl rfl) (by simp) (by simp; omega)) (ev_ixL (n := 1) (ev_var rfl hO8) ev_int rfl rfl) (by simp) (by simp; omega)) (show _ = dO (.t (S "pick") :: .t (S "same") :: .t x :: (o0 ++ o1)) by simp [dO, Wd.d])) eva_nil) G8 H8 (Same.refl _) s8 _ fun vs G9 H9 g9 hvs => ?_⟩
    obtain ⟨y, rr, rfl, hy, hvs⟩ := hvs.cons
    cases hvs.nil
    obtain ⟨p', x8, ep, hp8, hx8⟩ := (hO8.same g9.gg).lst
    cases ep
    have hp9 : H9 p = some (.lst x8) := g9.gh _ _ hp8
    have lx8 := hx8.length
    refine ⟨p, x8, _, rfl, rfl, hp9, by rw [lx8]; simp; omega, ?_⟩
    obtain ⟨OS, hOS, hOd⟩ : ∃ OS : List (List Wd), OS = [o0, o1, o2, .t (S "then") :: (o0 ++ o1), .t (S "turn") :: o1, .t (S "pick") :: .t (S "same") :: .t x :: (o0 ++ o1)] ∧ ∀ ws ∈ OS, Od book nums ws := by
      refine ⟨_, rfl, fun ws hw => ?_⟩
      simp only [List.mem_cons, List.not_mem_nil, or_false] at hw
      rcases hw with rfl | rfl | rfl | rfl | rfl | rfl
      · exact h0
      · exact h1
      · exact h2
      · exact h3
      · exact h4
      · exact h5
    have hx9 : Dats K G9 (x8 ++ [y]) (OS.map dO) := by
      rw [hOS]
      exact dats_append hx8 (dats_cons hy dats_nil)
    have hx10 := dats_off hp8 _ _ (noLs_dO OS) hx9
    have hb10 := dat_off hp8 _ _ (show noL (.tuple (book.map PyData.str)) = true by unfold noL; exact noLs_str book) (hb8.same g9.gg)
    have hc10 := dat_off hp8 _ _ (show noL (dO [.t (S "same"), .t x]) = true from rfl) (hc8.same g9.gg)
    have hT9 := g9.gg _ _ hT8
    have hT10 : offP p G9 T.P_place_among = some (.tbl crPA) := by
      rw [offP_ne (ne_of hT9 hp8 (by intro z; cases z))]; exact hT9
    have s10 : Same (offP p G9) (upd H9 p (.lst (x8 ++ [y]))) := fun b o e => by
      have hbp : b ≠ p := by rintro rfl; rw [offP_p] at e; cases e
      rw [upd_ne hbp]; exact g9.gh _ _ (offP_same p G9 b o e)
    have gp10 := offP_p p G9
    have hp10 : (upd H9 p (.lst (x8 ++ [y]))) p = some (.lst (x8 ++ [y])) := upd_same
    generalize offP p G9 = G10 at hx10 hb10 hc10 hT10 s10 gp10
    generalize x8 ++ [y] = X at hx10 hp10 s10
    generalize upd H9 p (.lst X) = H10 at s10 hp10
    refine fun pt hpt => ?_
    have npt : pt ≠ p := fun e => by rw [e, hp10] at hpt; cases hpt
    have gpt10 := s10.free hpt
    have sP := same_new (o := .dK []) hpt
    have lX := hx10.length
    rw [List.length_map] at lX
    have lOS : OS.length = 6 := by rw [hOS]; rfl
    (try dsimp only [gName])
    refine ⟨_, rfl, p, rfl, ⟨_, SqL.of (sP _ _ hp10)⟩, for_list (xs := X) (fun i σ H' => ∃ (v7 v8 v9 : Option V) (G' : Hp) (kvs : List (Key × V)), σ = [some (.ref a), some (.ref d), some (.ref pb), some (.ref pn), some (.ref p), some (.ref pc), some (.ref pt), v7, v8, v9] ∧ Same G10 G' ∧ Same G' H' ∧ G' p = none ∧ G' pt = none ∧ H' p = some (.lst X) ∧ H' pt = some (.dK kvs) ∧ kvs.length ≤ i ∧
        ∀ z v, valV kvs (Sum.inr z) = some v → ∃ ws ∈ OS, z = shown ws ∧ Dat K G' v (dO ws))
      ⟨_, _, _, G10, [], rfl, Same.refl _, s10.trans sP, gp10, gpt10, sP _ _ hp10, upd_same, Nat.le_refl _, fun z v e => by cases e⟩ ?_ ?_ ?_⟩
    · rintro i σ H' _ ⟨v7, v8, v9, G', kvs, rfl, _, _, _, _, hp', _⟩
      exact SqL.of hp'
    · rintro i xv σ H' hxv ⟨v7, v8, v9, G', kvs, rfl, sG, sH, gp', gpt', hp', hpt', hkl, hkv⟩
      obtain ⟨dd, hdd, hxd⟩ := (hx10.same sG).get' hxv
      rw [List.getElem?_map] at hdd
      cases en : OS[i]? with
      | none => rw [en] at hdd; cases hdd
      | some ws =>
        rw [en] at hdd; cases hdd
        have hin : i < OS.length := (List.getElem?_eq_some_iff.mp en).1
        have hws := List.mem_of_getElem? en
        have ho := hOd ws hws
        have hb' := hb10.same sG
        have hT' := sG _ _ hT10
        have plw : Pl 4 (dO ws) := pl_wds (n := 2) (hok ws ho)
        refine asg_ev (K := K) (ev_call (eva_cons (ev_var rfl hxd) eva_nil) (RS ws ho)) sH fun v8' G1 H1' g1 h8 => ?_
        have hxd1 := hxd.same g1.gg
        have hb1 := hb'.same g1.gg
        have hT1 := g1.gg _ _ hT'
        refine if_no (evt_c (evt_or (evt_not (evt_b (K := K) (ev_isD (ev_var rfl h8) T.ss))) fun _ => evt_or (evt_test (K := K) (ev_neS (ev_var rfl h8) (ev_call (eva_cons (ev_var rfl hxd1) eva_nil) (RS ws ho)))) fun _ => evt_test (K := K) (ev_eqD (ev_call (eva_cons (ev_var rfl h8) (eva_cons (ev_var rfl hb1) eva_nil)) (RO ws ho)) (ev_var rfl hxd1) plw plw (by decide))) (by rw [PySem.Spec.same_self, decide_eq_true rfl]; rfl)) g1.gh fun G2' H2' g2 => ?_
        have h8' := h8.same g2.gg
        have hxd2 := hxd1.same g2.gg
        have hb2 := hb1.same g2.gg
        have hT2 := g2.gg _ _ hT1
        have RNw := RN ws ho
        generalize (numsIn ws).foldl Num.ins [] = Z at RNw
        have E1 : EvT _ [some (.ref a), some (.ref d), some (.ref pb), some (.ref pn), some (.ref p), some (.ref pc), some (.ref pt), some xv, some v8', v9] G2' false := evt_c (evt_test (K := K) (ev_eqD (g := fun b => !b) (ev_callT (E := E0) hT2 (eva_cons (ev_call (E := E0) (eva_cons (ev_var (i := 8) rfl h8') (eva_cons (ev_var (i := 2) rfl hb2) eva_nil)) (RO ws ho)) eva_nil) RNw) (ev_callT (E := E0) hT2 (eva_cons (ev_var (i := 7) rfl hxd2) eva_nil) RNw) (pl_dFs (n := 2) Z) (pl_dFs (n := 2) Z) (by decide))) (by rw [PySem.Spec.same_self]; rfl)
        refine E1.use g2.gh fun G3' H3' g3 => ?_
        refine iteF ?_
        have s12 : Same H' H3' := (g1.hh.trans g2.hh).trans g3.hh
        have sG3 : Same G' G3' := (g1.gg.trans g2.gg).trans g3.gg
        have hpt3 := s12 _ _ hpt'
        have ha3 := ((g1.trans g2).trans g3)
        have gpt3 : G3' pt = none := ha3.out hpt' gpt'
        have gp3 : G3' p = none := ha3.out hp' gp'
        have h83 := h8'.same g3.gg
        have hxd3 := hxd2.same g3.gg
        have e8 := h83.str
        subst e8
        refine ⟨_, rfl, pt, rfl, .inl ⟨kvs, .inl hpt3⟩, _, rfl, _, rfl, valV kvs (Sum.inr (shown ws)), .inl ⟨kvs, Sum.inr (shown ws), .inl hpt3, rfl, rfl⟩, ?_⟩
        have hget : Dat K G3' ((valV kvs (Sum.inr (shown ws))).getD xv) (dO ws) := by
          cases ev : valV kvs (Sum.inr (shown ws)) with
          | none => exact hxd3
          | some v =>
            obtain ⟨ws', hw', e, hd⟩ := hkv _ _ ev
            have : ws' = ws := shown_inj (hne ws' (hOd ws' hw')) (hne ws ho) (hok ws' (hOd ws' hw')) (hok ws ho) e.symm
            subst this
            exact hd.same sG3
        refine ⟨_, rfl, G3', dO ws, dO ws, ha3.gh, hget, hxd3, ⟨plw.shaped (by decide), plw.shaped (by decide), plw.mix plw⟩, _, rfl, ?_⟩
        rw [PySem.Spec.same_self]
        refine iteF ?_
        refine ⟨_, rfl, _, rfl, _, rfl, pt, _, rfl, DPut.k (k := Sum.inr (shown ws)) hpt3 (by omega), ?_⟩
        refine ⟨_, _, _, G3', putK kvs (Sum.inr (shown ws)) xv, rfl, sG.trans sG3, same_upd ha3.gh gpt3, gp3, gpt3, ?_, upd_same, ?_, ?_⟩
        · rw [upd_ne (Ne.symm npt)]; exact s12 _ _ hp'
        · have := put_len kvs (Sum.inr (shown ws)) xv
          omega
        · intro z v e
          rw [valV_put] at e
          by_cases hz : (Sum.inr z : Key) = Sum.inr (shown ws)
          · rw [if_pos hz] at e
            injection e with e
            subst e
            injection hz with hz
            exact ⟨ws, hws, hz, hxd3⟩
          · rw [if_neg hz] at e
            obtain ⟨ws', hw', e1, hd⟩ := hkv z v e
            exact ⟨ws', hw', e1, hd.same sG3⟩
    · rintro σ H' ⟨v7, v8, v9, G', kvs, rfl, sG, sH, gp', gpt', hp', hpt', hkl, hkv⟩
      have sF := grow_frz' (G := G') (H := H') gp' sH hp'
      have hOf : Dat K (upd G' p (.lst X)) (.ref p) (.list (OS.map dO)) := dat_lst upd_same ((hx10.same sG).same (same_new gp'))
      have hcf := (hc10.same sG).same (same_new (o := .lst X) gp')
      generalize upd G' p (.lst X) = GF at sF hOf hcf
      rw [hOS] at hOf
      have q0 := hsl _ h0
      have q1 := hsl _ h1
      have q3 := hsl _ h3
      have q4 := hsl _ h4
      have q5 := hsl _ h5
      have n0 := hne _ h0
      have n1' := hne _ h1
      have sp1 : (Str.ofString " " : Str).length = 1 := by rw [sp32]; rfl
      have EA : ∀ (σ' : St) (n : Nat) (k : Int) (ws : List Wd), σ'[4]? = some (some (.ref p)) → (ixN 6 k = some n) → [o0, o1, o2, .t (S "then") :: (o0 ++ o1), .t (S "turn") :: o1, .t (S "pick") :: .t (S "same") :: .t x :: (o0 ++ o1)][n]? = some ws → Od book nums ws → Ev K (tCall (spP K RShown) [] E0 (tCons (tOp (rIxL K) (tVar 4) (tC (.int k))) tNil)) σ' GF (.str (shown ws)) := fun σ' n k ws e hn hw ho =>
        ev_call (eva_cons (ev_ixL (n := n) (ev_var e hOf) ev_int hn (by rw [List.getElem?_map, hw]; rfl)) eva_nil) (RS ws ho)
      refine asg_ev (K := K) (ev_addS (ev_addS (EA _ 0 0 o0 rfl rfl rfl h0) ev_str (by omega)) (EA _ 1 1 o1 rfl rfl rfl h1) (by rw [PySem.Str.length_append]; omega)) sF fun v9' G1 H1' g1 h9 => ?_
      have e3 : shown (.t (S "then") :: (o0 ++ o1)) = Str.ofString "then " ++ (shown o0 ++ Str.ofString " " ++ shown o1) := by
        rw [shown_cons _ (by simp [n0]), shown_app n0 n1', show (Str.ofString "then " : Str) = shW (.t (S "then")) ++ Str.ofString " " by decide +kernel]
      have e4 : shown (.t (S "turn") :: o1) = Str.ofString "turn " ++ shown o1 := by
        rw [shown_cons _ n1', show (Str.ofString "turn " : Str) = shW (.t (S "turn")) ++ Str.ofString " " by decide +kernel]
      have e2 : shown [.t (S "same"), .t x] = shW (.t (S "same")) ++ Str.ofString " " ++ x := by
        rw [shown_cons _ (by simp)]; rfl
      have e5 : shown (.t (S "pick") :: .t (S "same") :: .t x :: (o0 ++ o1)) = Str.ofString "pick " ++ shown [.t (S "same"), .t x] ++ Str.ofString " " ++ (shown o0 ++ Str.ofString " " ++ shown o1) := by
        rw [shown_cons _ (by simp), shown_cons _ (by simp), shown_cons _ (by simp [n0]), shown_app n0 n1', e2, show (Str.ofString "pick " : Str) = shW (.t (S "pick")) ++ Str.ofString " " by decide +kernel]
        simp only [PySem.Str.append_assoc]
        rfl
      have okc : ∀ w ∈ [Wd.t (S "same"), .t x], WOk w := fun w hw => by
        rcases List.mem_cons.mp hw with rfl | hw
        · exact .inr (by decide +kernel)
        · rw [List.mem_singleton.mp hw]; exact .inl (bn x hxin)
      have RC : RShown [dO [.t (S "same"), .t x]] (.str (shown [.t (S "same"), .t x])) := ⟨_, rfl, okc, by show 2 ≤ 200; decide, rfl⟩
      have lc := shown_le [.t (S "same"), .t x]
      have lc2 := shown_len okc
      have lcn : ([Wd.t (S "same"), .t x] : List Wd).length = 2 := rfl
      have EB : ∀ (σ' : St) (n : Nat) (k : Int) (ws : List Wd), σ'[4]? = some (some (.ref p)) → (ixN 6 k = some n) → [o0, o1, o2, .t (S "then") :: (o0 ++ o1), .t (S "turn") :: o1, .t (S "pick") :: .t (S "same") :: .t x :: (o0 ++ o1)][n]? = some ws → Od book nums ws → Ev K (tCall (spP K RShown) [] E0 (tCons (tOp (rIxL K) (tVar 4) (tC (.int k))) tNil)) σ' G1 (.str (shown ws)) := fun σ' n k ws e hn hw ho => (EA σ' n k ws e hn hw ho).mono g1.gg
      have t5 : (Str.ofString "then " : Str).length = 5 ∧ (Str.ofString "turn " : Str).length = 5 ∧ (Str.ofString "pick " : Str).length = 5 := by decide +kernel
      refine if_no (evt_c (evt_or (evt_test (K := K) (ev_neS (EB _ 3 3 _ rfl rfl rfl h3) (ev_addS ev_str (ev_var rfl h9) (by simp only [PySem.Str.length_append]; omega)))) fun _ => evt_test (K := K) (ev_neS (EB _ 4 4 _ rfl rfl rfl h4) (ev_addS ev_str (EB _ 1 1 o1 rfl rfl rfl h1) (by omega)))) (by rw [decide_eq_true e3, decide_eq_true e4]; rfl)) g1.gh fun G2' H2' g2 => ?_
      refine ret_ev (K := K) (ev_eqS ((EB _ 5 5 _ rfl rfl rfl h5).mono g2.gg) (ev_addS (ev_addS (ev_addS ev_str (ev_call (eva_cons (ev_var rfl ((hcf.same g1.gg).same g2.gg)) eva_nil) RC) (by omega)) ev_str (by simp only [PySem.Str.length_append]; omega)) (ev_var rfl (h9.same g2.gg)) (by simp only [PySem.Str.length_append]; omega))) g2.gh fun v G3' H3' g3 hv => ?_
      rw [decide_eq_true e5] at hv
      rw [hv.bl]
      exact fin H3'
end
end K08
set_option maxHeartbeats 4000000
namespace K08
open PySem L2 Frac Lw Dig PySem.NumText Nm
abbrev tabs : Tabs := [(134, fun _ _ => some lq_place_among)]
theorem all_mk {l : PySem.W.OpenLaw} {w : World} {K : PySem.W.Frag} {h : Heap} {mg : Str → Option Value} {fa : Addr} {f_is_name f_many_ahead f_fraction f_common_divisor f_compared f_place_among f_rising f_read_number f_read_signed f_read_figures f_number_shown f_figures_of f_read_order f_read_word f_read_order_number f_reversed_parts f_order_shown f_word_shown f_numbers_of f__law_deck f__law_take f__law_common f__law_least f__law_whole_number f__law_number f__law_book f__law_options f__law_room f__law_order f__law_shown f__law_numbers f_law : Addr} (X : K.In h) (G : h.Ns mainGlobals mg) (hfa : mg "law" = some (.ref fa))
    {od_is_name an_is_name od_many_ahead an_many_ahead od_fraction an_fraction od_common_divisor an_common_divisor od_compared an_compared od_place_among an_place_among od_rising an_rising od_read_number an_read_number od_read_signed an_read_signed od_read_figures an_read_figures od_number_shown an_number_shown od_figures_of an_figures_of od_read_order an_read_order od_read_word an_read_word od_read_order_number an_read_order_number od_reversed_parts an_reversed_parts od_order_shown an_order_shown od_word_shown an_word_shown od_numbers_of an_numbers_of od__law_deck an__law_deck od__law_take an__law_take od__law_common an__law_common od__law_least an__law_least od__law_whole_number an__law_whole_number od__law_number an__law_number od__law_book an__law_book od__law_options an__law_options od__law_room an__law_room od__law_order an__law_order od__law_shown an__law_shown od__law_numbers an__law_numbers od_law an_law : Option Addr} {sl_is_name sl_many_ahead sl_fraction sl_common_divisor sl_compared sl_place_among sl_rising sl_read_number sl_read_signed sl_read_figures sl_number_shown sl_figures_of sl_read_order sl_read_word sl_read_order_number sl_reversed_parts sl_order_shown sl_word_shown sl_numbers_of sl__law_deck sl__law_take sl__law_common sl__law_least sl__law_whole_number sl__law_number sl__law_book sl__law_options sl__law_room sl__law_order sl__law_shown sl__law_numbers sl_law : Array (Option Value)} {oc_is_name kV_is_name dc_is_name pm_is_name cd_is_name ct_is_name oc_many_ahead kV_many_ahead dc_many_ahead pm_many_ahead cd_many_ahead ct_many_ahead oc_fraction kV_fraction dc_fraction pm_fraction cd_fraction ct_fraction oc_common_divisor kV_common_divisor dc_common_divisor pm_common_divisor cd_common_divisor ct_common_divisor oc_compared kV_compared dc_compared pm_compared cd_compared ct_compared oc_place_among kV_place_among dc_place_among pm_place_among cd_place_among ct_place_among oc_rising kV_rising dc_rising pm_rising cd_rising ct_rising oc_read_number kV_read_number dc_read_number pm_read_number cd_read_number ct_read_number oc_read_signed kV_read_signed dc_read_signed pm_read_signed cd_read_signed ct_read_signed oc_read_figures kV_read_figures dc_read_figures pm_read_figures cd_read_figures ct_read_figures oc_number_shown kV_number_shown dc_number_shown pm_number_shown cd_number_shown ct_number_shown oc_figures_of kV_figures_of dc_figures_of pm_figures_of cd_figures_of ct_figures_of oc_read_order kV_read_order dc_read_order pm_read_order cd_read_order ct_read_order oc_read_word kV_read_word dc_read_word pm_read_word cd_read_word ct_read_word oc_read_order_number kV_read_order_number dc_read_order_number pm_read_order_number cd_read_order_number ct_read_order_number oc_reversed_parts kV_reversed_parts dc_reversed_parts pm_reversed_parts cd_reversed_parts ct_reversed_parts oc_order_shown kV_order_shown dc_order_shown pm_order_shown cd_order_shown ct_order_shown oc_word_shown kV_word_shown dc_word_shown pm_word_shown cd_word_shown ct_word_shown oc_numbers_of kV_numbers_of dc_numbers_of pm_numbers_of cd_numbers_of ct_numbers_of oc__law_deck kV__law_deck dc__law_deck pm__law_deck cd__law_deck ct__law_deck oc__law_take kV__law_take dc__law_take pm__law_take cd__law_take ct__law_take oc__law_common kV__law_common dc__law_common pm__law_common cd__law_common ct__law_common oc__law_least kV__law_least dc__law_least pm__law_least cd__law_least ct__law_least oc__law_whole_number kV__law_whole_number dc__law_whole_number pm__law_whole_number cd__law_whole_number ct__law_whole_number oc__law_number kV__law_number dc__law_number pm__law_number cd__law_number ct__law_number oc__law_book kV__law_book dc__law_book pm__law_book cd__law_book ct__law_book oc__law_options kV__law_options dc__law_options pm__law_options cd__law_options ct__law_options oc__law_room kV__law_room dc__law_room pm__law_room cd__law_room ct__law_room oc__law_order kV__law_order dc__law_order pm__law_order cd__law_order ct__law_order oc__law_shown kV__law_shown dc__law_shown pm__law_shown cd__law_shown ct__law_shown oc__law_numbers kV__law_numbers dc__law_numbers pm__law_numbers cd__law_numbers ct__law_numbers oc_law kV_law dc_law pm_law cd_law ct_law : Value}
    (a_is_name : PySem.W.nsIn K mainGlobals "is_name" = some (some (.ref f_is_name))) (l_is_name : K.lookup f_is_name = some ⟨oc_is_name, od_is_name, .func (PySem.W.fnOf "is_name" "is_name" (defArgs s_is_name) (defBody s_is_name) (defScope s_is_name) .none kV_is_name dc_is_name pm_is_name an_is_name cd_is_name ct_is_name), sl_is_name⟩) (c_is_name : PySem.W.codeIn K cd_is_name "is_name" = true) (k_is_name : PySem.W.keepIn K (.ref f_is_name) = true)
    (a_many_ahead : PySem.W.nsIn K mainGlobals "many_ahead" = some (some (.ref f_many_ahead))) (l_many_ahead : K.lookup f_many_ahead = some ⟨oc_many_ahead, od_many_ahead, .func (PySem.W.fnOf "many_ahead" "many_ahead" (defArgs s_many_ahead) (defBody s_many_ahead) (defScope s_many_ahead) .none kV_many_ahead dc_many_ahead pm_many_ahead an_many_ahead cd_many_ahead ct_many_ahead), sl_many_ahead⟩) (c_many_ahead : PySem.W.codeIn K cd_many_ahead "many_ahead" = true) (k_many_ahead : PySem.W.keepIn K (.ref f_many_ahead) = true)
    (a_fraction : PySem.W.nsIn K mainGlobals "fraction" = some (some (.ref f_fraction))) (l_fraction : K.lookup f_fraction = some ⟨oc_fraction, od_fraction, .func (PySem.W.fnOf "fraction" "fraction" (defArgs s_fraction) (defBody s_fraction) (defScope s_fraction) .none kV_fraction dc_fraction pm_fraction an_fraction cd_fraction ct_fraction), sl_fraction⟩) (c_fraction : PySem.W.codeIn K cd_fraction "fraction" = true) (k_fraction : PySem.W.keepIn K (.ref f_fraction) = true)
    (a_common_divisor : PySem.W.nsIn K mainGlobals "common_divisor" = some (some (.ref f_common_divisor))) (l_common_divisor : K.lookup f_common_divisor = some ⟨oc_common_divisor, od_common_divisor, .func (PySem.W.fnOf "common_divisor" "common_divisor" (defArgs s_common_divisor) (defBody s_common_divisor) (defScope s_common_divisor) .none kV_common_divisor dc_common_divisor pm_common_divisor an_common_divisor cd_common_divisor ct_common_divisor), sl_common_divisor⟩) (c_common_divisor : PySem.W.codeIn K cd_common_divisor "common_divisor" = true) (k_common_divisor : PySem.W.keepIn K (.ref f_common_divisor) = true)
    (a_compared : PySem.W.nsIn K mainGlobals "compared" = some (some (.ref f_compared))) (l_compared : K.lookup f_compared = some ⟨oc_compared, od_compared, .func (PySem.W.fnOf "compared" "compared" (defArgs s_compared) (defBody s_compared) (defScope s_compared) .none kV_compared dc_compared pm_compared an_compared cd_compared ct_compared), sl_compared⟩) (c_compared : PySem.W.codeIn K cd_compared "compared" = true) (k_compared : PySem.W.keepIn K (.ref f_compared) = true)
    (a_place_among : PySem.W.nsIn K mainGlobals "place_among" = some (some (.ref f_place_among))) (l_place_among : K.lookup f_place_among = some ⟨oc_place_among, od_place_among, .func (PySem.W.fnOf "place_among" "place_among" (defArgs s_place_among) (defBody s_place_among) (defScope s_place_among) .none kV_place_among dc_place_among pm_place_among an_place_among cd_place_among ct_place_among), sl_place_among⟩) (c_place_among : PySem.W.codeIn K cd_place_among "place_among" = true) (k_place_among : PySem.W.keepIn K (.ref f_place_among) = true)
    (a_rising : PySem.W.nsIn K mainGlobals "rising" = some (some (.ref f_rising))) (l_rising : K.lookup f_rising = some ⟨oc_rising, od_rising, .func (PySem.W.fnOf "rising" "rising" (defArgs s_rising) (defBody s_rising) (defScope s_rising) .none kV_rising dc_rising pm_rising an_rising cd_rising ct_rising), sl_rising⟩) (c_rising : PySem.W.codeIn K cd_rising "rising" = true) (k_rising : PySem.W.keepIn K (.ref f_rising) = true)
    (a_read_number : PySem.W.nsIn K mainGlobals "read_number" = some (some (.ref f_read_number))) (l_read_number : K.lookup f_read_number = some ⟨oc_read_number, od_read_number, .func (PySem.W.fnOf "read_number" "read_number" (defArgs s_read_number) (defBody s_read_number) (defScope s_read_number) .none kV_read_number dc_read_number pm_read_number an_read_number cd_read_number ct_read_number), sl_read_number⟩) (c_read_number : PySem.W.codeIn K cd_read_number "read_number" = true) (k_read_number : PySem.W.keepIn K (.ref f_read_number) = true)
    (a_read_signed : PySem.W.nsIn K mainGlobals "read_signed" = some (some (.ref f_read_signed))) (l_read_signed : K.lookup f_read_signed = some ⟨oc_read_signed, od_read_signed, .func (PySem.W.fnOf "read_signed" "read_signed" (defArgs s_read_signed) (defBody s_read_signed) (defScope s_read_signed) .none kV_read_signed dc_read_signed pm_read_signed an_read_signed cd_read_signed ct_read_signed), sl_read_signed⟩) (c_read_signed : PySem.W.codeIn K cd_read_signed "read_signed" = true) (k_read_signed : PySem.W.keepIn K (.ref f_read_signed) = true)
    (a_read_figures : PySem.W.nsIn K mainGlobals "read_figures" = some (some (.ref f_read_figures))) (l_read_figures : K.lookup f_read_figures = some ⟨oc_read_figures, od_read_figures, .func (PySem.W.fnOf "read_figures" "read_figures" (defArgs s_read_figures) (defBody s_read_figures) (defScope s_read_figures) .none kV_read_figures dc_read_figures pm_read_figures an_read_figures cd_read_figures ct_read_figures), sl_read_figures⟩) (c_read_figures : PySem.W.codeIn K cd_read_figures "read_figures" = true) (k_read_figures : PySem.W.keepIn K (.ref f_read_figures) = true)
    (a_number_shown : PySem.W.nsIn K mainGlobals "number_shown" = some (some (.ref f_number_shown))) (l_number_shown : K.lookup f_number_shown = some ⟨oc_number_shown, od_number_shown, .func (PySem.W.fnOf "number_shown" "number_shown" (defArgs s_number_shown) (defBody s_number_shown) (defScope s_number_shown) .none kV_number_shown dc_number_shown pm_number_shown an_number_shown cd_number_shown ct_number_shown), sl_number_shown⟩) (c_number_shown : PySem.W.codeIn K cd_number_shown "number_shown" = true) (k_number_shown : PySem.W.keepIn K (.ref f_number_shown) = true)
    (a_figures_of : PySem.W.nsIn K mainGlobals "figures_of" = some (some (.ref f_figures_of))) (l_figures_of : K.lookup f_figures_of = some ⟨oc_figures_of, od_figures_of, .func (PySem.W.fnOf "figures_of" "figures_of" (defArgs s_figures_of) (defBody s_figures_of) (defScope s_figures_of) .none kV_figures_of dc_figures_of pm_figures_of an_figures_of cd_figures_of ct_figures_of), sl_figures_of⟩) (c_figures_of : PySem.W.codeIn K cd_figures_of "figures_of" = true) (k_figures_of : PySem.W.keepIn K (.ref f_figures_of) = true)
    (a_read_order : PySem.W.nsIn K mainGlobals "read_order" = some (some (.ref f_read_order))) (l_read_order : K.lookup f_read_order = some ⟨oc_read_order, od_read_order, .func (PySem.W.fnOf "read_order" "read_order" (defArgs s_read_order) (defBody s_read_order) (defScope s_read_order) .none kV_read_order dc_read_order pm_read_order an_read_order cd_read_order ct_read_order), sl_read_order⟩) (c_read_order : PySem.W.codeIn K cd_read_order "read_order" = true) (k_read_order : PySem.W.keepIn K (.ref f_read_order) = true)
    (a_read_word : PySem.W.nsIn K mainGlobals "read_word" = some (some (.ref f_read_word))) (l_read_word : K.lookup f_read_word = some ⟨oc_read_word, od_read_word, .func (PySem.W.fnOf "read_word" "read_word" (defArgs s_read_word) (defBody s_read_word) (defScope s_read_word) .none kV_read_word dc_read_word pm_read_word an_read_word cd_read_word ct_read_word), sl_read_word⟩) (c_read_word : PySem.W.codeIn K cd_read_word "read_word" = true) (k_read_word : PySem.W.keepIn K (.ref f_read_word) = true)
    (a_read_order_number : PySem.W.nsIn K mainGlobals "read_order_number" = some (some (.ref f_read_order_number))) (l_read_order_number : K.lookup f_read_order_number = some ⟨oc_read_order_number, od_read_order_number, .func (PySem.W.fnOf "read_order_number" "read_order_number" (defArgs s_read_order_number) (defBody s_read_order_number) (defScope s_read_order_number) .none kV_read_order_number dc_read_order_number pm_read_order_number an_read_order_number cd_read_order_number ct_read_order_number), sl_read_order_number⟩) (c_read_order_number : PySem.W.codeIn K cd_read_order_number "read_order_number" = true) (k_read_order_number : PySem.W.keepIn K (.ref f_read_order_number) = true)
    (a_reversed_parts : PySem.W.nsIn K mainGlobals "reversed_parts" = some (some (.ref f_reversed_parts))) (l_reversed_parts : K.lookup f_reversed_parts = some ⟨oc_reversed_parts, od_reversed_parts, .func (PySem.W.fnOf "reversed_parts" "reversed_parts" (defArgs s_reversed_parts) (defBody s_reversed_parts) (defScope s_reversed_parts) .none kV_reversed_parts dc_reversed_parts pm_reversed_parts an_reversed_parts cd_reversed_parts ct_reversed_parts), sl_reversed_parts⟩) (c_reversed_parts : PySem.W.codeIn K cd_reversed_parts "reversed_parts" = true) (k_reversed_parts : PySem.W.keepIn K (.ref f_reversed_parts) = true)
    (a_order_shown : PySem.W.nsIn K mainGlobals "order_shown" = some (some (.ref f_order_shown))) (l_order_shown : K.lookup f_order_shown = some ⟨oc_order_shown, od_order_shown, .func (PySem.W.fnOf "order_shown" "order_shown" (defArgs s_order_shown) (defBody s_order_shown) (defScope s_order_shown) .none kV_order_shown dc_order_shown pm_order_shown an_order_shown cd_order_shown ct_order_shown), sl_order_shown⟩) (c_order_shown : PySem.W.codeIn K cd_order_shown "order_shown" = true) (k_order_shown : PySem.W.keepIn K (.ref f_order_shown) = true)
    (a_word_shown : PySem.W.nsIn K mainGlobals "word_shown" = some (some (.ref f_word_shown))) (l_word_shown : K.lookup f_word_shown = some ⟨oc_word_shown, od_word_shown, .func (PySem.W.fnOf "word_shown" "word_shown" (defArgs s_word_shown) (defBody s_word_shown) (defScope s_word_shown) .none kV_word_shown dc_word_shown pm_word_shown an_word_shown cd_word_shown ct_word_shown), sl_word_shown⟩) (c_word_shown : PySem.W.codeIn K cd_word_shown "word_shown" = true) (k_word_shown : PySem.W.keepIn K (.ref f_word_shown) = true)
    (a_numbers_of : PySem.W.nsIn K mainGlobals "numbers_of" = some (some (.ref f_numbers_of))) (l_numbers_of : K.lookup f_numbers_of = some ⟨oc_numbers_of, od_numbers_of, .func (PySem.W.fnOf "numbers_of" "numbers_of" (defArgs s_numbers_of) (defBody s_numbers_of) (defScope s_numbers_of) .none kV_numbers_of dc_numbers_of pm_numbers_of an_numbers_of cd_numbers_of ct_numbers_of), sl_numbers_of⟩) (c_numbers_of : PySem.W.codeIn K cd_numbers_of "numbers_of" = true) (k_numbers_of : PySem.W.keepIn K (.ref f_numbers_of) = true)
    (a__law_deck : PySem.W.nsIn K mainGlobals "_law_deck" = some (some (.ref f__law_deck))) (l__law_deck : K.lookup f__law_deck = some ⟨oc__law_deck, od__law_deck, .func (PySem.W.fnOf "_law_deck" "_law_deck" (defArgs s__law_deck) (defBody s__law_deck) (defScope s__law_deck) .none kV__law_deck dc__law_deck pm__law_deck an__law_deck cd__law_deck ct__law_deck), sl__law_deck⟩) (c__law_deck : PySem.W.codeIn K cd__law_deck "_law_deck" = true) (k__law_deck : PySem.W.keepIn K (.ref f__law_deck) = true)
    (a__law_take : PySem.W.nsIn K mainGlobals "_law_take" = some (some (.ref f__law_take))) (l__law_take : K.lookup f__law_take = some ⟨oc__law_take, od__law_take, .func (PySem.W.fnOf "_law_take" "_law_take" (defArgs s__law_take) (defBody s__law_take) (defScope s__law_take) .none kV__law_take dc__law_take pm__law_take an__law_take cd__law_take ct__law_take), sl__law_take⟩) (c__law_take : PySem.W.codeIn K cd__law_take "_law_take" = true) (k__law_take : PySem.W.keepIn K (.ref f__law_take) = true)
    (a__law_common : PySem.W.nsIn K mainGlobals "_law_common" = some (some (.ref f__law_common))) (l__law_common : K.lookup f__law_common = some ⟨oc__law_common, od__law_common, .func (PySem.W.fnOf "_law_common" "_law_common" (defArgs s__law_common) (defBody s__law_common) (defScope s__law_common) .none kV__law_common dc__law_common pm__law_common an__law_common cd__law_common ct__law_common), sl__law_common⟩) (c__law_common : PySem.W.codeIn K cd__law_common "_law_common" = true) (k__law_common : PySem.W.keepIn K (.ref f__law_common) = true)
    (a__law_least : PySem.W.nsIn K mainGlobals "_law_least" = some (some (.ref f__law_least))) (l__law_least : K.lookup f__law_least = some ⟨oc__law_least, od__law_least, .func (PySem.W.fnOf "_law_least" "_law_least" (defArgs s__law_least) (defBody s__law_least) (defScope s__law_least) .none kV__law_least dc__law_least pm__law_least an__law_least cd__law_least ct__law_least), sl__law_least⟩) (c__law_least : PySem.W.codeIn K cd__law_least "_law_least" = true) (k__law_least : PySem.W.keepIn K (.ref f__law_least) = true)
    (a__law_whole_number : PySem.W.nsIn K mainGlobals "_law_whole_number" = some (some (.ref f__law_whole_number))) (l__law_whole_number : K.lookup f__law_whole_number = some ⟨oc__law_whole_number, od__law_whole_number, .func (PySem.W.fnOf "_law_whole_number" "_law_whole_number" (defArgs s__law_whole_number) (defBody s__law_whole_number) (defScope s__law_whole_number) .none kV__law_whole_number dc__law_whole_number pm__law_whole_number an__law_whole_number cd__law_whole_number ct__law_whole_number), sl__law_whole_number⟩) (c__law_whole_number : PySem.W.codeIn K cd__law_whole_number "_law_whole_number" = true) (k__law_whole_number : PySem.W.keepIn K (.ref f__law_whole_number) = true)
    (a__law_number : PySem.W.nsIn K mainGlobals "_law_number" = some (some (.ref f__law_number))) (l__law_number : K.lookup f__law_number = some ⟨oc__law_number, od__law_number, .func (PySem.W.fnOf "_law_number" "_law_number" (defArgs s__law_number) (defBody s__law_number) (defScope s__law_number) .none kV__law_number dc__law_number pm__law_number an__law_number cd__law_number ct__law_number), sl__law_number⟩) (c__law_number : PySem.W.codeIn K cd__law_number "_law_number" = true) (k__law_number : PySem.W.keepIn K (.ref f__law_number) = true)
    (a__law_book : PySem.W.nsIn K mainGlobals "_law_book" = some (some (.ref f__law_book))) (l__law_book : K.lookup f__law_book = some ⟨oc__law_book, od__law_book, .func (PySem.W.fnOf "_law_book" "_law_book" (defArgs s__law_book) (defBody s__law_book) (defScope s__law_book) .none kV__law_book dc__law_book pm__law_book an__law_book cd__law_book ct__law_book), sl__law_book⟩) (c__law_book : PySem.W.codeIn K cd__law_book "_law_book" = true) (k__law_book : PySem.W.keepIn K (.ref f__law_book) = true)
    (a__law_options : PySem.W.nsIn K mainGlobals "_law_options" = some (some (.ref f__law_options))) (l__law_options : K.lookup f__law_options = some ⟨oc__law_options, od__law_options, .func (PySem.W.fnOf "_law_options" "_law_options" (defArgs s__law_options) (defBody s__law_options) (defScope s__law_options) .none kV__law_options dc__law_options pm__law_options an__law_options cd__law_options ct__law_options), sl__law_options⟩) (c__law_options : PySem.W.codeIn K cd__law_options "_law_options" = true) (k__law_options : PySem.W.keepIn K (.ref f__law_options) = true)
    (a__law_room : PySem.W.nsIn K mainGlobals "_law_room" = some (some (.ref f__law_room))) (l__law_room : K.lookup f__law_room = some ⟨oc__law_room, od__law_room, .func (PySem.W.fnOf "_law_room" "_law_room" (defArgs s__law_room) (defBody s__law_room) (defScope s__law_room) .none kV__law_room dc__law_room pm__law_room an__law_room cd__law_room ct__law_room), sl__law_room⟩) (c__law_room : PySem.W.codeIn K cd__law_room "_law_room" = true) (k__law_room : PySem.W.keepIn K (.ref f__law_room) = true)
    (a__law_order : PySem.W.nsIn K mainGlobals "_law_order" = some (some (.ref f__law_order))) (l__law_order : K.lookup f__law_order = some ⟨oc__law_order, od__law_order, .func (PySem.W.fnOf "_law_order" "_law_order" (defArgs s__law_order) (defBody s__law_order) (defScope s__law_order) .none kV__law_order dc__law_order pm__law_order an__law_order cd__law_order ct__law_order), sl__law_order⟩) (c__law_order : PySem.W.codeIn K cd__law_order "_law_order" = true) (k__law_order : PySem.W.keepIn K (.ref f__law_order) = true)
    (a__law_shown : PySem.W.nsIn K mainGlobals "_law_shown" = some (some (.ref f__law_shown))) (l__law_shown : K.lookup f__law_shown = some ⟨oc__law_shown, od__law_shown, .func (PySem.W.fnOf "_law_shown" "_law_shown" (defArgs s__law_shown) (defBody s__law_shown) (defScope s__law_shown) .none kV__law_shown dc__law_shown pm__law_shown an__law_shown cd__law_shown ct__law_shown), sl__law_shown⟩) (c__law_shown : PySem.W.codeIn K cd__law_shown "_law_shown" = true) (k__law_shown : PySem.W.keepIn K (.ref f__law_shown) = true)
    (a__law_numbers : PySem.W.nsIn K mainGlobals "_law_numbers" = some (some (.ref f__law_numbers))) (l__law_numbers : K.lookup f__law_numbers = some ⟨oc__law_numbers, od__law_numbers, .func (PySem.W.fnOf "_law_numbers" "_law_numbers" (defArgs s__law_numbers) (defBody s__law_numbers) (defScope s__law_numbers) .none kV__law_numbers dc__law_numbers pm__law_numbers an__law_numbers cd__law_numbers ct__law_numbers), sl__law_numbers⟩) (c__law_numbers : PySem.W.codeIn K cd__law_numbers "_law_numbers" = true) (k__law_numbers : PySem.W.keepIn K (.ref f__law_numbers) = true)
    (a_law : PySem.W.nsIn K mainGlobals "law" = some (some (.ref f_law))) (l_law : K.lookup f_law = some ⟨oc_law, od_law, .func (PySem.W.fnOf "law" "law" (defArgs s_law) (defBody s_law) (defScope s_law) .none kV_law dc_law pm_law an_law cd_law ct_law), sl_law⟩) (c_law : PySem.W.codeIn K cd_law "law" = true) (k_law : PySem.W.keepIn K (.ref f_law) = true)
    (q_place_among : cd_place_among = .ref 138) (h_place_among : PySem.W.codeHdIn K 138 134 = true) (n_place_among : K.lookup 134 = none)
    (z_len : PySem.W.nsIn K mainGlobals "len" = some none)
    (z_range : PySem.W.nsIn K mainGlobals "range" = some none)
    (z_tuple : PySem.W.nsIn K mainGlobals "tuple" = some none)
    (z_isinstance : PySem.W.nsIn K mainGlobals "isinstance" = some none)
    (z_list : PySem.W.nsIn K mainGlobals "list" = some none)
    (z_sum : PySem.W.nsIn K mainGlobals "sum" = some none)
    (z_max : PySem.W.nsIn K mainGlobals "max" = some none)
    (z_str : PySem.W.nsIn K mainGlobals "str" = some none)
    (z_int : PySem.W.nsIn K mainGlobals "int" = some none)
    (z_abs : PySem.W.nsIn K mainGlobals "abs" = some none)
    (z_all : PySem.W.nsIn K mainGlobals "all" = some none)
    (z_reversed : PySem.W.nsIn K mainGlobals "reversed" = some none)
    {tokF tokB tokW tokL tokN : Tok} {aW : Addr} {esW : Array DictEntry} {nW : Nat}
    (gF : PySem.W.nsIn K mainGlobals "FIGURES" = some (some (.str "0123456789" tokF)))
    (gB : PySem.W.nsIn K mainGlobals "BLOCK" = some (some (.int 18 tokB)))
    (gW : PySem.W.nsIn K mainGlobals "BLOCK_WORTH" = some (some (.int 1000000000000000000 tokW)))
    (gL : PySem.W.nsIn K mainGlobals "LETTERS" = some (some (.str "abcdefghijklmnopqrstuvwxyz" tokL)))
    (gN : PySem.W.nsIn K mainGlobals "NAME_LENGTH" = some (some (.int 8 tokN)))
    (aWo : PySem.W.nsIn K mainGlobals "WORDS" = some (some (.ref aW))) (lWo : K.lookup aW = some ⟨.type "dict", none, .dict esW nW, #[]⟩) (kWo : PySem.W.KeysLit w.params esW.toList) (oWo : (aW == sysModules) = false) (vWo : wdsOk K esW.toList Ord.wordsT = true)
    (tt : PySem.W.kitOne K (.type "tuple") (.type "tuple") = some true)
    (ss : PySem.W.kitOne K (.type "str") (.type "str") = some true)
    (ts : PySem.W.kitOne K (.type "tuple") (.type "str") = some false)
    (st : PySem.W.kitOne K (.type "str") (.type "tuple") = some false) :
    ∃ fd : FuncData, (∀ (s : Shared) (v : Value), BindsTo s fd ⟨[v], []⟩ [("script", v)]) ∧ ((∀ p ∈ tabs, K.lookup p.1 = none) ∧ (∀ p ∈ tabs, isCodeTable h p.1) ∧ (tabs.map (·.1)).Nodup) ∧ ∀ base : Heap, K.In base → base.Ns mainGlobals mg → Bs K mg base → FnOk l.prog w K mg base CX0 8 fa fd ["script"] (spLawT K tabs) := by
  have e := hfa.symm.trans (PySem.W.mg_of X G a_law)
  cases e
  obtain ⟨W⟩ := Ord.wds_of (P := w.params) (PySem.W.mg_of X G aWo) lWo kWo oWo vWo
  exact ⟨PySem.W.fnOf "law" "law" (defArgs s_law) (defBody s_law) (defScope s_law) .none kV_law dc_law pm_law an_law cd_law ct_law, fun s v => .of_eq rfl, ⟨(List.forall_mem_cons.mpr ⟨n_place_among, (fun _ h => nomatch h)⟩), (List.forall_mem_cons.mpr ⟨isTab_of X h_place_among, (fun _ h => nomatch h)⟩), by decide⟩, fun base _ _ M => ok_law (fun_mk (st := s_law) l_law c_law k_law)
    ⟨f_is_name, _, (fun_mk (st := s_is_name) l_is_name c_is_name k_is_name), (fun_mk (st := s_is_name) l_is_name c_is_name k_is_name).binds (ps := ["text"]) fun _ _ _ _ _ _ us hl => match us, hl with | [_], _ => rfl, PySem.W.mg_of X G a_is_name,
      f_many_ahead, _, (fun_mk (st := s_many_ahead) l_many_ahead c_many_ahead k_many_ahead), (fun_mk (st := s_many_ahead) l_many_ahead c_many_ahead k_many_ahead).binds (ps := ["places", "lies_ahead"]) fun _ _ _ _ _ _ us hl => match us, hl with | [_, _], _ => rfl, PySem.W.mg_of X G a_many_ahead,
      f_fraction, _, (fun_mk (st := s_fraction) l_fraction c_fraction k_fraction), (fun_mk (st := s_fraction) l_fraction c_fraction k_fraction).binds (ps := ["above", "below"]) fun _ _ _ _ _ _ us hl => match us, hl with | [_, _], _ => rfl, PySem.W.mg_of X G a_fraction,
      f_common_divisor, _, (fun_mk (st := s_common_divisor) l_common_divisor c_common_divisor k_common_divisor), (fun_mk (st := s_common_divisor) l_common_divisor c_common_divisor k_common_divisor).binds (ps := ["one", "other"]) fun _ _ _ _ _ _ us hl => match us, hl with | [_, _], _ => rfl, PySem.W.mg_of X G a_common_divisor,
      f_compared, _, (fun_mk (st := s_compared) l_compared c_compared k_compared), (fun_mk (st := s_compared) l_compared c_compared k_compared).binds (ps := ["one", "other"]) fun _ _ _ _ _ _ us hl => match us, hl with | [_, _], _ => rfl, PySem.W.mg_of X G a_compared,
      f_place_among, _, (fun_mk (st := s_place_among) l_place_among c_place_among k_place_among), (fun_mk (st := s_place_among) l_place_among c_place_among k_place_among).binds (ps := ["numbers", "number"]) fun _ _ _ _ _ _ us hl => match us, hl with | [_, _], _ => rfl, PySem.W.mg_of X G a_place_among,
      f_rising, _, (fun_mk (st := s_rising) l_rising c_rising k_rising), (fun_mk (st := s_rising) l_rising c_rising k_rising).binds (ps := ["numbers"]) fun _ _ _ _ _ _ us hl => match us, hl with | [_], _ => rfl, PySem.W.mg_of X G a_rising,
      f_read_number, _, (fun_mk (st := s_read_number) l_read_number c_read_number k_read_number), (fun_mk (st := s_read_number) l_read_number c_read_number k_read_number).binds (ps := ["text"]) fun _ _ _ _ _ _ us hl => match us, hl with | [_], _ => rfl, PySem.W.mg_of X G a_read_number,
      f_read_signed, _, (fun_mk (st := s_read_signed) l_read_signed c_read_signed k_read_signed), (fun_mk (st := s_read_signed) l_read_signed c_read_signed k_read_signed).binds (ps := ["text"]) fun _ _ _ _ _ _ us hl => match us, hl with | [_], _ => rfl, PySem.W.mg_of X G a_read_signed,
      f_read_figures, _, (fun_mk (st := s_read_figures) l_read_figures c_read_figures k_read_figures), (fun_mk (st := s_read_figures) l_read_figures c_read_figures k_read_figures).binds (ps := ["text"]) fun _ _ _ _ _ _ us hl => match us, hl with | [_], _ => rfl, PySem.W.mg_of X G a_read_figures,
      f_number_shown, _, (fun_mk (st := s_number_shown) l_number_shown c_number_shown k_number_shown), (fun_mk (st := s_number_shown) l_number_shown c_number_shown k_number_shown).binds (ps := ["number"]) fun _ _ _ _ _ _ us hl => match us, hl with | [_], _ => rfl, PySem.W.mg_of X G a_number_shown,
      f_figures_of, _, (fun_mk (st := s_figures_of) l_figures_of c_figures_of k_figures_of), (fun_mk (st := s_figures_of) l_figures_of c_figures_of k_figures_of).binds (ps := ["number"]) fun _ _ _ _ _ _ us hl => match us, hl with | [_], _ => rfl, PySem.W.mg_of X G a_figures_of,
      f_read_order, _, (fun_mk (st := s_read_order) l_read_order c_read_order k_read_order), (fun_mk (st := s_read_order) l_read_order c_read_order k_read_order).binds (ps := ["text", "book"]) fun _ _ _ _ _ _ us hl => match us, hl with | [_, _], _ => rfl, PySem.W.mg_of X G a_read_order,
      f_read_word, _, (fun_mk (st := s_read_word) l_read_word c_read_word k_read_word), (fun_mk (st := s_read_word) l_read_word c_read_word k_read_word).binds (ps := ["word", "need"]) fun _ _ _ _ _ _ us hl => match us, hl with | [_, _], _ => rfl, PySem.W.mg_of X G a_read_word,
      f_read_order_number, _, (fun_mk (st := s_read_order_number) l_read_order_number c_read_order_number k_read_order_number), (fun_mk (st := s_read_order_number) l_read_order_number c_read_order_number k_read_order_number).binds (ps := ["word"]) fun _ _ _ _ _ _ us hl => match us, hl with | [_], _ => rfl, PySem.W.mg_of X G a_read_order_number,
      f_reversed_parts, _, (fun_mk (st := s_reversed_parts) l_reversed_parts c_reversed_parts k_reversed_parts), (fun_mk (st := s_reversed_parts) l_reversed_parts c_reversed_parts k_reversed_parts).binds (ps := ["word"]) fun _ _ _ _ _ _ us hl => match us, hl with | [_], _ => rfl, PySem.W.mg_of X G a_reversed_parts,
      f_order_shown, _, (fun_mk (st := s_order_shown) l_order_shown c_order_shown k_order_shown), (fun_mk (st := s_order_shown) l_order_shown c_order_shown k_order_shown).binds (ps := ["order"]) fun _ _ _ _ _ _ us hl => match us, hl with | [_], _ => rfl, PySem.W.mg_of X G a_order_shown,
      f_word_shown, _, (fun_mk (st := s_word_shown) l_word_shown c_word_shown k_word_shown), (fun_mk (st := s_word_shown) l_word_shown c_word_shown k_word_shown).binds (ps := ["word"]) fun _ _ _ _ _ _ us hl => match us, hl with | [_], _ => rfl, PySem.W.mg_of X G a_word_shown,
      f_numbers_of, _, (fun_mk (st := s_numbers_of) l_numbers_of c_numbers_of k_numbers_of), (fun_mk (st := s_numbers_of) l_numbers_of c_numbers_of k_numbers_of).binds (ps := ["order"]) fun _ _ _ _ _ _ us hl => match us, hl with | [_], _ => rfl, PySem.W.mg_of X G a_numbers_of,
      f__law_deck, _, (fun_mk (st := s__law_deck) l__law_deck c__law_deck k__law_deck), (fun_mk (st := s__law_deck) l__law_deck c__law_deck k__law_deck).binds (ps := ["script"]) fun _ _ _ _ _ _ us hl => match us, hl with | [_], _ => rfl, PySem.W.mg_of X G a__law_deck,
      f__law_take, _, (fun_mk (st := s__law_take) l__law_take c__law_take k__law_take), (fun_mk (st := s__law_take) l__law_take c__law_take k__law_take).binds (ps := ["deck", "many"]) fun _ _ _ _ _ _ us hl => match us, hl with | [_, _], _ => rfl, PySem.W.mg_of X G a__law_take,
      f__law_common, _, (fun_mk (st := s__law_common) l__law_common c__law_common k__law_common), (fun_mk (st := s__law_common) l__law_common c__law_common k__law_common).binds (ps := ["one", "other"]) fun _ _ _ _ _ _ us hl => match us, hl with | [_, _], _ => rfl, PySem.W.mg_of X G a__law_common,
      f__law_least, _, (fun_mk (st := s__law_least) l__law_least c__law_least k__law_least), (fun_mk (st := s__law_least) l__law_least c__law_least k__law_least).binds (ps := ["top", "below"]) fun _ _ _ _ _ _ us hl => match us, hl with | [_, _], _ => rfl, PySem.W.mg_of X G a__law_least,
      f__law_whole_number, _, (fun_mk (st := s__law_whole_number) l__law_whole_number c__law_whole_number k__law_whole_number), (fun_mk (st := s__law_whole_number) l__law_whole_number c__law_whole_number k__law_whole_number).binds (ps := ["deck"]) fun _ _ _ _ _ _ us hl => match us, hl with | [_], _ => rfl, PySem.W.mg_of X G a__law_whole_number,
      f__law_number, _, (fun_mk (st := s__law_number) l__law_number c__law_number k__law_number), (fun_mk (st := s__law_number) l__law_number c__law_number k__law_number).binds (ps := ["deck"]) fun _ _ _ _ _ _ us hl => match us, hl with | [_], _ => rfl, PySem.W.mg_of X G a__law_number,
      f__law_book, _, (fun_mk (st := s__law_book) l__law_book c__law_book k__law_book), (fun_mk (st := s__law_book) l__law_book c__law_book k__law_book).binds (ps := ["deck"]) fun _ _ _ _ _ _ us hl => match us, hl with | [_], _ => rfl, PySem.W.mg_of X G a__law_book,
      f__law_options, _, (fun_mk (st := s__law_options) l__law_options c__law_options k__law_options), (fun_mk (st := s__law_options) l__law_options c__law_options k__law_options).binds (ps := ["want"]) fun _ _ _ _ _ _ us hl => match us, hl with | [_], _ => rfl, PySem.W.mg_of X G a__law_options,
      f__law_room, _, (fun_mk (st := s__law_room) l__law_room c__law_room k__law_room), (fun_mk (st := s__law_room) l__law_room c__law_room k__law_room).binds (ps := ["due"]) fun _ _ _ _ _ _ us hl => match us, hl with | [_], _ => rfl, PySem.W.mg_of X G a__law_room,
      f__law_order, _, (fun_mk (st := s__law_order) l__law_order c__law_order k__law_order), (fun_mk (st := s__law_order) l__law_order c__law_order k__law_order).binds (ps := ["deck", "book", "numbers", "most"]) fun _ _ _ _ _ _ us hl => match us, hl with | [_, _, _, _], _ => rfl, PySem.W.mg_of X G a__law_order,
      f__law_shown, _, (fun_mk (st := s__law_shown) l__law_shown c__law_shown k__law_shown), (fun_mk (st := s__law_shown) l__law_shown c__law_shown k__law_shown).binds (ps := ["order"]) fun _ _ _ _ _ _ us hl => match us, hl with | [_], _ => rfl, PySem.W.mg_of X G a__law_shown,
      f__law_numbers, _, (fun_mk (st := s__law_numbers) l__law_numbers c__law_numbers k__law_numbers), (fun_mk (st := s__law_numbers) l__law_numbers c__law_numbers k__law_numbers).binds (ps := ["deck"]) fun _ _ _ _ _ _ us hl => match us, hl with | [_], _ => rfl, PySem.W.mg_of X G a__law_numbers,
      138, 134, q_place_among, h_place_among,
      PySem.W.mg_none_of X G z_len,
      PySem.W.mg_none_of X G z_range,
      PySem.W.mg_none_of X G z_tuple,
      PySem.W.mg_none_of X G z_isinstance,
      PySem.W.mg_none_of X G z_list,
      PySem.W.mg_none_of X G z_sum,
      PySem.W.mg_none_of X G z_max,
      PySem.W.mg_none_of X G z_str,
      PySem.W.mg_none_of X G z_int,
      PySem.W.mg_none_of X G z_abs,
      PySem.W.mg_none_of X G z_all,
      PySem.W.mg_none_of X G z_reversed,
      tt,
      ss,
      ts,
      st⟩ ⟨⟨⟨_, PySem.W.mg_of X G gF⟩, ⟨_, PySem.W.mg_of X G gB⟩, ⟨_, PySem.W.mg_of X G gW⟩⟩, ⟨_, PySem.W.mg_of X G gL⟩, ⟨_, PySem.W.mg_of X G gN⟩⟩ W M⟩
theorem walk {l : PySem.W.OpenLaw} {q : Program} {loose : List Str} {XP : (Str → Option Value) → Heap → Prop} {YP : World → Heap → Prop} {d : DefRec} {K : Params → PySem.W.Frag} (hn : l.most = some 63) (hdf : d.params.defaults = [])
    (hY : ∀ (w : World) (h : Heap), YP w h → (K w.params).In h ∧ ∀ p ∈ tabs, h.get? p.1 = some { cls := .none, data := .fields #[] })
    (F : ∀ (w : World) (mg : Str → Option Value) (fa : Addr) (h : Heap), (K w.params).In h → h.Ns mainGlobals mg → mg d.name = some (.ref fa) →
      ∃ fd : FuncData, (∀ (s : Shared) (u : Value), BindsTo s fd ⟨[u], []⟩ [("script", u)]) ∧ ((∀ p ∈ tabs, (K w.params).lookup p.1 = none) ∧ (∀ p ∈ tabs, isCodeTable h p.1) ∧ (tabs.map (·.1)).Nodup) ∧ ∀ base : Heap, (K w.params).In base → base.Ns mainGlobals mg → Bs (K w.params) mg base → FnOk l.prog w (K w.params) mg base CX0 8 fa fd ["script"] (spLawT (K w.params) tabs)) :
    PySem.W.WalkO q loose XP YP l.row.toRowW d [] (fun f vs => PySem.call f vs) :=
  L2.walk_ofT (n := 63) (k := 8) (x := "script") (sp := fun w => spLawT (K w.params) tabs) (fun _ => tabs) hn (by decide) hdf ⟨rfl, by decide, by decide⟩ hY F (fun _ _ a ns hl hT hS => ⟨a, ns, rfl, hS, hl, hT, fun _ => rfl⟩)
end K08
open PySem PySem.W PyProof.Rows
def PySem.W.Fast.tw841964969205981904 : Nat := 0
def PySem.W.Fast.tw10329925725586054257 : Nat := 0
def PySem.W.Fast.tw8641591779379052288 : Nat := 0
def PySem.W.Fast.tw2408366847669130986 : Nat := 0
def PySem.W.Fast.tw11322240118456687285 : Nat := 0
set_option maxRecDepth 100000 in
set_option maxHeartbeats 0 in
theorem PySem.Challenge.cw_ordertext_k08_whole_shown_and_read_holds : PySem.Challenge.rw_ordertext_k08_whole_shown_and_read.Holds := by
  w_on; o_law; k_head; (case hw => w_witness2)
  k_fill
  refine K08.walk (l := PySem.Challenge.rw_ordertext_k08_whole_shown_and_read) rfl rfl (fun w h Y => ⟨PySem.W.km_in_of Y, (List.forall_mem_cons.mpr ⟨PySem.W.km_tabs_of Y _ (by first | k_mem | simp), (fun _ h => nomatch h)⟩)⟩) ?F
  case F =>
    intro w mg fa h KX G hmg
    refine' K08.all_mk KX G hmg ?a_is_name ?l_is_name ?c_is_name ?k_is_name ?a_many_ahead ?l_many_ahead ?c_many_ahead ?k_many_ahead ?a_fraction ?l_fraction ?c_fraction ?k_fraction ?a_common_divisor ?l_common_divisor ?c_common_divisor ?k_common_divisor ?a_compared ?l_compared ?c_compared ?k_compared ?a_place_among ?l_place_among ?c_place_among ?k_place_among ?a_rising ?l_rising ?c_rising ?k_rising ?a_read_number ?l_read_number ?c_read_number ?k_read_number ?a_read_signed ?l_read_signed ?c_read_signed ?k_read_signed ?a_read_figures ?l_read_figures ?c_read_figures ?k_read_figures ?a_number_shown ?l_number_shown ?c_number_shown ?k_number_shown ?a_figures_of ?l_figures_of ?c_figures_of ?k_figures_of ?a_read_order ?l_read_order ?c_read_order ?k_read_order ?a_read_word ?l_read_word ?c_read_word ?k_read_word ?a_read_order_number ?l_read_order_number ?c_read_order_number ?k_read_order_number ?a_reversed_parts ?l_reversed_parts ?c_reversed_parts ?k_reversed_parts ?a_order_shown ?l_order_shown ?c_order_shown ?k_order_shown ?a_word_shown ?l_word_shown ?c_word_shown ?k_word_shown ?a_numbers_of ?l_numbers_of ?c_numbers_of ?k_numbers_of ?a__law_deck ?l__law_deck ?c__law_deck ?k__law_deck ?a__law_take ?l__law_take ?c__law_take ?k__law_take ?a__law_common ?l__law_common ?c__law_common ?k__law_common ?a__law_least ?l__law_least ?c__law_least ?k__law_least ?a__law_whole_number ?l__law_whole_number ?c__law_whole_number ?k__law_whole_number ?a__law_number ?l__law_number ?c__law_number ?k__law_number ?a__law_book ?l__law_book ?c__law_book ?k__law_book ?a__law_options ?l__law_options ?c__law_options ?k__law_options ?a__law_room ?l__law_room ?c__law_room ?k__law_room ?a__law_order ?l__law_order ?c__law_order ?k__law_order ?a__law_shown ?l__law_shown ?c__law_shown ?k__law_shown ?a__law_numbers ?l__law_numbers ?c__law_numbers ?k__law_numbers ?a_law ?l_law ?c_law ?k_law ?q_place_among ?h_place_among ?n_place_among ?z_len ?z_range ?z_tuple ?z_isinstance ?z_list ?z_sum ?z_max ?z_str ?z_int ?z_abs ?z_all ?z_reversed ?gF ?gB ?gW ?gL ?gN ?aWo ?lWo ?kWo ?oWo ?vWo ?tt ?ss ?ts ?st
    (case a_is_name => k_is)
    (case l_is_name => k_is)
    (case c_is_name => k_is)
    (case k_is_name => k_is)
    (case a_many_ahead => k_is)
    (case l_many_ahead => k_is)
    (case c_many_ahead => k_is)
    (case k_many_ahead => k_is)
    (case a_fraction => k_is)
    (case l_fraction => k_is)
    (case c_fraction => k_is)
    (case k_fraction => k_is)
    (case a_common_divisor => k_is)
    (case l_common_divisor => k_is)
    (case c_common_divisor => k_is)
    (case k_common_divisor => k_is)
    (case a_compared => k_is)
    (case l_compared => k_is)
    (case c_compared => k_is)
    (case k_compared => k_is)
    (case a_place_among => k_is)
    (case l_place_among => k_is)
    (case c_place_among => k_is)
    (case k_place_among => k_is)
    (case a_rising => k_is)
    (case l_rising => k_is)
    (case c_rising => k_is)
    (case k_rising => k_is)
    (case a_read_number => k_is)
    (case l_read_number => k_is)
    (case c_read_number => k_is)
    (case k_read_number => k_is)
    (case a_read_signed => k_is)
    (case l_read_signed => k_is)
    (case c_read_signed => k_is)
    (case k_read_signed => k_is)
    (case a_read_figures => k_is)
    (case l_read_figures => k_is)
    (case c_read_figures => k_is)
    (case k_read_figures => k_is)
    (case a_number_shown => k_is)
    (case l_number_shown => k_is)
    (case c_number_shown => k_is)
    (case k_number_shown => k_is)
    (case a_figures_of => k_is)
    (case l_figures_of => k_is)
    (case c_figures_of => k_is)
    (case k_figures_of => k_is)
    (case a_read_order => k_is)
    (case l_read_order => k_is)
    (case c_read_order => k_is)
    (case k_read_order => k_is)
    (case a_read_word => k_is)
    (case l_read_word => k_is)
    (case c_read_word => k_is)
    (case k_read_word => k_is)
    (case a_read_order_number => k_is)
    (case l_read_order_number => k_is)
    (case c_read_order_number => k_is)
    (case k_read_order_number => k_is)
    (case a_reversed_parts => k_is)
    (case l_reversed_parts => k_is)
    (case c_reversed_parts => k_is)
    (case k_reversed_parts => k_is)
    (case a_order_shown => k_is)
    (case l_order_shown => k_is)
    (case c_order_shown => k_is)
    (case k_order_shown => k_is)
    (case a_word_shown => k_is)
    (case l_word_shown => k_is)
    (case c_word_shown => k_is)
    (case k_word_shown => k_is)
    (case a_numbers_of => k_is)
    (case l_numbers_of => k_is)
    (case c_numbers_of => k_is)
    (case k_numbers_of => k_is)
    (case a__law_deck => k_is)
    (case l__law_deck => k_is)
    (case c__law_deck => k_is)
    (case k__law_deck => k_is)
    (case a__law_take => k_is)
    (case l__law_take => k_is)
    (case c__law_take => k_is)
    (case k__law_take => k_is)
    (case a__law_common => k_is)
    (case l__law_common => k_is)
    (case c__law_common => k_is)
    (case k__law_common => k_is)
    (case a__law_least => k_is)
    (case l__law_least => k_is)
    (case c__law_least => k_is)
    (case k__law_least => k_is)
    (case a__law_whole_number => k_is)
    (case l__law_whole_number => k_is)
    (case c__law_whole_number => k_is)
    (case k__law_whole_number => k_is)
    (case a__law_number => k_is)
    (case l__law_number => k_is)
    (case c__law_number => k_is)
    (case k__law_number => k_is)
    (case a__law_book => k_is)
    (case l__law_book => k_is)
    (case c__law_book => k_is)
    (case k__law_book => k_is)
    (case a__law_options => k_is)
    (case l__law_options => k_is)
    (case c__law_options => k_is)
    (case k__law_options => k_is)
    (case a__law_room => k_is)
    (case l__law_room => k_is)
    (case c__law_room => k_is)
    (case k__law_room => k_is)
    (case a__law_order => k_is)
    (case l__law_order => k_is)
    (case c__law_order => k_is)
    (case k__law_order => k_is)
    (case a__law_shown => k_is)
    (case l__law_shown => k_is)
    (case c__law_shown => k_is)
    (case k__law_shown => k_is)
    (case a__law_numbers => k_is)
    (case l__law_numbers => k_is)
    (case c__law_numbers => k_is)
    (case k__law_numbers => k_is)
    (case a_law => k_is)
    (case l_law => k_is)
    (case c_law => k_is)
    (case k_law => k_is)
    (case q_place_among => first | rfl | kernel_rfl | k_is)
    (case h_place_among => first | rfl | kernel_rfl | k_is)
    (case n_place_among => first | rfl | kernel_rfl | k_is)
    (case z_len => k_is)
    (case z_range => k_is)
    (case z_tuple => k_is)
    (case z_isinstance => k_is)
    (case z_list => k_is)
    (case z_sum => k_is)
    (case z_max => k_is)
    (case z_str => k_is)
    (case z_int => k_is)
    (case z_abs => k_is)
    (case z_all => k_is)
    (case z_reversed => k_is)
    (case gF => k_is)
    (case gB => k_is)
    (case gW => k_is)
    (case gL => k_is)
    (case gN => k_is)
    (case aWo => k_is)
    (case lWo => k_is)
    (case kWo => k_keys)
    (case oWo => decide)
    (case vWo => kernel_rfl)
    (case tt => first | kit_is | k_is | rfl)
    (case ss => first | kit_is | k_is | rfl)
    (case ts => first | kit_is | k_is | rfl)
    (case st => first | kit_is | k_is | rfl)
