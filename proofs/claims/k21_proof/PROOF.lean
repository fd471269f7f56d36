import PyProof.Rows.All
import Wide.All
import OpenK.AllK
import Wide.FinOn
import Lean
import PyProof.EqAt
import PyProof.EqKinds
import PyProof.TupleCall
import PyProof.NeKinds
import PyProof.CompFree
import PyProof.ListRange
import PySem.Challenge.RW_fieldgate_k21_classes
section
set_option Elab.async false
set_option linter.all false
set_option maxRecDepth 100000
/-! THE HAND LAYER, for ints, bools, texts, own classes, LISTS and tuples (index, slices, in, append, pop ..), calls, loops. Paste it whole ahead of your own text; what your proof does not reach may be deleted. -/
namespace L2
open PySem PySem.Spec PyProof.Rows

/-- a key: an int or a str -/
abbrev Key := Sum Int Str
def keyIs : Key → Value → Bool
  | .inl k, v => Value.isInt k v
  | .inr x, v => Value.isStrOf x v
def keyH (w : World) : Key → Int
  | .inl k => hashInt k
  | .inr x => hashStr w x
theorem keyIs_shape : ∀ {k : Key} {v : Value}, keyIs k v = true → (∃ i t, k = Sum.inl i ∧ v = Value.int i t) ∨ (∃ x t, k = Sum.inr x ∧ v = Value.str x t)
  | .inl i, v, h => by
    obtain ⟨t, e⟩ := Value.isInt_shape (k := i) (v := v) h
    exact .inl ⟨i, t, rfl, e⟩
  | .inr x, v, h => by
    obtain ⟨t, e⟩ := Value.isStrOf_shape (x := x) (v := v) h
    exact .inr ⟨x, t, rfl, e⟩
theorem keyIs_int (i : Int) (t : Tok) : keyIs (.inl i) (.int i t) = true := by simp [keyIs, Value.isInt]
theorem keyIs_str (x : Str) (t : Tok) : keyIs (.inr x) (.str x t) = true := by simp [keyIs, Value.isStrOf]
theorem key_ll (a b : Int) : decide ((Sum.inl a : Key) = Sum.inl b) = (a == b) := by
  by_cases e : a = b
  · subst e; simp
  · have h : ¬ (Sum.inl a : Key) = Sum.inl b := fun q => e (Sum.inl.inj q)
    rw [decide_eq_false h]
    exact (beq_eq_false_iff_ne.mpr e).symm
theorem key_rr (a b : Str) : decide ((Sum.inr a : Key) = Sum.inr b) = decide (a = b) := by
  by_cases e : a = b
  · subst e; simp
  · have h : ¬ (Sum.inr a : Key) = Sum.inr b := fun q => e (Sum.inr.inj q)
    rw [decide_eq_false h, decide_eq_false e]
theorem key_lr (a : Int) (b : Str) : decide ((Sum.inl a : Key) = Sum.inr b) = false := decide_eq_false (fun q => nomatch q)
theorem key_rl (a : Str) (b : Int) : decide ((Sum.inr a : Key) = Sum.inl b) = false := decide_eq_false (fun q => nomatch q)

def mixKind (prog : Program) (w : World) : PySem.KeyKind prog w Key where
  is := keyIs
  hash := keyH w
  inj := fun v a b ha hb => by
    rcases keyIs_shape ha with ⟨i, t, rfl, rfl⟩ | ⟨x, t, rfl, rfl⟩
    · rcases keyIs_shape hb with ⟨j, u, rfl, e⟩ | ⟨y, u, rfl, e⟩
      · injection e with e1 _; rw [e1]
      · exact nomatch e
    · rcases keyIs_shape hb with ⟨j, u, rfl, e⟩ | ⟨y, u, rfl, e⟩
      · exact nomatch e
      · injection e with e1 _; rw [e1]
  byValue := fun k v h => by
    rcases keyIs_shape h with ⟨i, t, rfl, rfl⟩ | ⟨x, t, rfl, rfl⟩ <;> rfl
  pyHash := fun hv h => by
    rcases keyIs_shape hv with ⟨i, t, rfl, rfl⟩ | ⟨x, t, rfl, rfl⟩
    · exact wpAny_pyHash_int h
    · exact wpAny_pyHash_str h
  eqBool := fun hu hv h => by
    rcases keyIs_shape hu with ⟨i, t, rfl, rfl⟩ | ⟨x, t, rfl, rfl⟩
    · rcases keyIs_shape hv with ⟨j, u, rfl, rfl⟩ | ⟨y, u, rfl, rfl⟩
      · rw [key_ll] at h; exact wpAny_eqBool_int h
      · rw [key_lr] at h; exact SeqAt.EqAt.int_str i t y u _ _ _ _ h
    · rcases keyIs_shape hv with ⟨j, u, rfl, rfl⟩ | ⟨y, u, rfl, rfl⟩
      · rw [key_rl] at h; exact SeqAt.EqAt.str_int x t j u _ _ _ _ h
      · rw [key_rr] at h; exact wpAny_eqBool_str h
  «strs» := fun k x t v h => by
    rcases keyIs_shape h with ⟨i, u, rfl, e⟩ | ⟨y, u, rfl, e⟩
    · exact nomatch e
    · injection e with e1 _
      subst e1
      cases v <;> rfl

theorem mixKind_is (prog : Program) (w : World) (k : Key) (v : Value) : (mixKind prog w).is k v = keyIs k v := rfl
theorem mixKind_int (prog : Program) (w : World) (i : Int) (t : Tok) : (mixKind prog w).is (.inl i) (.int i t) = true := keyIs_int i t
theorem mixKind_str (prog : Program) (w : World) (x : Str) (t : Tok) : (mixKind prog w).is (.inr x) (.str x t) = true := keyIs_str x t
end L2

namespace L2
open PySem PySem.Spec PyProof.Rows

/-- a value, without the heap -/
inductive V where
  | non | bl (b : Bool) | int (i : Int) | str (x : Str) | byt (b : Array UInt8) | flt (b : UInt64) | ref (a : Addr) | ty (n : String)
  deriving DecidableEq

def RelV : V → Value → Prop
  | .non, u => u = Value.none
  | .bl b, u => u = Value.bool b
  | .int i, u => ∃ t, u = Value.int i t
  | .str x, u => ∃ t, u = Value.str x t
  | .byt b, u => ∃ t, u = Value.bytes b t
  | .flt b, u => ∃ t, u = Value.float b t
  | .ref a, u => u = Value.ref a
  | .ty n, u => u = Value.type n

abbrev Vals : List V → List Value → Prop := Paired RelV
theorem Vals.length {xs : List V} {us : List Value} (r : Vals xs us) : xs.length = us.length := Paired.length r
theorem Vals.get : ∀ {xs : List V} {us : List Value} {i : Nat} {x : V}, Vals xs us → xs[i]? = some x → ∃ u, us[i]? = some u ∧ RelV x u
  | _, _, _, _, .nil, e => by simp at e
  | _, _, 0, _, .cons r _, e => by simp at e; subst e; exact ⟨_, rfl, r⟩
  | _, _, i + 1, x, .cons _ t, e => by
    obtain ⟨u, h1, h2⟩ := Vals.get (i := i) (x := x) t (by simpa using e)
    exact ⟨u, by simpa using h1, h2⟩
theorem Vals.set {x : V} {u : Value} (r : RelV x u) : ∀ {xs : List V} {us : List Value} (i : Nat), Vals xs us → Vals (xs.set i x) (us.set i u)
  | _, _, _, .nil => .nil
  | _, _, 0, .cons _ t => .cons r t
  | _, _, i + 1, .cons q t => .cons q (Vals.set r i t)
theorem Vals.append : ∀ {xs ys : List V} {us ws : List Value}, Vals xs us → Vals ys ws → Vals (xs ++ ys) (us ++ ws)
  | _, _, _, _, .nil, s => s
  | _, _, _, _, .cons r t, s => .cons r (Vals.append t s)
theorem Vals.take : ∀ {xs : List V} {us : List Value} (n : Nat), Vals xs us → Vals (xs.take n) (us.take n)
  | _, _, 0, _ => .nil
  | _, _, _ + 1, .nil => .nil
  | _, _, n + 1, .cons r t => .cons r (Vals.take n t)
theorem Vals.drop : ∀ {xs : List V} {us : List Value} (n : Nat), Vals xs us → Vals (xs.drop n) (us.drop n)
  | _, _, 0, r => r
  | _, _, _ + 1, .nil => .nil
  | _, _, n + 1, .cons _ t => Vals.drop n t
theorem Vals.none_of : ∀ {xs : List V} {us : List Value} {i : Nat}, Vals xs us → xs[i]? = none → us[i]? = none := fun {xs us i} r e => by
  have h1 := r.length
  have h2 : xs.length ≤ i := List.getElem?_eq_none_iff.mp e
  exact List.getElem?_eq_none_iff.mpr (by omega)

def RelO : Option V → Option Value → Prop
  | some v, some u => RelV v u
  | none, none => True
  | _, _ => False
def KV {κ : Type} : List (κ × V) → List (κ × Value) → Prop := Paired fun (p : κ × V) (q : κ × Value) => p.1 = q.1 ∧ RelV p.2 q.2

/-- a key of a dict (00_mix): an int or a text -/
def kV : Key → V
  | .inl i => .int i
  | .inr x => .str x

/-- what stands at a tracked address -/
inductive HO where
  /-- a list -/
  | lst (xs : List V)
  /-- a tuple (never changes) -/
  | tup (xs : List V)
  /-- a dict whose keys are ints and texts; one whose keys are tuples of ints and texts (the empty one is both) -/
  | dK (kvs : List (Key × V)) | dT (kvs : List (List Key × V))
  /-- a set of ints: its members, its size -/
  | set (S : Int → Bool) (n : Nat)
  /-- an instance of the class at C, its dict at dx, its attributes -/
  | ins (C dx : Addr) (fs : List (Str × V))
  /-- the dict of the instance at x -/
  | own (x : Addr)
  /-- the dict of an exception -/
  | xd (fs : List (Str × V))
  /-- a bound method, f of x -/
  | met (f x : Addr)
  /-- a range object lo, lo + 1, .. below hi -/
  | rng (lo hi : Int)
  /-- a thing that is known to the object (the script; a dict while a loop walks it): read, never written while it is so -/
  | frz (o : Obj) (u : HO)
  /-- a code object's table -/
  | tbl (ps : Array Value)
  /-- any other thing, by what is true of its one object (a def of one's own: SetO a S n := HO.ext fun h => ..) -/
  | ext (φ : Heap → Prop)

abbrev Hp := Addr → Option HO
def upd (H : Hp) (a : Addr) (o : HO) : Hp := fun b => if b = a then some o else H b
theorem upd_same {H : Hp} {a : Addr} {o : HO} : upd H a o a = some o := by unfold upd; rw [if_pos rfl]
theorem upd_ne {H : Hp} {a b : Addr} {o : HO} (h : b ≠ a) : upd H a o b = H b := by unfold upd; rw [if_neg h]
theorem upd_upd {H : Hp} {a : Addr} {o u : HO} : upd (upd H a o) a u = upd H a u := by
  funext b; unfold upd; split <;> rfl
/-- two objects of different content stand apart -/
theorem ne_of {H : Hp} {a b : Addr} {o u : HO} (h : H a = some o) (h' : H b = some u) (d : o ≠ u) : a ≠ b := by
  intro e; subst e; rw [h] at h'; exact d (Option.some.inj h')
theorem ne_of_none {H : Hp} {a b : Addr} {o : HO} (h : H a = some o) (h' : H b = none) : a ≠ b := by
  intro e; subst e; rw [h] at h'; cases h'

section
variable (P : Program) (w : World)
def ObjOk (H : Hp) (h : Heap) (a : Addr) : HO → Prop
  | .lst xs => xs.length ≤ sizeLine ∧ ∃ (its : List Value) (n : Nat), Vals xs its ∧ h.get? a = some { cls := .type "list", data := .seq its.toArray n }
  | .tup xs => xs.length ≤ sizeLine ∧ ∃ its : List Value, Vals xs its ∧ IsTup h a its.toArray
  | .dK kvs => kvs.length ≤ sizeLine ∧ (a == sysModules) = false ∧ ∃ vs, KV kvs vs ∧ h.DictOf (mixKind P w) a vs
  | .dT kvs => kvs.length ≤ sizeLine ∧ (a == sysModules) = false ∧ ∃ xs : List (List Key × Addr × Value),
      Paired (fun (p : List Key × V) (q : List Key × Addr × Value) => p.1 = q.1 ∧ H q.2.1 = some (.tup (p.1.map kV)) ∧ RelV p.2 q.2.2) kvs xs ∧
      ∃ o es ep, h.get? a = some o ∧ o.ExactDict ∧ o.data = .dict es ep ∧ es.toList = xs.map (entryOfKey (tupleKind (mixKind P w))) ∧ (xs.map (·.1)).Nodup
  | .set S n => h.SetOf (intKind P w) a S n
  | .ins C dx fs => H dx = some (.own a) ∧ fs.length ≤ 1000 ∧ dx ≠ a ∧ h.get? a = some (PySem.W.instObj C dx) ∧
      ∃ mA, h.Ns1 dx mA ∧ (∀ f, RelO (fs.lookup f) (mA f)) ∧ PySem.Within mA (fs.map (·.1))
  | .own _ => ∃ o, h.get? a = some o
  | .xd fs => ∃ mA, h.Ns1 a mA ∧ ∀ f, RelO (fs.lookup f) (mA f)
  | .rng lo hi => ∃ t u v, h.get? a = some { cls := .type "range", data := .fields #[.int lo t, .int hi u, .int 1 v] }
  | .frz o u => h.get? a = some o ∧ ObjOk H h a u
  | .tbl ps => h.get? a = some { cls := .none, data := .fields ps }
  | .met f x => h.get? a = some (PySem.W.methodObj (.ref f) (.ref x))
  | .ext φ => φ h ∧ (∃ o, h.get? a = some o) ∧ ∀ h1 h2 : Heap, φ h1 → (∀ o, h1.get? a = some o → h2.get? a = some o) → φ h2
/-- the abstract heap is held -/
def HOk (H : Hp) (h : Heap) : Prop := ∀ a o, H a = some o → ObjOk P w H h a o
end

section
variable {P : Program} {w : World} {H H' : Hp} {h h' : Heap} {a : Addr} {o : HO}
theorem ObjOk.lt (x : ObjOk P w H h a o) : a < h.objs.size := by
  cases o with
  | lst xs => obtain ⟨_, _, _, _, e⟩ := x; exact Heap.lt_size e
  | tup xs => obtain ⟨_, _, _, p⟩ := x; exact p.lt
  | dK kvs => obtain ⟨_, _, _, _, o, _, _, e, _⟩ := x; exact Heap.lt_size e
  | dT kvs => obtain ⟨_, _, _, _, o, _, _, e, _⟩ := x; exact Heap.lt_size e
  | set S n => obtain ⟨o, _, _, _, e, _⟩ := x; exact Heap.lt_size e
  | ins C dx fs => obtain ⟨_, _, _, e, _⟩ := x; exact Heap.lt_size e
  | own y => obtain ⟨_, e⟩ := x; exact Heap.lt_size e
  | xd fs => obtain ⟨_, ⟨_, _, _, e, _⟩, _⟩ := x; exact Heap.lt_size e
  | rng lo hi => obtain ⟨_, _, _, e⟩ := x; exact Heap.lt_size e
  | frz ob u => obtain ⟨e, _⟩ := x; exact Heap.lt_size e
  | tbl ps => exact Heap.lt_size (show h.get? a = some _ from x)
  | met f y => exact Heap.lt_size (show h.get? a = some _ from x)
  | ext φ => obtain ⟨_, ⟨_, e⟩, _⟩ := x; exact Heap.lt_size e
theorem Paired.mapP {α β : Type} {F G : α → β → Prop} : ∀ {l₁ : List α} {l₂ : List β}, Paired F l₁ l₂ → (∀ a b, F a b → G a b) → Paired G l₁ l₂
  | _, _, .nil, _ => .nil
  | _, _, .cons r t, f => .cons (f _ _ r) (Paired.mapP t f)
theorem Paired.imp' {α β : Type} {F G : α → β → Prop} (f : ∀ a b, F a b → G a b) {l₁ : List α} {l₂ : List β} (r : Paired F l₁ l₂) : Paired G l₁ l₂ := Paired.mapP r f
/-- what an object's description leans on: its own object, its own dict, the tuples -/
theorem ObjOk.stay (x : ObjOk P w H h a o) (k : ∀ b u, (b = a ∨ H b = some (.own a)) → h.get? b = some u → h'.get? b = some u)
    (ho : ∀ b, H b = some (.own a) → H' b = some (.own a)) (ht : ∀ b xs, H b = some (.tup xs) → H' b = some (.tup xs)) : ObjOk P w H' h' a o := by
  induction o with
  | lst xs => obtain ⟨z, its, n, r, e⟩ := x; exact ⟨z, its, n, r, k _ _ (.inl rfl) e⟩
  | tup xs => obtain ⟨z, its, r, ob, e, c⟩ := x; exact ⟨z, its, r, ob, k _ _ (.inl rfl) e, c⟩
  | dK kvs => obtain ⟨z, y, vs, r, ob, es, ep, e, c⟩ := x; exact ⟨z, y, vs, r, ob, es, ep, k _ _ (.inl rfl) e, c⟩
  | dT kvs =>
    obtain ⟨z, y, xs, r, ob, es, ep, e, c⟩ := x
    exact ⟨z, y, xs, Paired.mapP r fun p q z => ⟨z.1, ht _ _ z.2.1, z.2.2⟩, ob, es, ep, k _ _ (.inl rfl) e, c⟩
  | set S n => obtain ⟨ob, es, ep, t, e, c⟩ := x; exact ⟨ob, es, ep, t, k _ _ (.inl rfl) e, c⟩
  | ins C dx fs =>
    obtain ⟨d, z, ne, e, mA, ⟨od, es, ep, e2, c⟩, r⟩ := x
    exact ⟨ho _ d, z, ne, k _ _ (.inl rfl) e, mA, ⟨od, es, ep, k _ _ (.inr d) e2, c⟩, r⟩
  | own y => obtain ⟨ob, e⟩ := x; exact ⟨ob, k _ _ (.inl rfl) e⟩
  | xd fs => obtain ⟨mA, ⟨od, es, ep, e, c⟩, r⟩ := x; exact ⟨mA, ⟨od, es, ep, k _ _ (.inl rfl) e, c⟩, r⟩
  | rng lo hi => obtain ⟨t, u, v, e⟩ := x; exact ⟨t, u, v, k _ _ (.inl rfl) e⟩
  | frz ob u ih => obtain ⟨e, q⟩ := x; exact ⟨k _ _ (.inl rfl) e, ih q⟩
  | tbl ps =>
    have e : h.get? a = some { cls := .none, data := .fields ps } := x
    show h'.get? a = some { cls := .none, data := .fields ps }
    exact k a _ (.inl rfl) e
  | met f y =>
    have e : h.get? a = some (PySem.W.methodObj (.ref f) (.ref y)) := x
    show h'.get? a = some (PySem.W.methodObj (.ref f) (.ref y))
    exact k a _ (.inl rfl) e
  | ext φ => obtain ⟨p, ⟨o, e⟩, st⟩ := x; exact ⟨st _ _ p fun o q => k _ _ (.inl rfl) q, ⟨o, k _ _ (.inl rfl) e⟩, st⟩
theorem HOk.lt (x : HOk P w H h) (e : H a = some o) : a < h.objs.size := (x a o e).lt
theorem HOk.fresh (x : HOk P w H h) (e : h.objs.size ≤ a) : H a = none := by
  cases q : H a with
  | none => rfl
  | some u => exact absurd (Nat.lt_of_lt_of_le (x.lt q) e) (Nat.lt_irrefl _)
/-- every object of the heap is kept -/
theorem HOk.kept (x : HOk P w H h) (k : ∀ b u, h.get? b = some u → h'.get? b = some u) : HOk P w H h' := fun a o e =>
  (x a o e).stay (fun b u _ q => k b u q) (fun _ q => q) fun _ _ q => q
/-- a new object is laid and tracked -/
theorem HOk.laid (x : HOk P w H h) (k : ∀ b u, h.get? b = some u → h'.get? b = some u) (hp : h.objs.size ≤ a) (new : ObjOk P w (upd H a o) h' a o) : HOk P w (upd H a o) h' := fun b u e => by
  have hn := x.fresh hp
  by_cases hb : b = a
  · subst hb; rw [upd_same] at e; cases e; exact new
  · rw [upd_ne hb] at e
    exact (x b u e).stay (fun c v _ q => k c v q) (fun c q => by rw [upd_ne (ne_of_none q hn)]; exact q) fun c xs q => by rw [upd_ne (ne_of_none q hn)]; exact q
end

/-- what may be read as u: it is u, or a known u -/
def Rd (H : Hp) (a : Addr) (u : HO) : Prop := H a = some u ∨ ∃ o, H a = some (.frz o u)
theorem Rd.of {H : Hp} {a : Addr} {u : HO} (h : H a = some u) : Rd H a u := .inl h
theorem Rd.ok {P : Program} {w : World} {H : Hp} {h : Heap} {a : Addr} {u : HO} (r : Rd H a u) (x : HOk P w H h) : ObjOk P w H h a u := by
  rcases r with r | ⟨o, r⟩
  · exact x a u r
  · obtain ⟨_, q⟩ := x a _ r
    exact q
/-- what may be written -/
def Mut : Option HO → Prop
  | some (.lst _) => True
  | some (.dK _) => True
  | some (.dT _) => True
  | some (.set _ _) => True
  | some (.ins _ _ _) => True
  | some (.ext _) => True
  | _ => False
section
variable {P : Program} {w : World} {H : Hp} {h h' : Heap} {x e : Addr} {o' : HO}
/-- the object at e is changed: x itself, or the dict of the instance x -/
theorem HOk.write (ok : HOk P w H h) (mu : Mut (H x)) (he : e = x ∨ H e = some (.own x)) (k : ∀ b u, b ≠ e → h.get? b = some u → h'.get? b = some u) (heo : ∃ u, h'.get? e = some u)
    (new : ObjOk P w (upd H x o') h' x o') : HOk P w (upd H x o') h' := fun b u q => by
  have nown : ∀ c y, H c = some (.own y) → c ≠ x := fun c y r z => by subst z; rw [r] at mu; exact mu
  have ntup : ∀ c xs, H c = some (.tup xs) → c ≠ x := fun c xs r z => by subst z; rw [r] at mu; exact mu
  by_cases hb : b = x
  · subst hb; rw [upd_same] at q; cases q; exact new
  · rw [upd_ne hb] at q
    by_cases hbe : b = e
    · have q' : H b = some (.own x) := by
        rcases he with z | z
        · exact absurd (hbe.trans z) hb
        · rw [hbe]; exact z
      rw [q] at q'; cases q'
      obtain ⟨v, hv⟩ := heo
      exact ⟨v, by rw [hbe]; exact hv⟩
    · refine (ok b u q).stay (fun c v hc r => k c v ?_ r) (fun c r => by rw [upd_ne (nown c b r)]; exact r) fun c xs r => by rw [upd_ne (ntup c xs r)]; exact r
      rcases hc with rfl | hc
      · exact hbe
      · rintro rfl
        rcases he with z | z
        · exact nown c b hc z
        · rw [hc] at z; cases z; exact hb rfl
end

/-! ### kept unless tracked; of the frames at fs (the callers') the slots may change (an exception that passes writes there); of the records at ex (iterators) nothing is said -/
structure Un (fs ex : List Addr) (H H' : Hp) (h h' : Heap) : Prop where
  keep : ∀ b o, h.get? b = some o → H b = none → b ∉ fs → b ∉ ex → h'.get? b = some o
  slot : ∀ b o, h.get? b = some o → H b = none → b ∈ fs → b ∉ ex → ∃ sl, h'.get? b = some { o with slots := sl }
  free : ∀ b o, h.get? b = some o → H b = none → b ∉ ex → H' b = none
  there : ∀ b o, h.get? b = some o → b ∉ ex → ∃ o', h'.get? b = some o'
  tups : ∀ b xs, H b = some (.tup xs) → H' b = some (.tup xs)
  frzs : ∀ b o u, H b = some (.frz o u) → H' b = some (.frz o u)
  tbls : ∀ b ps, H b = some (.tbl ps) → ∃ more, H' b = some (.tbl (ps ++ more))
section
variable {fs fs' ex ex' : List Addr} {H H1 H2 : Hp} {h h1 h2 h' : Heap} {a x e : Addr} {o : HO}
theorem Un.any (u : Un fs ex H H1 h h1) {b : Addr} {ob : Obj} (q : h.get? b = some ob) (n : H b = none) (hx : b ∉ ex) : ∃ sl, h1.get? b = some { ob with slots := sl } := by
  by_cases hb : b ∈ fs
  · exact u.slot b ob q n hb hx
  · exact ⟨ob.slots, u.keep b ob q n hb hx⟩
theorem Un.trans (a : Un fs ex H H1 h h1) (b : Un fs ex H1 H2 h1 h2) : Un fs ex H H2 h h2 where
  keep := fun c ob q n hc hx => b.keep c ob (a.keep c ob q n hc hx) (a.free c ob q n hx) hc hx
  slot := fun c ob q n hc hx => by
    obtain ⟨sl, e1⟩ := a.slot c ob q n hc hx
    obtain ⟨sl', e2⟩ := b.slot c _ e1 (a.free c ob q n hx) hc hx
    exact ⟨sl', e2⟩
  free := fun c ob q n hx => by
    obtain ⟨o', e1⟩ := a.there c ob q hx
    exact b.free c o' e1 (a.free c ob q n hx) hx
  there := fun c ob q hx => by
    obtain ⟨o', e1⟩ := a.there c ob q hx
    exact b.there c o' e1 hx
  tups := fun c xs q => b.tups c xs (a.tups c xs q)
  frzs := fun c ob xs q => b.frzs c ob xs (a.frzs c ob xs q)
  tbls := fun c ps q => by
    obtain ⟨m1, e1⟩ := a.tbls c ps q
    obtain ⟨m2, e2⟩ := b.tbls c _ e1
    exact ⟨m1 ++ m2, by rw [e2, Array.append_assoc]⟩
theorem Un.kept (k : ∀ b u, h.get? b = some u → h'.get? b = some u) : Un fs ex H H h h' :=
  ⟨fun b ob q _ _ _ => k b ob q, fun b ob q _ _ _ => ⟨ob.slots, k b ob q⟩, fun _ _ _ n _ => n, fun b ob q _ => ⟨ob, k b ob q⟩, fun _ _ q => q, fun _ _ _ q => q, fun _ ps q => ⟨#[], by rw [q]; simp⟩⟩
theorem Un.refl : Un fs ex H H h h := Un.kept fun _ _ q => q
theorem Un.laid (k : ∀ b u, h.get? b = some u → h'.get? b = some u) (hp : h.objs.size ≤ a) (hn : H a = none) : Un fs ex H (upd H a o) h h' where
  keep := fun b u q _ _ _ => k b u q
  slot := fun b u q _ _ _ => ⟨u.slots, k b u q⟩
  free := fun b u q n _ => by rw [upd_ne (Nat.ne_of_lt (Nat.lt_of_lt_of_le (Heap.lt_size q) hp))]; exact n
  there := fun b u q _ => ⟨u, k b u q⟩
  tups := fun b xs q => by rw [upd_ne (ne_of_none q hn)]; exact q
  frzs := fun b u xs q => by rw [upd_ne (ne_of_none q hn)]; exact q
  tbls := fun b ps q => ⟨#[], by rw [upd_ne (ne_of_none q hn), q]; simp⟩
theorem Un.write (mu : Mut (H x)) (he : e = x ∨ H e = some (.own x)) (k : ∀ b u, b ≠ e → h.get? b = some u → h'.get? b = some u) (heo : ∃ u, h'.get? e = some u) : Un fs ex H (upd H x o) h h' := by
  have hx : ∀ b, H b = none → b ≠ x := fun b n z => by subst z; rw [n] at mu; exact mu
  have hb : ∀ b, H b = none → b ≠ e := fun b n z => by
    subst z
    rcases he with r | r
    · exact hx b n r
    · rw [n] at r; cases r
  have hm : ∀ b u, H b = some u → ¬ Mut (some u) → b ≠ x := fun b u q nm z => by subst z; rw [q] at mu; exact nm mu
  refine ⟨fun b u q n _ _ => k b u (hb b n) q, fun b u q n _ _ => ⟨u.slots, k b u (hb b n) q⟩, fun b u q n _ => by rw [upd_ne (hx b n)]; exact n, fun b u q _ => ?_,
    fun b xs q => by rw [upd_ne (hm b _ q fun z => z)]; exact q, fun b u xs q => by rw [upd_ne (hm b _ q fun z => z)]; exact q, fun b ps q => ⟨#[], by rw [upd_ne (hm b _ q fun z => z), q]; simp⟩⟩
  by_cases hbe : b = e
  · subst hbe; exact heo
  · exact ⟨u, k b u hbe q⟩
theorem Un.mono (u : Un fs ex H H1 h h1) (hs : ∀ b ∈ fs, b ∈ fs') (hx : ∀ b ∈ ex, b ∈ ex') : Un fs' ex' H H1 h h1 :=
  ⟨fun b ob q n hb he => u.keep b ob q n (fun z => hb (hs b z)) fun z => he (hx b z), fun _ _ q n _ he => u.any q n fun z => he (hx _ z), fun b ob q n he => u.free b ob q n fun z => he (hx b z), fun b ob q he => u.there b ob q fun z => he (hx b z), u.tups, u.frzs, u.tbls⟩
end

/-! ### the heap without what is tracked -/
def trk (h : Heap) (H : Hp) : List Addr := (List.range h.objs.size).filter fun a => (H a).isSome
def hidT (h : Heap) (H : Hp) : Heap := PySem.W.hideAll h (trk h H)
theorem hidT_size (h : Heap) (H : Hp) : (hidT h H).objs.size = h.objs.size := PySem.W.hideAll_size _ _
theorem hidT_get {h : Heap} {H : Hp} {b : Addr} {o : Obj} (e : h.get? b = some o) (n : H b = none) : (hidT h H).get? b = some o :=
  PySem.W.hideAll_get _ e fun hm => by
    have q : (H b).isSome = true := (List.mem_filter.mp hm).2
    rw [n] at q; simp at q
theorem of_hidT {h : Heap} {H : Hp} {b : Addr} {o : Obj} (e : (hidT h H).get? b = some o) : h.get? b = some o ∧ H b = none := by
  have e' : h.get? b = some o := PySem.W.of_hideAll (trk h H) e
  refine ⟨e', ?_⟩
  cases q : H b with
  | none => rfl
  | some x =>
    have hm : b ∈ trk h H := List.mem_filter.mpr ⟨List.mem_range.mpr (Heap.lt_size e'), by simp [q]⟩
    have z : (hidT h H).get? b = none := PySem.W.hideAll_none (trk h H) hm
    rw [z] at e; cases e

/-! ### OpenK's ledger, filled with every new object but one -/
def allNews (g h : Heap) (L : Addr) : List (Addr × Obj) := (List.range h.objs.size).filterMap fun a => if a = L ∨ (g.get? a).isSome = true then none else (h.get? a).map fun o => (a, o)
theorem mem_allNews {g h : Heap} {L a : Addr} {o : Obj} (h1 : a ≠ L) (h2 : g.get? a = none) (h3 : h.get? a = some o) : (a, o) ∈ allNews g h L :=
  List.mem_filterMap.mpr ⟨a, List.mem_range.mpr (Heap.lt_size h3), by simp [h1, h2, h3]⟩
theorem of_mem_allNews {g h : Heap} {L : Addr} {p : Addr × Obj} (hp : p ∈ allNews g h L) : p.1 ≠ L ∧ g.get? p.1 = none ∧ h.get? p.1 = some p.2 := by
  obtain ⟨b, _, e⟩ := List.mem_filterMap.mp hp
  split at e
  · cases e
  · rename_i hn
    cases q : h.get? b with
    | none => rw [q] at e; simp at e
    | some u =>
      rw [q] at e
      simp only [Option.map_some, Option.some.injEq] at e
      subst e
      refine ⟨fun z => hn (.inl z), ?_, q⟩
      show g.get? b = none
      cases r : g.get? b with
      | none => rfl
      | some v => exact (hn (.inr (by simp [r]))).elim
def rest (g h : Heap) (L d : Addr) : List (Addr × Obj) := (allNews g h L).filter fun p => decide (p.1 ≠ d)
theorem rest_ne {g h : Heap} {L d : Addr} : ∀ p ∈ rest g h L d, p.1 ≠ d := fun p hp => of_decide_eq_true (List.mem_filter.mp hp).2
theorem mem_rest {g h : Heap} {L d a : Addr} {o : Obj} (h1 : a ≠ L) (h2 : g.get? a = none) (h3 : h.get? a = some o) (h4 : a ≠ d) : (a, o) ∈ rest g h L d :=
  List.mem_filter.mpr ⟨mem_allNews h1 h2 h3, decide_eq_true h4⟩
theorem news_all {g h : Heap} {L : Addr} : News g L h (allNews g h L) := fun p hp => let ⟨a, b, c⟩ := of_mem_allNews hp; ⟨c, a, b⟩
theorem news_at {g h : Heap} {L d : Addr} {o : Obj} (h1 : d ≠ L) (h2 : g.get? d = none) (h3 : h.get? d = some o) : News g L h ((d, o) :: rest g h L d) := fun p hp => by
  rcases List.mem_cons.mp hp with rfl | hp
  · exact ⟨h3, h1, h2⟩
  · exact news_all p (List.mem_filter.mp hp).1
/-- behind a rule that changed d alone: all else but the frame is kept -/
theorem kept_of_news {g h h' : Heap} {L d : Addr} {m : Str → Option Value} (k : ∀ b o, g.get? b = some o → h.get? b = some o) (F : Fr g L h' m) (N : News g L h' (rest g h L d)) :
    ∀ b o, b ≠ L → b ≠ d → h.get? b = some o → h'.get? b = some o := fun b o h1 h2 e => by
  cases q : g.get? b with
  | some u =>
    have := k b u q
    rw [e] at this; cases this
    exact F.keep b _ q
  | none => exact (N (b, o) (mem_rest h1 q e h2)).1
end L2

namespace L2
open PySem PySem.Spec PyProof.Rows

/-- the module's facts, over the base: the heap at the law's entry without what is tracked there -/
structure Mod (K : PySem.W.Frag) (mg : Str → Option Value) (base : Heap) : Prop where
  kin : K.In base
  glob : base.Ns mainGlobals mg
  blt : ∃ mb, base.Ns builtinsNs mb ∧ ∀ x : Str, x ≠ "__name__" → mb x = bootBuiltins x
  nolimit : base.NoLimit

/-- the context: a def's body (or a comprehension's block) running. base: fixed through the whole law; s₀, H₀: the entry; outer: the frames whose slots others may change (a def's callers); stack: all frames that run;
   ex: iterators that were made ahead of the entry and are walked here (a comprehension's); fn: the names whose cells were made at the entry (a def: all; a comprehension's block: its own); calm: not within an except suite; pn: pins that every state bears; xe: what is wanted of an exception that leaves the code -/
structure Cx where
  prog : Program
  w : World
  K : PySem.W.Frag
  mg : Str → Option Value
  base : Heap
  A : Around
  N : List Str
  s₀ : Shared
  H₀ : Hp
  env : Env
  outer : List Env
  stack : List Env
  ex : List Addr
  fn : Str → Bool
  calm : Bool
  pn : List (Addr × Obj)
  xe : Value → Shared → Prop
/-- the callers' frames -/
def frs (l : List Env) : List Addr := l.filterMap (·.frame)
abbrev Cx.fs (X : Cx) : List Addr := frs X.outer

def Vis (sc : Scope) (x : Str) : Prop := sc.names.lookup x = some .local ∨ sc.names.lookup x = some .cell ∨ sc.names.lookup x = some .free
def Loc (sc : Scope) (x : Str) : Prop := sc.names.lookup x = some .local ∨ sc.names.lookup x = some .cell
def Look (env : Env) (h : Heap) (m : Str → Option Value) (x : Str) (u : Value) : Prop :=
  (env.kindOf x = some .local ∧ m x = some u) ∨ ((env.kindOf x = some .cell ∨ env.kindOf x = some .free) ∧ ∃ c, env.cells.lookup x = some c ∧ h.IsCell c (some u))

structure Cx.Ok (X : Cx) : Prop where
  mod : Mod X.K X.mg X.base
  kind : X.env.scope.kind = .function
  glob : X.env.globals = mainGlobals
  blt : X.env.builtins = builtinsNs
  above : X.s₀.heap.objs.size ≤ X.env.locals
  inj : ∀ x y c, X.env.cells.lookup x = some c → X.env.cells.lookup y = some c → x = y
  has : ∀ x, (X.env.kindOf x = some .cell ∨ X.env.kindOf x = some .free) → ∃ c, X.env.cells.lookup x = some c
  cab : ∀ x c, X.fn x = true → X.env.cells.lookup x = some c → X.s₀.heap.objs.size ≤ c
  hd : X.calm = true → X.A.handled = none
  frames : X.A.frames = some X.stack
  stk : X.stack = X.outer ∨ (X.stack = X.env :: X.outer ∧ X.env.frame = some X.env.locals)
  exf : ∀ b ∈ X.ex, b ≠ X.env.locals ∧ ∀ x c, X.env.cells.lookup x = some c → c ≠ b
  bs : ∀ b o, X.base.get? b = some o → X.s₀.heap.get? b = some o ∧ X.H₀ b = none
  bsz : X.base.objs.size ≤ X.s₀.heap.objs.size
  noex : ∀ b o, X.base.get? b = some o → b ∉ X.ex
  exfs : ∀ b ∈ X.ex, b ∉ X.fs
  funs : X.s₀.heap.FunFrames X.base X.outer
  frf : ∀ b ∈ X.fs, X.H₀ b = none

structure Inv (X : Cx) (pins : List (Addr × Obj)) (σ : List (Option V)) (H : Hp) (s : Shared) : Prop where
  ok : X.Ok
  os : s.os = X.s₀.os
  bare : AllBare s.gens
  base : Un X.fs X.ex X.H₀ H X.s₀.heap s.heap
  loc : ∃ m, s.heap.Ns X.env.locals m ∧ ∀ (i : Nat) (x : Str) (v : V), X.N[i]? = some x → σ[i]? = some (some v) → Vis X.env.scope x → ∃ u, RelV v u ∧ Look X.env s.heap m x u
  cell : ∀ x c, X.env.cells.lookup x = some c → ∃ v, s.heap.IsCell c v
  free : H X.env.locals = none
  freeC : ∀ x c, X.env.cells.lookup x = some c → H c = none
  pin : ∀ p ∈ X.pn ++ pins, s.heap.get? p.1 = some p.2 ∧ H p.1 = none ∧ p.1 ≠ X.env.locals ∧ p.1 ∉ X.fs ∧ ∀ v, p.2.data ≠ .cell v
  hok : HOk X.prog X.w H s.heap
  len : σ.length = X.N.length

section
variable {X : Cx} {pins : List (Addr × Obj)} {σ : List (Option V)} {H H' : Hp} {s : Shared} {h' : Heap}

theorem Cx.Ok.nofr (ok : X.Ok) {b : Addr} {o : Obj} (e : X.base.get? b = some o) : b ∉ X.fs := fun hb => by
  have := (ok.funs.mem hb).1
  rw [e] at this; cases this
theorem Inv.bs (I : Inv X pins σ H s) : ∀ b o, X.base.get? b = some o → s.heap.get? b = some o ∧ H b = none := fun b o e =>
  ⟨I.base.keep b o (I.ok.bs b o e).1 (I.ok.bs b o e).2 (I.ok.nofr e) (I.ok.noex b o e), I.base.free b o (I.ok.bs b o e).1 (I.ok.bs b o e).2 (I.ok.noex b o e)⟩
theorem Inv.bk (I : Inv X pins σ H s) : ∀ b o, X.base.get? b = some o → s.heap.get? b = some o := fun b o e => (I.bs b o e).1
theorem Inv.mod (I : Inv X pins σ H s) : Mod X.K X.mg X.base := I.ok.mod
theorem Inv.kIn (I : Inv X pins σ H s) : X.K.In s.heap := I.ok.mod.kin.keeps I.bk
theorem Inv.nolimit (I : Inv X pins σ H s) : s.heap.NoLimit := I.ok.mod.nolimit.keeps I.bk
/-- the frame over the base: for OpenK's rules (K.In X.base is I.mod.kin) -/
theorem Inv.fr (I : Inv X pins σ H s) : ∃ m, Fr X.base X.env.locals s.heap m :=
  let ⟨m, hn, _⟩ := I.loc
  ⟨m, hn, I.bk, Nat.le_trans I.ok.bsz I.ok.above⟩
theorem Inv.lt (I : Inv X pins σ H s) : X.env.locals < s.heap.objs.size := let ⟨_, hn, _⟩ := I.loc; hn.lt
theorem Inv.sz (I : Inv X pins σ H s) : X.s₀.heap.objs.size ≤ s.heap.objs.size := Nat.le_trans I.ok.above (Nat.le_of_lt I.lt)
theorem Inv.nofs (I : Inv X pins σ H s) {a : Addr} (h : s.heap.objs.size ≤ a) : a ∉ X.fs := fun hb => by
  obtain ⟨_, o, ho, _⟩ := I.ok.funs.mem hb
  exact absurd (Nat.lt_of_lt_of_le (Heap.lt_size ho) (Nat.le_trans I.sz h)) (Nat.lt_irrefl _)
theorem Inv.cne (I : Inv X pins σ H s) : ∀ x c, X.env.cells.lookup x = some c → c ≠ X.env.locals := fun x c e z => by
  obtain ⟨v, o, ho, hd⟩ := I.cell x c e
  obtain ⟨m, ⟨o', es, ep, ho', hd', _⟩, _⟩ := I.loc
  rw [z, ho'] at ho; cases ho; rw [hd'] at hd; cases hd
theorem Inv.funs (I : Inv X pins σ H s) : s.heap.FunFrames X.base X.outer := by
  have all : ∀ (l : List Env), (∀ b ∈ frs l, b ∈ X.fs) → X.s₀.heap.FunFrames X.base l → s.heap.FunFrames X.base l := by
    intro l
    induction l with
    | nil => intro _ _; trivial
    | cons env r ih =>
      intro hs hl
      obtain ⟨hk, ⟨L, o, hf, hn, ho, hd⟩, hr⟩ := hl
      have hL : L ∈ X.fs := hs L (by unfold frs; rw [List.filterMap_cons, hf]; exact List.mem_cons_self)
      obtain ⟨sl, e⟩ := I.base.slot L o ho (I.ok.frf L hL) hL fun z => I.ok.exfs L z hL
      exact ⟨hk, ⟨L, _, hf, hn, e, hd⟩, ih (fun b hb => hs b (by unfold frs; rw [List.filterMap_cons, hf]; exact List.mem_cons_of_mem _ hb)) hr⟩
  exact all X.outer (fun _ hb => hb) I.ok.funs

/-- the frames that run, for a call -/
theorem Inv.stack (I : Inv X pins σ H s) : s.heap.FunFrames X.base X.stack := by
  rcases I.ok.stk with e | ⟨e, hf⟩
  · rw [e]; exact I.funs
  · rw [e]
    obtain ⟨m, hn, _⟩ := I.loc
    refine .cons (by rw [I.ok.kind]; decide) hf hn ?_ I.funs
    exact Heap.get?_none_of_le (Nat.le_trans I.ok.bsz I.ok.above)
theorem Inv.stkSub (I : Inv X pins σ H s) : ∀ b ∈ frs X.stack, b ∈ X.env.locals :: X.fs := fun b hb => by
  rcases I.ok.stk with e | ⟨e, hf⟩
  · rw [e] at hb; exact List.mem_cons_of_mem _ hb
  · rw [e] at hb
    unfold frs at hb
    rw [List.filterMap_cons, hf] at hb
    exact hb
theorem Inv.stkFree (I : Inv X pins σ H s) : ∀ b ∈ frs X.stack, H b = none := fun b hb => by
  rcases List.mem_cons.mp (I.stkSub b hb) with e | hb
  · rw [e]; exact I.free
  · obtain ⟨_, o, ho, _⟩ := I.ok.funs.mem hb
    exact I.base.free b o ho (I.ok.frf b hb) fun z => I.ok.exfs b z hb

/-- THE STEP: the untracked objects but the frame and the records at ch are kept (the callers' frames up to slots), the frame's map is kept, the new abstract heap is held -/
theorem Inv.step {g' : Array GenState} {t' : Nat} {d' : Drawn} {ch : List Addr} (I : Inv X pins σ H s)
    (hch : ∀ b ∈ ch, (b ∈ X.ex ∨ X.s₀.heap.objs.size ≤ b) ∧ b ≠ X.env.locals ∧ (∀ x c, X.env.cells.lookup x = some c → c ≠ b) ∧ ∀ p ∈ X.pn ++ pins, p.1 ≠ b)
    (keep : ∀ b o, b ≠ X.env.locals → b ∉ X.fs → b ∉ ch → s.heap.get? b = some o → H b = none → h'.get? b = some o)
    (slot : ∀ b o, b ≠ X.env.locals → b ∈ X.fs → b ∉ ch → s.heap.get? b = some o → H b = none → ∃ sl, h'.get? b = some { o with slots := sl }) (free : ∀ b o, b ∉ ch → s.heap.get? b = some o → H b = none → H' b = none)
    (there : ∀ b o, b ∉ ch → s.heap.get? b = some o → ∃ o', h'.get? b = some o')
    (tups : ∀ b xs, H b = some (.tup xs) → H' b = some (.tup xs)) (frzs : ∀ b o u, H b = some (.frz o u) → H' b = some (.frz o u)) (tbls : ∀ b ps, H b = some (.tbl ps) → ∃ more, H' b = some (.tbl (ps ++ more)))
    (ns : ∀ m, s.heap.Ns X.env.locals m → h'.Ns X.env.locals m) (hok : HOk X.prog X.w H' h') (hg : AllBare g') :
    Inv X pins σ H' { s with heap := h', gens := g', drawn := d', toks := t' } := by
  have neL : ∀ b o, X.s₀.heap.get? b = some o → b ≠ X.env.locals := fun b o e => Nat.ne_of_lt (Nat.lt_of_lt_of_le (Heap.lt_size e) I.ok.above)
  have neC : ∀ b o, X.s₀.heap.get? b = some o → b ∉ X.ex → b ∉ ch := fun b o e hx hb => by
    rcases (hch b hb).1 with z | z
    · exact hx z
    · exact absurd (Nat.lt_of_lt_of_le (Heap.lt_size e) z) (Nat.lt_irrefl _)
  have cellK : ∀ x c, X.env.cells.lookup x = some c → ∀ v, s.heap.IsCell c v → h'.IsCell c v := fun x c e v ⟨o, ho, hd⟩ => by
    have nch : c ∉ ch := fun z => (hch c z).2.2.1 x c e rfl
    by_cases hc : c ∈ X.fs
    · obtain ⟨sl, q⟩ := slot c o (I.cne x c e) hc nch ho (I.freeC x c e)
      exact ⟨_, q, hd⟩
    · exact ⟨o, keep c o (I.cne x c e) hc nch ho (I.freeC x c e), hd⟩
  refine ⟨I.ok, I.os, hg, ⟨fun b o e n hb hx => ?_, fun b o e n hb hx => ?_, fun b o e n hx => ?_, fun b o e hx => ?_, fun b xs e => tups b xs (I.base.tups b xs e), fun b o xs e => frzs b o xs (I.base.frzs b o xs e), fun b ps e => ?_⟩, ?_, fun x c e => ?_, ?_, fun x c e => ?_, fun p hp => ?_, hok, I.len⟩
  · exact keep b o (neL b o e) hb (neC b o e hx) (I.base.keep b o e n hb hx) (I.base.free b o e n hx)
  · obtain ⟨sl, e1⟩ := I.base.slot b o e n hb hx
    obtain ⟨sl', e2⟩ := slot b _ (neL b o e) hb (neC b o e hx) e1 (I.base.free b o e n hx)
    exact ⟨sl', e2⟩
  · obtain ⟨o', e1⟩ := I.base.there b o e hx
    exact free b o' (neC b o e hx) e1 (I.base.free b o e n hx)
  · obtain ⟨o', e1⟩ := I.base.there b o e hx
    exact there b o' (neC b o e hx) e1
  · obtain ⟨m1, e1⟩ := I.base.tbls b ps e
    obtain ⟨m2, e2⟩ := tbls b _ e1
    exact ⟨m1 ++ m2, by rw [e2, Array.append_assoc]⟩
  · obtain ⟨m, hn, hl⟩ := I.loc
    refine ⟨m, ns m hn, fun i x v e1 e2 e3 => ?_⟩
    obtain ⟨u, r, l⟩ := hl i x v e1 e2 e3
    refine ⟨u, r, ?_⟩
    rcases l with l | ⟨k, c, e, z⟩
    · exact .inl l
    · exact .inr ⟨k, c, e, cellK x c e _ z⟩
  · obtain ⟨v, z⟩ := I.cell x c e
    exact ⟨v, cellK x c e v z⟩
  · obtain ⟨m, ⟨o, _, _, ho, _⟩, _⟩ := I.loc
    exact free _ o (fun z => (hch _ z).2.1 rfl) ho I.free
  · obtain ⟨v, o, ho, hd⟩ := I.cell x c e
    exact free c o (fun z => (hch c z).2.2.1 x c e rfl) ho (I.freeC x c e)
  · obtain ⟨e, n, ne, nf, d⟩ := I.pin p hp
    have nch : p.1 ∉ ch := fun z => (hch p.1 z).2.2.2 p hp rfl
    exact ⟨keep p.1 p.2 ne nf nch e n, free p.1 p.2 nch e n, ne, nf, d⟩
/-- .. where the frame's own object is kept too -/
theorem Inv.un {t' : Nat} (I : Inv X pins σ H s) (u : Un X.fs [] H H' s.heap h') (hok : HOk X.prog X.w H' h') : Inv X pins σ H' { s with heap := h', toks := t' } := by
  obtain ⟨m, ⟨o, es, ep, ho, r⟩, _⟩ := id I.loc
  obtain ⟨sl, hL⟩ := u.any ho I.free (by simp)
  exact I.step (g' := s.gens) (d' := s.drawn) (ch := []) (fun _ z => nomatch z) (fun b o _ hb _ e n => u.keep b o e n hb (by simp)) (fun b o _ hb _ e n => u.slot b o e n hb (by simp)) (fun b o _ e n => u.free b o e n (by simp)) (fun b o _ e => u.there b o e (by simp)) u.tups u.frzs u.tbls (fun m' hm => by
    obtain ⟨o', es', ep', ho', r'⟩ := hm
    rw [ho] at ho'; cases ho'
    exact ⟨_, es', ep', hL, r'⟩) hok I.bare
/-- behind a call (or a comprehension's block): the slots of this frame may have changed too, the records at ch may have turned -/
theorem Inv.call {g' : Array GenState} {t' : Nat} {d' : Drawn} {ch : List Addr} (I : Inv X pins σ H s) (u : Un (frs X.stack) ch H H' s.heap h') (hok : HOk X.prog X.w H' h') (hg : AllBare g')
    (hch : ∀ b ∈ ch, (b ∈ X.ex ∨ X.s₀.heap.objs.size ≤ b) ∧ b ≠ X.env.locals ∧ (∀ x c, X.env.cells.lookup x = some c → c ≠ b) ∧ ∀ p ∈ X.pn ++ pins, p.1 ≠ b) :
    Inv X pins σ H' { s with heap := h', gens := g', drawn := d', toks := t' } := by
  obtain ⟨m, ⟨o, es, ep, ho, r⟩, _⟩ := id I.loc
  obtain ⟨sl, hL⟩ := u.any ho I.free fun z => (hch _ z).2.1 rfl
  exact I.step (ch := ch) hch (fun b o hL hb hc e n => u.keep b o e n (fun z => (List.mem_cons.mp (I.stkSub b z)).elim hL hb) hc) (fun b o _ _ hc e n => u.any e n hc) (fun b o hc e n => u.free b o e n hc) (fun b o hc e => u.there b o e hc) u.tups u.frzs u.tbls (fun m' hm => by
    obtain ⟨o', es', ep', ho', r'⟩ := hm
    rw [ho] at ho'; cases ho'
    exact ⟨_, es', ep', hL, r'⟩) hok hg
/-- an untracked record of ours (an iterator) has turned -/
theorem Inv.turned {t' : Nat} {it : Addr} (I : Inv X pins σ H s) (k : ∀ b o, b ≠ it → s.heap.get? b = some o → h'.get? b = some o) (hn : H it = none) (hL : it ≠ X.env.locals)
    (h1 : it ∈ X.ex ∨ X.s₀.heap.objs.size ≤ it) (h2 : ∀ x c, X.env.cells.lookup x = some c → c ≠ it) (h3 : ∀ p ∈ X.pn ++ pins, p.1 ≠ it) : Inv X pins σ H { s with heap := h', toks := t' } := by
  have nit : ∀ b u, H b = some u → b ≠ it := fun b u e z => by rw [z, hn] at e; cases e
  refine I.step (g' := s.gens) (d' := s.drawn) (ch := [it]) (fun b hb => ?_) (fun b o _ _ hc e _ => k b o (fun z => hc (by simp [z])) e) (fun b o _ _ hc e _ => ⟨o.slots, k b o (fun z => hc (by simp [z])) e⟩) (fun _ _ _ _ n => n)
    (fun b o hc e => ⟨o, k b o (fun z => hc (by simp [z])) e⟩) (fun _ _ e => e) (fun _ _ _ e => e) (fun b ps e => ⟨#[], by rw [e]; simp⟩) (fun m hm => ?_) (fun b u e => ?_) I.bare
  · have e : b = it := by simpa using hb
    subst e
    exact ⟨h1, hL, h2, h3⟩
  · obtain ⟨o, es, ep, ho, r⟩ := hm
    exact ⟨o, es, ep, k _ o (Ne.symm hL) ho, r⟩
  · refine (I.hok b u e).stay (fun c v hc q => k c v ?_ q) (fun _ q => q) fun _ _ q => q
    rcases hc with z | z
    · rw [z]; exact nit b u e
    · exact nit c _ z
theorem Inv.tok (I : Inv X pins σ H s) (t : Nat) : Inv X pins σ H { s with toks := t } := I.un (h' := s.heap) (t' := t) Un.refl I.hok
/-- all objects kept -/
theorem Inv.kept {t' : Nat} (I : Inv X pins σ H s) (k : ∀ b u, s.heap.get? b = some u → h'.get? b = some u) : Inv X pins σ H { s with heap := h', toks := t' } := I.un (Un.kept k) (I.hok.kept k)
/-- a new object laid and tracked -/
theorem Inv.laid {a : Addr} {o : HO} {t' : Nat} (I : Inv X pins σ H s) (k : ∀ b u, s.heap.get? b = some u → h'.get? b = some u) (hp : s.heap.objs.size ≤ a) (new : ObjOk X.prog X.w (upd H a o) h' a o) :
    Inv X pins σ (upd H a o) { s with heap := h', toks := t' } := I.un (Un.laid k hp (I.hok.fresh hp)) (I.hok.laid k hp new)
/-- an object written -/
theorem Inv.write {x e : Addr} {o : HO} {t' : Nat} (I : Inv X pins σ H s) (mu : Mut (H x)) (he : e = x ∨ H e = some (.own x)) (k : ∀ b u, b ≠ e → s.heap.get? b = some u → h'.get? b = some u) (heo : ∃ u, h'.get? e = some u)
    (new : ObjOk X.prog X.w (upd H x o) h' x o) : Inv X pins σ (upd H x o) { s with heap := h', toks := t' } := I.un (Un.write mu he k heo) (I.hok.write mu he k heo new)
/-- forgetting slots, pins -/
theorem Inv.weak {σ' : List (Option V)} (I : Inv X pins σ H s) (hl : σ'.length = σ.length) (w : ∀ (i : Nat) v, σ'[i]? = some (some v) → σ[i]? = some (some v)) : Inv X pins σ' H s :=
  ⟨I.ok, I.os, I.bare, I.base, let ⟨m, hn, hl'⟩ := I.loc; ⟨m, hn, fun i x v e1 e2 e3 => hl' i x v e1 (w i v e2) e3⟩, I.cell, I.free, I.freeC, I.pin, I.hok, hl.trans I.len⟩
theorem Inv.pins_of {pins' : List (Addr × Obj)} (I : Inv X pins σ H s) (h : ∀ p ∈ pins', s.heap.get? p.1 = some p.2 ∧ H p.1 = none ∧ p.1 ≠ X.env.locals ∧ p.1 ∉ X.fs ∧ ∀ v, p.2.data ≠ .cell v) : Inv X pins' σ H s :=
  ⟨I.ok, I.os, I.bare, I.base, I.loc, I.cell, I.free, I.freeC, fun p hp => (List.mem_append.mp hp).elim (fun z => I.pin p (List.mem_append_left _ z)) (h p), I.hok, I.len⟩

theorem nodup_ix {N : List Str} (hN : N.Nodup) {i j : Nat} {x : Str} (a : N[i]? = some x) (b : N[j]? = some x) : i = j := by
  obtain ⟨h1, e1⟩ := List.getElem?_eq_some_iff.mp a
  obtain ⟨h2, e2⟩ := List.getElem?_eq_some_iff.mp b
  exact (List.getElem_inj hN).mp (e1.trans e2.symm)

/-- a name is stored; what changed -/
theorem store_ok2 {M : Model} {A : Around} {E : Value → Shared → Prop} {i : Nat} {x : Str} {v : V} {u : Value} {Q : Unit → Shared → Prop} (I : Inv X pins σ H s) (hN : X.N.Nodup) (hi : X.N[i]? = some x) (hx : Loc X.env.scope x) (r : RelV v u)
    (h : ∀ s', Inv X pins (σ.set i (some v)) H s' → (∃ a, Heap.SameBut a s.heap s'.heap ∧ (a = X.env.locals ∨ X.env.cells.lookup x = some a)) → Q () s') (hf : X.fn x = true ∨ X.env.scope.names.lookup x = some .local := by first | exact .inl rfl | exact .inr rfl | assumption) : wpAny M A (storeName X.env x u) Q E s := by
  obtain ⟨m, hn, hl⟩ := id I.loc
  have hcls : (X.env.scope.kind == .class || (X.env.scope.kind == .module && X.env.locals != X.env.globals)) = false := by rw [I.ok.kind]; rfl
  have hiσ : i < σ.length := by rw [I.len]; exact (List.getElem?_eq_some_iff.mp hi).1
  have cne := I.cne
  have tracked : ∀ {a : Addr} {h' : Heap}, (∃ o, s.heap.get? a = some o ∧ H a = none) → Heap.SameBut a s.heap h' → HOk X.prog X.w H h' := fun {a h'} ha hs b ob e => by
    obtain ⟨_, _, hfree⟩ := ha
    refine (I.hok b ob e).stay (fun c w' hc q => (hs.2 c ?_).trans q) (fun _ q => q) fun _ _ q => q
    rintro rfl
    rcases hc with rfl | hc
    · rw [hfree] at e; cases e
    · rw [hfree] at hc; cases hc
  rcases hx with hk | hk
  · refine wpAny_storeName_local hk hn (fun h' hn' hs => ?_) hcls
    obtain ⟨oL, _, _, hoL, _⟩ := id hn
    refine h _ ⟨I.ok, I.os, I.bare, ⟨fun b o e n hb hx => ?_, fun b o e n hb hx => ?_, I.base.free, fun b o e hx => ?_, I.base.tups, I.base.frzs, I.base.tbls⟩, ⟨_, hn', fun j y v' e1 e2 e3 => ?_⟩, fun y c e => ?_, I.free, I.freeC, fun p hp => ?_, tracked ⟨oL, hoL, I.free⟩ hs, by simpa using I.len⟩ ⟨_, hs, .inl rfl⟩
    · exact (hs.2 b (Nat.ne_of_lt (Nat.lt_of_lt_of_le (Heap.lt_size e) I.ok.above))).trans (I.base.keep b o e n hb hx)
    · obtain ⟨sl, e1⟩ := I.base.slot b o e n hb hx
      exact ⟨sl, (hs.2 b (Nat.ne_of_lt (Nat.lt_of_lt_of_le (Heap.lt_size e) I.ok.above))).trans e1⟩
    · obtain ⟨o', e1⟩ := I.base.there b o e hx
      exact ⟨o', (hs.2 b (Nat.ne_of_lt (Nat.lt_of_lt_of_le (Heap.lt_size e) I.ok.above))).trans e1⟩
    · by_cases hj : j = i
      · subst hj
        rw [hi] at e1; cases e1
        rw [List.getElem?_set_self hiσ] at e2
        cases e2
        exact ⟨u, r, .inl ⟨hk, by simp⟩⟩
      · rw [List.getElem?_set_ne (Ne.symm hj)] at e2
        obtain ⟨u', r', q⟩ := hl j y v' e1 e2 e3
        refine ⟨u', r', ?_⟩
        rcases q with ⟨k, e⟩ | ⟨k, c, e, z⟩
        · refine .inl ⟨k, ?_⟩
          have : y ≠ x := fun e => hj (nodup_ix hN e1 (e ▸ hi))
          simp [this, e]
        · exact .inr ⟨k, c, e, z.sameBut hs (cne y c e)⟩
    · obtain ⟨w', z⟩ := I.cell y c e
      exact ⟨w', z.sameBut hs (cne y c e)⟩
    · obtain ⟨e, n, ne, nf, d⟩ := I.pin p hp
      exact ⟨(hs.2 p.1 ne).trans e, n, ne, nf, d⟩
  · have hfn : X.fn x = true := by
      rcases hf with z | z
      · exact z
      · rw [z] at hk; cases hk
    obtain ⟨c, hc⟩ := I.ok.has x (.inl hk)
    obtain ⟨w', z⟩ := I.cell x c hc
    refine wpAny_storeName_cell I.ok.kind hk hc z (fun h' hc' hs => ?_)
    obtain ⟨oc, hoc, hocd⟩ := id z
    refine h { s with heap := h' } ⟨I.ok, I.os, I.bare, ⟨fun b o e n hb hx => ?_, fun b o e n hb hx => ?_, I.base.free, fun b o e hx => ?_, I.base.tups, I.base.frzs, I.base.tbls⟩, ⟨m, hn.sameBut hs (Ne.symm (cne x c hc)), fun j y v' e1 e2 e3 => ?_⟩, fun y c' e => ?_, I.free, I.freeC, fun p hp => ?_, tracked ⟨oc, hoc, I.freeC x c hc⟩ hs, by simpa using I.len⟩ ⟨c, hs, .inr hc⟩
    · exact (hs.2 b (Nat.ne_of_lt (Nat.lt_of_lt_of_le (Heap.lt_size e) (I.ok.cab x c hfn hc)))).trans (I.base.keep b o e n hb hx)
    · obtain ⟨sl, e1⟩ := I.base.slot b o e n hb hx
      exact ⟨sl, (hs.2 b (Nat.ne_of_lt (Nat.lt_of_lt_of_le (Heap.lt_size e) (I.ok.cab x c hfn hc)))).trans e1⟩
    · obtain ⟨o', e1⟩ := I.base.there b o e hx
      exact ⟨o', (hs.2 b (Nat.ne_of_lt (Nat.lt_of_lt_of_le (Heap.lt_size e) (I.ok.cab x c hfn hc)))).trans e1⟩
    · by_cases hj : j = i
      · subst hj
        rw [hi] at e1; cases e1
        rw [List.getElem?_set_self hiσ] at e2
        cases e2
        exact ⟨u, r, .inr ⟨.inl hk, c, hc, hc'⟩⟩
      · rw [List.getElem?_set_ne (Ne.symm hj)] at e2
        obtain ⟨u', r', q⟩ := hl j y v' e1 e2 e3
        refine ⟨u', r', ?_⟩
        rcases q with q | ⟨k, c', e, z'⟩
        · exact .inl q
        · refine .inr ⟨k, c', e, z'.sameBut hs ?_⟩
          rintro rfl
          exact hj (nodup_ix hN e1 (I.ok.inj _ _ _ e hc ▸ hi))
    · by_cases hcc : c' = c
      · subst hcc; exact ⟨_, hc'⟩
      · obtain ⟨w2, z2⟩ := I.cell y c' e
        exact ⟨w2, z2.sameBut hs hcc⟩
    · obtain ⟨e, n, ne, nf, d⟩ := I.pin p hp
      refine ⟨(hs.2 p.1 ?_).trans e, n, ne, nf, d⟩
      intro q
      rw [q, hoc] at e
      have q' : oc = p.2 := Option.some.inj e
      exact d w' (by rw [← q']; exact hocd)
theorem store_ok {M : Model} {A : Around} {E : Value → Shared → Prop} {i : Nat} {x : Str} {v : V} {u : Value} {Q : Unit → Shared → Prop} (I : Inv X pins σ H s) (hN : X.N.Nodup) (hi : X.N[i]? = some x) (hx : Loc X.env.scope x) (r : RelV v u)
    (h : ∀ s', Inv X pins (σ.set i (some v)) H s' → Q () s') (hf : X.fn x = true ∨ X.env.scope.names.lookup x = some .local := by first | exact .inl rfl | exact .inr rfl | assumption) : wpAny M A (storeName X.env x u) Q E s :=
  store_ok2 I hN hi hx r (fun s' I' _ => h s' I') hf
/-- behind a call or a block, the state as it is -/
theorem Inv.call' {s' : Shared} {ch : List Addr} (I : Inv X pins σ H s) (ho : s'.os = s.os) (u : Un (frs X.stack) ch H H' s.heap s'.heap) (hok : HOk X.prog X.w H' s'.heap) (hg : AllBare s'.gens)
    (hch : ∀ b ∈ ch, (b ∈ X.ex ∨ X.s₀.heap.objs.size ≤ b) ∧ b ≠ X.env.locals ∧ (∀ x c, X.env.cells.lookup x = some c → c ≠ b) ∧ ∀ p ∈ X.pn ++ pins, p.1 ≠ b) : Inv X pins σ H' s' := by
  obtain ⟨h', g', d', t', o'⟩ := s'
  have e : o' = s.os := ho
  subst e
  exact I.call (g' := g') (t' := t') (d' := d') u hok hg hch
end

/-! ### the judgements -/
/-- an exception: its class, its own dict's address (where it has one), the abstract heap behind it -/
abbrev XK := Value → Option Addr → Hp → Prop
abbrev St := List (Option V)
abbrev VK := V → Hp → Prop
/-- an expression's reading; a test's; an argument list's -/
abbrev TE := St → Hp → VK → Prop
abbrev TT := St → Hp → (Bool → Hp → Prop) → Prop
abbrev TA := St → Hp → (List V → Hp → Prop) → Prop
/-- what is wanted behind a statement -/
structure Ends where
  nx : St → Hp → Prop
  rt : VK
  bk : St → Hp → Prop := fun _ _ => False
  ct : St → Hp → Prop := fun _ _ => False
abbrev TS := Ends → St → Hp → Prop

def EP (X : Cx) (pins : List (Addr × Obj)) (σ : St) (Q : VK) (u : Value) (s' : Shared) : Prop := ∃ v H', Inv X pins σ H' s' ∧ RelV v u ∧ Q v H'
def TP (X : Cx) (pins : List (Addr × Obj)) (σ : St) (Q : Bool → Hp → Prop) (b : Bool) (s' : Shared) : Prop := ∃ H', Inv X pins σ H' s' ∧ Q b H'
def AP (X : Cx) (pins : List (Addr × Obj)) (σ : St) (Q : List V → Hp → Prop) (us : List Value) (s' : Shared) : Prop := ∃ vs H', Inv X pins σ H' s' ∧ Vals vs us ∧ Q vs H'
def SP (X : Cx) (pins : List (Addr × Obj)) (D : Ends) (f : Flow) (s' : Shared) : Prop :=
  match f with
  | .next => ∃ σ' H', Inv X pins σ' H' s' ∧ D.nx σ' H'
  | .brk => ∃ σ' H', Inv X pins σ' H' s' ∧ D.bk σ' H'
  | .cont => ∃ σ' H', Inv X pins σ' H' s' ∧ D.ct σ' H'
  | .ret u => ∃ v σ' H', Inv X pins σ' H' s' ∧ RelV v u ∧ D.rt v H'

def PE (X : Cx) (e : Expr) (t : TE) : Prop :=
  ∀ (pins : List (Addr × Obj)) (s : Shared) (σ : St) (H : Hp) (Q : VK), Inv X pins σ H s → t σ H Q → wpAny (model X.prog X.w) X.A (eval e X.env) (EP X pins σ Q) X.xe s
def PT (X : Cx) (e : Expr) (t : TT) : Prop :=
  ∀ (pins : List (Addr × Obj)) (s : Shared) (σ : St) (H : Hp) (Q : Bool → Hp → Prop), Inv X pins σ H s → t σ H Q → wpAny (model X.prog X.w) X.A (isTrue e X.env (eval e X.env)) (TP X pins σ Q) X.xe s
/-- a test whatever its 'whole' is (and, or) -/
def PW (X : Cx) (e : Expr) (t : TT) : Prop :=
  ∀ (whole : Sem Value) (pins : List (Addr × Obj)) (s : Shared) (σ : St) (H : Hp) (Q : Bool → Hp → Prop), Inv X pins σ H s → t σ H Q → wpAny (model X.prog X.w) X.A (isTrue e X.env whole) (TP X pins σ Q) X.xe s
theorem PW.pt {X : Cx} {e : Expr} {t : TT} (h : PW X e t) : PT X e t := h _
/-- an argument list (no star), from the left -/
def PA (X : Cx) (es : List Expr) (t : TA) : Prop :=
  ∀ (pos : Pos) (pins : List (Addr × Obj)) (s : Shared) (σ : St) (H : Hp) (Q : List V → Hp → Prop), Inv X pins σ H s → t σ H Q → wpAny (model X.prog X.w) X.A (spliced (backTo pos (starEach es X.env))) (AP X pins σ Q) X.xe s
def PS (X : Cx) (st : Stmt) (t : TS) : Prop :=
  ∀ (pins : List (Addr × Obj)) (s : Shared) (σ : St) (H : Hp) (D : Ends), Inv X pins σ H s → t D σ H → wpAny (model X.prog X.w) X.A (exec st X.env) (SP X pins D) X.xe s
def PSs (X : Cx) (st : List Stmt) (t : TS) : Prop :=
  ∀ (pins : List (Addr × Obj)) (s : Shared) (σ : St) (H : Hp) (D : Ends), Inv X pins σ H s → t D σ H → wpAny (model X.prog X.w) X.A (execs st X.env) (SP X pins D) X.xe s
/-- weaken the end -/
theorem thn {α : Type} {t : Sem α} {Q Q' : α → Shared → Prop} {M : Model} {A : Around} {E : Value → Shared → Prop} {s : Shared} (h : wpAny M A t Q E s) (hQ : ∀ a s, Q a s → Q' a s) : wpAny M A t Q' E s := wpAny_mono h hQ fun _ _ x => x
end L2

namespace L2
open PySem PySem.Spec PyProof.Rows
section
variable {X : Cx}

/-- two expressions in a row -/
theorem bin {a b : Expr} {ta tb : TE} (ha : PE X a ta) (hb : PE X b tb) {pins : List (Addr × Obj)} {s : Shared} {σ : St} {H : Hp} {R : V → V → Hp → Prop} (I : Inv X pins σ H s) (h : ta σ H fun x H1 => tb σ H1 fun y H2 => R x y H2)
    {α : Type} {Q : α → Shared → Prop} {f : Value → Value → Sem α}
    (hf : ∀ v u s2 x y H2, Inv X pins σ H2 s2 → RelV x v → RelV y u → R x y H2 → wpAny (model X.prog X.w) X.A (f v u) Q X.xe s2) :
    wpAny (model X.prog X.w) X.A (eval a X.env) (fun v s₁ => wpAny (model X.prog X.w) X.A (eval b X.env) (fun u s₂ => wpAny (model X.prog X.w) X.A (f v u) Q X.xe s₂) X.xe s₁) X.xe s := by
  refine thn (ha pins s σ H _ I h) fun v s1 ⟨x, H1, I1, r1, q1⟩ => ?_
  refine thn (hb pins s1 σ H1 _ I1 q1) fun u s2 ⟨y, H2, I2, r2, q2⟩ => ?_
  exact hf v u s2 x y H2 I2 r1 r2 q2

/-! ### names and constants -/
def tVar (i : Nat) : TE := fun σ H Q => ∃ v, σ[i]? = some (some v) ∧ Q v H
def tC (v : V) : TE := fun _ H Q => Q v H
theorem pe_var {i : Nat} {x : Str} {pos : Pos} (hN : X.N[i]? = some x) (hv : Vis X.env.scope x) (hd : (x == ("__debug__" : Str)) = false := by decide) (hcd : (x == ("__classdict__" : Str)) = false := by decide) : PE X (.Name x pos) (tVar i) := by
  intro pins s σ H Q I h
  obtain ⟨v, e, h⟩ := h
  obtain ⟨m, hn, hl⟩ := I.loc
  obtain ⟨u, r, l⟩ := hl i x v hN e hv
  have fin : EP X pins σ Q u s := ⟨v, H, I, r, h⟩
  rcases l with ⟨hk, hm⟩ | ⟨hk, c, hc, hcell⟩
  · exact wpAny_Name (wpAny_loadName_local I.ok.kind hk hn hm fin) hd
  · rcases hk with hk | hk
    · exact wpAny_Name (wpAny_loadName_cell I.ok.kind hk hc hcell fin) hd
    · exact wpAny_Name (wpAny_loadName_free I.ok.kind hk hc hcell fin hcd) hd
theorem pe_int {i j pos} : PE X (.Constant (.int i) j pos) (tC (.int i)) := fun _ _ _ H _ I h => wpAny_Constant_int ⟨.int i, H, I.tok _, ⟨_, rfl⟩, h⟩
theorem pe_bl {b j pos} : PE X (.Constant (.bool b) j pos) (tC (.bl b)) := fun _ _ _ H _ I h => Constant_bool ⟨.bl b, H, I, rfl, h⟩
theorem pe_non {j pos} : PE X (.Constant .none j pos) (tC .non) := fun _ _ _ H _ I h => Constant_none ⟨.non, H, I, rfl, h⟩
theorem pe_str {x j pos} : PE X (.Constant (.str x) j pos) (tC (.str x)) := fun _ _ _ H _ I h => Calls.Constant_str ⟨.str x, H, I.tok _, ⟨_, rfl⟩, h⟩

/-- a global name of the def -/
def Gl (X : Cx) (x : Str) : Prop := X.env.kindOf x = some .globalImplicit
theorem ld_glob {E : Value → Shared → Prop} {pins : List (Addr × Obj)} {s : Shared} {σ : St} {H : Hp} {x : Str} {u : Value} {pos : Pos} {Q : Value → Shared → Prop} (I : Inv X pins σ H s) (hg : Gl X x) (hm : X.mg x = some u) (h : Q u s)
    (hd : (x == ("__debug__" : Str)) = false := by decide) : wpAny (model X.prog X.w) X.A (eval (.Name x pos) X.env) Q E s :=
  Calls.Name_function_global I.ok.kind hg (Calls.loadGlobal_global (by rw [I.ok.glob]; exact I.mod.glob.keeps I.bk) hm h) hd
theorem ld_blt {E : Value → Shared → Prop} {pins : List (Addr × Obj)} {s : Shared} {σ : St} {H : Hp} {x : Str} {u : Value} {pos : Pos} {Q : Value → Shared → Prop} (I : Inv X pins σ H s) (hg : Gl X x) (hm : X.mg x = none) (hv : bootBuiltins x = some u) (h : Q u s)
    (hn : x ≠ "__name__" := by decide) (hd : (x == ("__debug__" : Str)) = false := by decide) : wpAny (model X.prog X.w) X.A (eval (.Name x pos) X.env) Q E s := by
  obtain ⟨mb, h1, h2⟩ := I.mod.blt
  exact Calls.Name_function_global I.ok.kind hg (Calls.loadGlobal_builtin (by rw [I.ok.glob]; exact I.mod.glob.keeps I.bk) hm (by rw [I.ok.blt]; exact h1.keeps I.bk) ((h2 x hn).trans hv) h) hd
/-- a module's constant, a class, a function, as a value -/
theorem pe_glob {x : Str} {v : V} {u : Value} {pos : Pos} (hg : Gl X x) (hm : X.mg x = some u) (r : RelV v u) (hd : (x == ("__debug__" : Str)) = false := by decide) : PE X (.Name x pos) (tC v) :=
  fun _ _ _ H _ I h => ld_glob I hg hm ⟨v, H, I, r, h⟩ hd
theorem pe_bltn {x : Str} {v : V} {u : Value} {pos : Pos} (hg : Gl X x) (hm : X.mg x = none) (hv : bootBuiltins x = some u) (r : RelV v u) (hn : x ≠ "__name__" := by decide) (hd : (x == ("__debug__" : Str)) = false := by decide) : PE X (.Name x pos) (tC v) :=
  fun _ _ _ H _ I h => ld_blt I hg hm hv ⟨v, H, I, r, h⟩ hn hd

/-! ### arithmetic -/
/-- two ints -/
def t2I (ta tb : TE) (k : Int → Int → Hp → Prop) : St → Hp → Prop := fun σ H => ta σ H fun x H1 => tb σ H1 fun y H2 => ∃ i j, x = .int i ∧ y = .int j ∧ k i j H2
def tAdd (ta tb : TE) : TE := fun σ H Q => t2I ta tb (fun i j H2 => Q (.int (i + j)) H2) σ H
def tSub (ta tb : TE) : TE := fun σ H Q => t2I ta tb (fun i j H2 => Q (.int (i - j)) H2) σ H
/-- the left factor below 2^64 -/
def tMul (ta tb : TE) : TE := fun σ H Q => t2I ta tb (fun i j H2 => (-(2 ^ 64) < i ∧ i < 2 ^ 64) ∧ Q (.int (i * j)) H2) σ H
variable {a b : Expr} {ta tb : TE} {pos : Pos}
theorem pe_add (ha : PE X a ta) (hb : PE X b tb) : PE X (.BinOp a .Add b pos) (tAdd ta tb) := by
  intro pins s σ H Q I h
  refine wpAny_BinOp (bin ha hb I h fun v u s2 x y H2 I2 rx ry q => ?_)
  obtain ⟨i, j, rfl, rfl, q⟩ := q
  obtain ⟨t, rfl⟩ := rx
  obtain ⟨t', rfl⟩ := ry
  exact add_int ⟨.int _, H2, I2.tok _, ⟨_, rfl⟩, q⟩
theorem pe_sub (ha : PE X a ta) (hb : PE X b tb) : PE X (.BinOp a .Sub b pos) (tSub ta tb) := by
  intro pins s σ H Q I h
  refine wpAny_BinOp (bin ha hb I h fun v u s2 x y H2 I2 rx ry q => ?_)
  obtain ⟨i, j, rfl, rfl, q⟩ := q
  obtain ⟨t, rfl⟩ := rx
  obtain ⟨t', rfl⟩ := ry
  exact sub_int ⟨.int _, H2, I2.tok _, ⟨_, rfl⟩, q⟩
theorem pe_mul (ha : PE X a ta) (hb : PE X b tb) : PE X (.BinOp a .Mult b pos) (tMul ta tb) := by
  intro pins s σ H Q I h
  refine wpAny_BinOp (bin ha hb I h fun v u s2 x y H2 I2 rx ry q => ?_)
  obtain ⟨i, j, rfl, rfl, ⟨q1, q2⟩, q⟩ := q
  obtain ⟨t, rfl⟩ := rx
  obtain ⟨t', rfl⟩ := ry
  exact mul_int ⟨.int _, H2, I2.tok _, ⟨_, rfl⟩, q⟩ (.of_left (intBits_le_64 q1 q2))

/-! ### comparisons -/
def PC (X : Cx) (op : CmpOp) (a b : Expr) (t : TE) : Prop :=
  ∀ (pins : List (Addr × Obj)) (s : Shared) (σ : St) (H : Hp) (Q : VK), Inv X pins σ H s → t σ H Q →
    wpAny (model X.prog X.w) X.A (eval a X.env) (fun v s₁ => wpAny (model X.prog X.w) X.A (eval b X.env) (fun u s₂ => wpAny (model X.prog X.w) X.A (compareOp op v u) (EP X pins σ Q) X.xe s₂) X.xe s₁) X.xe s
theorem nobehind (b : Expr) {op : CmpOp} (h : op ≠ .In) (h2 : op ≠ .NotIn) : behindInMarks op b = false := by
  have e1 : (op == CmpOp.In) = false := by cases op <;> first | rfl | exact absurd rfl h
  have e2 : (op == CmpOp.NotIn) = false := by cases op <;> first | rfl | exact absurd rfl h2
  cases b <;> simp [behindInMarks, e1, e2]
def tCmp (p : Int → Int → Bool) (ta tb : TE) : TE := fun σ H Q => t2I ta tb (fun i j H2 => Q (.bl (p i j)) H2) σ H
abbrev tLt : TE → TE → TE := tCmp fun i j => decide (i < j)
abbrev tLe : TE → TE → TE := tCmp fun i j => decide (i ≤ j)
abbrev tGt : TE → TE → TE := tCmp fun i j => decide (j < i)
abbrev tGe : TE → TE → TE := tCmp fun i j => decide (j ≤ i)
abbrev tEqI : TE → TE → TE := tCmp fun i j => decide (i = j)
abbrev tNeI : TE → TE → TE := tCmp fun i j => !decide (i = j)
/-- a comparison of two ints, by its rule -/
theorem pc_int {op : CmpOp} {p : Int → Int → Bool} (ha : PE X a ta) (hb : PE X b tb)
    (rule : ∀ (i j : Int) (t u : Tok) (Q : Value → Shared → Prop) (s : Shared), Q (.bool (p i j)) s → wpAny (model X.prog X.w) X.A (compareOp op (.int i t) (.int j u)) Q X.xe s) : PC X op a b (tCmp p ta tb) := by
  intro pins s σ H Q I h
  refine bin ha hb I h fun v u s2 x y H2 I2 rx ry q => ?_
  obtain ⟨i, j, rfl, rfl, q⟩ := q
  obtain ⟨t, rfl⟩ := rx
  obtain ⟨t', rfl⟩ := ry
  exact rule i j t t' _ s2 ⟨.bl _, H2, I2, rfl, q⟩
theorem pc_lt (ha : PE X a ta) (hb : PE X b tb) : PC X .Lt a b (tLt ta tb) := pc_int ha hb fun _ _ _ _ _ _ h => lt_int h
theorem pc_le (ha : PE X a ta) (hb : PE X b tb) : PC X .LtE a b (tLe ta tb) := pc_int ha hb fun _ _ _ _ _ _ h => le_int h
theorem pc_gt (ha : PE X a ta) (hb : PE X b tb) : PC X .Gt a b (tGt ta tb) := pc_int ha hb fun _ _ _ _ _ _ h => gt_int h
theorem pc_ge (ha : PE X a ta) (hb : PE X b tb) : PC X .GtE a b (tGe ta tb) := pc_int ha hb fun _ _ _ _ _ _ h => ge_int h
theorem pc_eqI (ha : PE X a ta) (hb : PE X b tb) : PC X .Eq a b (tEqI ta tb) := pc_int ha hb fun _ _ _ _ _ _ h => eq_int (by rw [Bool.beq_eq_decide_eq]; exact h)
theorem pc_neI (ha : PE X a ta) (hb : PE X b tb) : PC X .NotEq a b (tNeI ta tb) := pc_int ha hb fun _ _ _ _ _ _ h => ne_int (by rw [bne, Bool.beq_eq_decide_eq]; exact h)
/-- is None -/
def tIsN (ta : TE) : TE := fun σ H Q => ta σ H fun x H1 => Q (.bl (decide (x = .non))) H1
def tNotN (ta : TE) : TE := fun σ H Q => ta σ H fun x H1 => Q (.bl (!decide (x = .non))) H1
theorem RelV.none_iff {x : V} {v : Value} (r : RelV x v) : (v == Value.none) = decide (x = .non) := by
  cases x with
  | non => cases r; rfl
  | bl _ => cases r; rfl
  | int _ => obtain ⟨t, rfl⟩ := r; rfl
  | str _ => obtain ⟨t, rfl⟩ := r; rfl
  | byt _ => obtain ⟨t, rfl⟩ := r; rfl
  | flt _ => obtain ⟨t, rfl⟩ := r; rfl
  | ref _ => cases r; rfl
  | ty _ => cases r; rfl
theorem pc_isN {j pos'} (ha : PE X a ta) : PC X .Is a (.Constant .none j pos') (tIsN ta) := by
  intro pins s σ H Q I h
  refine thn (ha pins s σ H _ I h) fun v s1 ⟨x, H1, I1, r1, q1⟩ => ?_
  exact Constant_none (is_none_gen ⟨.bl _, H1, I1, by rw [r1.none_iff]; rfl, q1⟩)
theorem pc_notN {j pos'} (ha : PE X a ta) : PC X .IsNot a (.Constant .none j pos') (tNotN ta) := by
  intro pins s σ H Q I h
  refine thn (ha pins s σ H _ I h) fun v s1 ⟨x, H1, I1, r1, q1⟩ => ?_
  exact Constant_none (isnot_none_gen ⟨.bl _, H1, I1, by rw [r1.none_iff]; rfl, q1⟩)
/-- a comparison as a value, as a test -/
def tB (t : TE) : TT := fun σ H Q => t σ H fun x H1 => ∃ c, x = .bl c ∧ Q c H1
theorem pe_cmp {op : CmpOp} {t : TE} (h : PC X op a b t) (h1 : behindInMarks op b = false := by first | exact nobehind _ (by decide) (by decide) | rfl) : PE X (.Compare a [op] [b] pos) t := fun pins s σ H Q I hw => wpAny_Compare1 (h pins s σ H Q I hw) h1
theorem pt_cmp {op : CmpOp} {t : TE} (h : PC X op a b t) (h1 : behindInMarks op b = false := by first | exact nobehind _ (by decide) (by decide) | rfl) : PT X (.Compare a [op] [b] pos) (tB t) := by
  intro pins s σ H Q I hw
  refine wpAny_isTrue_Compare1 (thn (h pins s σ H _ I hw) fun v s1 h1 => thn h1 fun u s2 h2 => thn h2 fun c s3 ⟨x, H1, I1, r1, q1⟩ => ?_) h1
  obtain ⟨d, rfl, q⟩ := q1
  cases r1
  exact wpAny_truthy_bool ⟨H1, I1, q⟩
/-- an expression whose value is a bool, as a test -/
theorem pt_val {e : Expr} {t : TE} (h : PE X e t) (he : ∀ whole, isTrue e X.env whole = (do let v ← whole; standAt e.pos; holding [v] (truthy v)) := by intro _; rfl) : PT X e (tB t) := by
  intro pins s σ H Q I hw
  refine isTrue_plain (thn (h pins s σ H _ I hw) fun v s1 ⟨x, H1, I1, r1, q1⟩ => ?_) (he _)
  obtain ⟨d, rfl, q⟩ := q1
  cases r1
  exact wpAny_truthy_bool ⟨H1, I1, q⟩

/-! ### and, or, not -/
variable {tA tB' : TT} {rest : List Expr}
def tAnd (t u : TT) : TT := fun σ H Q => t σ H fun c H1 => if c = true then u σ H1 Q else Q false H1
def tOr (t u : TT) : TT := fun σ H Q => t σ H fun c H1 => if c = true then Q true H1 else u σ H1 Q
def tNot (t : TT) : TT := fun σ H Q => t σ H fun c H1 => Q (!c) H1
theorem pw_and1 (ha : PT X a tA) : PW X (.BoolOp .And [a] pos) tA := by
  intro wh pins s σ H Q I h
  refine isTrue_and (thn (ha pins s σ H Q I h) fun c s1 e => ?_)
  cases c with
  | true => exact isTrue_and_nil e
  | false => exact e
theorem pw_or1 (ha : PT X a tA) : PW X (.BoolOp .Or [a] pos) tA := by
  intro wh pins s σ H Q I h
  refine isTrue_or (thn (ha pins s σ H Q I h) fun c s1 e => ?_)
  cases c with
  | false => exact isTrue_or_nil e
  | true => exact e
theorem pw_and (ha : PT X a tA) (hb : PW X (.BoolOp .And (b :: rest) pos) tB') : PW X (.BoolOp .And (a :: b :: rest) pos) (tAnd tA tB') := by
  intro wh pins s σ H Q I h
  refine isTrue_and (thn (ha pins s σ H _ I h) fun c s1 ⟨H1, I1, q1⟩ => ?_)
  cases c with
  | true => exact hb wh pins s1 σ H1 Q I1 q1
  | false => exact ⟨H1, I1, q1⟩
theorem pw_or (ha : PT X a tA) (hb : PW X (.BoolOp .Or (b :: rest) pos) tB') : PW X (.BoolOp .Or (a :: b :: rest) pos) (tOr tA tB') := by
  intro wh pins s σ H Q I h
  refine isTrue_or (thn (ha pins s σ H _ I h) fun c s1 ⟨H1, I1, q1⟩ => ?_)
  cases c with
  | true => exact ⟨H1, I1, q1⟩
  | false => exact hb wh pins s1 σ H1 Q I1 q1
theorem pt_not (ha : PT X a tA) : PT X (.UnaryOp .Not a pos) (tNot tA) := by
  intro pins s σ H Q I h
  exact isTrue_not (ha pins s σ H (fun c H1 => Q (!c) H1) I h)
/-- .. as values (bools) -/
def tAndV (ta tb : TE) : TE := fun σ H Q => ta σ H fun x H1 => ∃ c, x = .bl c ∧ if c = true then tb σ H1 Q else Q (.bl false) H1
def tOrV (ta tb : TE) : TE := fun σ H Q => ta σ H fun x H1 => ∃ c, x = .bl c ∧ if c = true then Q (.bl true) H1 else tb σ H1 Q
def tNotV (ta : TE) : TE := fun σ H Q => ta σ H fun x H1 => ∃ c, x = .bl c ∧ Q (.bl (!c)) H1
theorem pe_one {op} {t : TE} (h : PE X a t) : PE X (.BoolOp op [a] pos) t := fun pins s σ H Q I hw => BoolOp_one (h pins s σ H Q I hw)
theorem pe_and (ha : PE X a ta) (hb : PE X (.BoolOp .And (b :: rest) pos) tb) : PE X (.BoolOp .And (a :: b :: rest) pos) (tAndV ta tb) := by
  intro pins s σ H Q I h
  refine BoolOp_and (thn (ha pins s σ H _ I h) fun v s1 ⟨x, H1, I1, r1, q1⟩ => ?_)
  obtain ⟨c, rfl, q1⟩ := q1
  cases r1
  refine wpAny_truthy_bool ?_
  cases c with
  | true => exact hb pins s1 σ H1 Q I1 q1
  | false => exact ⟨.bl false, H1, I1, rfl, q1⟩
theorem pe_or (ha : PE X a ta) (hb : PE X (.BoolOp .Or (b :: rest) pos) tb) : PE X (.BoolOp .Or (a :: b :: rest) pos) (tOrV ta tb) := by
  intro pins s σ H Q I h
  refine BoolOp_or (thn (ha pins s σ H _ I h) fun v s1 ⟨x, H1, I1, r1, q1⟩ => ?_)
  obtain ⟨c, rfl, q1⟩ := q1
  cases r1
  refine wpAny_truthy_bool ?_
  cases c with
  | false => exact hb pins s1 σ H1 Q I1 q1
  | true => exact ⟨.bl true, H1, I1, rfl, q1⟩
theorem pe_not (ha : PE X a ta) : PE X (.UnaryOp .Not a pos) (tNotV ta) := by
  intro pins s σ H Q I h
  refine UnaryOp_ (thn (ha pins s σ H _ I h) fun v s1 ⟨x, H1, I1, r1, q1⟩ => ?_)
  obtain ⟨c, rfl, q1⟩ := q1
  cases r1
  exact not_of (wpAny_truthy_bool ⟨.bl (!c), H1, I1, rfl, q1⟩)
/-- a if t else b -/
def tIf (t : TT) (ta tb : TE) : TE := fun σ H Q => t σ H fun c H1 => if c = true then ta σ H1 Q else tb σ H1 Q
theorem pe_ifExp {c : Expr} (hc : PT X c tA) (ha : PE X a ta) (hb : PE X b tb) : PE X (.IfExp c a b pos) (tIf tA ta tb) := by
  intro pins s σ H Q I h
  refine wpAny_IfExp (thn (hc pins s σ H _ I h) fun d s1 ⟨H1, I1, q1⟩ => ?_)
  cases d with
  | true => exact ha pins s1 σ H1 Q I1 q1
  | false => exact hb pins s1 σ H1 Q I1 q1
end
end L2

namespace L2
open PySem PySem.Spec PyProof.Rows

/-! ### a list, a tuple that is read: tracked, frozen, or an object of the module -/
def SqL (K : PySem.W.Frag) (H : Hp) (a : Addr) (xs : List V) : Prop :=
  Rd H a (.lst xs) ∨
    ∃ (o : Obj) (its : Array Value) (n : Nat), K.lookup a = some o ∧ o.cls = .type "list" ∧ o.dict = none ∧ o.data = .seq its n ∧ its.size ≤ sizeLine ∧ Vals xs its.toList
def SqT (K : PySem.W.Frag) (H : Hp) (a : Addr) (xs : List V) : Prop :=
  Rd H a (.tup xs) ∨
    ∃ (o : Obj) (its : Array Value) (n : Nat), K.lookup a = some o ∧ o.cls = .type "tuple" ∧ o.data = .seq its n ∧ its.size ≤ sizeLine ∧ Vals xs its.toList
def absV : Value → Option V
  | .none => some .non
  | .bool b => some (.bl b)
  | .int i _ => some (.int i)
  | .str x _ => some (.str x)
  | .bytes b _ => some (.byt b)
  | .float b _ => some (.flt b)
  | .ref a => some (.ref a)
  | .type n => some (.ty n)
  | _ => none
theorem RelV.abs {x : V} {u : Value} (r : RelV x u) : absV u = some x := by
  cases x with
  | non => cases r; rfl
  | bl _ => cases r; rfl
  | int _ => obtain ⟨t, rfl⟩ := r; rfl
  | str _ => obtain ⟨t, rfl⟩ := r; rfl
  | byt _ => obtain ⟨t, rfl⟩ := r; rfl
  | flt _ => obtain ⟨t, rfl⟩ := r; rfl
  | ref _ => cases r; rfl
  | ty _ => cases r; rfl
theorem RelV.inj {x y : V} {u : Value} (r : RelV x u) (q : RelV y u) : x = y := Option.some.inj (r.abs.symm.trans q.abs)
theorem Vals.inj : ∀ {xs ys : List V} {us : List Value}, Vals xs us → Vals ys us → xs = ys
  | _, _, _, .nil, .nil => rfl
  | _, _, _, .cons r t, .cons r' t' => by rw [r.inj r', Vals.inj t t']
section
variable {X : Cx} {pins : List (Addr × Obj)} {σ : St} {H : Hp} {s : Shared} {a : Addr} {xs ys : List V}
theorem SqL.of {K : PySem.W.Frag} (h : H a = some (.lst xs)) : SqL K H a xs := .inl (.inl h)
theorem SqT.of {K : PySem.W.Frag} (h : H a = some (.tup xs)) : SqT K H a xs := .inl (.inl h)
theorem Inv.list (I : Inv X pins σ H s) (h : SqL X.K H a xs) : ∃ its : List Value, Vals xs its ∧ PlainL s.heap a its.toArray ∧ xs.length ≤ sizeLine := by
  rcases h with h | ⟨o, its, n, hk, hc, hd, hs, hz, r⟩
  · obtain ⟨z, its, n, r, e⟩ := h.ok I.hok
    exact ⟨its, r, ⟨_, n, e, rfl, rfl, rfl⟩, z⟩
  · refine ⟨its.toList, r, ⟨o, n, I.kIn a o hk, hc, hd, by simpa using hs⟩, ?_⟩
    have e := r.length
    simp only [Array.length_toList] at e
    omega
theorem Inv.tuple (I : Inv X pins σ H s) (h : SqT X.K H a xs) : ∃ its : List Value, Vals xs its ∧ IsTup s.heap a its.toArray ∧ xs.length ≤ sizeLine := by
  rcases h with h | ⟨o, its, n, hk, hc, hs, hz, r⟩
  · obtain ⟨z, its, r, p⟩ := h.ok I.hok
    exact ⟨its, r, p, z⟩
  · refine ⟨its.toList, r, ⟨o, I.kIn a o hk, hc, n, by simpa using hs⟩, ?_⟩
    have e := r.length
    simp only [Array.length_toList] at e
    omega
theorem Inv.list_inj (I : Inv X pins σ H s) (h : SqL X.K H a xs) (h' : SqL X.K H a ys) : xs = ys := by
  obtain ⟨its, r, ⟨o, n, e, _, _, d⟩, _⟩ := I.list h
  obtain ⟨its', r', ⟨o', n', e', _, _, d'⟩, _⟩ := I.list h'
  rw [e] at e'; cases e'
  rw [d] at d'
  injection d' with d1 _
  have : its = its' := by simpa using congrArg Array.toList d1
  subst this
  exact r.inj r'
theorem Inv.tuple_inj (I : Inv X pins σ H s) (h : SqT X.K H a xs) (h' : SqT X.K H a ys) : xs = ys := by
  obtain ⟨its, r, ⟨o, e, _, n, d⟩, _⟩ := I.tuple h
  obtain ⟨its', r', ⟨o', e', _, n', d'⟩, _⟩ := I.tuple h'
  rw [e] at e'; cases e'
  rw [d] at d'
  injection d' with d1 _
  have : its = its' := by simpa using congrArg Array.toList d1
  subst this
  exact r.inj r'
end

/-! ### another wish about exceptions -/
abbrev Cx.wish (X : Cx) (E : Value → Shared → Prop) : Cx := { X with xe := E }
/-- no exception leaves -/
abbrev Cx.nox (X : Cx) : Cx := X.wish fun _ _ => False
theorem Cx.Ok.wish {X : Cx} (ok : X.Ok) (E : Value → Shared → Prop) : (X.wish E).Ok :=
  ⟨ok.mod, ok.kind, ok.glob, ok.blt, ok.above, ok.inj, ok.has, ok.cab, ok.hd, ok.frames, ok.stk, ok.exf, ok.bs, ok.bsz, ok.noex, ok.exfs, ok.funs, ok.frf⟩
theorem Cx.Ok.unwish {X : Cx} {E : Value → Shared → Prop} (ok : (X.wish E).Ok) : X.Ok :=
  ⟨ok.mod, ok.kind, ok.glob, ok.blt, ok.above, ok.inj, ok.has, ok.cab, ok.hd, ok.frames, ok.stk, ok.exf, ok.bs, ok.bsz, ok.noex, ok.exfs, ok.funs, ok.frf⟩
section
variable {X : Cx} {pins : List (Addr × Obj)} {σ : St} {H : Hp} {s : Shared} {E : Value → Shared → Prop}
theorem Inv.wish (I : Inv X pins σ H s) (E : Value → Shared → Prop) : Inv (X.wish E) pins σ H s := ⟨I.ok.wish E, I.os, I.bare, I.base, I.loc, I.cell, I.free, I.freeC, I.pin, I.hok, I.len⟩
theorem Inv.unwish (I : Inv (X.wish E) pins σ H s) : Inv X pins σ H s := ⟨I.ok.unwish, I.os, I.bare, I.base, I.loc, I.cell, I.free, I.freeC, I.pin, I.hok, I.len⟩
theorem SP.unwish {D : Ends} {f : Flow} {s' : Shared} (h : SP (X.wish E) pins D f s') : SP X pins D f s' := by
  cases f with
  | next => obtain ⟨σ', H', I, q⟩ := h; exact ⟨σ', H', I.unwish, q⟩
  | brk => obtain ⟨σ', H', I, q⟩ := h; exact ⟨σ', H', I.unwish, q⟩
  | cont => obtain ⟨σ', H', I, q⟩ := h; exact ⟨σ', H', I.unwish, q⟩
  | ret u => obtain ⟨v, σ', H', I, r, q⟩ := h; exact ⟨v, σ', H', I.unwish, r, q⟩
theorem PE.nox {e : Expr} {t : TE} (h : PE X.nox e t) : PE X e t := fun pins s σ H Q I hw =>
  wpAny_mono (h pins s σ H Q (I.wish _) hw) (fun _ _ ⟨v, H', I', r, q⟩ => ⟨v, H', I'.unwish, r, q⟩) fun _ _ z => False.elim z
theorem PT.nox {e : Expr} {t : TT} (h : PT X.nox e t) : PT X e t := fun pins s σ H Q I hw =>
  wpAny_mono (h pins s σ H Q (I.wish _) hw) (fun _ _ ⟨H', I', q⟩ => ⟨H', I'.unwish, q⟩) fun _ _ z => False.elim z
theorem PSs.nox {st : List Stmt} {t : TS} (h : PSs X.nox st t) : PSs X st t := fun pins s σ H D I hw =>
  wpAny_mono (h pins s σ H D (I.wish _) hw) (fun _ _ q => q.unwish) fun _ _ z => False.elim z
end

/-! ### blocks and small statements -/
section
variable {X : Cx} {st : Stmt} {rest : List Stmt} {t u : TS} {e : Expr} {te : TE} {pos : Pos}
def tNext : TS := fun D σ H => D.nx σ H
def tSeq (t u : TS) : TS := fun D σ H => t { D with nx := u D } σ H
theorem pss_nil : PSs X [] tNext := fun _ _ σ H _ I h => wpAny_execs_nil ⟨σ, H, I, h⟩
theorem pss_cons (h1 : PS X st t) (h2 : PSs X rest u) : PSs X (st :: rest) (tSeq t u) := by
  intro pins s σ H D I h
  refine wpAny_execs_cons (thn (h1 pins s σ H { D with nx := u D } I h) fun f s1 q => ?_)
  cases f with
  | next =>
    obtain ⟨σ', H', I', q⟩ := q
    exact h2 pins s1 σ' H' D I' q
  | ret v => exact q
  | brk => exact q
  | cont => exact q
theorem pss_one (h1 : PS X st t) : PSs X [st] t := by
  intro pins s σ H D I h
  refine wpAny_execs_cons (thn (h1 pins s σ H D I h) fun f s1 q => ?_)
  cases f with
  | next => exact wpAny_execs_nil q
  | ret v => exact q
  | brk => exact q
  | cont => exact q
def tBreak : TS := fun D σ H => D.bk σ H
def tCont : TS := fun D σ H => D.ct σ H
theorem ps_pass : PS X (.Pass pos) tNext := fun _ _ σ H _ I h => wpAny_Pass ⟨σ, H, I, h⟩
theorem ps_break : PS X (.Break pos) tBreak := fun _ _ σ H _ I h => wpAny_Break ⟨σ, H, I, h⟩
theorem ps_continue : PS X (.Continue pos) tCont := fun _ _ σ H _ I h => wpAny_Continue ⟨σ, H, I, h⟩
/-- in a def's body nothing is shown -/
theorem Inv.quiet {pins : List (Addr × Obj)} {σ : St} {H : Hp} {s : Shared} (I : Inv X pins σ H s) : interactive X.env = false := by simp [interactive, I.ok.kind]
/-- a docstring -/
theorem ps_doc {x j pos pos'} : PS X (.Expr (.Constant (.str x) j pos) pos') tNext := fun _ s σ H _ I h => wpAny_Expr (Calls.Constant_str (show SP X _ _ .next { s with toks := s.toks + 1 } from ⟨σ, H, I.tok _, h⟩)) I.quiet
/-- an expression whose value is dropped -/
def tDrop (te : TE) : TS := fun D σ H => te σ H fun _ H1 => D.nx σ H1
theorem ps_expr (he : PE X e te) (hs : swapsWith e none pos.line X.env = pure false := by rfl) : PS X (.Expr e pos) (tDrop te) := by
  intro pins s σ H D I h
  exact wpAny_Expr_any (thn (he pins s σ H _ I h) fun v s1 ⟨x, H1, I1, r1, q1⟩ => ⟨σ, H1, I1, q1⟩) I.quiet hs
def tRet (te : TE) : TS := fun D σ H => te σ H D.rt
theorem ps_ret (he : PE X e te) : PS X (.Return (some e) pos) (tRet te) := by
  intro pins s σ H D I h
  exact wpAny_Return_some (thn (he pins s σ H _ I h) fun v s1 ⟨x, H1, I1, r1, q1⟩ => ⟨x, σ, H1, I1, r1, q1⟩)
def tRetN : TS := fun D _ H => D.rt .non H
theorem ps_retN : PS X (.Return none pos) tRetN := fun _ _ σ H _ I h => wpAny_Return_none ⟨.non, σ, H, I, rfl, h⟩
def tIfS (c : TT) (t u : TS) : TS := fun D σ H => c σ H fun b H1 => if b = true then t D σ H1 else u D σ H1
theorem ps_if {c : Expr} {a b : List Stmt} {tc : TT} (hc : PT X c tc) (ha : PSs X a t) (hb : PSs X b u) : PS X (.If c a b pos) (tIfS tc t u) := by
  intro pins s σ H D I h
  refine wpAny_If (thn (hc pins s σ H _ I h) fun d s1 ⟨H1, I1, q1⟩ => ?_)
  cases d with
  | true => exact ha pins s1 σ H1 D I1 q1
  | false => exact hb pins s1 σ H1 D I1 q1
/-- code that the proof never comes to -/
def tNever : TS := fun _ _ _ => False
theorem ps_never : PS X st tNever := fun _ _ _ _ _ _ h => h.elim
theorem pss_never {sts : List Stmt} : PSs X sts tNever := fun _ _ _ _ _ _ h => h.elim
end

/-! ### targets -/
abbrev TG := V → St → Hp → (St → Hp → Prop) → Prop
abbrev TGs := List V → St → Hp → (St → Hp → Prop) → Prop
def PG (X : Cx) (target : Expr) (t : TG) : Prop :=
  ∀ (pins : List (Addr × Obj)) (s : Shared) (σ : St) (H : Hp) (v : V) (u : Value) (Q : St → Hp → Prop), Inv X pins σ H s → RelV v u → t v σ H Q →
    wpAny (model X.prog X.w) X.A (assign target X.env u) (fun _ s' => ∃ σ' H', Inv X pins σ' H' s' ∧ Q σ' H') X.xe s
/-- several targets, one after another -/
def PGs (X : Cx) (ts : List Expr) (t : TGs) : Prop :=
  ∀ (pins : List (Addr × Obj)) (s : Shared) (σ : St) (H : Hp) (vs : List V) (us : List Value) (Q : St → Hp → Prop), Inv X pins σ H s → Vals vs us → t vs σ H Q →
    wpAny (model X.prog X.w) X.A (assignInOrder ((assignEach ts X.env).map (·.2)) us) (fun _ s' => ∃ σ' H', Inv X pins σ' H' s' ∧ Q σ' H') X.xe s
/-- o[i] = v, by values -/
abbrev TSet := V → V → V → Hp → (Hp → Prop) → Prop
def PSet (X : Cx) (t : TSet) : Prop :=
  ∀ (pins : List (Addr × Obj)) (s : Shared) (σ : St) (H : Hp) (o i v : V) (ov iv u : Value) (Q : Hp → Prop), Inv X pins σ H s → RelV o ov → RelV i iv → RelV v u → t o i v H Q →
    wpAny (model X.prog X.w) X.A (setItem ov iv u) (fun _ s' => ∃ H', Inv X pins σ H' s' ∧ Q H') X.xe s
/-- a op= b, by values -/
abbrev TIp := V → V → Hp → VK → Prop
def PIp (X : Cx) (op : Operator) (t : TIp) : Prop :=
  ∀ (pins : List (Addr × Obj)) (s : Shared) (σ : St) (H : Hp) (x y : V) (v u : Value) (Q : VK), Inv X pins σ H s → RelV x v → RelV y u → t x y H Q →
    wpAny (model X.prog X.w) X.A (inplaceOp op v u) (EP X pins σ Q) X.xe s
section
variable {X : Cx} {pos : Pos}
def gName (i : Nat) : TG := fun v σ H Q => Q (σ.set i (some v)) H
theorem pg_name {i : Nat} {x : Str} (hN : X.N.Nodup) (hi : X.N[i]? = some x) (hx : Loc X.env.scope x) (hf : X.fn x = true ∨ X.env.scope.names.lookup x = some .local := by first | exact .inl rfl | exact .inr rfl | assumption) : PG X (.Name x pos) (gName i) := by
  intro pins s σ H v u Q I r h
  exact wpAny_assign_Name (store_ok I hN hi hx r (fun s' I' => ⟨_, H, I', h⟩) hf)
def gNil : TGs := fun vs σ H Q => vs = [] ∧ Q σ H
def gCons (t : TG) (u : TGs) : TGs := fun vs σ H Q => ∃ v r, vs = v :: r ∧ t v σ H fun σ' H' => u r σ' H' Q
theorem pgs_nil : PGs X [] gNil := by
  intro pins s σ H vs us Q I r h
  obtain ⟨e, h⟩ := h
  subst e
  cases r
  exact assignInOrder_nil ⟨σ, H, I, h⟩
theorem pgs_cons {e : Expr} {es : List Expr} {t : TG} {u : TGs} (h1 : PG X e t) (h2 : PGs X es u)
    (hs : (assignEach (e :: es) X.env).map (·.2) = assign e X.env :: (assignEach es X.env).map (·.2) := by rfl) : PGs X (e :: es) (gCons t u) := by
  intro pins s σ H vs us Q I r h
  obtain ⟨v, vr, e1, h⟩ := h
  subst e1
  cases r with
  | cons r rr =>
    rw [hs]
    refine assignInOrder_cons (thn (h1 pins s σ H _ _ _ I r h) fun _ s1 ⟨σ1, H1, I1, q1⟩ => ?_)
    exact h2 pins s1 σ1 H1 _ _ Q I1 rr q1
/-- (a, b, ..) = a tuple of that length -/
def gTup (K : PySem.W.Frag) (n : Nat) (t : TGs) : TG := fun v σ H Q => ∃ a xs, v = .ref a ∧ SqT K H a xs ∧ xs.length = n ∧ t xs σ H Q
theorem pg_tup {es : List Expr} {k : Nat} {t : TGs} {n : Nat} (hc : X.calm = true) (h : PGs X es t)
    (hn : (assignEach es X.env).length = n := by rfl) (hst : (assignEach es X.env).findIdx? (·.1) = none := by rfl) : PG X (.Tuple es k pos) (gTup X.K n t) := by
  intro pins s σ H v u Q I r hw
  obtain ⟨a, xs, e1, hq, hl, hw⟩ := hw
  subst e1
  cases r
  obtain ⟨its, rv, ht, hz⟩ := I.tuple hq
  refine assign_Tuple_tuple (I.ok.hd hc) ht (by simp [hn, ← hl, rv.length]) hst fun h' hx => ?_
  have I1 : Inv X pins σ H { s with heap := h' } := I.kept (t' := s.toks) fun b o e => hx b o (Nat.ne_of_lt (Heap.lt_size e)) e
  exact h pins _ σ H xs _ Q I1 (by simpa using rv) hw
/-- o[i] = .. -/
def gSub (to ti : TE) (t : TSet) : TG := fun v σ H Q => to σ H fun o H1 => ti σ H1 fun i H2 => t o i v H2 fun H3 => Q σ H3
theorem pg_sub {o i : Expr} {to ti : TE} {t : TSet} (ho : PE X o to) (hi : PE X i ti) (hs : PSet X t)
    (ha : ∀ v, assign (.Subscript o i pos) X.env v = (do
      let ov ← holding [v] (eval o X.env)
      let iv ← holding [v, ov] (eval i X.env)
      standAt pos
      holding [v, ov, iv] (setItem ov iv v)
      release [v, ov, iv] []) := by intro _; rfl) : PG X (.Subscript o i pos) (gSub to ti t) := by
  intro pins s σ H v u Q I r h
  rw [ha]
  refine wpAny_bind (wpAny_holding (thn (ho pins s σ H _ I h) fun ov s1 ⟨x, H1, I1, r1, q1⟩ => ?_))
  refine wpAny_bind (wpAny_holding (thn (hi pins s1 σ H1 _ I1 q1) fun iv s2 ⟨y, H2, I2, r2, q2⟩ => ?_))
  refine wpAny_bind (wpAny_standAt (wpAny_bind (wpAny_holding (thn (hs pins s2 σ H2 x y v ov iv u _ I2 r1 r2 r q2) fun _ s3 ⟨H3, I3, q3⟩ => ?_))))
  exact wpAny_release ⟨σ, H3, I3, q3⟩
/-- target = value -/
def tAsg (te : TE) (g : TG) : TS := fun D σ H => te σ H fun x H1 => g x σ H1 D.nx
theorem ps_asg {tg e : Expr} {te : TE} {g : TG} (he : PE X e te) (hg : PG X tg g) (hs : swapsWithSole [tg] e pos.line X.env = pure false := by rfl) (hw : swappedStores [tg] e X.env = pure none := by rfl)
    (h1 : (assignEach [tg] X.env).map (·.2) = [assign tg X.env] := by rfl) : PS X (.Assign [tg] e pos) (tAsg te g) := by
  intro pins s σ H D I h
  refine wpAny_Assign_stores (thn (he pins s σ H _ I h) fun v s1 ⟨x, H1, I1, r1, q1⟩ => ?_) hs hw
  rw [h1]
  exact thn (hg pins s1 σ H1 x v _ I1 r1 q1) fun _ s2 q => q
/-- name = value -/
theorem ps_set {i : Nat} {x : Str} {e : Expr} {te : TE} {pos' : Pos} (hN : X.N.Nodup) (hi : X.N[i]? = some x) (hx : Loc X.env.scope x) (he : PE X e te) (hs : swapsWith e (some (.Name x pos')) pos.line X.env = pure false := by rfl) (hf : X.fn x = true ∨ X.env.scope.names.lookup x = some .local := by first | exact .inl rfl | exact .inr rfl | assumption) :
    PS X (.Assign [.Name x pos'] e pos) (tAsg te (gName i)) := by
  intro pins s σ H D I h
  refine wpAny_Assign_Name (thn (he pins s σ H _ I h) fun v s1 ⟨y, H1, I1, r1, q1⟩ => ?_) hs
  exact store_ok I1 hN hi hx r1 (fun s2 I2 => ⟨_, H1, I2, q1⟩) hf
/-- a, b = x, y with plain local names: stored from the right; the pair itself is not tracked (the opening rows as in PyProof/Rows/TupAssign.lean:23) -/
def tPar (i j : Nat) (ta : TA) : TS := fun D σ H => ta σ H fun vs H1 => ∃ v w, vs = [v, w] ∧ D.nx ((σ.set i (some v)).set j (some w)) H1
theorem ps_par {i j : Nat} {x y : Str} {a b : Expr} {ta : TA} {px py pt : Pos} {kt k2 pt2} (hc : X.calm = true) (hN : X.N.Nodup) (hi : X.N[i]? = some x) (hj : X.N[j]? = some y) (hij : i ≠ j)
    (hx : X.env.scope.names.lookup x = some .local) (hy : X.env.scope.names.lookup y = some .local) (ha : PA X [a, b] ta)
    (hw : swappedStores [.Tuple [.Name x px, .Name y py] kt pt] (.Tuple [a, b] k2 pt2) X.env = pure (some [x, y]))
    (hs : swapsWithSole [.Tuple [.Name x px, .Name y py] kt pt] (.Tuple [a, b] k2 pt2) pos.line X.env = pure false := by rfl) :
    PS X (.Assign [.Tuple [.Name x px, .Name y py] kt pt] (.Tuple [a, b] k2 pt2) pos) (tPar i j ta) := by
  intro pins s σ H D I h
  rw [exec_Assign_arm]
  refine wpAny_bind (wpAny_standAt ?_)
  rw [hs]
  refine wpAny_bind (wpAny_pure ?_)
  rw [if_neg (by decide)]
  refine wpAny_bind (Tuple_ (thn (ha _ pins s σ H _ I h) fun us s1 ⟨vs, H1, I1, r1, q1⟩ => ?_))
  obtain ⟨v, w, e1, q1⟩ := q1
  subst e1
  obtain ⟨u1, u2, rfl, rv, rw'⟩ : ∃ u1 u2, us = [u1, u2] ∧ RelV v u1 ∧ RelV w u2 := by
    cases r1 with
    | cons p q =>
      cases q with
      | cons p' q' =>
        cases q'
        exact ⟨_, _, rfl, p, p'⟩
  refine wpAny_newObj_type ?_ (by show 2 ≤ sizeLine; decide)
  have I2 : Inv X pins σ H1 { s1 with heap := s1.heap.push { cls := .type "tuple", data := .seq [u1, u2].toArray } } := I1.kept (t' := s1.toks) fun b o e => Heap.get?_push_of_some _ e
  rw [hw]
  refine wpAny_bind (wpAny_pure ?_)
  show wpAny (model X.prog X.w) X.A (do rule "assign.swapped-stores"; let items ← unpackItems (.ref s1.heap.objs.size) 2 none; assignInOrder [fun v => bindName X.env y v, fun v => bindName X.env x v] items.reverse; pure Flow.next) _ _ _
  refine wpAny_bind (wpAny_rule (wpAny_bind (unpackItems_tuple (items := #[u1, u2]) (I.ok.hd hc) (IsTup.new s1.heap _) fun h' hx' => ?_)))
  have I3 := I2.kept (h' := h') (t' := s1.toks) fun b o e => hx' b o (Nat.ne_of_lt (Heap.lt_size e)) e
  show wpAny _ _ (assignInOrder [fun v => bindName X.env y v, fun v => bindName X.env x v] [u2, u1] >>= fun _ => pure Flow.next) _ _ _
  refine wpAny_bind (assignInOrder_cons (wpAny_bindName (store_ok I3 hN hj (.inl hy) rw' (fun s2 I4 => ?_) (.inr hy))))
  refine assignInOrder_cons (wpAny_bindName (store_ok I4 hN hi (.inl hx) rv (fun s3 I5 => assignInOrder_nil (wpAny_pure ?_)) (.inr hx)))
  rw [List.set_comm _ _ (Ne.symm hij)] at I5
  exact ⟨_, H1, I5, q1⟩
/-- name op= e -/
def tAug (i : Nat) (te : TE) (ti : TIp) : TS := fun D σ H => ∃ x, σ[i]? = some (some x) ∧ te σ H fun y H1 => ti x y H1 fun z H2 => D.nx (σ.set i (some z)) H2
theorem ps_aug {i : Nat} {x : Str} {e : Expr} {te : TE} {op : Operator} {ti : TIp} {pos' : Pos} (hN : X.N.Nodup) (hi : X.N[i]? = some x) (hx : Loc X.env.scope x) (he : PE X e te) (ho : PIp X op ti) (hf : X.fn x = true ∨ X.env.scope.names.lookup x = some .local := by first | exact .inl rfl | exact .inr rfl | assumption) :
    PS X (.AugAssign (.Name x pos') op e pos) (tAug i te ti) := by
  intro pins s σ H D I h
  obtain ⟨v, e1, h⟩ := h
  obtain ⟨m, hn, hl⟩ := I.loc
  have vis : Vis X.env.scope x := by rcases hx with k | k; exact .inl k; exact .inr (.inl k)
  obtain ⟨u, r, l⟩ := hl i x v hi e1 vis
  refine wpAny_AugAssign_Name ?_
  have go : wpAny (model X.prog X.w) X.A (eval e X.env) (fun w s₂ => wpAny (model X.prog X.w) X.A (inplaceOp op u w) (fun r s₃ => wpAny (model X.prog X.w) X.A (storeName X.env x r) (fun _ => SP X pins D .next) X.xe s₃) X.xe s₂) X.xe s := by
    refine thn (he pins s σ H _ I h) fun w s1 ⟨y, H1, I1, r1, q1⟩ => ?_
    refine thn (ho pins s1 σ H1 v y u w _ I1 r r1 q1) fun z s2 ⟨zv, H2, I2, r2, q2⟩ => ?_
    exact store_ok I2 hN hi hx r2 (fun s3 I3 => ⟨_, H2, I3, q2⟩) hf
  rcases l with ⟨hk, hm⟩ | ⟨hk, c, hc, hcell⟩
  · exact wpAny_loadName_local I.ok.kind hk hn hm go
  · rcases hk with hk | hk
    · exact wpAny_loadName_cell I.ok.kind hk hc hcell go
    · rcases hx with k | k
      · have : X.env.scope.names.lookup x = some .free := hk
        rw [k] at this; cases this
      · have : X.env.scope.names.lookup x = some .free := hk
        rw [k] at this; cases this
/-- o[i] op= e -/
def tAugS (to ti te : TE) (tget : V → V → Hp → VK → Prop) (tip : TIp) (tset : TSet) : TS := fun D σ H => to σ H fun o H1 => ti σ H1 fun i H2 => tget o i H2 fun x H3 => te σ H3 fun y H4 => tip x y H4 fun z H5 => tset o i z H5 fun H6 => D.nx σ H6
/-- o[i], by values -/
def PGet (X : Cx) (t : V → V → Hp → VK → Prop) : Prop :=
  ∀ (pins : List (Addr × Obj)) (s : Shared) (σ : St) (H : Hp) (o i : V) (ov iv : Value) (Q : VK), Inv X pins σ H s → RelV o ov → RelV i iv → t o i H Q →
    wpAny (model X.prog X.w) X.A (getItem ov iv) (EP X pins σ Q) X.xe s
theorem ps_augS {o i e : Expr} {to ti te : TE} {tget : V → V → Hp → VK → Prop} {tip : TIp} {tset : TSet} {op : Operator} {tpos : Pos} (ho : PE X o to) (hi : PE X i ti) (hg : PGet X tget) (he : PE X e te) (hp : PIp X op tip) (hs : PSet X tset)
    (ha : ∀ ov iv new, augStore i ov iv new = (do holding [new, ov, iv] (setItem ov iv new); release [new, ov, iv] []; pure .next) := by intros; rfl) : PS X (.AugAssign (.Subscript o i tpos) op e pos) (tAugS to ti te tget tip tset) := by
  intro pins s σ H D I h
  refine wpAny_AugAssign_SubscriptAny (thn (ho pins s σ H _ I h) fun ov s1 ⟨x1, H1, I1, r1, q1⟩ => ?_) ha
  refine thn (hi pins s1 σ H1 _ I1 q1) fun iv s2 ⟨x2, H2, I2, r2, q2⟩ => ?_
  refine thn (hg pins s2 σ H2 x1 x2 ov iv _ I2 r1 r2 q2) fun old s3 ⟨x3, H3, I3, r3, q3⟩ => ?_
  refine thn (he pins s3 σ H3 _ I3 q3) fun v s4 ⟨x4, H4, I4, r4, q4⟩ => ?_
  refine thn (hp pins s4 σ H4 x3 x4 old v _ I4 r3 r4 q4) fun new s5 ⟨x5, H5, I5, r5, q5⟩ => ?_
  exact thn (hs pins s5 σ H5 x1 x2 x5 ov iv new _ I5 r1 r2 r5 q5) fun _ s6 ⟨H6, I6, q6⟩ => ⟨σ, H6, I6, q6⟩
/-- ints -/
def ipI (f : Int → Int → Int) : TIp := fun x y H Q => ∃ i j, x = .int i ∧ y = .int j ∧ Q (.int (f i j)) H
theorem ip_add : PIp X .Add (ipI fun i j => i + j) := by
  intro pins s σ H x y v u Q I r1 r2 h
  obtain ⟨i, j, e1, e2, q⟩ := h
  subst e1; subst e2
  obtain ⟨t, rfl⟩ := r1
  obtain ⟨t', rfl⟩ := r2
  exact iadd_int ⟨.int _, H, I.tok _, ⟨_, rfl⟩, q⟩
theorem ip_sub : PIp X .Sub (ipI fun i j => i - j) := by
  intro pins s σ H x y v u Q I r1 r2 h
  obtain ⟨i, j, e1, e2, q⟩ := h
  subst e1; subst e2
  obtain ⟨t, rfl⟩ := r1
  obtain ⟨t', rfl⟩ := r2
  exact isub_int ⟨.int _, H, I.tok _, ⟨_, rfl⟩, q⟩
end

/-! ### while -/
section
variable {X : Cx} {pos : Pos}
/-- the invariant W with its measure -/
def tWhile (c : TT) (tb : TS) : TS := fun D σ H => ∃ W : Nat → St → Hp → Prop, (∃ m, W m σ H) ∧ ∀ m σ H, W m σ H →
  c σ H fun b H1 => if b = true then ∃ N : St → Hp → Prop, (∀ σ' H', N σ' H' → ∃ m', m' < m ∧ W m' σ' H') ∧ tb { D with nx := N, ct := N, bk := D.nx } σ H1 else D.nx σ H1
theorem ps_while {c : Expr} {body : List Stmt} {tc : TT} {tb : TS} (hp : PassesOwn (model X.prog X.w) X.A X.env X.xe) (hc : PT X c tc) (hb : PSs X body tb) : PS X (.While c body [] pos) (tWhile tc tb) := by
  intro pins s σ H D I h
  obtain ⟨W, ⟨m0, w0⟩, turn⟩ := h
  refine wpAny_While (codeAny_whileLoop (fun n s' => ∃ σ' H', Inv X pins σ' H' s' ∧ W n σ' H') ?_ m0 ⟨σ, H, I, w0⟩)
  rintro n s1 ⟨σ1, H1, I1, w1⟩
  refine wpAny_passesOwn hp (thn (hc pins s1 σ1 H1 _ I1 (turn n σ1 H1 w1)) fun b s2 ⟨H2, I2, q2⟩ => ?_)
  cases b with
  | true =>
    obtain ⟨N, hN, q2⟩ := q2
    rw [if_pos rfl]
    refine wpAny_passesOwn hp (thn (hb pins s2 σ1 H2 _ I2 q2) fun f s3 q3 => ?_)
    cases f with
    | next =>
      obtain ⟨σ3, H3, I3, n3⟩ := q3
      obtain ⟨m', hm, w3⟩ := hN σ3 H3 n3
      exact ⟨m', hm, σ3, H3, I3, w3⟩
    | cont =>
      obtain ⟨σ3, H3, I3, n3⟩ := q3
      obtain ⟨m', hm, w3⟩ := hN σ3 H3 n3
      exact ⟨m', hm, σ3, H3, I3, w3⟩
    | brk => exact q3
    | ret v => exact q3
  | false =>
    rw [if_neg Bool.false_ne_true]
    exact wpAny_execs_nil ⟨σ1, H2, I2, q2⟩
end

/-! ### what a loop or a comprehension walks -/
/-- at turn i: it yields x (the heap may grow), or it stops -/
structure It where
  go : Nat → Hp → Prop
  yld : Nat → Hp → V → Hp → Prop
  stop : Nat → Hp → Prop
/-- the iterator's own objects may turn: they are not the frame's, not pinned, younger than the entry (or a comprehension's own) -/
def FpOk (X : Cx) (pins : List (Addr × Obj)) (H : Hp) (b : Addr) : Prop :=
  H b = none ∧ b ≠ X.env.locals ∧ b ∉ X.fs ∧ (b ∈ X.ex ∨ X.s₀.heap.objs.size ≤ b) ∧ (∀ x c, X.env.cells.lookup x = some c → c ≠ b) ∧ ∀ p ∈ X.pn ++ pins, p.1 ≠ b
theorem Inv.fpOk {X : Cx} {pins : List (Addr × Obj)} {σ : St} {H H' : Hp} {s : Shared} {b : Addr} (I : Inv X pins σ H s) (hb : s.heap.objs.size ≤ b) (hn : H' b = none) : FpOk X pins H' b := by
  refine ⟨hn, Nat.ne_of_gt (Nat.lt_of_lt_of_le I.lt hb), I.nofs hb, .inr (Nat.le_trans I.sz hb), fun x c e z => ?_, fun p hp z => ?_⟩
  · obtain ⟨v, q⟩ := I.cell x c e
    exact absurd (Nat.lt_of_lt_of_le q.lt (by rw [z]; exact hb)) (Nat.lt_irrefl _)
  · exact absurd (Nat.lt_of_lt_of_le (Heap.lt_size (I.pin p hp).1) (by rw [z]; exact hb)) (Nat.lt_irrefl _)
structure Turn (P : Program) (w : World) (K : PySem.W.Frag) (tg : Expr) (J : It) (fp : List Addr) (it : Addr) (tn : Nat → Heap → Prop) : Prop where
  mem : it ∈ fp
  obj : ∀ i h, tn i h → ∀ b ∈ fp, ∃ o, h.get? b = some o ∧ ∀ v, o.data ≠ .cell v
  keep : ∀ i h h', tn i h → (∀ b ∈ fp, ∀ o, h.get? b = some o → h'.get? b = some o) → tn i h'
  item : ∀ (X : Cx), X.prog = P → X.w = w → X.K = K → X.calm = true → ∀ (i : Nat) (pins : List (Addr × Obj)) (s : Shared) (σ : St) (H : Hp) (E : Value → Shared → Prop), Inv X pins σ H s → (∀ b ∈ fp, FpOk X pins H b) → tn i s.heap → J.go i H →
    wpAny (model P w) X.A (pyNext (.ref it)) (fun r s1 => ∃ u, r = some u ∧
      wpAny (model P w) X.A (letOwnedTupleGo tg (.ref it) u) (fun _ s2 => ∃ x H', Inv X pins σ H' s2 ∧ RelV x u ∧ J.yld i H x H' ∧ tn (i + 1) s2.heap ∧ ∀ b ∈ fp, H' b = none) E s1) E s
  done : ∀ (X : Cx), X.prog = P → X.w = w → X.K = K → X.calm = true → ∀ (i : Nat) (pins : List (Addr × Obj)) (s : Shared) (σ : St) (H : Hp) (E : Value → Shared → Prop), Inv X pins σ H s → (∀ b ∈ fp, FpOk X pins H b) → tn i s.heap → J.stop i H →
    wpAny (model P w) X.A (pyNext (.ref it)) (fun r s1 => r = none ∧ Inv X pins σ H s1) E s
  self : ∀ (A : Around) (i : Nat) (s : Shared) (Q : Value → Shared → Prop) (E : Value → Shared → Prop), tn i s.heap → Q (.ref it) s → wpAny (model P w) A (pyIter (.ref it)) Q E s
abbrev TI := St → Hp → (It → Hp → Prop) → Prop
/-- an iterator has come -/
def PIE (X : Cx) (pins : List (Addr × Obj)) (σ : St) (tg : Expr) (R : It → Hp → Prop) (itv : Value) (s2 : Shared) : Prop :=
  ∃ (it : Addr) (fp : List Addr) (tn : Nat → Heap → Prop) (J : It) (H' : Hp), itv = .ref it ∧ Inv X pins σ H' s2 ∧ Turn X.prog X.w X.K tg J fp it tn ∧ tn 0 s2.heap ∧ (∀ b ∈ fp, FpOk X pins H' b) ∧ R J H'
def PI (X : Cx) (tg iter : Expr) (wi : TI) : Prop :=
  ∀ (pins : List (Addr × Obj)) (s : Shared) (σ : St) (H : Hp) (R : It → Hp → Prop), Inv X pins σ H s → wi σ H R →
    wpAny (model X.prog X.w) X.A (eval iter X.env) (fun v s1 => wpAny (model X.prog X.w) X.A (pyIter v) (PIE X pins σ tg R) X.xe s1) X.xe s

/-- the step ahead of the store is nothing for an iterator that keeps no tuple -/
theorem go_of {M : Model} {A : Around} {E : Value → Shared → Prop} {s : Shared} {tg : Expr} {it : Addr} {u : Value} {o : Obj} {n : String} {vs : Array Value} {Q : Unit → Shared → Prop} (ho : s.heap.get? it = some o) (hc : o.cls = .type n) (hd : o.data = .fields vs)
    (hn : ["enumerate", "zip", "dict_itemiterator", "dict_reverseitemiterator", "odict_iterator", "itertools.zip_longest", "itertools.pairwise"].contains n = false) (hQ : Q () s) : wpAny M A (letOwnedTupleGo tg (.ref it) u) Q E s := by
  unfold letOwnedTupleGo
  cases tg <;> first
    | exact wpAny_pure hQ
    | (cases u <;> first
        | exact wpAny_pure hQ
        | (refine wpAny_bind (wpAny_load ho ?_)
           rw [hc, hd]
           show wpAny M A (if (["enumerate", "zip", "dict_itemiterator", "dict_reverseitemiterator", "odict_iterator", "itertools.zip_longest", "itertools.pairwise"].contains n && vs[0]? == some (rawInt _)) = true then _ else _) Q E s
           rw [if_neg (by intro h; rw [hn, Bool.false_and] at h; cases h)]
           exact wpAny_pure hQ))

/-- the list at a, as it stands at each turn (a loop may append to it) -/
def Itl (K : PySem.W.Frag) (a : Addr) : It :=
  ⟨fun i H => ∃ xs x, SqL K H a xs ∧ xs[i]? = some x, fun i H x H' => H' = H ∧ ∀ xs, SqL K H a xs → xs[i]? = some x, fun i H => ∃ xs, SqL K H a xs ∧ xs.length ≤ i⟩
def Itt (K : PySem.W.Frag) (a : Addr) : It :=
  ⟨fun i H => ∃ xs x, SqT K H a xs ∧ xs[i]? = some x, fun i H x H' => H' = H ∧ ∀ xs, SqT K H a xs → xs[i]? = some x, fun i H => ∃ xs, SqT K H a xs ∧ xs.length ≤ i⟩
/-- lo, lo + 1, .. (n of them) -/
def Itr (lo : Int) (n : Nat) : It := ⟨fun i _ => i < n, fun i H x H' => H' = H ∧ x = .int (lo + i), fun i _ => n ≤ i⟩
theorem turn_list {P : Program} {w : World} {K : PySem.W.Frag} {tg : Expr} (a it : Addr) : Turn P w K tg (Itl K a) [it] it (fun i h => h.IsListIter it a i) where
  mem := by simp
  obj := fun i h st b hb => by
    have e : b = it := by simpa using hb
    subst e
    obtain ⟨o, e, c, d⟩ := st
    exact ⟨o, e, fun v z => by rw [d] at z; cases z⟩
  keep := fun i h h' st k => st.at fun o e => k it (by simp) o e
  item := by
    intro X hP hw hK hc i pins s σ H E I hf st hg
    subst hP hw hK
    obtain ⟨xs, x, hq, hx⟩ := hg
    obtain ⟨its, rv, p, hz⟩ := I.list hq
    obtain ⟨u, hu, ru⟩ := rv.get hx
    obtain ⟨f0, f1, f2, f3, f4, f5⟩ := hf it (by simp)
    refine wpAny_pyNext_list_item st p.isList (x := u) (by simpa using hu) fun h' st' sb => ?_
    have I1 : Inv X pins σ H { s with heap := h' } := I.turned (t' := s.toks) (fun b o hb e => (sb.2 b hb).trans e) f0 f1 f3 f4 f5
    obtain ⟨o, e, c, d⟩ := id st'
    exact ⟨u, rfl, go_of (s := { s with heap := h' }) e c d (by decide) ⟨x, H, I1, ru, ⟨rfl, fun ys hy => by rw [I.list_inj hy hq]; exact hx⟩, st', fun b hb => (hf b hb).1⟩⟩
  done := by
    intro X hP hw hK hc i pins s σ H E I hf st hg
    subst hP hw hK
    obtain ⟨xs, hq, hx⟩ := hg
    obtain ⟨its, rv, p, hz⟩ := I.list hq
    obtain ⟨f0, f1, f2, f3, f4, f5⟩ := hf it (by simp)
    have hl := rv.length
    exact wpAny_pyNext_list_end (I.ok.hd hc) st p.isList (by simp; omega) fun h' eb => ⟨rfl, I.turned (t' := s.toks) (fun b o hb e => eb b o hb e) f0 f1 f3 f4 f5⟩
  self := fun _ _ _ _ _ st h => wpAny_pyIter_listiter st h
theorem turn_tuple {P : Program} {w : World} {K : PySem.W.Frag} {tg : Expr} (a it : Addr) : Turn P w K tg (Itt K a) [it] it (fun i h => h.IsTupleIter it a i) where
  mem := by simp
  obj := fun i h st b hb => by
    have e : b = it := by simpa using hb
    subst e
    obtain ⟨o, e, c, d⟩ := st
    exact ⟨o, e, fun v z => by rw [d] at z; cases z⟩
  keep := fun i h h' st k => st.at fun o e => k it (by simp) o e
  item := by
    intro X hP hw hK hc i pins s σ H E I hf st hg
    subst hP hw hK
    obtain ⟨xs, x, hq, hx⟩ := hg
    obtain ⟨its, rv, p, hz⟩ := I.tuple hq
    obtain ⟨u, hu, ru⟩ := rv.get hx
    obtain ⟨f0, f1, f2, f3, f4, f5⟩ := hf it (by simp)
    refine wpAny_pyNext_tuple_item st (show s.heap.IsTuple a its.toArray from p) (x := u) (by simpa using hu) fun h' st' sb => ?_
    have I1 : Inv X pins σ H { s with heap := h' } := I.turned (t' := s.toks) (fun b o hb e => (sb.2 b hb).trans e) f0 f1 f3 f4 f5
    obtain ⟨o, e, c, d⟩ := id st'
    exact ⟨u, rfl, go_of (s := { s with heap := h' }) e c d (by decide) ⟨x, H, I1, ru, ⟨rfl, fun ys hy => by rw [I.tuple_inj hy hq]; exact hx⟩, st', fun b hb => (hf b hb).1⟩⟩
  done := by
    intro X hP hw hK hc i pins s σ H E I hf st hg
    subst hP hw hK
    obtain ⟨xs, hq, hx⟩ := hg
    obtain ⟨its, rv, p, hz⟩ := I.tuple hq
    obtain ⟨f0, f1, f2, f3, f4, f5⟩ := hf it (by simp)
    have hl := rv.length
    exact wpAny_pyNext_tuple_end (I.ok.hd hc) st (show s.heap.IsTuple a its.toArray from p) (by simp; omega) fun h' eb => ⟨rfl, I.turned (t' := s.toks) (fun b o hb e => eb b o hb e) f0 f1 f3 f4 f5⟩
  self := fun _ _ _ _ _ st h => wpAny_pyIter_tupleiter st h
theorem turn_range {P : Program} {w : World} {K : PySem.W.Frag} {tg : Expr} (it : Addr) (lo : Int) (n : Nat) : Turn P w K tg (Itr lo n) [it] it (fun i h => IsRangeIter h it (lo + (i : Nat) * 1) ((n : Int) - (i : Nat)) 1) where
  mem := by simp
  obj := fun i h st b hb => by
    have e : b = it := by simpa using hb
    subst e
    exact ⟨_, st, fun v z => by
      have z' : Data.fields _ = Data.cell v := z
      cases z'⟩
  keep := fun i h h' st k => k it (by simp) _ st
  item := by
    intro X hP hw hK hc i pins s σ H E I hf st hg
    subst hP hw hK
    obtain ⟨f0, f1, f2, f3, f4, f5⟩ := hf it (by simp)
    have W := Walks.range (prog := X.prog) (w := X.w) (I.ok.hd hc) it lo 1 n
    refine W.item i s _ _ hg st fun v h' tk hv st' kk => ?_
    obtain ⟨t, rfl⟩ := hv
    have I1 : Inv X pins σ H { s with heap := h', toks := tk } := I.turned (fun b o hb e => kk b o (by simpa using hb) e) f0 f1 f3 f4 f5
    refine ⟨_, rfl, go_of (s := { s with heap := h', toks := tk }) (n := "range_iterator") st' rfl rfl (by decide) ⟨.int (lo + i), H, I1, ⟨t, ?_⟩, ⟨rfl, rfl⟩, st', fun b hb => (hf b hb).1⟩⟩
    rw [Int.mul_one]
  done := by
    intro X hP hw hK hc i pins s σ H E I hf st hg
    subst hP hw hK
    obtain ⟨f0, f1, f2, f3, f4, f5⟩ := hf it (by simp)
    exact wpAny_pyNext_range_end (I.ok.hd hc) st (by have : n ≤ i := hg; omega) fun h' eb => ⟨rfl, I.turned (t' := s.toks) (fun b o hb e => eb b o hb e) f0 f1 f3 f4 f5⟩
  self := fun _ _ _ _ _ st h => wpAny_pyIter_rangeiter st h
end L2

namespace L2
open PySem PySem.Spec PyProof.Rows
section
variable {X : Cx} {tg : Expr}
def iList (K : PySem.W.Frag) (tl : TE) : TI := fun σ H R => tl σ H fun x H1 => ∃ a, x = .ref a ∧ (∃ xs, SqL K H1 a xs) ∧ R (Itl K a) H1
def iTup (K : PySem.W.Frag) (tl : TE) : TI := fun σ H R => tl σ H fun x H1 => ∃ a, x = .ref a ∧ (∃ xs, SqT K H1 a xs) ∧ R (Itt K a) H1
theorem pi_list {l : Expr} {tl : TE} (hl : PE X l tl) : PI X tg l (iList X.K tl) := by
  intro pins s σ H R I h
  refine thn (hl pins s σ H _ I h) fun v s1 ⟨x, H1, I1, r1, q1⟩ => ?_
  obtain ⟨a, e, ⟨xs, hq⟩, q⟩ := q1
  subst e
  cases r1
  obtain ⟨its, rv, p, hz⟩ := I1.list hq
  refine wpAny_pyIter_list p.isList ?_
  refine ⟨s1.heap.objs.size, [s1.heap.objs.size], _, _, H1, rfl, I1.kept (t' := s1.toks) fun b o e => Heap.get?_push_of_some _ e, turn_list a _, ⟨_, Heap.get?_push_size _ rfl, rfl, rfl⟩, fun b hb => ?_, q⟩
  have e : b = s1.heap.objs.size := by simpa using hb
  subst e
  exact I1.fpOk (Nat.le_refl _) (I1.hok.fresh (Nat.le_refl _))
theorem pi_tup {l : Expr} {tl : TE} (hl : PE X l tl) : PI X tg l (iTup X.K tl) := by
  intro pins s σ H R I h
  refine thn (hl pins s σ H _ I h) fun v s1 ⟨x, H1, I1, r1, q1⟩ => ?_
  obtain ⟨a, e, ⟨xs, hq⟩, q⟩ := q1
  subst e
  cases r1
  obtain ⟨its, rv, p, hz⟩ := I1.tuple hq
  refine wpAny_pyIter_tuple (show s1.heap.IsTuple a its.toArray from p) ?_
  refine ⟨s1.heap.objs.size, [s1.heap.objs.size], _, _, H1, rfl, I1.kept (t' := s1.toks) fun b o e => Heap.get?_push_of_some _ e, turn_tuple a _, ⟨_, Heap.get?_push_size _ rfl, rfl, rfl⟩, fun b hb => ?_, q⟩
  have e : b = s1.heap.objs.size := by simpa using hb
  subst e
  exact I1.fpOk (Nat.le_refl _) (I1.hok.fresh (Nat.le_refl _))
/-- a range object just made, walked -/
theorem range_it {pins : List (Addr × Obj)} {σ : St} {H : Hp} {s : Shared} {R : It → Hp → Prop} {E : Value → Shared → Prop} {lo hi : Int} {t u v : Tok} {tk : Nat} (I : Inv X pins σ H s) (h1 : -(2 ^ 62) ≤ lo) (h2 : lo < 2 ^ 62) (h3 : -(2 ^ 62) ≤ hi) (h4 : hi < 2 ^ 62)
    (q : R (Itr lo (hi - lo).toNat) H) : wpAny (model X.prog X.w) X.A (pyIter (.ref s.heap.objs.size)) (PIE X pins σ tg R) E { s with heap := s.heap.push { cls := .type "range", data := .fields #[.int lo t, .int hi u, .int 1 v] }, toks := tk } := by
  refine wpAny_pyIter_range (IsRange.new ..) (small_one h1 h2 h3 h4) ?_
  have I1 : Inv X pins σ H { s with heap := s.heap.push { cls := .type "range", data := .fields #[.int lo t, .int hi u, .int 1 v] }, toks := tk } := I.kept fun b o e => Heap.get?_push_of_some _ e
  refine ⟨(s.heap.push { cls := .type "range", data := .fields #[.int lo t, .int hi u, .int 1 v] }).objs.size, [(s.heap.push { cls := .type "range", data := .fields #[.int lo t, .int hi u, .int 1 v] }).objs.size], _, _, H, rfl,
    I1.kept (t' := tk) fun b o e => Heap.get?_push_of_some _ e, turn_range _ lo (hi - lo).toNat, ?_, fun b hb => ?_, q⟩
  · have e1 : lo + ((0 : Nat) : Int) * 1 = lo := by simp
    have e2 : (((hi - lo).toNat : Nat) : Int) - ((0 : Nat) : Int) = Builtin.Range.rangeSize lo hi 1 := by rw [rangeSize_one]; split <;> omega
    show IsRangeIter _ _ (lo + ((0 : Nat) : Int) * 1) ((((hi - lo).toNat : Nat) : Int) - ((0 : Nat) : Int)) 1
    rw [e1, e2]
    exact Heap.get?_push_size _ rfl
  · have e : b = (s.heap.push { cls := .type "range", data := .fields #[.int lo t, .int hi u, .int 1 v] }).objs.size := by simpa using hb
    subst e
    exact I1.fpOk (Nat.le_refl _) (I1.hok.fresh (Nat.le_refl _))
def iRng1 (ta : TA) : TI := fun σ H R => ta σ H fun vs H1 => ∃ j : Int, vs = [.int j] ∧ -(2 ^ 62) ≤ j ∧ j < 2 ^ 62 ∧ R (Itr 0 j.toNat) H1
def iRng2 (ta : TA) : TI := fun σ H R => ta σ H fun vs H1 => ∃ i j : Int, vs = [.int i, .int j] ∧ (-(2 ^ 62) ≤ i ∧ i < 2 ^ 62 ∧ -(2 ^ 62) ≤ j ∧ j < 2 ^ 62) ∧ R (Itr i (j - i).toNat) H1
theorem pi_range1 {a : Expr} {ta : TA} {p pos : Pos} (hg : Gl X "range") (hm : X.mg "range" = none) (ha : PA X [a] ta) (hs : starEach [a] X.env = [(false, eval a X.env)] := by rfl) : PI X tg (.Call (.Name "range" p) [a] [] pos) (iRng1 ta) := by
  intro pins s σ H R I h
  refine Call_ (ld_blt I hg hm boot_range (PyProof.Rows.callWith_type1 (thn (ha pos pins s σ H _ I h) fun us s1 ⟨vs, H1, I1, r1, q1⟩ => ?_) hs rfl))
  obtain ⟨j, e, q1, q2, q⟩ := q1
  subst e
  cases r1 with
  | cons r rr =>
    cases rr
    obtain ⟨t, rfl⟩ := r
    exact call_range_1 (range_it I1 (by omega) (by omega) q1 q2 (by simpa using q))
theorem pi_range2 {a b : Expr} {ta : TA} {p pos : Pos} (hg : Gl X "range") (hm : X.mg "range" = none) (ha : PA X [a, b] ta) (hs : starEach [a, b] X.env = [(false, eval a X.env), (false, eval b X.env)] := by rfl) (hs2 : starEach [b] X.env = [(false, eval b X.env)] := by rfl) :
    PI X tg (.Call (.Name "range" p) [a, b] [] pos) (iRng2 ta) := by
  intro pins s σ H R I h
  refine Call_ (ld_blt I hg hm boot_range (PyProof.Rows.callWith_type1 (thn (ha pos pins s σ H _ I h) fun us s1 ⟨vs, H1, I1, r1, q1⟩ => ?_) (by rw [hs, hs2]) (by rw [hs2]; rfl)))
  obtain ⟨i, j, e, ⟨q1, q2, q3, q4⟩, q⟩ := q1
  subst e
  cases r1 with
  | cons r rr =>
    cases rr with
    | cons r' rr =>
      cases rr
      obtain ⟨t, rfl⟩ := r
      obtain ⟨t', rfl⟩ := r'
      exact call_range_2 (range_it I1 q1 q2 q3 q4 q)

/-! ### for -/
/-- W: the invariant by the turn and a measure; N: what the body is to reach -/
def tFor (wi : TI) (g : TG) (tb : TS) : TS := fun D σ H => wi σ H fun J H1 => ∃ W : Nat → Nat → St → Hp → Prop, (∃ m, W 0 m σ H1) ∧ ∀ i m σ H, W i m σ H →
  (J.stop i H ∧ D.nx σ H) ∨ (J.go i H ∧ ∃ N : St → Hp → Prop, (∀ σ' H', N σ' H' → ∃ m', m' < m ∧ W (i + 1) m' σ' H') ∧ ∀ x H', J.yld i H x H' → g x σ H' fun σ2 H2 => tb { D with nx := N, ct := N, bk := D.nx } σ2 H2)
/-- the records at fp as they stand -/
def pinsAt (fp : List Addr) (h : Heap) : List (Addr × Obj) := fp.filterMap fun b => (h.get? b).map fun o => (b, o)
theorem mem_pinsAt {fp : List Addr} {h : Heap} {b : Addr} {o : Obj} (hb : b ∈ fp) (e : h.get? b = some o) : (b, o) ∈ pinsAt fp h := List.mem_filterMap.mpr ⟨b, hb, by rw [e]; rfl⟩
theorem of_pinsAt {fp : List Addr} {h : Heap} {p : Addr × Obj} (hp : p ∈ pinsAt fp h) : p.1 ∈ fp ∧ h.get? p.1 = some p.2 := by
  obtain ⟨b, hb, e⟩ := List.mem_filterMap.mp hp
  cases q : h.get? b with
  | none => rw [q] at e; cases e
  | some o =>
    rw [q] at e
    have e' : (b, o) = p := Option.some.inj e
    subst e'
    exact ⟨hb, q⟩
theorem Inv.pinned {pins : List (Addr × Obj)} {σ : St} {H : Hp} {s : Shared} {fp : List Addr} (I : Inv X pins σ H s) (hf : ∀ b ∈ fp, FpOk X pins H b) (ho : ∀ b ∈ fp, ∃ o, s.heap.get? b = some o ∧ ∀ v, o.data ≠ .cell v) : Inv X (pins ++ pinsAt fp s.heap) σ H s :=
  I.pins_of fun p hp => (List.mem_append.mp hp).elim (fun z => I.pin p (List.mem_append_right _ z)) fun z => by
    obtain ⟨hb, e⟩ := of_pinsAt z
    obtain ⟨f0, f1, f2, _⟩ := hf p.1 hb
    obtain ⟨o, e', d⟩ := ho p.1 hb
    rw [e] at e'; cases e'
    exact ⟨e, f0, f1, f2, d⟩
theorem Inv.unpinned {pins pl : List (Addr × Obj)} {σ : St} {H : Hp} {s : Shared} (I : Inv X (pins ++ pl) σ H s) : Inv X pins σ H s := I.pins_of fun p hp => I.pin p (List.mem_append_right _ (List.mem_append_left _ hp))
theorem ps_for {iter : Expr} {body : List Stmt} {wi : TI} {g : TG} {tb : TS} {pos : Pos} (hp : PassesOwn (model X.prog X.w) X.A X.env X.xe) (hc : X.calm = true) (hi : PI X tg iter wi) (hg : PG X tg g) (hb : PSs X body tb)
    (hs : ∀ x, foldedSetIterable iter X.env x = pure x := by intro _; rfl) : PS X (.For tg iter body [] pos) (tFor wi g tb) := by
  intro pins s σ H D I h
  refine wpAny_For (thn (hi pins s σ H _ I h) fun v s1 h1 => thn h1 fun itv s2 h2 => ?_) hs
  obtain ⟨it, fp, tn, J, H2, e, I2, T, st2, f2, W, ⟨m0, w0⟩, turn⟩ := h2
  subst e
  -- what stays true of the iterator's objects through the loop
  have stat : ∀ {H' : Hp}, (∀ b ∈ fp, H' b = none) → ∀ b ∈ fp, FpOk X pins H' b := fun hn b hb => ⟨hn b hb, (f2 b hb).2⟩
  refine codeAny_forLoop_any (fun n s' => ∃ i σ' H', Inv X pins σ' H' s' ∧ tn i s'.heap ∧ (∀ b ∈ fp, H' b = none) ∧ W i n σ' H') ?_ m0 ⟨0, σ, H2, I2, st2, fun b hb => (f2 b hb).1, w0⟩
  rintro n s3 ⟨i, σ3, H3, I3, st3, fr3, w3⟩
  rcases turn i n σ3 H3 w3 with ⟨stop, qn⟩ | ⟨go, N, hN, step⟩
  · refine wpAny_passesOwn hp (thn (T.done X rfl rfl rfl hc i pins s3 σ3 H3 X.xe I3 (stat fr3) st3 stop) fun r s4 ⟨hr, I4⟩ => ?_)
    subst hr
    exact wpAny_execs_nil ⟨σ3, H3, I4, qn⟩
  · refine wpAny_passesOwn hp (thn (T.item X rfl rfl rfl hc i pins s3 σ3 H3 X.xe I3 (stat fr3) st3 go) fun r s4 ⟨u, hr, h4⟩ => ?_)
    subst hr
    refine wpAny_passesOwn hp (thn h4 fun _ s5 ⟨x, H5, I5, r5, y5, st5, fr5⟩ => ?_)
    have I5' := I5.pinned (stat fr5) (T.obj _ _ st5)
    refine wpAny_passesOwn hp (thn (hg _ s5 σ3 H5 x u _ I5' r5 (step x H5 y5)) fun _ s6 ⟨σ6, H6, I6, q6⟩ => ?_)
    refine wpAny_passesOwn hp (thn (hb _ s6 σ6 H6 _ I6 q6) fun f s7 q7 => ?_)
    have again : ∀ {σ7 : St} {H7 : Hp}, Inv X (pins ++ pinsAt fp s5.heap) σ7 H7 s7 → N σ7 H7 → ∃ m, m < n ∧ ∃ i σ' H', Inv X pins σ' H' s7 ∧ tn i s7.heap ∧ (∀ b ∈ fp, H' b = none) ∧ W i m σ' H' := fun {σ7 H7} I7 n7 => by
      obtain ⟨m', hm, w7⟩ := hN σ7 H7 n7
      refine ⟨m', hm, i + 1, σ7, H7, I7.unpinned, T.keep _ _ _ st5 fun b hb o e => (I7.pin (b, o) (List.mem_append_right _ (List.mem_append_right _ (mem_pinsAt hb e)))).1, fun b hb => ?_, w7⟩
      obtain ⟨o, e, d⟩ := T.obj _ _ st5 b hb
      exact (I7.pin (b, o) (List.mem_append_right _ (List.mem_append_right _ (mem_pinsAt hb e)))).2.1
    cases f with
    | next => obtain ⟨σ7, H7, I7, n7⟩ := q7; exact again I7 n7
    | cont => obtain ⟨σ7, H7, I7, n7⟩ := q7; exact again I7 n7
    | brk => obtain ⟨σ7, H7, I7, q7⟩ := q7; exact ⟨σ7, H7, I7.unpinned, q7⟩
    | ret v => obtain ⟨x7, σ7, H7, I7, r7, q7⟩ := q7; exact ⟨x7, σ7, H7, I7.unpinned, r7, q7⟩
end

/-! ### the forms one uses -/
/-- over a list that the body leaves as it is -/
theorem for_list {K : PySem.W.Frag} {a : Addr} {xs : List V} {g : TG} {tb : TS} {D : Ends} {σ : St} {H : Hp} (Pv : Nat → St → Hp → Prop) (h0 : Pv 0 σ H) (hl : ∀ i σ H, i ≤ xs.length → Pv i σ H → SqL K H a xs)
    (hs : ∀ i x σ H, xs[i]? = some x → Pv i σ H → g x σ H fun σ2 H2 => tb { D with nx := Pv (i + 1), ct := Pv (i + 1), bk := D.nx } σ2 H2) (hd : ∀ σ H, Pv xs.length σ H → D.nx σ H) :
    ∃ W : Nat → Nat → St → Hp → Prop, (∃ m, W 0 m σ H) ∧ ∀ i m σ H, W i m σ H →
      ((Itl K a).stop i H ∧ D.nx σ H) ∨ ((Itl K a).go i H ∧ ∃ N : St → Hp → Prop, (∀ σ' H', N σ' H' → ∃ m', m' < m ∧ W (i + 1) m' σ' H') ∧ ∀ x H', (Itl K a).yld i H x H' → g x σ H' fun σ2 H2 => tb { D with nx := N, ct := N, bk := D.nx } σ2 H2) := by
  refine ⟨fun i m σ H => m = xs.length - i ∧ i ≤ xs.length ∧ Pv i σ H, ⟨xs.length, by simp, Nat.zero_le _, h0⟩, ?_⟩
  rintro i m σ H ⟨rfl, hi, p⟩
  have q := hl i σ H hi p
  by_cases hlt : i < xs.length
  · refine .inr ⟨⟨xs, xs[i], q, by simp [hlt]⟩, Pv (i + 1), fun σ' H' p' => ⟨xs.length - (i + 1), by omega, rfl, hlt, p'⟩, fun x H' y => ?_⟩
    obtain ⟨e, y⟩ := y
    subst e
    exact hs i x σ _ (y xs q) p
  · have e : i = xs.length := by omega
    subst e
    exact .inl ⟨⟨xs, q, Nat.le_refl _⟩, hd σ H p⟩
theorem for_tup {K : PySem.W.Frag} {a : Addr} {xs : List V} {g : TG} {tb : TS} {D : Ends} {σ : St} {H : Hp} (Pv : Nat → St → Hp → Prop) (h0 : Pv 0 σ H) (hl : ∀ i σ H, i ≤ xs.length → Pv i σ H → SqT K H a xs)
    (hs : ∀ i x σ H, xs[i]? = some x → Pv i σ H → g x σ H fun σ2 H2 => tb { D with nx := Pv (i + 1), ct := Pv (i + 1), bk := D.nx } σ2 H2) (hd : ∀ σ H, Pv xs.length σ H → D.nx σ H) :
    ∃ W : Nat → Nat → St → Hp → Prop, (∃ m, W 0 m σ H) ∧ ∀ i m σ H, W i m σ H →
      ((Itt K a).stop i H ∧ D.nx σ H) ∨ ((Itt K a).go i H ∧ ∃ N : St → Hp → Prop, (∀ σ' H', N σ' H' → ∃ m', m' < m ∧ W (i + 1) m' σ' H') ∧ ∀ x H', (Itt K a).yld i H x H' → g x σ H' fun σ2 H2 => tb { D with nx := N, ct := N, bk := D.nx } σ2 H2) := by
  refine ⟨fun i m σ H => m = xs.length - i ∧ i ≤ xs.length ∧ Pv i σ H, ⟨xs.length, by simp, Nat.zero_le _, h0⟩, ?_⟩
  rintro i m σ H ⟨rfl, hi, p⟩
  have q := hl i σ H hi p
  by_cases hlt : i < xs.length
  · refine .inr ⟨⟨xs, xs[i], q, by simp [hlt]⟩, Pv (i + 1), fun σ' H' p' => ⟨xs.length - (i + 1), by omega, rfl, hlt, p'⟩, fun x H' y => ?_⟩
    obtain ⟨e, y⟩ := y
    subst e
    exact hs i x σ _ (y xs q) p
  · have e : i = xs.length := by omega
    subst e
    exact .inl ⟨⟨xs, q, Nat.le_refl _⟩, hd σ H p⟩
theorem for_range {lo : Int} {n : Nat} {g : TG} {tb : TS} {D : Ends} {σ : St} {H : Hp} (Pv : Nat → St → Hp → Prop) (h0 : Pv 0 σ H)
    (hs : ∀ i σ H, i < n → Pv i σ H → g (.int (lo + i)) σ H fun σ2 H2 => tb { D with nx := Pv (i + 1), ct := Pv (i + 1), bk := D.nx } σ2 H2) (hd : ∀ σ H, Pv n σ H → D.nx σ H) :
    ∃ W : Nat → Nat → St → Hp → Prop, (∃ m, W 0 m σ H) ∧ ∀ i m σ H, W i m σ H →
      ((Itr lo n).stop i H ∧ D.nx σ H) ∨ ((Itr lo n).go i H ∧ ∃ N : St → Hp → Prop, (∀ σ' H', N σ' H' → ∃ m', m' < m ∧ W (i + 1) m' σ' H') ∧ ∀ x H', (Itr lo n).yld i H x H' → g x σ H' fun σ2 H2 => tb { D with nx := N, ct := N, bk := D.nx } σ2 H2) := by
  refine ⟨fun i m σ H => m = n - i ∧ i ≤ n ∧ Pv i σ H, ⟨n, by simp, Nat.zero_le _, h0⟩, ?_⟩
  rintro i m σ H ⟨rfl, hi, p⟩
  by_cases hlt : i < n
  · refine .inr ⟨hlt, Pv (i + 1), fun σ' H' p' => ⟨n - (i + 1), by omega, rfl, hlt, p'⟩, fun x H' y => ?_⟩
    obtain ⟨e, y⟩ := y
    subst e y
    exact hs i σ _ hlt p
  · have e : i = n := by omega
    subst e
    exact .inl ⟨Nat.le_refl _, hd σ H p⟩
/-- while, by a word and a measure of the state -/
theorem while_by {c : TT} {tb : TS} {D : Ends} {σ : St} {H : Hp} (Pv : St → Hp → Prop) (μ : St → Hp → Nat) (h0 : Pv σ H)
    (hs : ∀ σ H, Pv σ H → c σ H fun b H1 => if b = true then tb { D with nx := fun σ' H' => Pv σ' H' ∧ μ σ' H' < μ σ H, ct := fun σ' H' => Pv σ' H' ∧ μ σ' H' < μ σ H, bk := D.nx } σ H1 else D.nx σ H1)
    (mono : ∀ σ H Q Q', (∀ b H1, Q b H1 → Q' b H1) → c σ H Q → c σ H Q') : tWhile c tb D σ H := by
  refine ⟨fun m σ H => m = μ σ H ∧ Pv σ H, ⟨_, rfl, h0⟩, ?_⟩
  rintro m σ H ⟨rfl, p⟩
  refine mono σ H _ _ (fun b H1 q => ?_) (hs σ H p)
  cases b with
  | true => exact ⟨_, fun σ' H' ⟨p', l⟩ => ⟨_, l, rfl, p'⟩, q⟩
  | false => exact q
end L2

namespace L2
open PySem PySem.Spec PyProof.Rows

abbrev R2 := V → V → Hp → VK → Prop
/-- a two-place operation on values: f is binaryOp op, inplaceOp op or compareOp op -/
def OpR (X : Cx) (f : Value → Value → Sem Value) (r : R2) : Prop :=
  ∀ (pins : List (Addr × Obj)) (s : Shared) (σ : St) (H : Hp) (x y : V) (v u : Value) (Q : VK), Inv X pins σ H s → RelV x v → RelV y u → r x y H Q →
    wpAny (model X.prog X.w) X.A (f v u) (EP X pins σ Q) X.xe s
/-- a one-place operation -/
def UnR (X : Cx) (f : Value → Sem Value) (r : V → Hp → VK → Prop) : Prop :=
  ∀ (pins : List (Addr × Obj)) (s : Shared) (σ : St) (H : Hp) (x : V) (v : Value) (Q : VK), Inv X pins σ H s → RelV x v → r x H Q →
    wpAny (model X.prog X.w) X.A (f v) (EP X pins σ Q) X.xe s
/-- a call of a value that is known (a builtin, a type) with values -/
def CallR (X : Cx) (f : Value) (r : List V → Hp → VK → Prop) : Prop :=
  ∀ (pins : List (Addr × Obj)) (s : Shared) (σ : St) (H : Hp) (xs : List V) (us : List Value) (Q : VK), Inv X pins σ H s → Vals xs us → r xs H Q →
    wpAny (model X.prog X.w) X.A (call f us) (EP X pins σ Q) X.xe s
/-- a value's truth -/
def TruR (X : Cx) (r : V → Hp → (Bool → Hp → Prop) → Prop) : Prop :=
  ∀ (pins : List (Addr × Obj)) (s : Shared) (σ : St) (H : Hp) (x : V) (v : Value) (Q : Bool → Hp → Prop), Inv X pins σ H s → RelV x v → r x H Q →
    wpAny (model X.prog X.w) X.A (truthy v) (TP X pins σ Q) X.xe s

def tOp (r : R2) (ta tb : TE) : TE := fun σ H Q => ta σ H fun x H1 => tb σ H1 fun y H2 => r x y H2 Q
def tUn (r : V → Hp → VK → Prop) (ta : TE) : TE := fun σ H Q => ta σ H fun x H1 => r x H1 Q
/-- ints in, under C, and a value out -/
def rI (C : Int → Int → Prop) (g : Int → Int → V) : R2 := fun x y H Q => ∃ i j, x = .int i ∧ y = .int j ∧ C i j ∧ Q (g i j) H
def rI0 (g : Int → Int → V) : R2 := fun x y H Q => ∃ i j, x = .int i ∧ y = .int j ∧ Q (g i j) H
def rU (g : Int → V) : V → Hp → VK → Prop := fun x H Q => ∃ i, x = .int i ∧ Q (g i) H

section
variable {X : Cx} {a b c : Expr} {ta tb tc : TE} {pos : Pos}

theorem binT (ha : PE X a ta) (hb : PE X b tb) {pins : List (Addr × Obj)} {s : Shared} {σ : St} {H : Hp} {R : V → V → Hp → Prop} (I : Inv X pins σ H s)
    (h : ta σ H fun x H1 => tb σ H1 fun y H2 => R x y H2) {Q : Value → Shared → Prop} {f : Value → Value → Sem Value}
    (hf : ∀ v u s2 x y H2, Inv X pins σ H2 s2 → RelV x v → RelV y u → R x y H2 → wpAny (model X.prog X.w) X.A (f v u) Q X.xe s2) :
    wpAny (model X.prog X.w) X.A (eval a X.env) (fun v s₁ => wpAny (model X.prog X.w) X.A (eval b X.env) (fun u s₂ => wpAny (model X.prog X.w) X.A (f v u) Q X.xe s₂) X.xe s₁) X.xe s := by
  refine thn (ha pins s σ H _ I h) fun v s1 ⟨x, H1, I1, r1, q1⟩ => ?_
  refine thn (hb pins s1 σ H1 _ I1 q1) fun u s2 ⟨y, H2, I2, r2, q2⟩ => ?_
  exact hf v u s2 x y H2 I2 r1 r2 q2

theorem pe_op {op : Operator} {r : R2} (ho : OpR X (binaryOp op) r) (ha : PE X a ta) (hb : PE X b tb) : PE X (.BinOp a op b pos) (tOp r ta tb) := by
  intro pins s σ H Q I h
  exact wpAny_BinOp (binT ha hb I h fun v u s2 x y H2 I2 rx ry q => ho pins s2 σ H2 x y v u Q I2 rx ry q)
theorem pe_un {op : UnaryOp} {r : V → Hp → VK → Prop} (ho : UnR X (unaryOp op) r) (ha : PE X a ta) : PE X (.UnaryOp op a pos) (tUn r ta) := by
  intro pins s σ H Q I h
  exact UnaryOp_ (thn (ha pins s σ H _ I h) fun v s1 ⟨x, H1, I1, r1, q1⟩ => ho pins s1 σ H1 x v Q I1 r1 q1)
/-- a op= e at a name: the name's slot i -/
theorem augR {op : Operator} {r : R2} (ho : OpR X (inplaceOp op) r) {pins : List (Addr × Obj)} {s : Shared} {σ : St} {H : Hp} {x y : V} {v u : Value} {Q : VK} (I : Inv X pins σ H s)
    (rx : RelV x v) (ry : RelV y u) (q : r x y H Q) : wpAny (model X.prog X.w) X.A (inplaceOp op v u) (EP X pins σ Q) X.xe s := ho pins s σ H x y v u Q I rx ry q

/-! ### ints -/
theorem opI {f : Value → Value → Sem Value} {C : Int → Int → Prop} {g : Int → Int → Int}
    (rule : ∀ (i j : Int) (t u : Tok) (s : Shared) (Q : Value → Shared → Prop) (E : Value → Shared → Prop), C i j → Q (.int (g i j) s.toks) { s with toks := s.toks + 1 } → wpAny (model X.prog X.w) X.A (f (.int i t) (.int j u)) Q E s) :
    OpR X f (rI C fun i j => .int (g i j)) := by
  intro pins s σ H x y v u Q I rx ry h
  obtain ⟨i, j, rfl, rfl, hc, q⟩ := h
  obtain ⟨t, rfl⟩ := rx
  obtain ⟨t', rfl⟩ := ry
  exact rule i j t t' s _ _ hc ⟨.int (g i j), H, I.tok _, ⟨_, rfl⟩, q⟩
theorem opI0 {f : Value → Value → Sem Value} {g : Int → Int → Int}
    (rule : ∀ (i j : Int) (t u : Tok) (s : Shared) (Q : Value → Shared → Prop) (E : Value → Shared → Prop), Q (.int (g i j) s.toks) { s with toks := s.toks + 1 } → wpAny (model X.prog X.w) X.A (f (.int i t) (.int j u)) Q E s) :
    OpR X f (rI0 fun i j => .int (g i j)) := by
  intro pins s σ H x y v u Q I rx ry h
  obtain ⟨i, j, rfl, rfl, q⟩ := h
  obtain ⟨t, rfl⟩ := rx
  obtain ⟨t', rfl⟩ := ry
  exact rule i j t t' s _ _ ⟨.int (g i j), H, I.tok _, ⟨_, rfl⟩, q⟩
theorem opB0 {f : Value → Value → Sem Value} {g : Int → Int → Bool}
    (rule : ∀ (i j : Int) (t u : Tok) (s : Shared) (Q : Value → Shared → Prop) (E : Value → Shared → Prop), Q (.bool (g i j)) s → wpAny (model X.prog X.w) X.A (f (.int i t) (.int j u)) Q E s) :
    OpR X f (rI0 fun i j => .bl (g i j)) := by
  intro pins s σ H x y v u Q I rx ry h
  obtain ⟨i, j, rfl, rfl, q⟩ := h
  obtain ⟨t, rfl⟩ := rx
  obtain ⟨t', rfl⟩ := ry
  exact rule i j t t' s _ _ ⟨.bl (g i j), H, I, rfl, q⟩

def CDiv (i j : Int) : Prop := 0 < j ∧ j < 1073741824
def CDivN (i j : Int) : Prop := j ≠ 0 ∧ j.natAbs < 1073741824
def CPow (i j : Int) : Prop := 0 ≤ j ∧ j ≤ 1000000 ∧ i.natAbs < 2 ^ 64
def CMul (i j : Int) : Prop := (-(2 ^ 64) < i ∧ i < 2 ^ 64) ∨ (-(2 ^ 64) < j ∧ j < 2 ^ 64)
theorem CMul.ok {i j : Int} (h : CMul i j) : IntMulOk i j := by
  rcases h with ⟨h1, h2⟩ | ⟨h1, h2⟩
  · exact .of_left (intBits_le_64 h1 h2)
  · exact .of_right (intBits_le_64 h1 h2)
theorem two_pow_nn (k : Nat) : (0 : Int) ≤ 2 ^ k := by
  rw [two_pow_cast]
  exact Int.natCast_nonneg _

theorem op_add : OpR X (binaryOp .Add) (rI0 fun i j => .int (i + j)) := opI0 fun _ _ _ _ _ _ _ q => add_int q
theorem op_sub : OpR X (binaryOp .Sub) (rI0 fun i j => .int (i - j)) := opI0 fun _ _ _ _ _ _ _ q => sub_int q
theorem op_mul : OpR X (binaryOp .Mult) (rI CMul fun i j => .int (i * j)) := opI fun _ _ _ _ _ _ _ hc q => mul_int q hc.ok
/-- // by a positive divisor -/
theorem op_fdiv : OpR X (binaryOp .FloorDiv) (rI CDiv fun i j => .int (i / j)) := opI fun i j _ _ _ _ _ hc q => by
  have h1 : (0 : Int) < j := hc.1
  have h2 : j < 1073741824 := hc.2
  exact floordiv_int (by omega) (by rw [Int.fdiv_eq_ediv_of_nonneg i (by omega)]; exact q) (.inl (PyProof.noPylong_small (by omega)))
theorem op_fdivN : OpR X (binaryOp .FloorDiv) (rI CDivN fun i j => .int (i.fdiv j)) := opI fun _ _ _ _ _ _ _ hc q => floordiv_int hc.1 q (.inl (PyProof.noPylong_small hc.2))
/-- % by a positive divisor of any size -/
theorem op_mod : OpR X (binaryOp .Mod) (rI (fun _ j => 0 < j) fun i j => .int (i % j)) := opI fun i j _ _ _ _ _ hc q => by
  have h1 : (0 : Int) < j := hc
  exact mod_int' (by omega) (by rw [Int.fmod_eq_emod_of_nonneg i (by omega)]; exact q)
theorem op_modN : OpR X (binaryOp .Mod) (rI (fun _ j => j ≠ 0) fun i j => .int (i.fmod j)) := opI fun _ _ _ _ _ _ _ hc q => mod_int' hc q
theorem op_pow : OpR X (binaryOp .Pow) (rI CPow fun i j => .int (i ^ j.toNat)) := opI fun _ _ _ _ _ _ _ hc q => pow_int_small hc.1 hc.2.1 hc.2.2 q
theorem op_shl : OpR X (binaryOp .LShift) (rI CPow fun i j => .int (i * 2 ^ j.toNat)) := opI fun _ _ _ _ _ _ _ hc q => lshift_int_small hc.1 hc.2.1 hc.2.2 q
theorem op_shr : OpR X (binaryOp .RShift) (rI (fun _ j => 0 ≤ j) fun i j => .int (i / 2 ^ j.toNat)) := opI fun i j _ _ _ _ _ hc q =>
  rshift_int hc (by rw [Int.fdiv_eq_ediv_of_nonneg i (two_pow_nn _)]; exact q)
theorem op_and : OpR X (binaryOp .BitAnd) (rI0 fun i j => .int (Builtin.bitAnd i j)) := opI0 fun _ _ _ _ _ _ _ q => and_int q
theorem op_or : OpR X (binaryOp .BitOr) (rI0 fun i j => .int (Builtin.bitOr i j)) := opI0 fun _ _ _ _ _ _ _ q => or_int q
theorem op_xor : OpR X (binaryOp .BitXor) (rI0 fun i j => .int (Builtin.bitXor i j)) := opI0 fun _ _ _ _ _ _ _ q => xor_int q

theorem iop_add : OpR X (inplaceOp .Add) (rI0 fun i j => .int (i + j)) := opI0 fun _ _ _ _ _ _ _ q => iadd_int q
theorem iop_sub : OpR X (inplaceOp .Sub) (rI0 fun i j => .int (i - j)) := opI0 fun _ _ _ _ _ _ _ q => isub_int q
theorem iop_mul : OpR X (inplaceOp .Mult) (rI CMul fun i j => .int (i * j)) := opI fun _ _ _ _ _ _ _ hc q => imul_int q hc.ok
theorem iop_fdiv : OpR X (inplaceOp .FloorDiv) (rI CDiv fun i j => .int (i / j)) := opI fun i j _ _ _ _ _ hc q => by
  have h1 : (0 : Int) < j := hc.1
  have h2 : j < 1073741824 := hc.2
  exact ifloordiv_int (by omega) (by rw [Int.fdiv_eq_ediv_of_nonneg i (by omega)]; exact q) (.inl (PyProof.noPylong_small (by omega)))
theorem iop_mod : OpR X (inplaceOp .Mod) (rI (fun _ j => 0 < j) fun i j => .int (i % j)) := opI fun i j _ _ _ _ _ hc q => by
  have h1 : (0 : Int) < j := hc
  exact imod_int (by omega) (by rw [Int.fmod_eq_emod_of_nonneg i (by omega)]; exact q)
theorem iop_shl : OpR X (inplaceOp .LShift) (rI CPow fun i j => .int (i * 2 ^ j.toNat)) := opI fun _ _ _ _ _ _ _ hc q => ilshift_int_small hc.1 hc.2.1 hc.2.2 q
theorem iop_shr : OpR X (inplaceOp .RShift) (rI (fun _ j => 0 ≤ j) fun i j => .int (i / 2 ^ j.toNat)) := opI fun i j _ _ _ _ _ hc q =>
  irshift_int hc (by rw [Int.fdiv_eq_ediv_of_nonneg i (two_pow_nn _)]; exact q)
theorem iop_and : OpR X (inplaceOp .BitAnd) (rI0 fun i j => .int (Builtin.bitAnd i j)) := opI0 fun _ _ _ _ _ _ _ q => iand_int q
theorem iop_or : OpR X (inplaceOp .BitOr) (rI0 fun i j => .int (Builtin.bitOr i j)) := opI0 fun _ _ _ _ _ _ _ q => ior_int q
theorem iop_xor : OpR X (inplaceOp .BitXor) (rI0 fun i j => .int (Builtin.bitXor i j)) := opI0 fun _ _ _ _ _ _ _ q => ixor_int q

theorem unI {f : Value → Sem Value} {g : Int → Int}
    (rule : ∀ (i : Int) (t : Tok) (s : Shared) (Q : Value → Shared → Prop) (E : Value → Shared → Prop), Q (.int (g i) s.toks) { s with toks := s.toks + 1 } → wpAny (model X.prog X.w) X.A (f (.int i t)) Q E s) :
    UnR X f (rU fun i => .int (g i)) := by
  intro pins s σ H x v Q I rx h
  obtain ⟨i, rfl, q⟩ := h
  obtain ⟨t, rfl⟩ := rx
  exact rule i t s _ _ ⟨.int (g i), H, I.tok _, ⟨_, rfl⟩, q⟩
theorem un_neg : UnR X (unaryOp .USub) (rU fun i => .int (-i)) := unI fun _ _ _ _ _ q => neg_int q
theorem un_inv : UnR X (unaryOp .Invert) (rU fun i => .int (Builtin.bitNot i)) := unI fun _ _ _ _ _ q => invert_int q

/-! ### bools among ints: n += (a < b) -/
theorem op_add_ib : OpR X (binaryOp .Add) (fun x y H Q => ∃ i k, x = .int i ∧ y = .bl k ∧ Q (.int (i + b2i k)) H) := by
  intro pins s σ H x y v u Q I rx ry h
  obtain ⟨i, k, rfl, rfl, q⟩ := h
  obtain ⟨t, rfl⟩ := rx
  cases ry
  exact add_int_bool ⟨.int (i + b2i k), H, I.tok _, ⟨_, rfl⟩, q⟩
end

/-! ### comparisons -/
/-- the scalars that == tells apart as data does -/
def scal : V → V → Bool
  | .non, .non => true | .non, .int _ => true | .int _, .non => true | .non, .bl _ => true | .bl _, .non => true | .non, .str _ => true | .str _, .non => true
  | .int _, .int _ => true | .bl _, .bl _ => true | .str _, .str _ => true | .byt _, .byt _ => true
  | .int _, .str _ => true | .str _, .int _ => true | .bl _, .str _ => true | .str _, .bl _ => true
  | _, _ => false
def rEq : R2 := fun x y H Q => scal x y = true ∧ Q (.bl (decide (x = y))) H
def rNe : R2 := fun x y H Q => scal x y = true ∧ Q (.bl (!decide (x = y))) H

theorem dec_int {i j : Int} : decide (V.int i = V.int j) = (i == j) := by
  rw [Bool.eq_iff_iff]
  simp
theorem dec_bl {i j : Bool} : decide (V.bl i = V.bl j) = (i == j) := by
  rw [Bool.eq_iff_iff]
  simp
theorem dec_str {i j : Str} : decide (V.str i = V.str j) = (i == j) := by
  rw [Bool.eq_iff_iff]
  simp
theorem dec_byt {i j : Array UInt8} : decide (V.byt i = V.byt j) = (i.toList == j.toList) := by
  rw [Bool.eq_iff_iff]
  cases i
  cases j
  simp

section
variable {X : Cx} {a b c : Expr} {ta tb tc : TE} {pos : Pos}
theorem fin_bl {pins : List (Addr × Obj)} {σ : St} {H : Hp} {s : Shared} {Q : VK} {k k' : Bool} (I : Inv X pins σ H s) (q : Q (.bl k) H) (e : k = k') : EP X pins σ Q (.bool k') s := by
  subst e
  exact ⟨.bl k, H, I, rfl, q⟩
theorem op_eq : OpR X (compareOp .Eq) rEq := by
  intro pins s σ H x y v u Q I rx ry h
  obtain ⟨hs, q⟩ := h
  cases x with
  | non =>
    cases rx
    cases y with
    | non => cases ry; exact PySem.EqNone.eq_none_none (fin_bl I q (by simp))
    | bl j => cases ry; exact PySem.EqNone.eq_none_bool (fin_bl I q (by simp))
    | int j => obtain ⟨t', rfl⟩ := ry; exact PySem.EqNone.eq_none_int (fin_bl I q (by simp))
    | str j => obtain ⟨t', rfl⟩ := ry; exact PySem.EqNone.eq_none_str (fin_bl I q (by simp))
    | _ => exact absurd (show false = true from hs) Bool.false_ne_true
  | bl i =>
    cases rx
    cases y with
    | non => cases ry; exact PySem.EqNone.eq_bool_none (fin_bl I q (by simp))
    | bl j => cases ry; exact eq_bool (fin_bl I q dec_bl)
    | str j => obtain ⟨t', rfl⟩ := ry; exact PySem.EqMixed.eq_bool_str (fin_bl I q (by simp))
    | _ => exact absurd (show false = true from hs) Bool.false_ne_true
  | int i =>
    obtain ⟨t, rfl⟩ := rx
    cases y with
    | non => cases ry; exact PySem.EqNone.eq_int_none (fin_bl I q (by simp))
    | int j => obtain ⟨t', rfl⟩ := ry; exact eq_int (fin_bl I q dec_int)
    | str j => obtain ⟨t', rfl⟩ := ry; exact PySem.EqMixed.eq_int_str (fin_bl I q (by simp))
    | _ => exact absurd (show false = true from hs) Bool.false_ne_true
  | str i =>
    obtain ⟨t, rfl⟩ := rx
    cases y with
    | non => cases ry; exact PySem.EqNone.eq_str_none (fin_bl I q (by simp))
    | bl j => cases ry; exact PySem.EqMixed.eq_str_bool (fin_bl I q (by simp))
    | int j => obtain ⟨t', rfl⟩ := ry; exact PySem.EqMixed.eq_str_int (fin_bl I q (by simp))
    | str j => obtain ⟨t', rfl⟩ := ry; exact eq_str (fin_bl I q dec_str)
    | _ => exact absurd (show false = true from hs) Bool.false_ne_true
  | byt i =>
    obtain ⟨t, rfl⟩ := rx
    cases y with
    | byt j => obtain ⟨t', rfl⟩ := ry; exact PySem.W.eq_bytes (fin_bl I q dec_byt)
    | _ => exact absurd (show false = true from hs) Bool.false_ne_true
  | _ => cases y <;> exact absurd (show false = true from hs) Bool.false_ne_true
theorem op_ne : OpR X (compareOp .NotEq) rNe := by
  intro pins s σ H x y v u Q I rx ry h
  obtain ⟨hs, q⟩ := h
  cases x with
  | non =>
    cases rx
    cases y with
    | non => cases ry; exact PySem.EqNone.ne_none_none (fin_bl I q (by simp))
    | bl j => cases ry; exact PySem.EqNone.ne_none_bool (fin_bl I q (by simp))
    | int j => obtain ⟨t', rfl⟩ := ry; exact PySem.EqNone.ne_none_int (fin_bl I q (by simp))
    | str j => obtain ⟨t', rfl⟩ := ry; exact PySem.EqNone.ne_none_str (fin_bl I q (by simp))
    | _ => exact absurd (show false = true from hs) Bool.false_ne_true
  | bl i =>
    cases rx
    cases y with
    | non => cases ry; exact PySem.EqNone.ne_bool_none (fin_bl I q (by simp))
    | bl j => cases ry; exact ne_bool (fin_bl I q (congrArg not dec_bl))
    | str j => obtain ⟨t', rfl⟩ := ry; exact PySem.EqMixed.ne_bool_str (fin_bl I q (by simp))
    | _ => exact absurd (show false = true from hs) Bool.false_ne_true
  | int i =>
    obtain ⟨t, rfl⟩ := rx
    cases y with
    | non => cases ry; exact PySem.EqNone.ne_int_none (fin_bl I q (by simp))
    | int j => obtain ⟨t', rfl⟩ := ry; exact ne_int (fin_bl I q (congrArg not dec_int))
    | str j => obtain ⟨t', rfl⟩ := ry; exact PySem.EqMixed.ne_int_str (fin_bl I q (by simp))
    | _ => exact absurd (show false = true from hs) Bool.false_ne_true
  | str i =>
    obtain ⟨t, rfl⟩ := rx
    cases y with
    | non => cases ry; exact PySem.EqNone.ne_str_none (fin_bl I q (by simp))
    | bl j => cases ry; exact PySem.EqMixed.ne_str_bool (fin_bl I q (by simp))
    | int j => obtain ⟨t', rfl⟩ := ry; exact PySem.EqMixed.ne_str_int (fin_bl I q (by simp))
    | str j => obtain ⟨t', rfl⟩ := ry; exact ne_str (fin_bl I q (congrArg not dec_str))
    | _ => exact absurd (show false = true from hs) Bool.false_ne_true
  | byt i =>
    obtain ⟨t, rfl⟩ := rx
    cases y with
    | byt j => obtain ⟨t', rfl⟩ := ry; exact PySem.W.ne_bytes (fin_bl I q (congrArg not dec_byt))
    | _ => exact absurd (show false = true from hs) Bool.false_ne_true
  | _ => cases y <;> exact absurd (show false = true from hs) Bool.false_ne_true

theorem op_lt : OpR X (compareOp .Lt) (rI0 fun i j => .bl (decide (i < j))) := opB0 fun _ _ _ _ _ _ _ q => lt_int q
theorem op_le : OpR X (compareOp .LtE) (rI0 fun i j => .bl (decide (i ≤ j))) := opB0 fun _ _ _ _ _ _ _ q => le_int q
theorem op_gt : OpR X (compareOp .Gt) (rI0 fun i j => .bl (decide (j < i))) := opB0 fun _ _ _ _ _ _ _ q => gt_int q
theorem op_ge : OpR X (compareOp .GtE) (rI0 fun i j => .bl (decide (j ≤ i))) := opB0 fun _ _ _ _ _ _ _ q => ge_int q
theorem op_lt_str : OpR X (compareOp .Lt) (fun x y H Q => ∃ i j, x = .str i ∧ y = .str j ∧ Q (.bl (decide (i.cps.toList < j.cps.toList))) H) := by
  intro pins s σ H x y v u Q I rx ry h
  obtain ⟨i, j, rfl, rfl, q⟩ := h
  obtain ⟨t, rfl⟩ := rx
  obtain ⟨t', rfl⟩ := ry
  exact lt_str (fin_bl I q rfl)
/-- the one string within the other -/
theorem op_in_str : OpR X (compareOp .In) (fun x y H Q => ∃ i j, x = .str i ∧ y = .str j ∧ Q (.bl (!(Builtin.Str.occurrences j i 0 j.length 1).isEmpty)) H) := by
  intro pins s σ H x y v u Q I rx ry h
  obtain ⟨i, j, rfl, rfl, q⟩ := h
  obtain ⟨t, rfl⟩ := rx
  obtain ⟨t', rfl⟩ := ry
  exact in_str (fin_bl I q rfl)

/-- is None, is not None: the right side a value none -/
theorem op_isN : OpR X (compareOp .Is) (fun x y H Q => y = .non ∧ Q (.bl (decide (x = .non))) H) := by
  intro pins s σ H x y v u Q I rx ry h
  obtain ⟨rfl, q⟩ := h
  cases ry
  refine is_none_gen (fin_bl I q ?_)
  cases x <;> first
    | (cases rx; rfl)
    | (obtain ⟨t, rfl⟩ := rx; rfl)
theorem op_notN : OpR X (compareOp .IsNot) (fun x y H Q => y = .non ∧ Q (.bl (!decide (x = .non))) H) := by
  intro pins s σ H x y v u Q I rx ry h
  obtain ⟨rfl, q⟩ := h
  cases ry
  refine isnot_none_gen (fin_bl I q ?_)
  cases x <;> first
    | (cases rx; rfl)
    | (obtain ⟨t, rfl⟩ := rx; rfl)

theorem op_notin_str : OpR X (compareOp .NotIn) (fun x y H Q => ∃ i j, x = .str i ∧ y = .str j ∧ Q (.bl (!(!(Builtin.Str.occurrences j i 0 j.length 1).isEmpty))) H) := by
  intro pins s σ H x y v u Q I rx ry h
  obtain ⟨i, j, rfl, rfl, q⟩ := h
  obtain ⟨t, rfl⟩ := rx
  obtain ⟨t', rfl⟩ := ry
  exact notIn_str (fin_bl I q rfl)
/-- is, is not of two objects that are tracked lists or instances -/
def isObj : HO → Bool
  | .lst _ => true
  | .ins _ _ _ => true
  | _ => false
theorem obj_there {pins : List (Addr × Obj)} {s : Shared} {σ : St} {H : Hp} {a : Addr} {o : HO} (I : Inv X pins σ H s) (h : H a = some o) (p : isObj o = true) : ∃ ob, s.heap.get? a = some ob ∧ ob.cls ≠ .type "tuple" := by
  cases o with
  | lst xs =>
    obtain ⟨_, its, n, _, e⟩ : xs.length ≤ sizeLine ∧ ∃ (its : List Value) (n : Nat), Vals xs its ∧ s.heap.get? a = some { cls := .type "list", data := .seq its.toArray n } := I.hok a _ h
    exact ⟨_, e, (by show Value.type "list" ≠ .type "tuple"; decide +kernel)⟩
  | ins C dx fs =>
    have x := I.hok a _ h
    obtain ⟨_, _, _, e, _⟩ := x
    exact ⟨_, e, (by show Value.ref C ≠ .type "tuple"; exact fun z => by cases z)⟩
  | _ => exact absurd (show false = true from p) Bool.false_ne_true
theorem op_is_ref : OpR X (compareOp .Is) (fun x y H Q => ∃ a b oa ob, x = .ref a ∧ y = .ref b ∧ H a = some oa ∧ isObj oa = true ∧ H b = some ob ∧ isObj ob = true ∧ Q (.bl (decide (a = b))) H) := by
  intro pins s σ H x y v u Q I rx ry h
  obtain ⟨a, b, oa, ob, rfl, rfl, ha, pa, hb, pb, q⟩ := h
  cases rx
  cases ry
  obtain ⟨o1, e1, n1⟩ := obj_there I ha pa
  obtain ⟨o2, e2, _⟩ := obj_there I hb pb
  by_cases z : a = b
  · subst z
    exact wpAny_is_ref_self (fin_bl I q (by simp))
  · exact wpAny_is_ref_other z e1 e2 n1 (fin_bl I q (by simp [z]))
theorem op_isnot_ref : OpR X (compareOp .IsNot) (fun x y H Q => ∃ a b oa ob, x = .ref a ∧ y = .ref b ∧ H a = some oa ∧ isObj oa = true ∧ H b = some ob ∧ isObj ob = true ∧ Q (.bl (!decide (a = b))) H) := by
  intro pins s σ H x y v u Q I rx ry h
  obtain ⟨a, b, oa, ob, rfl, rfl, ha, pa, hb, pb, q⟩ := h
  cases rx
  cases ry
  obtain ⟨o1, e1, n1⟩ := obj_there I ha pa
  obtain ⟨o2, e2, _⟩ := obj_there I hb pb
  by_cases z : a = b
  · subst z
    exact wpAny_isNot_ref_self (fin_bl I q (by simp))
  · exact wpAny_isNot_ref_other z e1 e2 n1 (fin_bl I q (by simp [z]))

/-- two rules for one operation: by cases -/
theorem OpR.or {f : Value → Value → Sem Value} {r r' : R2} (h : OpR X f r) (h' : OpR X f r') : OpR X f (fun x y H Q => r x y H Q ∨ r' x y H Q) := by
  intro pins s σ H x y v u Q I rx ry q
  rcases q with q | q
  · exact h pins s σ H x y v u Q I rx ry q
  · exact h' pins s σ H x y v u Q I rx ry q

theorem nomark (b : Expr) {op : CmpOp} (h : op ≠ .In := by decide) (h2 : op ≠ .NotIn := by decide) : behindInMarks op b = false := by
  have e1 : (op == CmpOp.In) = false := by cases op <;> first | rfl | exact absurd rfl h
  have e2 : (op == CmpOp.NotIn) = false := by cases op <;> first | rfl | exact absurd rfl h2
  cases b <;> simp [behindInMarks, e1, e2]
/-- a comparison as a value; hm: nomark b, or (for in, not in) by with_unfolding_all rfl -/
theorem pe_cmpR {op : CmpOp} {r : R2} (ho : OpR X (compareOp op) r) (ha : PE X a ta) (hb : PE X b tb) (hm : behindInMarks op b = false) : PE X (.Compare a [op] [b] pos) (tOp r ta tb) := by
  intro pins s σ H Q I h
  exact wpAny_Compare1 (binT ha hb I h fun v u s2 x y H2 I2 rx ry q => ho pins s2 σ H2 x y v u Q I2 rx ry q) hm
/-- a reading of a value as a test -/
def tTest (t : TE) : TT := fun σ H Q => t σ H fun x H' => ∃ k, x = .bl k ∧ Q k H'
theorem pt_cmpR {op : CmpOp} {r : R2} (ho : OpR X (compareOp op) r) (ha : PE X a ta) (hb : PE X b tb) (hm : behindInMarks op b = false) : PT X (.Compare a [op] [b] pos) (tTest (tOp r ta tb)) := by
  intro pins s σ H Q I h
  refine wpAny_isTrue_Compare1 (thn (ha pins s σ H _ I h) fun v s1 ⟨x, H1, I1, r1, q1⟩ => thn (hb pins s1 σ H1 _ I1 q1) fun u s2 ⟨y, H2, I2, r2, q2⟩ =>
    thn (ho pins s2 σ H2 x y v u _ I2 r1 r2 q2) fun c s3 ⟨z, H3, I3, r3, k, e, q3⟩ => ?_) hm
  subst e
  cases r3
  exact wpAny_truthy_bool ⟨H3, I3, q3⟩
/-- a op1 b op2 c -/
def tChain (r r' : R2) (ta tb tc : TE) : TE := fun σ H Q => ta σ H fun x H1 => tb σ H1 fun y H2 => r x y H2 fun z H3 => ∃ k, z = .bl k ∧
  (if k = true then tc σ H3 fun w' H4 => r' y w' H4 Q else Q (.bl false) H3)
theorem pe_chain {op op' : CmpOp} {r r' : R2} (ho : OpR X (compareOp op) r) (ho' : OpR X (compareOp op') r') (ha : PE X a ta) (hb : PE X b tb) (hc : PE X c tc)
    (hm : lastMarks [op, op'] [b, c] = false := by with_unfolding_all rfl) : PE X (.Compare a [op, op'] [b, c] pos) (tChain r r' ta tb tc) := by
  intro pins s σ H Q I h
  refine Compare_chain (thn (ha pins s σ H _ I h) fun v s1 ⟨x, H1, I1, r1, q1⟩ => chain_link (thn (hb pins s1 σ H1 _ I1 q1) fun u s2 ⟨y, H2, I2, r2, q2⟩ =>
    thn (ho pins s2 σ H2 x y v u _ I2 r1 r2 q2) fun d s3 ⟨z, H3, I3, r3, k, e, q3⟩ => ?_)) hm
  subst e
  cases r3
  refine wpAny_truthy_bool ?_
  cases k with
  | false => exact ite_ff ⟨.bl false, H3, I3, rfl, q3⟩
  | true => exact ite_tt (chain_last (thn (hc pins s3 σ H3 _ I3 q3) fun w' s4 ⟨z', H4, I4, r4, q4⟩ => ho' pins s4 σ H4 y z' u w' Q I4 r2 r4 q4))
theorem pt_chain {op op' : CmpOp} {r r' : R2} (ho : OpR X (compareOp op) r) (ho' : OpR X (compareOp op') r') (ha : PE X a ta) (hb : PE X b tb) (hc : PE X c tc)
    (hm : lastMarks [op, op'] [b, c] = false := by with_unfolding_all rfl) : PT X (.Compare a [op, op'] [b, c] pos) (tTest (tChain r r' ta tb tc)) := by
  intro pins s σ H Q I h
  refine isTrue_chain (thn (ha pins s σ H _ I h) fun v s1 ⟨x, H1, I1, r1, q1⟩ => test_link (thn (hb pins s1 σ H1 _ I1 q1) fun u s2 ⟨y, H2, I2, r2, q2⟩ =>
    thn (ho pins s2 σ H2 x y v u _ I2 r1 r2 q2) fun d s3 ⟨z, H3, I3, r3, k, e, q3⟩ => ?_)) hm
  subst e
  cases r3
  refine wpAny_truthy_bool ?_
  cases k with
  | false =>
    obtain ⟨k', e', q'⟩ := q3
    cases e'
    exact ite_ff ⟨H3, I3, q'⟩
  | true =>
    refine ite_tt (test_last (thn (hc pins s3 σ H3 _ I3 q3) fun w' s4 ⟨z', H4, I4, r4, q4⟩ => thn (ho' pins s4 σ H4 y z' u w' _ I4 r2 r4 q4) fun d' s5 ⟨z2, H5, I5, r5, k2, e2, q5⟩ => ?_))
    subst e2
    cases r5
    exact wpAny_truthy_bool ⟨H5, I5, q5⟩

/-! ### truth -/
/-- a value's truth by the abstract heap -/
def TruV (K : PySem.W.Frag) (x : V) (H : Hp) (k : Bool) : Prop :=
  match x with
  | .non => k = false
  | .bl b => k = b
  | .int i => k = (i != 0)
  | .str y => y.length ≤ sizeLine ∧ k = ((y.length : Int) != 0)
  | .byt y => y.size ≤ sizeLine ∧ k = ((y.size : Int) != 0)
  | .ref p => (∃ xs, SqL K H p xs ∧ k = !xs.isEmpty) ∨ (∃ xs, SqT K H p xs ∧ k = !xs.isEmpty) ∨ ∃ kvs, H p = some (.dK kvs) ∧ k = !kvs.isEmpty
  | _ => False
theorem isEmpty_kv {κ : Type} {kvs : List (κ × V)} {vs : List (κ × Value)} (r : KV kvs vs) : (!vs.isEmpty) = !kvs.isEmpty := by
  cases r <;> rfl
theorem isEmpty_of {xs : List V} {its : List Value} (r : Vals xs its) : (!its.toArray.isEmpty) = !xs.isEmpty := by
  cases r <;> simp
theorem line63 : (sizeLine : Nat) < 2 ^ 63 := by rw [sizeLine_eq]; decide
theorem tru_ok : TruR X (fun x H Q => ∃ k, TruV X.K x H k ∧ Q k H) := by
  intro pins s σ H x v Q I rx h
  obtain ⟨k, e, q⟩ := h
  have hl := line63
  have hs : sizeLine = 16777216 := sizeLine_eq
  cases x with
  | non =>
    cases rx
    have e' : k = false := e
    subst e'
    exact truthy_none ⟨H, I, q⟩
  | bl b =>
    cases rx
    have e' : k = b := e
    subst e'
    exact wpAny_truthy_bool ⟨H, I, q⟩
  | int i =>
    obtain ⟨t, rfl⟩ := rx
    have e' : k = (i != 0) := e
    subst e'
    exact PySem.P.truthy_int ⟨H, I, q⟩
  | str y =>
    obtain ⟨t, rfl⟩ := rx
    obtain ⟨hy, e'⟩ : y.length ≤ sizeLine ∧ k = ((y.length : Int) != 0) := e
    subst e'
    exact PySem.P.truthy_str (by omega) ⟨H, I.tok _, q⟩
  | byt y =>
    obtain ⟨t, rfl⟩ := rx
    obtain ⟨hy, e'⟩ : y.size ≤ sizeLine ∧ k = ((y.size : Int) != 0) := e
    subst e'
    exact PySem.W.truthy_bytes (by omega) ⟨H, I.tok _, q⟩
  | ref p =>
    cases rx
    have e' : (∃ xs, SqL X.K H p xs ∧ k = !xs.isEmpty) ∨ (∃ xs, SqT X.K H p xs ∧ k = !xs.isEmpty) ∨ ∃ kvs, H p = some (.dK kvs) ∧ k = !kvs.isEmpty := e
    rcases e' with ⟨xs, hx, e'⟩ | ⟨xs, hx, e'⟩ | ⟨kvs, hx, e'⟩
    · subst e'
      obtain ⟨its, r, pl, hz⟩ := I.list hx
      have hlen := r.length
      exact wpAny_truthy_list pl.isList (by simp only [List.size_toArray]; omega) ⟨H, I.tok _, by rw [isEmpty_of r]; exact q⟩
    · subst e'
      obtain ⟨its, r, pl, hz⟩ := I.tuple hx
      have hlen := r.length
      exact truthy_tuple pl (by simp only [List.size_toArray]; omega) ⟨H, I.tok _, by rw [isEmpty_of r]; exact q⟩
    · subst e'
      obtain ⟨hz, hS, vs, r, m⟩ : kvs.length ≤ sizeLine ∧ (p == sysModules) = false ∧ ∃ vs, KV kvs vs ∧ s.heap.DictOf (mixKind X.prog X.w) p vs := I.hok p _ hx
      have hlen : kvs.length = vs.length := Paired.length r
      exact wpAny_truthy_dict hS m (by omega) ⟨H, I.tok _, by rw [isEmpty_kv r]; exact q⟩
  | _ => exact (show False from e).elim
/-- any expression whose test is its value's truth (a name, a call, a subscript, a field ..: he by fun _ => rfl) -/
theorem pt_truth (ha : PE X a ta) (he : ∀ whole, isTrue a X.env whole = (do let v ← whole; standAt a.pos; holding [v] (truthy v))) :
    PT X a (fun σ H Q => ta σ H fun x H' => ∃ k, TruV X.K x H' k ∧ Q k H') := by
  intro pins s σ H Q I h
  exact isTrue_plain (thn (ha pins s σ H _ I h) fun v s1 ⟨x, H1, I1, r1, q1⟩ => tru_ok pins s1 σ H1 x v Q I1 r1 q1) (he _)

/-! ### strs and bytes -/
theorem pe_byt {x : List UInt8} {k : Nat} : PE X (.Constant (.bytes x) k pos) (fun _ H Q => Q (.byt x.toArray) H) := fun _ _ _ H _ I h => PySem.W.Constant_bytes ⟨.byt x.toArray, H, I.tok _, ⟨_, rfl⟩, h⟩
theorem op_add_str : OpR X (binaryOp .Add) (fun x y H Q => ∃ i j, x = .str i ∧ y = .str j ∧ i.length + j.length ≤ sizeLine ∧ Q (.str (i ++ j)) H) := by
  intro pins s σ H x y v u Q I rx ry h
  obtain ⟨i, j, rfl, rfl, hz, q⟩ := h
  obtain ⟨t, rfl⟩ := rx
  obtain ⟨t', rfl⟩ := ry
  exact add_str (fun t' tk => ⟨.str (i ++ j), H, I.tok _, ⟨_, rfl⟩, q⟩) hz
theorem iop_add_str : OpR X (inplaceOp .Add) (fun x y H Q => ∃ i j, x = .str i ∧ y = .str j ∧ i.length + j.length ≤ sizeLine ∧ Q (.str (i ++ j)) H) := by
  intro pins s σ H x y v u Q I rx ry h
  obtain ⟨i, j, rfl, rfl, hz, q⟩ := h
  obtain ⟨t, rfl⟩ := rx
  obtain ⟨t', rfl⟩ := ry
  exact iadd_str (fun t' tk => ⟨.str (i ++ j), H, I.tok _, ⟨_, rfl⟩, q⟩) hz
theorem op_add_byt : OpR X (binaryOp .Add) (fun x y H Q => ∃ i j, x = .byt i ∧ y = .byt j ∧ i.size + j.size ≤ 16777216 ∧ Q (.byt (i ++ j)) H) := by
  intro pins s σ H x y v u Q I rx ry h
  obtain ⟨i, j, rfl, rfl, hz, q⟩ := h
  obtain ⟨t, rfl⟩ := rx
  obtain ⟨t', rfl⟩ := ry
  exact PySem.W.KBy.add_bytes hz (fun t' tk => ⟨.byt (i ++ j), H, I.tok _, ⟨_, rfl⟩, q⟩)

def PlainIxT (b : Expr) : Prop := ∀ o i, subscripted b false o i = operate [o, i] (getItem o i)
/-- s[i], 0 ≤ i < len -/
theorem pe_item_str (ha : PE X a ta) (hb : PE X b tb) (hs : PlainIxT b) :
    PE X (.Subscript a b pos) (tOp (fun x y H Q => ∃ z i c, x = .str z ∧ y = .int i ∧ 0 ≤ i ∧ i < 2 ^ 63 ∧ i < z.length ∧ z.cps[i.toNat]? = some c ∧ Q (.str ⟨#[c]⟩) H) ta tb) := by
  intro pins s σ H Q I h
  refine Subscript_ (binT ha hb I h fun v u s2 x y H2 I2 rx ry q => ?_)
  obtain ⟨z, i, c, rfl, rfl, h0, h63, h1, hc, q⟩ := q
  obtain ⟨t, rfl⟩ := rx
  obtain ⟨t', rfl⟩ := ry
  have e : seqIndex? i z.length = some i.toNat := PySem.StrLaws.seqIndex_nonneg h0 h1
  exact tail_any (typeIs_str s2 z t) slot_str_getitem.lookup (getItem_str (c := c) (by
    have e1 : decide (i < -(2 ^ 63 : Int)) = false := decide_eq_false (by omega)
    have e2 : decide (i ≥ 2 ^ 63) = false := decide_eq_false (by omega)
    rw [e1, e2] <;> rfl) (by rw [e]; exact hc) ⟨.str ⟨#[c]⟩, H2, I2.tok _, ⟨_, rfl⟩, q⟩) (hs _ _)
/-- b[i], 0 ≤ i < len -/
theorem pe_item_byt (ha : PE X a ta) (hb : PE X b tb) (hs : PlainIxT b) :
    PE X (.Subscript a b pos) (tOp (fun x y H Q => ∃ (z : List UInt8) (i : Int), x = .byt z.toArray ∧ y = .int i ∧ z.length ≤ sizeLine ∧ 0 ≤ i ∧ i < z.length ∧ Q (.int ((z.getD i.toNat 0).toNat : Nat)) H) ta tb) := by
  intro pins s σ H Q I h
  refine Subscript_ (binT ha hb I h fun v u s2 x y H2 I2 rx ry q => ?_)
  obtain ⟨z, i, rfl, rfl, hz, h0, h1, q⟩ := q
  obtain ⟨t, rfl⟩ := rx
  obtain ⟨t', rfl⟩ := ry
  have hl : sizeLine = 16777216 := sizeLine_eq
  exact tail_any (PySem.W.typeIs_bytes s2 z.toArray t) PySem.W.FB.slot_bytes_getitem.lookup (PySem.W.getItem_bytes (by omega) h0 h1 ⟨.int ((z.getD i.toNat 0).toNat : Nat), H2, I2.tok _, ⟨_, rfl⟩, q⟩) (hs _ _)

/-! ### scalar builtins, by CallR -/
theorem vals1 {x : V} {us : List Value} (r : Vals [x] us) : ∃ u, us = [u] ∧ RelV x u := by
  cases r with
  | cons r1 r2 => cases r2; exact ⟨_, rfl, r1⟩
theorem vals2 {x y : V} {us : List Value} (r : Vals [x, y] us) : ∃ u w', us = [u, w'] ∧ RelV x u ∧ RelV y w' := by
  cases r with
  | cons r1 r2 =>
    cases r2 with
    | cons r3 r4 => cases r4; exact ⟨_, _, rfl, r1, r3⟩
theorem call_abs : CallR X (.builtin "abs") (fun xs H Q => ∃ i, xs = [.int i] ∧ Q (.int (if i < 0 then -i else i)) H) := by
  intro pins s σ H xs us Q I r h
  obtain ⟨i, rfl, q⟩ := h
  obtain ⟨u, rfl, t, rfl⟩ := vals1 r
  exact call_abs_int fun u tk => ⟨.int (if i < 0 then -i else i), H, I.tok _, ⟨_, rfl⟩, q⟩
theorem call_max2 (hc : X.calm = true) : CallR X (.builtin "max") (fun xs H Q => ∃ i j, xs = [.int i, .int j] ∧ Q (.int (if j > i then j else i)) H) := by
  intro pins s σ H xs us Q I r h
  obtain ⟨i, j, rfl, q⟩ := h
  obtain ⟨u, w', rfl, ⟨t, rfl⟩, ⟨t', rfl⟩⟩ := vals2 r
  refine max_two_ints (I.ok.hd hc) fun h' tk k => ⟨_, H, I.kept k, ?_, q⟩
  by_cases hj : j > i
  · rw [if_pos hj, if_pos hj]; exact ⟨_, rfl⟩
  · rw [if_neg hj, if_neg hj]; exact ⟨_, rfl⟩
theorem call_min2 (hc : X.calm = true) : CallR X (.builtin "min") (fun xs H Q => ∃ i j, xs = [.int i, .int j] ∧ Q (.int (if j < i then j else i)) H) := by
  intro pins s σ H xs us Q I r h
  obtain ⟨i, j, rfl, q⟩ := h
  obtain ⟨u, w', rfl, ⟨t, rfl⟩, ⟨t', rfl⟩⟩ := vals2 r
  refine min_two_ints (I.ok.hd hc) fun h' tk k => ⟨_, H, I.kept k, ?_, q⟩
  by_cases hj : j < i
  · rw [if_pos hj, if_pos hj]; exact ⟨_, rfl⟩
  · rw [if_neg hj, if_neg hj]; exact ⟨_, rfl⟩
theorem call_int1 : CallR X (.type "int") (fun xs H Q => (∃ i, xs = [.int i] ∧ Q (.int i) H) ∨ ∃ k, xs = [.bl k] ∧ Q (.int (if k then 1 else 0)) H) := by
  intro pins s σ H xs us Q I r h
  rcases h with ⟨i, rfl, q⟩ | ⟨k, rfl, q⟩
  · obtain ⟨u, rfl, t, rfl⟩ := vals1 r
    exact call_int_int ⟨.int i, H, I, ⟨_, rfl⟩, q⟩
  · obtain ⟨u, rfl, r1⟩ := vals1 r
    cases r1
    exact call_int_bool ⟨.int (if k then 1 else 0), H, I.tok _, ⟨_, rfl⟩, q⟩
theorem call_bool1 : CallR X (.type "bool") (fun xs H Q => (∃ i, xs = [.int i] ∧ Q (.bl (i != 0)) H) ∨ ∃ k, xs = [.bl k] ∧ Q (.bl k) H) := by
  intro pins s σ H xs us Q I r h
  rcases h with ⟨i, rfl, q⟩ | ⟨k, rfl, q⟩
  · obtain ⟨u, rfl, t, rfl⟩ := vals1 r
    exact call_bool_int ⟨.bl (i != 0), H, I, rfl, q⟩
  · obtain ⟨u, rfl, r1⟩ := vals1 r
    cases r1
    exact call_bool_bool ⟨.bl k, H, I, rfl, q⟩
theorem call_str_int : CallR X (.type "str") (fun xs H Q => ∃ i, xs = [.int i] ∧ i.natAbs.log2 < 1920 ∧ Q (.str (toString i)) H) := by
  intro pins s σ H xs us Q I r h
  obtain ⟨i, rfl, hz, q⟩ := h
  obtain ⟨u, rfl, t, rfl⟩ := vals1 r
  exact PySem.P.str_of_int hz ⟨.str _, H, I.tok _, ⟨_, rfl⟩, q⟩
theorem call_ord : CallR X (.builtin "ord") (fun xs H Q => ∃ x, xs = [.str x] ∧ x.length = 1 ∧ Q (.int (x.cps.getD 0 0 : Nat)) H) := by
  intro pins s σ H xs us Q I r h
  obtain ⟨x, rfl, hz, q⟩ := h
  obtain ⟨u, rfl, t, rfl⟩ := vals1 r
  exact ord_of_one hz ⟨.int _, H, I.tok _, ⟨_, rfl⟩, q⟩
theorem call_chr : CallR X (.builtin "chr") (fun xs H Q => ∃ i, xs = [.int i] ∧ 0 ≤ i ∧ i ≤ 1114111 ∧ Q (.str ⟨#[i.toNat]⟩) H) := by
  intro pins s σ H xs us Q I r h
  obtain ⟨i, rfl, h0, h1, q⟩ := h
  obtain ⟨u, rfl, t, rfl⟩ := vals1 r
  exact chr_of_range h0 h1 ⟨.str _, H, I.tok _, ⟨_, rfl⟩, q⟩
/-- len of a str, a bytes, a list, a tuple -/
def LenV (K : PySem.W.Frag) (x : V) (H : Hp) (n : Nat) : Prop :=
  match x with
  | .str y => y.length ≤ sizeLine ∧ n = y.length
  | .byt y => y.size ≤ sizeLine ∧ n = y.size
  | .ref p => (∃ xs, SqL K H p xs ∧ n = xs.length) ∨ ∃ xs, SqT K H p xs ∧ n = xs.length
  | _ => False
theorem call_len : CallR X (.builtin "len") (fun xs H Q => ∃ x n, xs = [x] ∧ LenV X.K x H n ∧ Q (.int n) H) := by
  intro pins s σ H xs us Q I r h
  obtain ⟨x, n, rfl, e, q⟩ := h
  obtain ⟨u, rfl, rx⟩ := vals1 r
  have hl := line63
  have hs : sizeLine = 16777216 := sizeLine_eq
  cases x with
  | str y =>
    obtain ⟨t, rfl⟩ := rx
    obtain ⟨hy, e'⟩ : y.length ≤ sizeLine ∧ n = y.length := e
    subst e'
    exact len_str (by omega) ⟨.int _, H, I.tok _, ⟨_, rfl⟩, q⟩
  | byt y =>
    obtain ⟨t, rfl⟩ := rx
    obtain ⟨hy, e'⟩ : y.size ≤ sizeLine ∧ n = y.size := e
    subst e'
    exact PySem.W.len_bytes (by omega) ⟨.int _, H, I.tok _, ⟨_, rfl⟩, q⟩
  | ref p =>
    cases rx
    have e' : (∃ xs, SqL X.K H p xs ∧ n = xs.length) ∨ ∃ xs, SqT X.K H p xs ∧ n = xs.length := e
    rcases e' with ⟨xs, hx, e'⟩ | ⟨xs, hx, e'⟩
    · subst e'
      obtain ⟨its, r', pl, hz⟩ := I.list hx
      have hlen := r'.length
      exact Calls.call_len_list pl.isList (by simp only [List.size_toArray]; omega) ⟨.int xs.length, H, I.tok _, ⟨_, by simp only [List.size_toArray]; rw [hlen]⟩, q⟩
    · subst e'
      obtain ⟨its, r', pl, hz⟩ := I.tuple hx
      have hlen := r'.length
      exact len_tuple pl (by simp only [List.size_toArray]; omega) ⟨.int xs.length, H, I.tok _, ⟨_, by simp only [List.size_toArray]; rw [hlen]⟩, q⟩
  | _ => exact (show False from e).elim
/-- divmod: a new tuple -/
theorem call_divmod : CallR X (.builtin "divmod") (fun xs H Q => ∃ i j, xs = [.int i, .int j] ∧ CDiv i j ∧ ∀ p, H p = none → Q (.ref p) (upd H p (.tup [.int (i / j), .int (i % j)]))) := by
  intro pins s σ H xs us Q I r h
  obtain ⟨i, j, rfl, ⟨h1, h2⟩, q⟩ := h
  obtain ⟨u, w', rfl, ⟨t, rfl⟩, ⟨t', rfl⟩⟩ := vals2 r
  refine divmod_int (by omega) ?_ (.inl (PyProof.noPylong_small (by omega)))
  rw [Int.fdiv_eq_ediv_of_nonneg i (by omega), Int.fmod_eq_emod_of_nonneg i (by omega)]
  have hn : H s.heap.objs.size = none := I.hok.fresh (Nat.le_refl _)
  refine ⟨.ref s.heap.objs.size, _, ?_, rfl, q _ hn⟩
  refine I.laid (fun b o e => Heap.get?_push_of_some _ e) (Nat.le_refl _) ⟨by simp only [List.length_cons, List.length_nil]; rw [sizeLine_eq]; decide, [.int (i / j) s.toks, .int (i % j) (s.toks + 1)], .cons ⟨_, rfl⟩ (.cons ⟨_, rfl⟩ .nil), ?_⟩
  exact ⟨_, Heap.get?_push_size s.heap rfl, rfl, 0, rfl⟩
end
end L2

namespace L2
open PySem PySem.Spec PyProof.Rows

/-! ### an instance, its attributes a map -/
structure ObjM (h : Heap) (x dx C : Addr) (mA : Str → Option Value) : Prop where
  obj : h.get? x = some (PySem.W.instObj C dx)
  ns : h.Ns1 dx mA
  ne : dx ≠ x

theorem lookIn_ns {h : Heap} {dx : Addr} {mA : Str → Option Value} (n : h.Ns1 dx mA) : ∃ od, h.get? dx = some od ∧ ∀ name, PySem.W.lookIn name od = some (mA name) := by
  obtain ⟨o, es, ep, ho, hd, hk, _, hm⟩ := n
  refine ⟨o, ho, fun name => ?_⟩
  have e := hm name
  unfold nsFind findBy at e
  rw [← Array.find?_toList] at e
  unfold PySem.W.lookIn
  rw [hd]
  dsimp only
  split
  · rename_i y q
    rw [q] at e
    exact congrArg some e
  · rename_i q
    rw [q] at e
    have a : es.toList.any (·.refKey) = false := by
      rw [List.any_eq_false]
      intro y hy
      obtain ⟨z, t, hkey⟩ := hk y (Array.mem_toList_iff.mp hy)
      simp [DictEntry.refKey, hkey]
    have a' : ¬ es.toList.any (·.refKey) = true := by rw [a]; exact Bool.false_ne_true
    rw [if_neg a']
    exact congrArg some e

theorem ObjM.look {h : Heap} {x dx C : Addr} {mA : Str → Option Value} (I : ObjM h x dx C mA) : ∃ od, PySem.W.InstAt h x (PySem.W.instObj C dx) C (some od) ∧ ∀ name, PySem.W.lookIn name od = some (mA name) :=
  let ⟨od, ho, hl⟩ := lookIn_ns I.ns
  ⟨od, ⟨I.obj, rfl, rfl, ho⟩, hl⟩

section
variable {prog : Program} {w : World} {A : Around} {E : Value → Shared → Prop} {s : Shared} {K : PySem.W.Frag} {x dx C f : Addr} {mA : Str → Option Value} {name : Str} {v : Value}

theorem get_map {expr : Bool} {Q : Value → Shared → Prop} (X : K.In s.heap) (I : ObjM s.heap x dx C mA) (hg : PySem.W.plainGet K C name = true) (hh : PySem.W.hasDictIn K C = true)
    (ha : PySem.W.findIn K (.ref C) name = some none) (hv : mA name = some v) (hv' : PySem.W.handedIn v = true) (h : Q v { s with toks := s.toks + 1 }) :
    wpAny (model prog w) A (getAttr (.ref x) name expr) Q E s := by
  obtain ⟨od, J, hl⟩ := I.look
  exact PySem.W.get_value X J (PySem.W.plainGet_of hg).1 (PySem.W.findObj_own hh ha rfl (by rw [hl, hv])) hv' h

theorem get_const {expr : Bool} {a : Value} {Q : Value → Shared → Prop} (X : K.In s.heap) (I : ObjM s.heap x dx C mA) (hg : PySem.W.plainGet K C name = true) (hh : PySem.W.hasDictIn K C = true)
    (ha : PySem.W.findIn K (.ref C) name = some (some a)) (hn : PySem.W.specialIn K a "__get__" = some none) (hc : PySem.W.copiedNames.contains name = false) (hv : mA name = none) (hv' : PySem.W.handedIn a = true)
    (h : Q a { s with toks := s.toks + 1 }) : wpAny (model prog w) A (getAttr (.ref x) name expr) Q E s := by
  obtain ⟨od, J, hl⟩ := I.look
  exact PySem.W.get_value X J (PySem.W.plainGet_of hg).1 (PySem.W.findObj_cls hh ha hn hv' hc (by rw [hl, hv])) hv' h

theorem get_meth {pl : Sem Bool} {Q : Value × List Value → Shared → Prop} (X : K.In s.heap) (I : ObjM s.heap x dx C mA) (hg : PySem.W.plainGet K C name = true)
    (hf : PySem.W.findIn K (.ref C) name = some (some (.ref f))) (ht : PySem.W.isFn K (.ref f) = true) (hv : mA name = none) (h : Q (.ref f, [.ref x]) s) :
    wpAny (model prog w) A (getMethod (.ref x) name pl) Q E s := by
  obtain ⟨od, J, hl⟩ := I.look
  exact PySem.W.method_fn X J (PySem.W.plainGet_of hg).1 (PySem.W.plainGet_of hg).2 hf (beq_iff_eq.mp ht) (by show (PySem.W.lookIn name od).map (·.isSome) = some false; rw [hl, hv]; rfl) h

theorem set_map {ns : List Str} {Q : Unit → Shared → Prop} (X : K.In s.heap) (I : ObjM s.heap x dx C mA)
    (hs : PySem.W.findIn K (.ref C) "__setattr__" = some (some (.builtin "object.__setattr__"))) (hp : PySem.W.plainOver K C = true) (ht : PySem.W.takerIn K C name = some none) (hh : PySem.W.hasDictIn K C = true)
    (hw : PySem.Within mA ns) (hsz : ns.length ≤ sizeLine)
    (h : ∀ h', ObjM h' x dx C (fun y => if y = name then some v else mA y) → Heap.SameBut dx s.heap h' → Q () { s with heap := h', toks := s.toks + 2 }) :
    wpAny (model prog w) A (setAttr (.ref x) name v) Q E s := by
  obtain ⟨od, J, hl⟩ := I.look
  refine PySem.W.set_plain X J hs (PySem.W.osa_open (s := { s with toks := s.toks + 1 }) (r := none) X J hp ht fun b => ?_)
  obtain ⟨cd, hc, hd'⟩ := PySem.W.any_some hh
  have hx : s.heap.get? x = some ⟨.ref C, some dx, .plain, #[]⟩ := I.obj
  refine wpAny_bind (wpAny_pure (wpAny_bind (wpAny_bind (wpAny_loadPart hx (wpAny_bind (PySem.W.Looks.here (s := { s with toks := s.toks + 1 }) (PySem.W.looks_clsIn X hc) ?_))))))
  rw [hd']
  refine wpAny_pure (a := some dx) (wpAny_bind (wpAny_pure (wpAny_bind ?_)))
  refine wpAny_nsSet1 (s := { s with toks := s.toks + 1 }) I.ns fun h' hn2 hs2 => ?_
  obtain ⟨oD, esD, epD, hoD, hdD, hcD⟩ := hn2.count (PySem.Within.cons name v hw)
  refine wpAny_bind (wpAny_lookBehind hoD (by rw [hdD]; exact pastItsLine_dict (Nat.le_trans hcD (by rw [List.length_cons]; omega))) ?_)
  exact wpAny_pure (h _ ⟨(hs2.2 _ (Ne.symm I.ne)).trans I.obj, hn2, I.ne⟩ hs2)

/-- C(..): the dict at the heap's end, the instance behind it; then its __init__ -/
theorem make_map {R : Result → Shared → Prop} {vs : List Value} {kw : List (Str × Value)} (X : K.In s.heap) (hm : PySem.W.makesIn K C = true)
    (hi : PySem.W.findIn K (.ref C) "__init__" = some (some (.ref f))) (hf : PySem.W.typeIn K (.ref f) = some (.type "function"))
    (h : codeAny (model prog w) (A.under (.builtin "type.__call__" ⟨.ref C :: vs, kw⟩)) (.call (.ref f) ⟨.ref (s.heap.objs.size + 1) :: vs, kw⟩) (PySem.W.InitBack (s.heap.objs.size + 1) R)
      { s with heap := (s.heap.push PySem.W.emptyDict).push (PySem.W.instObj C s.heap.objs.size) }) :
    codeAny (model prog w) A (.call (.ref C) ⟨vs, kw⟩) R s := by
  obtain ⟨hh, g, d, t, os⟩ := s
  exact PySem.W.make_core (PySem.W.makes_of X hm) (PySem.W.looks_findIn X hi) (fun self => PySem.W.bind_fn X self hf) (.inl rfl) h
/-- C() where there is no __init__ but object's -/
theorem make_map0 {R : Result → Shared → Prop} (X : K.In s.heap) (hm : PySem.W.makesIn K C = true)
    (hi : PySem.W.findIn K (.ref C) "__init__" = some (some (.builtin "object.__init__")))
    (hb : ∀ self, PySem.W.Looks (model prog w) s.heap (bindSpecial (.builtin "object.__init__") self) (.builtin "object.__init__", [self]))
    (h : codeAny (model prog w) (A.under (.builtin "type.__call__" ⟨[.ref C], []⟩)) (.call (.builtin "object.__init__") ⟨[.ref (s.heap.objs.size + 1)], []⟩) (PySem.W.InitBack (s.heap.objs.size + 1) R)
      { s with heap := (s.heap.push PySem.W.emptyDict).push (PySem.W.instObj C s.heap.objs.size) }) :
    codeAny (model prog w) A (.call (.ref C) ⟨[], []⟩) R s := by
  obtain ⟨hh, g, d, t, os⟩ := s
  exact PySem.W.make_core (PySem.W.makes_of X hm) (PySem.W.looks_findIn X hi) hb (.inr ⟨rfl, rfl⟩) h
end

/-! ### the attributes as a list of pairs -/
def putF (f : Str) (v : V) : List (Str × V) → List (Str × V)
  | [] => [(f, v)]
  | (g, x) :: r => if g = f then (g, v) :: r else (g, x) :: putF f v r
theorem lookup_putF (f g : Str) (v : V) : ∀ fs : List (Str × V), (putF f v fs).lookup g = if g = f then some v else fs.lookup g
  | [] => by
    show List.lookup g [(f, v)] = _
    by_cases h : g = f
    · have hb : (g == f) = true := beq_iff_eq.mpr h
      simp only [List.lookup, hb, if_pos h]
    · have hb : (g == f) = false := beq_eq_false_iff_ne.mpr h
      simp only [List.lookup, hb, if_neg h]
  | (k, x) :: r => by
    have ih := lookup_putF f g v r
    rw [show putF f v ((k, x) :: r) = (if k = f then (k, v) :: r else (k, x) :: putF f v r) from rfl]
    by_cases hk : k = f
    · rw [if_pos hk]
      by_cases h : g = k
      · have hb : (g == k) = true := beq_iff_eq.mpr h
        simp only [List.lookup, hb, if_pos (h.trans hk)]
      · have hb : (g == k) = false := beq_eq_false_iff_ne.mpr h
        simp only [List.lookup, hb, if_neg (fun e : g = f => h (e.trans hk.symm))]
    · rw [if_neg hk]
      by_cases h : g = k
      · have hb : (g == k) = true := beq_iff_eq.mpr h
        simp only [List.lookup, hb, if_neg (fun e : g = f => hk (h.symm.trans e))]
      · have hb : (g == k) = false := beq_eq_false_iff_ne.mpr h
        simp only [List.lookup, hb]
        exact ih
theorem keys_putF (f : Str) (v : V) : ∀ fs : List (Str × V), f ∈ (putF f v fs).map (·.1) ∧ ∀ g, g ∈ fs.map (·.1) → g ∈ (putF f v fs).map (·.1)
  | [] => ⟨by simp [putF], fun g h => by simp at h⟩
  | (k, x) :: r => by
    obtain ⟨i1, i2⟩ := keys_putF f v r
    rw [show putF f v ((k, x) :: r) = (if k = f then (k, v) :: r else (k, x) :: putF f v r) from rfl]
    by_cases hk : k = f
    · rw [if_pos hk]
      subst hk
      exact ⟨by simp, fun g h => by simpa using h⟩
    · rw [if_neg hk]
      refine ⟨?_, fun g h => ?_⟩
      · rw [List.map_cons]
        exact List.mem_cons_of_mem _ i1
      · rw [List.map_cons] at h ⊢
        rcases List.mem_cons.mp h with e | e
        · exact List.mem_cons.mpr (.inl e)
        · exact List.mem_cons_of_mem _ (i2 g e)
theorem length_putF (f : Str) (v : V) : ∀ fs : List (Str × V), (putF f v fs).length ≤ fs.length + 1
  | [] => by simp [putF]
  | (k, x) :: r => by
    have ih := length_putF f v r
    rw [show putF f v ((k, x) :: r) = (if k = f then (k, v) :: r else (k, x) :: putF f v r) from rfl]
    by_cases hk : k = f
    · rw [if_pos hk, List.length_cons, List.length_cons]; omega
    · rw [if_neg hk, List.length_cons, List.length_cons]; omega

theorem RelO.some_of {v : V} {o : Option Value} (r : RelO (some v) o) : ∃ u, o = some u ∧ RelV v u := by
  cases o with
  | none => exact (show False from r).elim
  | some u => exact ⟨u, rfl, r⟩
theorem RelO.none_of {o : Option Value} (r : RelO none o) : o = none := by
  cases o with
  | none => rfl
  | some u => exact (show False from r).elim
theorem handed_of {v : V} {u : Value} (r : RelV v u) : PySem.W.handedIn u = true := by
  cases v with
  | non => cases (show u = Value.none from r); rfl
  | bl b => cases (show u = Value.bool b from r); rfl
  | int i => obtain ⟨t, e⟩ := (show ∃ t, u = Value.int i t from r); cases e; rfl
  | str x => obtain ⟨t, e⟩ := (show ∃ t, u = Value.str x t from r); cases e; rfl
  | byt b => obtain ⟨t, e⟩ := (show ∃ t, u = Value.bytes b t from r); cases e; rfl
  | flt b => obtain ⟨t, e⟩ := (show ∃ t, u = Value.float b t from r); cases e; rfl
  | ref a => cases (show u = Value.ref a from r); rfl
  | ty n => cases (show u = Value.type n from r); rfl

section
variable {P : Program} {w : World} {H H' : Hp} {h h' : Heap} {a C dx : Addr} {fs fs' : List (Str × V)}
theorem ins_get (hok : HOk P w H h) (e : H a = some (.ins C dx fs)) : ∃ mA, ObjM h a dx C mA ∧ (∀ f, RelO (fs.lookup f) (mA f)) ∧ PySem.Within mA (fs.map (·.1)) ∧ fs.length ≤ 1000 ∧ H dx = some (.own a) := by
  obtain ⟨d, z, ne, ob, mA, n, r, q⟩ := (show ObjOk P w H h a (.ins C dx fs) from hok a _ e)
  exact ⟨mA, ⟨ob, n, ne⟩, r, q, z, d⟩
end

/-! ### what of the text a class must have -/
structure Cls (K : PySem.W.Frag) (C : Addr) : Prop where
  pg : PySem.W.plainGet K C Str.empty = true
  hd : PySem.W.hasDictIn K C = true
  po : PySem.W.plainOver K C = true
  sa : PySem.W.findIn K (.ref C) "__setattr__" = some (some (.builtin "object.__setattr__"))
theorem Cls.get {K : PySem.W.Frag} {C : Addr} (c : Cls K C) (f : Str) : PySem.W.plainGet K C f = true := c.pg
/-- no class of it has the name -/
def NoAttr (K : PySem.W.Frag) (C : Addr) (f : Str) : Prop := PySem.W.findIn K (.ref C) f = some none
theorem NoAttr.taker {K : PySem.W.Frag} {C : Addr} {f : Str} (n : NoAttr K C f) : PySem.W.takerIn K C f = some none := by
  unfold PySem.W.takerIn
  rw [show PySem.W.findIn K (.ref C) f = some none from n]
  rfl
/-- a constant of the class -/
structure Con (K : PySem.W.Frag) (C : Addr) (f : Str) (v : V) (u : Value) : Prop where
  at_ : PySem.W.findIn K (.ref C) f = some (some u)
  rel : RelV v u
  get : PySem.W.specialIn K u "__get__" = some none
  cp : PySem.W.copiedNames.contains f = false
/-- a method: a plain def of the class or of one above it -/
structure Meth (K : PySem.W.Frag) (C : Addr) (m : Str) (f : Addr) : Prop where
  at_ : PySem.W.findIn K (.ref C) m = some (some (.ref f))
  fn : PySem.W.isFn K (.ref f) = true
  kp : PySem.W.keepIn K (.ref f) = true

section
variable {X : Cx} {pins : List (Addr × Obj)} {σ : St} {H : Hp} {s : Shared} {a C dx : Addr} {fs : List (Str × V)} {f : Str} {v : V} {A : Around} {E : Value → Shared → Prop}

theorem getattr_ok {b : Bool} {Q : Value → Shared → Prop} (I : Inv X pins σ H s) (e : H a = some (.ins C dx fs)) (c : Cls X.K C) (n : NoAttr X.K C f) (l : fs.lookup f = some v)
    (h : ∀ u s', Inv X pins σ H s' → RelV v u → Q u s') : wpAny (model X.prog X.w) A (getAttr (.ref a) f b) Q E s := by
  obtain ⟨mA, O, r, _, _, _⟩ := ins_get I.hok e
  obtain ⟨u, hu, ru⟩ := RelO.some_of (v := v) (o := mA f) (by rw [← l]; exact r f)
  exact get_map I.kIn O (c.get f) c.hd n hu (handed_of ru) (h u _ (I.tok _) ru)

theorem getcon_ok {b : Bool} {u : Value} {Q : Value → Shared → Prop} (I : Inv X pins σ H s) (e : H a = some (.ins C dx fs)) (c : Cls X.K C) (k : Con X.K C f v u) (l : fs.lookup f = none)
    (h : ∀ s', Inv X pins σ H s' → Q u s') : wpAny (model X.prog X.w) A (getAttr (.ref a) f b) Q E s := by
  obtain ⟨mA, O, r, _, _, _⟩ := ins_get I.hok e
  have hn : mA f = none := RelO.none_of (by rw [← l]; exact r f)
  exact get_const I.kIn O (c.get f) c.hd k.at_ k.get k.cp hn (handed_of k.rel) (h _ (I.tok _))

theorem getmeth_ok {m : Str} {g : Addr} {pl : Sem Bool} {Q : Value × List Value → Shared → Prop} (I : Inv X pins σ H s) (e : H a = some (.ins C dx fs)) (c : Cls X.K C) (k : Meth X.K C m g) (l : fs.lookup m = none)
    (h : Q (.ref g, [.ref a]) s) : wpAny (model X.prog X.w) A (getMethod (.ref a) m pl) Q E s := by
  obtain ⟨mA, O, r, _, _, _⟩ := ins_get I.hok e
  have hn : mA m = none := RelO.none_of (by rw [← l]; exact r m)
  exact get_meth I.kIn O (c.get m) k.at_ k.fn hn h

theorem setattr_ok {y : V} {u : Value} {Q : Unit → Shared → Prop} (I : Inv X pins σ H s) (e : H a = some (.ins C dx fs)) (c : Cls X.K C) (n : NoAttr X.K C f) (hl : fs.length < 1000) (ry : RelV y u)
    (h : ∀ s', Inv X pins σ (upd H a (.ins C dx (putF f y fs))) s' → Q () s') : wpAny (model X.prog X.w) A (setAttr (.ref a) f u) Q E s := by
  obtain ⟨mA, O, r, wi, _, ho⟩ := ins_get I.hok e
  have hz : (fs.map (·.1)).length ≤ sizeLine := by rw [List.length_map, sizeLine_eq]; omega
  refine set_map I.kIn O c.sa c.po n.taker c.hd wi hz fun h' O' sb => h _ ?_
  have hd : ∃ o, h'.get? dx = some o := let ⟨o, _, _, e', _⟩ := O'.ns; ⟨o, e'⟩
  refine I.write (x := a) (e := dx) (by rw [e]; exact True.intro) (.inr ho) (fun b q hb z => (sb.2 b hb).trans z) hd ?_
  refine ⟨by rw [upd_ne O.ne]; exact ho, ?_, O.ne, O'.obj, _, O'.ns, fun g => ?_, fun g hg => ?_⟩
  · have := length_putF f y fs; omega
  · show RelO ((putF f y fs).lookup g) (if g = f then some u else mA g)
    rw [lookup_putF]
    by_cases q : g = f
    · rw [if_pos q, if_pos q]; exact ry
    · rw [if_neg q, if_neg q]; exact r g
  · by_cases q : g = f
    · rw [q]; exact (keys_putF f y fs).1
    · refine (keys_putF f y fs).2 g (wi g fun z => hg ?_)
      show (if g = f then some u else mA g) = none
      rw [if_neg q]; exact z

/-- a new instance, tracked, without attributes -/
theorem Inv.made (I : Inv X pins σ H s) : Inv X pins σ (upd (upd H s.heap.objs.size (.own (s.heap.objs.size + 1))) (s.heap.objs.size + 1) (.ins C s.heap.objs.size []))
    { s with heap := (s.heap.push PySem.W.emptyDict).push (PySem.W.instObj C s.heap.objs.size) } := by
  have e1 : (s.heap.push PySem.W.emptyDict).get? s.heap.objs.size = some PySem.W.emptyDict := Heap.get?_push_size s.heap rfl
  have e2 : ((s.heap.push PySem.W.emptyDict).push (PySem.W.instObj C s.heap.objs.size)).get? (s.heap.objs.size + 1) = some (PySem.W.instObj C s.heap.objs.size) := by
    have := Heap.get?_push_size (s.heap.push PySem.W.emptyDict) (o := PySem.W.instObj C s.heap.objs.size) rfl
    rwa [Heap.size_push] at this
  have e3 : (s.heap.push PySem.W.emptyDict).Ns s.heap.objs.size (fun _ => none) := ⟨PySem.W.emptyDict, #[], _, e1, rfl, (fun e he => absurd he (by simp)), fun _ => rfl⟩
  have I1 := I.laid (a := s.heap.objs.size) (o := .own (s.heap.objs.size + 1)) (h' := s.heap.push PySem.W.emptyDict) (t' := s.toks) (fun b u q => Heap.get?_push_of_some _ q) (Nat.le_refl _) ⟨_, e1⟩
  refine I1.laid (a := s.heap.objs.size + 1) (o := .ins C s.heap.objs.size []) (t' := s.toks) (fun b u q => Heap.get?_push_of_some _ q) (Nat.le_of_eq (Heap.size_push _ _)) ?_
  have ne : s.heap.objs.size ≠ s.heap.objs.size + 1 := Nat.ne_of_lt (Nat.lt_succ_self _)
  refine ⟨by rw [upd_ne ne, upd_same], Nat.zero_le _, ne, e2, fun _ => none, (Heap.Ns1.of_empty e3).at fun o q => Heap.get?_push_of_some _ q, fun _ => True.intro, fun y hy => absurd rfl hy⟩

/-- e.f where nothing but the object is asked: through attributeBase (super) and the last hold -/
theorem attr_of {prog : Program} {w : World} {env : Env} {e : Expr} {f : Str} {pos : Pos} {s : Shared} {Q : Value → Shared → Prop} (hb : attributeBase e f env (eval e env) = eval e env)
    (h : wpAny (model prog w) A (eval e env) (fun o s₁ => wpAny (model prog w) A (getAttr o f true) Q E s₁) E s) : wpAny (model prog w) A (eval (.Attribute e f pos) env) Q E s :=
  Attribute_any_ h (by rw [arm_eval_Attribute, hb])
end

/-! ### readings and rules -/
/-- e.f, an attribute of the instance -/
def tFld (K : PySem.W.Frag) (ta : TE) (f : Str) : TE := fun σ H Q => ta σ H fun x H1 => ∃ a C dx fs v, x = .ref a ∧ H1 a = some (.ins C dx fs) ∧ Cls K C ∧ NoAttr K C f ∧ fs.lookup f = some v ∧ Q v H1
/-- e.f, a constant of the class -/
def tCon (K : PySem.W.Frag) (ta : TE) (f : Str) : TE := fun σ H Q => ta σ H fun x H1 => ∃ a C dx fs v u, x = .ref a ∧ H1 a = some (.ins C dx fs) ∧ Cls K C ∧ Con K C f v u ∧ fs.lookup f = none ∧ Q v H1
/-- e.f = value -/
def sFld (K : PySem.W.Frag) (ta tv : TE) (f : Str) : TS := fun D σ H => tv σ H fun y H1 => ta σ H1 fun x H2 => ∃ a C dx fs, x = .ref a ∧ H2 a = some (.ins C dx fs) ∧ Cls K C ∧ NoAttr K C f ∧ fs.length < 1000 ∧
  D.nx σ (upd H2 a (.ins C dx (putF f y fs)))
/-- an augmented operator on two values -/
def InOp (X : Cx) (op : Operator) (rd : V → V → Hp → VK → Prop) : Prop :=
  ∀ (pins : List (Addr × Obj)) (s : Shared) (σ : St) (H : Hp) (x y : V) (u v : Value) (Q : VK), Inv X pins σ H s → RelV x u → RelV y v → rd x y H Q → wpAny (model X.prog X.w) X.A (inplaceOp op u v) (EP X pins σ Q) X.xe s
/-- e.f op= value -/
def sFldAug (K : PySem.W.Frag) (ta tv : TE) (rd : V → V → Hp → VK → Prop) (f : Str) : TS := fun D σ H => ta σ H fun x H1 => ∃ a C dx fs v, x = .ref a ∧ H1 a = some (.ins C dx fs) ∧ Cls K C ∧ NoAttr K C f ∧ fs.lookup f = some v ∧
  tv σ H1 fun y H2 => rd v y H2 fun z H3 => ∃ dx' fs', H3 a = some (.ins C dx' fs') ∧ fs'.length < 1000 ∧ D.nx σ (upd H3 a (.ins C dx' (putF f z fs')))

section
variable {X : Cx} {o e value : Expr} {f : Str} {pos pos' tpos : Pos} {ta tv : TE}
theorem pe_fld (he : PE X e ta) (hb : attributeBase e f X.env (eval e X.env) = eval e X.env) : PE X (.Attribute e f pos) (tFld X.K ta f) := by
  intro pins s σ H Q I h
  refine attr_of hb (thn (he pins s σ H _ I h) fun u s1 ⟨x, H1, I1, rx, a, C, dx, fs, v, ex, ea, c, n, l, q⟩ => ?_)
  subst ex
  obtain rfl : u = Value.ref a := rx
  exact getattr_ok I1 ea c n l fun u' s2 I2 ru => ⟨v, H1, I2, ru, q⟩
theorem pe_con (he : PE X e ta) (hb : attributeBase e f X.env (eval e X.env) = eval e X.env) : PE X (.Attribute e f pos) (tCon X.K ta f) := by
  intro pins s σ H Q I h
  refine attr_of hb (thn (he pins s σ H _ I h) fun u s1 ⟨x, H1, I1, rx, a, C, dx, fs, v, u0, ex, ea, c, k, l, q⟩ => ?_)
  subst ex
  obtain rfl : u = Value.ref a := rx
  exact getcon_ok I1 ea c k l fun s2 I2 => ⟨v, H1, I2, k.rel, q⟩
theorem ps_fld (ha : PE X o ta) (hv : PE X value tv) (hs : swapsWith value (some (.Attribute o f pos')) pos.line X.env = pure false) : PS X (.Assign [.Attribute o f pos'] value pos) (sFld X.K ta tv f) := by
  intro pins s σ H D I h
  refine plainObj_wpAny_Assign_Attribute (thn (hv pins s σ H _ I h) fun u s1 ⟨y, H1, I1, ry, q⟩ => thn (ha pins s1 σ H1 _ I1 q) fun ov s2 ⟨x, H2, I2, rx, a, C, dx, fs, ex, ea, c, n, l, q2⟩ => ?_) hs
  subst ex
  obtain rfl : ov = Value.ref a := rx
  exact setattr_ok I2 ea c n l ry fun s3 I3 => ⟨σ, _, I3, q2⟩
theorem ps_fldaug {op : Operator} {rd : V → V → Hp → VK → Prop} (ha : PE X o ta) (hv : PE X value tv) (hop : InOp X op rd) : PS X (.AugAssign (.Attribute o f tpos) op value pos) (sFldAug X.K ta tv rd f) := by
  intro pins s σ H D I h
  refine wpAny_AugAssign_AttributeAny (thn (ha pins s σ H _ I h) fun ov s1 ⟨x, H1, I1, rx, a, C, dx, fs, v, ex, ea, c, n, l, q⟩ => ?_)
  subst ex
  obtain rfl : ov = Value.ref a := rx
  refine getattr_ok I1 ea c n l fun u s2 I2 ru => thn (hv pins s2 σ H1 _ I2 q) fun w3 s3 ⟨y, H2, I3, ry, q3⟩ => thn (hop pins s3 σ H2 v y u w3 _ I3 ru ry q3) fun w4 s4 ⟨z, H3, I4, rz, dx', fs', ea', l', q4⟩ => ?_
  exact setattr_ok I4 ea' c n l' rz fun s5 I5 => ⟨σ, _, I5, q4⟩
def rAdd : V → V → Hp → VK → Prop := fun x y H Q => ∃ i j, x = .int i ∧ y = .int j ∧ Q (.int (i + j)) H
def rSub : V → V → Hp → VK → Prop := fun x y H Q => ∃ i j, x = .int i ∧ y = .int j ∧ Q (.int (i - j)) H
theorem in_add : InOp X .Add rAdd := by
  rintro pins s σ H x y u v Q I rx ry ⟨i, j, rfl, rfl, q⟩
  obtain ⟨t, rfl⟩ := (show ∃ t, u = Value.int i t from rx)
  obtain ⟨t', rfl⟩ := (show ∃ t', v = Value.int j t' from ry)
  exact PyProof.Rows.iadd_int ⟨.int (i + j), H, I.tok _, ⟨_, rfl⟩, q⟩
theorem in_sub : InOp X .Sub rSub := by
  rintro pins s σ H x y u v Q I rx ry ⟨i, j, rfl, rfl, q⟩
  obtain ⟨t, rfl⟩ := (show ∃ t, u = Value.int i t from rx)
  obtain ⟨t', rfl⟩ := (show ∃ t', v = Value.int j t' from ry)
  exact PyProof.Rows.isub_int ⟨.int (i - j), H, I.tok _, ⟨_, rfl⟩, q⟩

/-- what is between an instance and its method: the tree of a method call -/
theorem methcall_of {pl : Sem Bool} {m : Str} {apos : Pos} {args : List Expr} {pins : List (Addr × Obj)} {s : Shared} {σ : St} {H : Hp} {Q : Value → Shared → Prop} {te : TE} (he : PE X e te) (I : Inv X pins σ H s)
    (h : te σ H fun x H1 => ∃ a C dx fs g, x = .ref a ∧ H1 a = some (.ins C dx fs) ∧ Cls X.K C ∧ Meth X.K C m g ∧ fs.lookup m = none ∧
      ∀ s1, Inv X pins σ H1 s1 → wpAny (model X.prog X.w) X.A (callWith pos (.ref g) [.ref a] (backTo pos (starEach args X.env)) (backToKw pos (keywordEach [] X.env))) Q X.xe s1)
    (ht : eval (.Call (.Attribute e m apos) args [] pos) X.env = (do
      let ov ← eval e X.env
      standAt apos.atName
      let (f, first) ← holding [ov] (getMethod ov m pl)
      callWith pos f first (backTo pos (starEach args X.env)) (backToKw pos (keywordEach [] X.env)))) :
    wpAny (model X.prog X.w) X.A (eval (.Call (.Attribute e m apos) args [] pos) X.env) Q X.xe s := by
  refine PySem.W.methodCall_KW (pl := pl) (thn (he pins s σ H _ I h) fun u s1 ⟨x, H1, I1, rx, a, C, dx, fs, g, ex, ea, c, k, l, q⟩ => ?_) ht
  subst ex
  obtain rfl : u = Value.ref a := rx
  exact getmeth_ok I1 ea c k l (q s1 I1)
end

/-! ### isinstance -/
section
variable {X : Cx} {pins : List (Addr × Obj)} {σ : St} {H : Hp} {s : Shared} {A : Around} {E : Value → Shared → Prop} {Q : Value → Shared → Prop} {c : Value} {b : Bool}
/-- the type of a value, as the fragment's deciders take it; for an instance its class -/
inductive TyOf (K : PySem.W.Frag) (H : Hp) : V → Value → Prop where
  | non : TyOf K H .non (.type "NoneType")
  | bl (x : Bool) : TyOf K H (.bl x) (.type "bool")
  | int (i : Int) : TyOf K H (.int i) (.type "int")
  | str (x : Str) : TyOf K H (.str x) (.type "str")
  | flt (x : UInt64) : TyOf K H (.flt x) (.type "float")
  | lst {a : Addr} {xs : List V} (e : H a = some (.lst xs)) : TyOf K H (.ref a) (.type "list")
  | frz {a : Addr} {o : Obj} {xs : List V} (e : H a = some (.frz o (.lst xs))) : TyOf K H (.ref a) (.type "list")
  | tup {a : Addr} {xs : List V} (e : H a = some (.tup xs)) : TyOf K H (.ref a) (.type "tuple")
  | dK {a : Addr} {kvs : List (Key × V)} (e : H a = some (.dK kvs)) : TyOf K H (.ref a) (.type "dict")
  | dT {a : Addr} {kvs : List (List Key × V)} (e : H a = some (.dT kvs)) : TyOf K H (.ref a) (.type "dict")
  | ins {a C dx : Addr} {fs : List (Str × V)} (e : H a = some (.ins C dx fs)) (cl : Cls K C) (ha : PySem.W.findIn K (.ref C) "__class__" = some (some (.builtin "object.__class__")))
      (hn : PySem.W.specialIn K (.builtin "object.__class__") "__get__" = some (some (.builtin "getset_descriptor.__get__"))) (htk : PySem.W.takesIn K (.builtin "object.__class__") = some true)
      (hm : PySem.W.mroIn K C (.type "object") = some true) : TyOf K H (.ref a) (.ref C)
/-- isinstance(x, c) for one class c, a built-in or an own one: kitOne's answer -/
theorem isinst_ok {x : V} {u t : Value} (I : Inv X pins σ H s) (rx : RelV x u) (ty : TyOf X.K H x t) (e : PySem.W.kitOne X.K t c = some b) (h : ∀ tk, Q (.bool b) { s with toks := tk }) :
    wpAny (model X.prog X.w) A (call (.builtin "isinstance") [u, c]) Q E s := by
  cases ty with
  | non => cases (show u = Value.none from rx); exact PySem.W.kia_one PySem.W.kitx_none I.kIn True.intro e (fun z => nomatch z) h
  | bl y => cases (show u = Value.bool y from rx); exact PySem.W.kia_one PySem.W.kitx_bool I.kIn True.intro e (fun z => nomatch z) h
  | int i => obtain ⟨t, q⟩ := (show ∃ t, u = Value.int i t from rx); cases q; exact PySem.W.kia_one PySem.W.kitx_int I.kIn True.intro e (fun z => nomatch z) h
  | str y => obtain ⟨t, q⟩ := (show ∃ t, u = Value.str y t from rx); cases q; exact PySem.W.kia_one PySem.W.kitx_str I.kIn True.intro e (fun z => nomatch z) h
  | flt y => obtain ⟨t, q⟩ := (show ∃ t, u = Value.float y t from rx); cases q; exact PySem.W.kia_one PySem.W.kitx_float I.kIn True.intro e (fun z => nomatch z) h
  | @lst a xs ea =>
    cases (show u = Value.ref a from rx)
    obtain ⟨_, _, n, _, h1⟩ := (show ObjOk X.prog X.w H s.heap a (.lst xs) from I.hok a _ ea)
    exact PySem.W.kia_one PySem.W.kitx_list I.kIn ⟨_, h1, rfl⟩ e (fun z => nomatch z) h
  | @frz a ob xs ea =>
    cases (show u = Value.ref a from rx)
    obtain ⟨_, _, _, n, _, h1⟩ := (show ObjOk X.prog X.w H s.heap a (.frz ob (.lst xs)) from I.hok a _ ea)
    exact PySem.W.kia_one PySem.W.kitx_list I.kIn ⟨_, h1, rfl⟩ e (fun z => nomatch z) h
  | @tup a xs ea =>
    cases (show u = Value.ref a from rx)
    obtain ⟨_, _, _, p⟩ := (show ObjOk X.prog X.w H s.heap a (.tup xs) from I.hok a _ ea)
    obtain ⟨o, h1, h2, _⟩ := p
    exact PySem.W.kia_one PySem.W.kitx_tuple I.kIn ⟨o, h1, h2⟩ e (fun z => nomatch z) h
  | @dK a kvs ea =>
    cases (show u = Value.ref a from rx)
    obtain ⟨_, _, vs, _, p⟩ := (show ObjOk X.prog X.w H s.heap a (.dK kvs) from I.hok a _ ea)
    obtain ⟨o, es, ep, h1, h2, _⟩ := p
    exact PySem.W.kia_one PySem.W.kitx_dict I.kIn ⟨o, h1, h2.1⟩ e (fun z => nomatch z) h
  | @dT a kvs ea =>
    cases (show u = Value.ref a from rx)
    obtain ⟨_, _, xs, _, o, es, ep, h1, h2, _⟩ := (show ObjOk X.prog X.w H s.heap a (.dT kvs) from I.hok a _ ea)
    exact PySem.W.kia_one PySem.W.kitx_dict I.kIn ⟨o, h1, h2.1⟩ e (fun z => nomatch z) h
  | @ins a C dx fs ea cl ha hn htk hm =>
    cases (show u = Value.ref a from rx)
    obtain ⟨mA, O, _⟩ := ins_get I.hok ea
    obtain ⟨od, J, _⟩ := O.look
    exact PySem.W.kia_one (PySem.W.kitx_own (cl.get _) cl.hd ha hn htk hm) I.kIn J e (fun z => nomatch z) h
end
end L2

namespace L2
open PySem PySem.Spec PyProof.Rows

/-! ### room -/
structure Room (k : Nat) (A : Around) : Prop where
  hd : A.handled = none
  dp : A.depth + 3 * k + 5 < recursionLimit
  un : A.units + 16 * k + 200 < cLine
theorem Room.mono {j k : Nat} {A : Around} (r : Room k A) (h : j ≤ k) : Room j A := ⟨r.hd, by have := r.dp; omega, by have := r.un; omega⟩
theorem Room.deeper {k : Nat} {A : Around} (r : Room (k + 1) A) (env : Env) : Room k (A.deeper env) :=
  ⟨r.hd, by have := r.dp; show A.depth + 1 + 3 * k + 5 < _; omega, by have := r.un; show A.units + 3 + 16 * k + 200 < _; omega⟩
theorem Room.in1 {k : Nat} {A : Around} (r : Room (k + 1) A) : Room k A.in1 :=
  ⟨r.hd, by have := r.dp; show A.depth + 3 * k + 5 < _; omega, by have := r.un; show A.units + 1 + 16 * k + 200 < _; omega⟩
theorem make_depth {A : Around} {C : Addr} {us : List Value} {kw : List (Str × Value)} : (A.under (.builtin "type.__call__" ⟨.ref C :: us, kw⟩)).depth = A.depth + 1 := by
  first | rfl | simp [Around.under, Code.weight, Code.isCreation, Code.isGuard, Code.isCaller, Code.frames, Code.isFrame, guardIds]
theorem make_units {A : Around} {C : Addr} {us : List Value} {kw : List (Str × Value)} : (A.under (.builtin "type.__call__" ⟨.ref C :: us, kw⟩)).units = A.units + 1 := by
  first | rfl | simp [Around.under, Code.cUnits, Code.frames, Code.isFrame]
theorem Room.make {k : Nat} {A : Around} (r : Room (k + 1) A) (C : Addr) (us : List Value) (kw : List (Str × Value)) : Room k (A.under (.builtin "type.__call__" ⟨.ref C :: us, kw⟩)) :=
  ⟨r.hd, by have := r.dp; rw [make_depth]; omega, by have := r.un; rw [make_units]; omega⟩
theorem Room.depth {k : Nat} {A : Around} (r : Room k A) : A.depth < recursionLimit := by have := r.dp; omega
theorem Room.units {k : Nat} {A : Around} (r : Room k A) : A.units + 64 < cLine := by have := r.un; omega
theorem Room.units0 {k : Nat} {A : Around} (r : Room k A) : A.units < cLine := by have := r.un; omega

/-! ### argument lists and displays -/
def tNil : TA := fun _ H Q => Q [] H
def tCons (ta : TE) (tr : TA) : TA := fun σ H Q => ta σ H fun x H1 => tr σ H1 fun xs H2 => Q (x :: xs) H2
section
variable {X : Cx} {e : Expr} {es : List Expr} {te : TE} {t : TA} {pos : Pos}
theorem pa_nil : PA X [] tNil := fun _ _ _ _ H Q I h => Calls.spliced_nil ⟨[], H, I, .nil, h⟩
theorem pa_cons (ha : PE X e te) (hr : PA X es t) (hs : starEach (e :: es) X.env = (false, eval e X.env) :: starEach es X.env := by rfl) : PA X (e :: es) (tCons te t) := by
  intro pos pins s σ H Q I h
  rw [hs]
  show wpAny _ _ (spliced ((false, eval e X.env) :: backTo pos (starEach es X.env))) _ _ s
  refine Calls.spliced_cons (thn (ha pins s σ H _ I h) fun u s1 ⟨x, H1, I1, r1, q1⟩ => ?_)
  exact thn (hr pos pins s1 σ H1 _ I1 q1) fun us s2 ⟨xs, H2, I2, r2, q2⟩ => ⟨x :: xs, H2, I2, .cons r1 r2, q2⟩

/-- a tuple, a list of written items -/
def tTup (t : TA) : TE := fun σ H Q => t σ H fun xs H1 => xs.length ≤ sizeLine ∧ ∀ p, H1 p = none → Q (.ref p) (upd H1 p (.tup xs))
def tLst (t : TA) : TE := fun σ H Q => t σ H fun xs H1 => xs.length ≤ sizeLine ∧ ∀ p, H1 p = none → Q (.ref p) (upd H1 p (.lst xs))
theorem pe_tup {x1} (h : PA X es t) : PE X (.Tuple es x1 pos) (tTup t) := by
  intro pins s σ H Q I hq
  refine wpAny_Tuple_spliced (thn (h pos pins s σ H _ I hq) fun us s1 ⟨xs, H1, I1, r, z, q⟩ => ⟨by rw [← r.length]; exact z, ?_⟩)
  have hf : H1 s1.heap.objs.size = none := I1.hok.fresh (Nat.le_refl _)
  refine ⟨.ref s1.heap.objs.size, upd H1 s1.heap.objs.size (.tup xs), I1.laid (t' := s1.toks) (fun b u e => Heap.get?_push_of_some _ e) (Nat.le_refl _) ?_, rfl, q _ hf⟩
  exact ⟨z, us, r, ⟨_, Heap.get?_push_size _ rfl, rfl, _, rfl⟩⟩
theorem pe_lst (h : PA X es t) : PE X (.List es pos) (tLst t) := by
  intro pins s σ H Q I hq
  refine wpAny_List_spliced (thn (h pos pins s σ H _ I hq) fun us s1 ⟨xs, H1, I1, r, z, q⟩ => ⟨by rw [← r.length]; exact z, ?_⟩)
  have hf : H1 s1.heap.objs.size = none := I1.hok.fresh (Nat.le_refl _)
  refine ⟨.ref s1.heap.objs.size, upd H1 s1.heap.objs.size (.lst xs), I1.laid (t' := s1.toks) (fun b u e => Heap.get?_push_of_some _ e) (Nat.le_refl _) ?_, rfl, q _ hf⟩
  exact ⟨z, us, 0, r, Heap.get?_push_size _ rfl⟩
end

/-! ### what a def promises -/
/-- a def's promise: the bound arguments in the parameters' order, the heap, the wanted end, the wanted exception -/
abbrev Sp := List V → Hp → VK → XK → Prop
/-- how an exception lies behind a call (file 08 gives it): the callers' frames, abstract heap and state ahead of the call, the wish, the exception, the state -/
abbrev CXT := List Env → Hp → Shared → XK → Value → Shared → Prop

/-- the state at a call -/
structure Env0 (P : Program) (w : World) (K : PySem.W.Frag) (mg : Str → Option Value) (base : Heap) (A : Around) (outer : List Env) (s : Shared) (H : Hp) : Prop where
  frames : A.frames = some outer
  mod : Mod K mg base
  bs : ∀ b o, base.get? b = some o → s.heap.get? b = some o ∧ H b = none
  bsz : base.objs.size ≤ s.heap.objs.size
  funs : s.heap.FunFrames base outer
  frf : ∀ b ∈ frs outer, H b = none
  hok : HOk P w H s.heap
  bare : AllBare s.gens
/-- a call's end -/
def CE (outer : List Env) (P : Program) (w : World) (H : Hp) (s : Shared) (Q : VK) (u : Value) (s' : Shared) : Prop :=
  ∃ v H', s'.os = s.os ∧ AllBare s'.gens ∧ Un (frs outer) [] H H' s.heap s'.heap ∧ HOk P w H' s'.heap ∧ RelV v u ∧ Q v H'
def CR (CX : CXT) (outer : List Env) (P : Program) (w : World) (H : Hp) (s : Shared) (Q : VK) (E : XK) (r : Result) (s' : Shared) : Prop :=
  match r with
  | .ok (.ret u) => CE outer P w H s Q u s'
  | .ok _ => False
  | .error e => CX outer H s E e s'
structure FnOk (P : Program) (w : World) (K : PySem.W.Frag) (mg : Str → Option Value) (base : Heap) (CX : CXT) (k : Nat) (f : Addr) (fd : FuncData) (ps : List Str) (sp : Sp) : Prop where
  len : ∀ vs H Q E, sp vs H Q E → vs.length = ps.length
  run : ∀ (A : Around) (outer : List Env) (s : Shared) (H : Hp) (args : Args) (us : List Value) (vs : List V) (Q : VK) (E : XK), Room k A → Env0 P w K mg base A outer s H → BindsTo s fd args (ps.zip us) → Vals vs us → sp vs H Q E →
    codeAny (model P w) A (.call (.ref f) args) (CR CX outer P w H s Q E) s
theorem FnOk.mono {P : Program} {w : World} {K : PySem.W.Frag} {mg : Str → Option Value} {base : Heap} {CX : CXT} {j k : Nat} {f : Addr} {fd : FuncData} {ps : List Str} {sp : Sp} (F : FnOk P w K mg base CX j f fd ps sp) (h : j ≤ k) :
    FnOk P w K mg base CX k f fd ps sp := ⟨F.len, fun A outer s H args us vs Q E hr => F.run A outer s H args us vs Q E (hr.mono h)⟩
/-- a weaker promise -/
theorem FnOk.imp {P : Program} {w : World} {K : PySem.W.Frag} {mg : Str → Option Value} {base : Heap} {CX : CXT} {k : Nat} {f : Addr} {fd : FuncData} {ps : List Str} {sp sp' : Sp} (F : FnOk P w K mg base CX k f fd ps sp)
    (h : ∀ vs H Q E, sp' vs H Q E → sp vs H Q E) : FnOk P w K mg base CX k f fd ps sp' :=
  ⟨fun vs H Q E q => F.len vs H Q E (h _ _ _ _ q), fun A outer s H args us vs Q E hr he hb hv hs => F.run A outer s H args us vs Q E hr he hb hv (h _ _ _ _ hs)⟩

theorem Env0.make {P : Program} {w : World} {K : PySem.W.Frag} {mg : Str → Option Value} {base : Heap} {A : Around} {outer : List Env} {s : Shared} {H : Hp} (e : Env0 P w K mg base A outer s H) (C : Addr) (us : List Value) (kw : List (Str × Value)) :
    Env0 P w K mg base (A.under (.builtin "type.__call__" ⟨.ref C :: us, kw⟩)) outer s H := ⟨by first | exact e.frames | (simpa [Around.under, Code.envs, Code.isFrame, pushEnvs] using e.frames), e.mod, e.bs, e.bsz, e.funs, e.frf, e.hok, e.bare⟩
theorem Env0.in1 {P : Program} {w : World} {K : PySem.W.Frag} {mg : Str → Option Value} {base : Heap} {A : Around} {outer : List Env} {s : Shared} {H : Hp} (e : Env0 P w K mg base A outer s H) :
    Env0 P w K mg base A.in1 outer s H := ⟨e.frames, e.mod, e.bs, e.bsz, e.funs, e.frf, e.hok, e.bare⟩

section
variable {X : Cx} {pins : List (Addr × Obj)} {σ : St} {H : Hp} {s s' : Shared}
/-- from a body: what a callee wants -/
theorem Inv.env0 (I : Inv X pins σ H s) : Env0 X.prog X.w X.K X.mg X.base X.A X.stack s H :=
  ⟨I.ok.frames, I.ok.mod, I.bs, Nat.le_trans I.ok.bsz I.sz, I.stack, I.stkFree, I.hok, I.bare⟩
/-- behind a call -/
theorem Inv.after {Q : VK} {u : Value} (I : Inv X pins σ H s) (h : CE X.stack X.prog X.w H s Q u s') : EP X pins σ Q u s' := by
  obtain ⟨v, H', os, bare, un, hok, r, q⟩ := h
  obtain ⟨hh, g, d, t, os'⟩ := s'
  obtain rfl : os' = s.os := os
  exact ⟨v, H', I.call (h' := hh) (g' := g) (d' := d) (t' := t) (ch := []) un hok bare (fun b z => absurd z (by simp)), r, q⟩
end

/-! ### calls -/
/-- f(..): the written arguments, then the defaults dvs; E: what is wanted of an exception -/
def tCall (sp : Sp) (dvs : List V) (E : XK) (t : TA) : TE := fun σ H Q => t σ H fun vs H1 => sp (vs ++ dvs) H1 Q E
/-- o.m(..) of an instance of the class at C -/
def tMeth (C : Addr) (m : Str) (sp : Sp) (dvs : List V) (E : XK) (ta : TE) (t : TA) : TE := fun σ H Q => ta σ H fun x H1 => ∃ a dx fs, x = .ref a ∧ H1 a = some (.ins C dx fs) ∧ fs.lookup m = none ∧
  t σ H1 fun vs H2 => sp (x :: (vs ++ dvs)) H2 Q E
/-- C(..): a new instance and its dict, then __init__ -/
def tMake (C : Addr) (sp : Sp) (dvs : List V) (E : XK) (t : TA) : TE := fun σ H Q => t σ H fun vs H1 => ∀ x dx, H1 x = none → H1 dx = none → dx ≠ x →
  sp (.ref x :: (vs ++ dvs)) (upd (upd H1 dx (.own x)) x (.ins C dx [])) (fun v H2 => v = .non ∧ Q (.ref x) H2) E

/-- how the parameters are bound: us the positional arguments, kw the keywords' values by name, ds the defaults that fill up -/
def Binds (K : PySem.W.Frag) (fd : FuncData) (ps : List Str) (ds : List Value) : Prop :=
  ∀ (s : Shared) (us : List Value), K.In s.heap → (us ++ ds).length = ps.length → BindsTo s fd ⟨us, []⟩ (ps.zip (us ++ ds))
/-- every parameter is given -/
theorem Binds.all {K : PySem.W.Frag} {fd : FuncData} {ps : List Str} (h : ∀ us : List Value, us.length = ps.length → bindArgs fd ⟨us, []⟩ = pure (ps.zip us)) : Binds K fd ps [] := fun s us _ hl => by
  rw [List.append_nil] at hl ⊢
  exact .of_eq (h us hl)

/-- an exception of a callee reaches what this body wants of exceptions -/
def Passes (CX : CXT) (X : Cx) (E : XK) : Prop := ∀ (pins : List (Addr × Obj)) (σ : St) (H : Hp) (s : Shared) (e : Value) (s' : Shared), Inv X pins σ H s → CX X.stack H s E e s' → X.xe e s'

section
variable {X : Cx} {CX : CXT} {k : Nat} {f C : Addr} {fd : FuncData} {ps : List Str} {sp : Sp} {dvs : List V} {ds : List Value} {E : XK} {x m : Str} {p pos apos : Pos} {e o : Expr} {es : List Expr} {ta : TE} {t : TA}

/-- the callee runs -/
theorem run_fn {pins : List (Addr × Obj)} {σ : St} {H : Hp} {s : Shared} {Q : VK} {us : List Value} {vs : List V} (F : FnOk X.prog X.w X.K X.mg X.base CX k f fd ps sp) (hr : Room k X.A) (hb : Binds X.K fd ps ds) (hd : Vals dvs ds) (hx : Passes CX X E)
    (I : Inv X pins σ H s) (r : Vals vs us) (h : sp (vs ++ dvs) H Q E) : wpAny (model X.prog X.w) X.A (call (.ref f) us) (EP X pins σ Q) X.xe s := by
  have r2 : Vals (vs ++ dvs) (us ++ ds) := r.append hd
  have hl : (us ++ ds).length = ps.length := by rw [← r2.length]; exact F.len _ _ _ _ h
  refine wpAny_call (codeAny_mono (F.run X.A X.stack s H ⟨us, []⟩ (us ++ ds) (vs ++ dvs) Q E hr I.env0 (hb s us I.kIn hl) r2 h) fun r s' hq => ?_)
  cases r with
  | error e => exact hx pins σ H s e s' I hq
  | ok fl =>
    cases fl with
    | ret u => exact I.after hq
    | next => exact False.elim hq
    | brk => exact False.elim hq
    | cont => exact False.elim hq

theorem pe_call (F : FnOk X.prog X.w X.K X.mg X.base CX k f fd ps sp) (hr : Room k X.A) (hg : Gl X x) (hm : X.mg x = some (.ref f)) (hk : PySem.W.keepIn X.K (.ref f) = true) (hb : Binds X.K fd ps ds) (hd : Vals dvs ds) (hx : Passes CX X E)
    (ha : PA X (e :: es) t) (hdb : (x == ("__debug__" : Str)) = false := by decide) (he : starEach (e :: es) X.env = (false, eval e X.env) :: starEach es X.env := by rfl) (hpl : (backTo pos (starEach es X.env)).any (·.1) = false := by rfl) :
    PE X (.Call (.Name x p) (e :: es) [] pos) (tCall sp dvs E t) := by
  intro pins s σ H Q I h
  refine wpAny_Call_Name_kw (ld_glob I hg hm ?_ hdb)
  refine PySem.W.callWith_K (h₀ := X.base) I.ok.mod.kin hk (thn (ha pos pins s σ H _ I h) fun us s1 ⟨vs, H1, I1, r, q⟩ => ⟨I1.kIn, ?_⟩) he hpl
  exact run_fn F hr hb hd hx I1 r q
theorem pe_call0 (F : FnOk X.prog X.w X.K X.mg X.base CX k f fd ps sp) (hr : Room k X.A) (hg : Gl X x) (hm : X.mg x = some (.ref f)) (hk : PySem.W.keepIn X.K (.ref f) = true) (hb : Binds X.K fd ps ds) (hd : Vals dvs ds) (hx : Passes CX X E)
    (hdb : (x == ("__debug__" : Str)) = false := by decide) : PE X (.Call (.Name x p) [] [] pos) (tCall sp dvs E tNil) := by
  intro pins s σ H Q I h
  refine wpAny_Call_Name_kw (ld_glob I hg hm ?_ hdb)
  exact PySem.W.callWith_K0 I.kIn hk (run_fn (us := []) F hr hb hd hx I .nil h)

/-- o.m(e, ..) -/
theorem pe_meth {pl : Sem Bool} (he : PE X o ta) (c : Cls X.K C) (hm : Meth X.K C m f) (F : FnOk X.prog X.w X.K X.mg X.base CX k f fd ps sp) (hr : Room k X.A) (hb : Binds X.K fd ps ds) (hd : Vals dvs ds) (hx : Passes CX X E) (ha : PA X (e :: es) t)
    (hst : starEach (e :: es) X.env = (false, eval e X.env) :: starEach es X.env := by rfl) (hpl : (backTo pos (starEach es X.env)).any (·.1) = false := by rfl)
    (ht : eval (.Call (.Attribute o m apos) (e :: es) [] pos) X.env = (do
      let ov ← eval o X.env
      standAt apos.atName
      let (f, first) ← holding [ov] (getMethod ov m pl)
      callWith pos f first (backTo pos (starEach (e :: es) X.env)) (backToKw pos (keywordEach [] X.env))) := by rfl) :
    PE X (.Call (.Attribute o m apos) (e :: es) [] pos) (tMeth C m sp dvs E ta t) := by
  intro pins s σ H Q I h
  refine PySem.W.methodCall_KW (pl := pl) (thn (he pins s σ H _ I h) fun u s1 ⟨x, H1, I1, rx, a, dx, fs, ex, ea, l, q⟩ => ?_) ht
  subst ex
  obtain rfl : u = Value.ref a := rx
  refine getmeth_ok I1 ea c hm l ?_
  refine PySem.W.callWith_K (first := [.ref a]) (h₀ := X.base) I.ok.mod.kin hm.kp (thn (ha pos pins s1 σ H1 _ I1 q) fun us s2 ⟨vs, H2, I2, r, q2⟩ => ⟨I2.kIn, ?_⟩) hst hpl
  exact run_fn (us := .ref a :: us) (vs := .ref a :: vs) F hr hb hd hx I2 (.cons rfl r) q2
/-- o.m() -/
theorem pe_meth0 {pl : Sem Bool} (he : PE X o ta) (c : Cls X.K C) (hm : Meth X.K C m f) (F : FnOk X.prog X.w X.K X.mg X.base CX k f fd ps sp) (hr : Room k X.A) (hb : Binds X.K fd ps ds) (hd : Vals dvs ds) (hx : Passes CX X E)
    (ht : eval (.Call (.Attribute o m apos) [] [] pos) X.env = (do
      let ov ← eval o X.env
      standAt apos.atName
      let (f, first) ← holding [ov] (getMethod ov m pl)
      callWith pos f first (backTo pos (starEach [] X.env)) (backToKw pos (keywordEach [] X.env))) := by rfl) :
    PE X (.Call (.Attribute o m apos) [] [] pos) (tMeth C m sp dvs E ta tNil) := by
  intro pins s σ H Q I h
  refine PySem.W.methodCall_KW (pl := pl) (thn (he pins s σ H _ I h) fun u s1 ⟨x, H1, I1, rx, a, dx, fs, ex, ea, l, q⟩ => ?_) ht
  subst ex
  obtain rfl : u = Value.ref a := rx
  refine getmeth_ok I1 ea c hm l ?_
  exact PySem.W.callWith_K0 (first := [.ref a]) I1.kIn hm.kp (run_fn (us := [.ref a]) (vs := [.ref a]) F hr hb hd hx I1 (.cons rfl .nil) q)

/-- what a class must have to be made -/
structure Mk (K : PySem.W.Frag) (C f : Addr) : Prop where
  makes : PySem.W.makesIn K C = true
  init : PySem.W.findIn K (.ref C) "__init__" = some (some (.ref f))
  fn : PySem.W.isFn K (.ref f) = true
  kp : PySem.W.keepIn K (.ref C) = true

theorem run_make {pins : List (Addr × Obj)} {σ : St} {H : Hp} {s : Shared} {Q : VK} {us : List Value} {vs : List V} (M : Mk X.K C f) (F : FnOk X.prog X.w X.K X.mg X.base CX k f fd ps sp) (hr : Room (k + 1) X.A) (hb : Binds X.K fd ps ds) (hd : Vals dvs ds)
    (hx : Passes CX X E) (I : Inv X pins σ H s) (r : Vals vs us)
    (h : ∀ x dx, H x = none → H dx = none → dx ≠ x → sp (.ref x :: (vs ++ dvs)) (upd (upd H dx (.own x)) x (.ins C dx [])) (fun v H2 => v = .non ∧ Q (.ref x) H2) E) :
    wpAny (model X.prog X.w) X.A (call (.ref C) us) (EP X pins σ Q) X.xe s := by
  have hq := h (s.heap.objs.size + 1) s.heap.objs.size (I.hok.fresh (Nat.le_succ _)) (I.hok.fresh (Nat.le_refl _)) (Nat.ne_of_lt (Nat.lt_succ_self _))
  have I2 := Inv.made (C := C) I
  have r2 : Vals (V.ref (s.heap.objs.size + 1) :: (vs ++ dvs)) (Value.ref (s.heap.objs.size + 1) :: (us ++ ds)) := .cons rfl (r.append hd)
  have hl : (Value.ref (s.heap.objs.size + 1) :: us ++ ds).length = ps.length := by
    have e := r2.length
    rw [F.len _ _ _ _ hq] at e
    exact e.symm
  refine wpAny_call (make_map (f := f) I.kIn M.makes M.init (beq_iff_eq.mp M.fn) (codeAny_mono (F.run _ X.stack _ _ ⟨Value.ref (s.heap.objs.size + 1) :: us, []⟩ (Value.ref (s.heap.objs.size + 1) :: (us ++ ds)) _ _ E (hr.make C us [])
    (I2.env0.make C us []) (hb _ (Value.ref (s.heap.objs.size + 1) :: us) I2.kIn hl) r2 hq) fun r s' hq' => ?_))
  cases r with
  | error e => exact hx pins σ _ _ e s' I2 hq'
  | ok fl =>
    cases fl with
    | ret u =>
      obtain ⟨v, H', I3, rv, ev, q3⟩ := I2.after hq'
      subst ev
      exact ⟨rv, ⟨V.ref (s.heap.objs.size + 1), H', I3, rfl, q3⟩⟩
    | next => exact False.elim hq'
    | brk => exact False.elim hq'
    | cont => exact False.elim hq'
theorem pe_make (M : Mk X.K C f) (F : FnOk X.prog X.w X.K X.mg X.base CX k f fd ps sp) (hr : Room (k + 1) X.A) (hg : Gl X x) (hm : X.mg x = some (.ref C)) (hb : Binds X.K fd ps ds) (hd : Vals dvs ds) (hx : Passes CX X E)
    (ha : PA X (e :: es) t) (hdb : (x == ("__debug__" : Str)) = false := by decide) (he : starEach (e :: es) X.env = (false, eval e X.env) :: starEach es X.env := by rfl) (hpl : (backTo pos (starEach es X.env)).any (·.1) = false := by rfl) :
    PE X (.Call (.Name x p) (e :: es) [] pos) (tMake C sp dvs E t) := by
  intro pins s σ H Q I h
  refine wpAny_Call_Name_kw (ld_glob I hg hm ?_ hdb)
  refine PySem.W.callWith_K (h₀ := X.base) I.ok.mod.kin M.kp (thn (ha pos pins s σ H _ I h) fun us s1 ⟨vs, H1, I1, r, q⟩ => ⟨I1.kIn, ?_⟩) he hpl
  exact run_make M F hr hb hd hx I1 r q
theorem pe_make0 (M : Mk X.K C f) (F : FnOk X.prog X.w X.K X.mg X.base CX k f fd ps sp) (hr : Room (k + 1) X.A) (hg : Gl X x) (hm : X.mg x = some (.ref C)) (hb : Binds X.K fd ps ds) (hd : Vals dvs ds) (hx : Passes CX X E)
    (hdb : (x == ("__debug__" : Str)) = false := by decide) : PE X (.Call (.Name x p) [] [] pos) (tMake C sp dvs E tNil) := by
  intro pins s σ H Q I h
  refine wpAny_Call_Name_kw (ld_glob I hg hm ?_ hdb)
  exact PySem.W.callWith_K0 I.kIn M.kp (run_make (us := []) M F hr hb hd hx I .nil h)
end

/-! ### keywords -/
/-- the values of the keywords, from the left -/
def PK (X : Cx) (kws : List Keyword) (t : TA) : Prop :=
  ∀ (pos : Pos) (pins : List (Addr × Obj)) (s : Shared) (σ : St) (H : Hp) (Q : List V → Hp → Prop), Inv X pins σ H s → t σ H Q → wpAny (model X.prog X.w) X.A (evalAll ((backToKw pos (keywordEach kws X.env)).map (·.2))) (AP X pins σ Q) X.xe s
section
variable {X : Cx} {CX : CXT} {k : Nat} {f C : Addr} {fd : FuncData} {ps ks : List Str} {sp : Sp} {E : XK} {x m : Str} {p pos apos kpos : Pos} {e o : Expr} {es : List Expr} {kws : List Keyword} {te ta : TE} {t tk : TA} {nm : Option Str}
theorem pk_nil : PK X [] tNil := fun _ _ _ _ H Q I h => wpAny_evalAll_nil ⟨[], H, I, .nil, h⟩
theorem pk_cons (ha : PE X e te) (hr : PK X kws t) : PK X (⟨nm, e, kpos⟩ :: kws) (tCons te t) := by
  intro pos pins s σ H Q I h
  show wpAny _ _ (evalAll ((do let v ← eval e X.env; standAt pos; pure v) :: (backToKw pos (keywordEach kws X.env)).map (·.2))) _ _ s
  refine wpAny_evalAll_cons (wpAny_bind (thn (ha pins s σ H _ I h) fun u s1 ⟨x, H1, I1, r1, q1⟩ => wpAny_bind (wpAny_standAt (wpAny_pure ?_))))
  exact thn (hr pos pins s1 σ H1 _ I1 q1) fun us s2 ⟨xs, H2, I2, r2, q2⟩ => ⟨x :: xs, H2, I2, .cons r1 r2, q2⟩

/-- how a call with keywords binds: g puts the positional values us and the keywords' values ws (names ks) in the parameters' order, defaults among them -/
structure KBinds (K : PySem.W.Frag) (fd : FuncData) (ps ks : List Str) (g : List Value → List Value → List Value) (gV : List V → List V → List V) : Prop where
  to : ∀ (s : Shared) (us ws : List Value), K.In s.heap → (g us ws).length = ps.length → BindsTo s fd ⟨us, ks.zip ws⟩ (ps.zip (g us ws))
  rel : ∀ {vs : List V} {us : List Value} {zs : List V} {ws : List Value}, Vals vs us → Vals zs ws → Vals (gV vs zs) (g us ws)
def tCallK (sp : Sp) (gV : List V → List V → List V) (E : XK) (t tk : TA) : TE := fun σ H Q => t σ H fun vs H1 => tk σ H1 fun zs H2 => sp (gV vs zs) H2 Q E
variable {g : List Value → List Value → List Value} {gV : List V → List V → List V}
theorem run_fnk {pins : List (Addr × Obj)} {σ : St} {H : Hp} {s : Shared} {Q : VK} {us ws : List Value} {vs zs : List V} (F : FnOk X.prog X.w X.K X.mg X.base CX k f fd ps sp) (hr : Room k X.A) (hb : KBinds X.K fd ps ks g gV) (hx : Passes CX X E)
    (I : Inv X pins σ H s) (r : Vals vs us) (rz : Vals zs ws) (h : sp (gV vs zs) H Q E) : wpAny (model X.prog X.w) X.A (call (.ref f) us (ks.zip ws)) (EP X pins σ Q) X.xe s := by
  have r2 := hb.rel r rz
  have hl : (g us ws).length = ps.length := by rw [← r2.length]; exact F.len _ _ _ _ h
  refine wpAny_call (codeAny_mono (F.run X.A X.stack s H ⟨us, ks.zip ws⟩ (g us ws) (gV vs zs) Q E hr I.env0 (hb.to s us ws I.kIn hl) r2 h) fun r s' hq => ?_)
  cases r with
  | error e => exact hx pins σ H s e s' I hq
  | ok fl =>
    cases fl with
    | ret u => exact I.after hq
    | next => exact False.elim hq
    | brk => exact False.elim hq
    | cont => exact False.elim hq
theorem pe_callK (F : FnOk X.prog X.w X.K X.mg X.base CX k f fd ps sp) (hr : Room k X.A) (hg : Gl X x) (hm : X.mg x = some (.ref f)) (hk : PySem.W.keepIn X.K (.ref f) = true) (hb : KBinds X.K fd ps ks g gV) (hx : Passes CX X E)
    (ha : PA X (e :: es) t) (hkw : PK X kws tk) (hall : (backToKw pos (keywordEach kws X.env)).all (·.1.isSome) = true := by rfl) (hks : (backToKw pos (keywordEach kws X.env)).filterMap (·.1) = ks := by rfl)
    (hdb : (x == ("__debug__" : Str)) = false := by decide) (he : starEach (e :: es) X.env = (false, eval e X.env) :: starEach es X.env := by rfl)
    (hpl : ((backTo pos (starEach (e :: es) X.env)).any (·.1) || (backToKw pos (keywordEach kws X.env)).any (·.1.isNone)) = false := by rfl) :
    PE X (.Call (.Name x p) (e :: es) kws pos) (tCallK sp gV E t tk) := by
  intro pins s σ H Q I h
  refine wpAny_Call_Name_kw (ld_glob I hg hm ?_ hdb)
  refine PySem.W.callWith_KW (h₀ := X.base) I.ok.mod.kin hk hall (thn (ha pos pins s σ H _ I h) fun us s1 ⟨vs, H1, I1, r, q⟩ => ?_) hpl he
  refine thn (hkw pos pins s1 σ H1 _ I1 q) fun ws s2 ⟨zs, H2, I2, rz, q2⟩ => ⟨I2.kIn, ?_⟩
  rw [hks]
  exact run_fnk F hr hb hx I2 r rz q2
end

/-! ### a def's body keeps its promise -/
/-- names: the parameters first -/
structure FnScope (N P : List Str) (sc : Scope) : Prop where
  kind : sc.kind = .function
  co : sc.isCoroutine = false
  gen : sc.isGenerator = false
  nd : N.Nodup
  pre : N.take P.length = P
  par : ∀ x ∈ P, sc.names.lookup x = some .local ∨ sc.names.lookup x = some .cell
  nofree : ∀ y ∈ sc.names, y.2 ≠ .free

theorem bindL_out {kindOf : Str → Option NameKind} {x : Str} : ∀ {binds : List (Str × Value)} {m : Str → Option Value}, (∀ v, (x, v) ∉ binds) → bindL kindOf binds m x = m x
  | [], _, _ => rfl
  | (n, v) :: r, m, h => by
    unfold bindL
    rw [bindL_out fun w hw => h w (List.mem_cons_of_mem _ hw)]
    split
    · have : x ≠ n := by rintro rfl; exact h v List.mem_cons_self
      simp [this]
    · rfl
theorem bindC_out {kindOf : Str → Option NameKind} {x : Str} : ∀ {binds : List (Str × Value)} {m : Str → Option Value}, (∀ v, (x, v) ∉ binds) → bindC kindOf binds m x = m x
  | [], _, _ => rfl
  | (n, v) :: r, m, h => by
    unfold bindC
    rw [bindC_out fun w hw => h w (List.mem_cons_of_mem _ hw)]
    split
    · rfl
    · have : x ≠ n := by rintro rfl; exact h v List.mem_cons_self
      simp [this]
theorem bindL_get {kindOf : Str → Option NameKind} {x : Str} {v : Value} : ∀ {P : List Str} {vs : List Value} {i : Nat} {m : Str → Option Value}, P.Nodup → P[i]? = some x → vs[i]? = some v → kindOf x = some .local →
    bindL kindOf (P.zip vs) m x = some v
  | [], _, _, _, _, h, _, _ => by simp at h
  | _ :: _, [], _, _, _, _, h, _ => by simp at h
  | p :: P, w :: vs, 0, m, nd, h1, h2, hk => by
    simp at h1 h2; subst h1; subst h2
    show bindL kindOf ((p, w) :: P.zip vs) m p = _
    unfold bindL
    rw [bindL_out fun v hv => (List.nodup_cons.mp nd).1 (List.of_mem_zip hv).1, if_pos hk]
    simp
  | p :: P, w :: vs, i + 1, m, nd, h1, h2, hk => by
    show bindL kindOf ((p, w) :: P.zip vs) m x = _
    unfold bindL
    exact bindL_get (i := i) (List.nodup_cons.mp nd).2 (by simpa using h1) (by simpa using h2) hk
theorem bindC_get {kindOf : Str → Option NameKind} {x : Str} {v : Value} : ∀ {P : List Str} {vs : List Value} {i : Nat} {m : Str → Option Value}, P.Nodup → P[i]? = some x → vs[i]? = some v → kindOf x ≠ some .local →
    bindC kindOf (P.zip vs) m x = some v
  | [], _, _, _, _, h, _, _ => by simp at h
  | _ :: _, [], _, _, _, _, h, _ => by simp at h
  | p :: P, w :: vs, 0, m, nd, h1, h2, hk => by
    simp at h1 h2; subst h1; subst h2
    show bindC kindOf ((p, w) :: P.zip vs) m p = _
    unfold bindC
    rw [bindC_out fun v hv => (List.nodup_cons.mp nd).1 (List.of_mem_zip hv).1, if_neg hk]
    simp
  | p :: P, w :: vs, i + 1, m, nd, h1, h2, hk => by
    show bindC kindOf ((p, w) :: P.zip vs) m x = _
    unfold bindC
    exact bindC_get (i := i) (List.nodup_cons.mp nd).2 (by simpa using h1) (by simpa using h2) hk

/-- the names' values at the entry -/
def start (N : List Str) (vs : List V) : St := vs.map some ++ List.replicate (N.length - vs.length) none

/-- the context of a def's body, at its entry; an exception leaves the frame, then lies as CX says -/
def cxOf (CX : CXT) (P : Program) (w : World) (K : PySem.W.Frag) (mg : Str → Option Value) (base : Heap) (N : List Str) (qual : Str) (scope : Scope) (f : Addr) (cd : Value) (A : Around) (outer : List Env) (s : Shared) (H : Hp) (E : XK) : Cx where
  prog := P
  w := w
  K := K
  mg := mg
  base := base
  A := A.deeper (envOfC qual scope s.heap.objs.size f cd)
  N := N
  s₀ := s
  H₀ := H
  env := envOfC qual scope s.heap.objs.size f cd
  outer := outer
  stack := envOfC qual scope s.heap.objs.size f cd :: outer
  ex := []
  calm := true
  fn := fun _ => true
  pn := []
  xe := fun e s' => wpAny (model P w) (A.deeper (envOfC qual scope s.heap.objs.size f cd)) (leaving (envOfC qual scope s.heap.objs.size f cd) e) (fun _ s'' => CX outer H s E e s'') (fun e' s'' => CX outer H s E e' s'') s'

theorem cell_has {sc : Scope} {n : Nat} {x : Str} (h : sc.names.lookup x = some .cell) : ∃ c, (cellsFrom n sc.names []).lookup x = some c := by
  have q := PySem.W.cellsFrom_some sc.names n [] (.inl h)
  exact Option.isSome_iff_exists.mp q

theorem inv_start {CX : CXT} {P : Program} {w : World} {K : PySem.W.Frag} {mg : Str → Option Value} {base : Heap} {N ps : List Str} {qual : Str} {scope : Scope} {f : Addr} {cd : Value} {A : Around} {outer : List Env} {s s1 : Shared} {H : Hp} {E : XK} {us : List Value} {vs : List V}
    (S : FnScope N ps scope) (hd : A.handled = none) (e0 : Env0 P w K mg base A outer s H) (hl : vs.length = ps.length) (r : Vals vs us)
    (x : InCallC s s.heap.objs.size (bindL (envOfC qual scope s.heap.objs.size f cd).kindOf (ps.zip us) fun _ => none) (cellsFrom (s.heap.objs.size + 1) scope.names []) (bindC (envOfC qual scope s.heap.objs.size f cd).kindOf (ps.zip us) fun _ => none) s1) :
    Inv (cxOf CX P w K mg base N qual scope f cd A outer s H E) [] (start N vs) H s1 := by
  have hpl : ps.length ≤ N.length := by have := congrArg List.length S.pre; rw [List.length_take] at this; omega
  obtain ⟨h1, tk, rfl, hk⟩ := x.done
  have noA : ∀ b : Addr, b ∉ (cxOf CX P w K mg base N qual scope f cd A outer s H E).ex := fun b z => absurd (show b ∈ ([] : List Addr) from z) (by simp)
  refine ⟨⟨e0.mod, S.kind, rfl, rfl, Nat.le_refl _, fun y z c h1 h2 => ?_, fun y hy => ?_, fun y c _ h => ?_, fun _ => hd, Around.frames_deeper e0.frames, .inr ⟨rfl, rfl⟩, fun b z => absurd z (noA b), e0.bs, e0.bsz, fun b _ _ => noA b, fun b z => absurd z (noA b), e0.funs, e0.frf⟩,
    rfl, e0.bare, Un.kept hk, ⟨_, x.toInCall.ns, fun i y v h1 h2 h3 => ?_⟩, fun y c h => ⟨_, x.cell y c h⟩, e0.hok.fresh (Nat.le_refl _), fun y c h => ?_, fun p hp => absurd (show p ∈ ([] : List (Addr × Obj)) from hp) (by simp), e0.hok.kept hk, ?_⟩
  · exact name_of_addr x.apart (PySem.mem_of_lookup h1) (PySem.mem_of_lookup h2)
  · have hy : scope.names.lookup y = some .cell ∨ scope.names.lookup y = some .free := hy
    rcases hy with hy | hy
    · exact cell_has hy
    · exact absurd rfl (S.nofree _ (PySem.mem_of_lookup hy))
  · exact Nat.le_of_lt (x.above y c (PySem.mem_of_lookup h))
  · have hi : i < vs.length := by
      unfold start at h2
      by_cases hi : i < vs.length
      · exact hi
      · rw [List.getElem?_append_right (by simpa using hi)] at h2
        rw [List.getElem?_replicate] at h2
        split at h2 <;> cases h2
    have ha : vs[i]? = some v := by
      unfold start at h2
      rw [List.getElem?_append_left (by simpa using hi), List.getElem?_map] at h2
      cases e : vs[i]? with
      | none => rw [e] at h2; cases h2
      | some a => rw [e] at h2; cases h2; rfl
    obtain ⟨u, hu, rv⟩ := r.get ha
    have hp : ps[i]? = some y := by
      rw [← S.pre, List.getElem?_take_of_lt (by omega)]; exact h1
    have ndP : ps.Nodup := by rw [← S.pre]; exact S.nd.sublist (List.take_sublist _ _)
    refine ⟨u, rv, ?_⟩
    rcases S.par y (List.mem_of_getElem? hp) with k | k
    · exact .inl ⟨k, bindL_get ndP hp hu k⟩
    · obtain ⟨c, e⟩ := cell_has (n := s.heap.objs.size + 1) k
      refine .inr ⟨.inl k, c, e, ?_⟩
      have q := x.cell y c e
      rw [bindC_get ndP hp hu (by show scope.names.lookup y ≠ _; rw [k]; decide)] at q
      exact q
  · exact e0.hok.fresh (Nat.le_of_lt (x.above y c (PySem.mem_of_lookup h)))
  · unfold start
    show _ = N.length
    rw [List.length_append, List.length_map, List.length_replicate]
    omega

/-- THE RULE: a def (or a method) of the text, by its body. The body's reading t is chosen for each entry; it is run at the parameters' values -/
theorem fn_of {CX : CXT} {P : Program} {w : World} {K : PySem.W.Frag} {mg : Str → Option Value} {base : Heap} {k : Nat} {f : Addr} {name qual : Str} {params : Arguments} {body : List Stmt} {scope : Scope} {dV kV doc pm cdv ct oc : Value} {an od : Option Addr}
    {osl : Array (Option Value)} {N ps : List Str} {sp : Sp} (lk : K.lookup f = some ⟨oc, od, .func (PySem.W.fnOf name qual params body scope dV kV doc pm an cdv ct), osl⟩) (hcd : PySem.W.codeIn K cdv qual = true) (S : FnScope N ps scope)
    (len : ∀ vs H Q E, sp vs H Q E → vs.length = ps.length)
    (hbody : ∀ (A : Around) (outer : List Env) (s : Shared) (H : Hp) (vs : List V) (Q : VK) (E : XK), Room k (A.deeper (envOfC qual scope s.heap.objs.size f cdv)) → sp vs H Q E →
      ∃ t, PSs (cxOf CX P w K mg base N qual scope f cdv A outer s H E) body t ∧ t { nx := fun _ H' => Q .non H', rt := Q } (start N vs) H) :
    FnOk P w K mg base CX (k + 1) f (PySem.W.fnOf name qual params body scope dV kV doc pm an cdv ct) ps sp := by
  refine ⟨len, fun A outer s H args us vs Q E hr e0 hb r hsp => ?_⟩
  have hl := len _ _ _ _ hsp
  have KX : K.In s.heap := e0.mod.kin.keeps fun b o e => (e0.bs b o e).1
  have lim : s.heap.NoLimit := e0.mod.nolimit.keeps fun b o e => (e0.bs b o e).1
  have hkind : ∀ y ∈ ps.zip us, scope.names.lookup y.1 = some .local ∨ (scope.names.lookup y.1 = some .cell ∧ ((cellsFrom (s.heap.objs.size + 1) scope.names []).lookup y.1).isSome = true) := fun ⟨n, v⟩ hy => by
    rcases S.par n (List.of_mem_zip hy).1 with q | q
    · exact .inl q
    · exact .inr ⟨q, PySem.W.cellsFrom_some _ _ _ (.inl q)⟩
  refine codeAny_call_function hr.depth (KX _ _ lk) rfl S.co S.gen rfl (PySem.W.codeRec_of KX hcd) (hb _ _ _ _ ?_)
  refine wpAny_newFunctionEnv_cells S.kind hkind fun env he s1 x => ?_
  subst he
  refine ⟨lim.keeps x.toInCall.keep, codeAny_func ?_⟩
  obtain ⟨t, ht, hq⟩ := hbody A outer s H vs Q E (hr.deeper _) hsp
  have I : Inv (cxOf CX P w K mg base N qual scope f cdv A outer s H E) [] (start N vs) H s1 := inv_start S hr.hd e0 hl r x
  refine wpAny_mono (ht [] s1 (start N vs) H _ I hq) (fun fl s' hs => ?_) fun e s' hs => hs
  have fin : ∀ {σ' : St} {H' : Hp} {v : V} {u : Value}, Inv (cxOf CX P w K mg base N qual scope f cdv A outer s H E) [] σ' H' s' → RelV v u → Q v H' → CE outer P w H s Q u s' :=
    fun {σ' H' v u} J rv q => ⟨v, H', J.os, J.bare, J.base, J.hok, rv, q⟩
  cases fl with
  | ret u =>
    obtain ⟨v, σ', H', J, rv, q⟩ := hs
    exact fin J rv q
  | next =>
    obtain ⟨σ', H', J, q⟩ := hs
    exact fin (v := V.non) (u := Value.none) J rfl q
  | brk =>
    obtain ⟨_, _, _, q⟩ := hs
    exact False.elim q
  | cont =>
    obtain ⟨_, _, _, q⟩ := hs
    exact False.elim q
end L2

namespace L2
open PySem PySem.Spec PyProof.Rows
section
variable {X : Cx} {x : Str} {p pos : Pos} {e : Expr} {es : List Expr} {t : TA} {id T : String} {r : List V → Hp → VK → Prop}

def tCB (r : List V → Hp → VK → Prop) (t : TA) : TE := fun σ H Q => t σ H fun vs H1 => r vs H1 Q
/-- f(e, ..), f a built-in function -/
theorem pe_callB (hc : CallR X (.builtin id) r) (hg : Gl X x) (hm : X.mg x = none) (hv : bootBuiltins x = some (.builtin id)) (ha : PA X (e :: es) t) (hn : x ≠ "__name__" := by decide) (hdb : (x == ("__debug__" : Str)) = false := by decide)
    (he : starEach (e :: es) X.env = (false, eval e X.env) :: starEach es X.env := by rfl) (hpl : (backTo pos (starEach es X.env)).any (·.1) = false := by rfl) : PE X (.Call (.Name x p) (e :: es) [] pos) (tCB r t) := by
  intro pins s σ H Q I h
  refine wpAny_Call_Name_kw (ld_blt I hg hm hv ?_ hn hdb)
  exact PyProof.Rows.callWith_builtin1 (thn (ha pos pins s σ H _ I h) fun us s1 ⟨vs, H1, I1, r1, q1⟩ => hc pins s1 σ H1 vs us Q I1 r1 q1) he hpl
/-- T(e, ..), T a built-in type -/
theorem pe_callTy (hc : CallR X (.type T) r) (hg : Gl X x) (hm : X.mg x = none) (hv : bootBuiltins x = some (.type T)) (ha : PA X (e :: es) t) (hn : x ≠ "__name__" := by decide) (hdb : (x == ("__debug__" : Str)) = false := by decide)
    (he : starEach (e :: es) X.env = (false, eval e X.env) :: starEach es X.env := by rfl) (hpl : (backTo pos (starEach es X.env)).any (·.1) = false := by rfl) : PE X (.Call (.Name x p) (e :: es) [] pos) (tCB r t) := by
  intro pins s σ H Q I h
  refine wpAny_Call_Name_kw (ld_blt I hg hm hv ?_ hn hdb)
  exact PyProof.Rows.callWith_type1 (thn (ha pos pins s σ H _ I h) fun us s1 ⟨vs, H1, I1, r1, q1⟩ => hc pins s1 σ H1 vs us Q I1 r1 q1) he hpl
theorem pe_callTy0 (hc : CallR X (.type T) r) (hg : Gl X x) (hm : X.mg x = none) (hv : bootBuiltins x = some (.type T)) (hn : x ≠ "__name__" := by decide) (hdb : (x == ("__debug__" : Str)) = false := by decide) :
    PE X (.Call (.Name x p) [] [] pos) (tCB r tNil) := by
  intro pins s σ H Q I h
  refine wpAny_Call_Name_kw (ld_blt I hg hm hv ?_ hn hdb)
  exact PyProof.Rows.callWith_type0 (hc pins s σ H [] [] Q I .nil h)
end
end L2

namespace HT
open PySem PyProof.Rows

/-- t < u of tuples of ints -/
def lexLt : List Int → List Int → Bool
  | [], [] => false
  | [], _ :: _ => true
  | _ :: _, [] => false
  | x :: xs, y :: ys => if x = y then lexLt xs ys else decide (x < y)
theorem lexLt_cons (x y : Int) (xs ys : List Int) : lexLt (x :: xs) (y :: ys) = if x = y then lexLt xs ys else decide (x < y) := rfl
theorem lexLt_nil_nil : lexLt [] [] = false := rfl
theorem lexLt_nil_cons (y : Int) (ys : List Int) : lexLt [] (y :: ys) = true := rfl
theorem lexLt_cons_nil (x : Int) (xs : List Int) : lexLt (x :: xs) [] = false := rfl

theorem eqAt_int (A : Around) (s : Shared) (a : Int) (t : Tok) (c : Int) (u : Tok) : ∃ e, SeqAt.EqAt A s (.int a t) (.int c u) e ∧ (e = true ↔ a = c) :=
  ⟨(a == c), SeqAt.EqAt.int_int a t c u, by simp⟩
theorem rcLt_int (A : Around) (s : Shared) (a : Int) (t : Tok) (c : Int) (u : Tok) (prog : Program) (w : World) (E : Value → Shared → Prop) (Q : Value → Shared → Prop) (h : Q (.bool (decide (a < c))) s) :
    wpAny (model prog w) A (richCompare .Lt (.int a t) (.int c u)) Q E s :=
  (PyProof.Rows.lt_int h : wpAny (model prog w) A (compareOp .Lt (.int a t) (.int c u)) Q E s)

section
open PySem.SeqAt
open PySem.AutoSeq1 (wpAny_loadPart')
open PySem.MeetsSeq PySem.MeetsSeq2 PySem.MeetsSeq3

theorem tuple_lt_ints (l b : Addr) (items items2 : Array Value) (n n2 : Nat) (dd dd2 : Option Addr) (sl sl2 : Array (Option Value)) (ns ms : List Int) (hi : IntsAre items.toList ns) (hj : IntsAre items2.toList ms) :
    Meets (Builtin.«tuple.__lt__» ⟨[.ref l, .ref b], []⟩)
      (fun _ R s => s.heap.get? l = some { cls := .type "tuple", dict := dd, data := .seq items n, slots := sl } ∧ s.heap.get? b = some { cls := .type "tuple", dict := dd2, data := .seq items2 n2, slots := sl2 } ∧
        R (.ok (.ret (.bool (lexLt ns ms)))) s) :=
  .of_wp fun prog w A R s h => by
    obtain ⟨hp, g, d, tk, os⟩ := s; obtain ⟨hl, hb, h⟩ := h
    have f2 := AutoSeq1.sub_tuple_tuple
    have z1 : items.size = ns.length := by rw [← hi.length]; simp
    have z2 : items2.size = ms.length := by rw [← hj.length]; simp
    wp_walk using wpAny_loadPart' hl, wpAny_loadPart' hb, wpAny_forIn_list _ (fun rest b s' => b.1 = none ∧ s' = ⟨hp, g, d, tk, os⟩ ∧ ∃ (vs ws : List Value) (ns' ms' : List Int), rest = vs.zip ws ∧
      IntsAre vs ns' ∧ IntsAre ws ms' ∧ ns'.length + items2.size = ms'.length + items.size ∧ R (.ok (.ret (.bool (lexLt ns' ms')))) ⟨hp, g, d, tk, os⟩) _
    case turn =>
      rintro ⟨y, x⟩ rest b s' ⟨hb', rfl, vs, ws, ns', ms', hz, hvi, hwi, hlen, hR⟩
      cases hvi with
      | nil => rw [List.zip_nil_left] at hz; cases hz
      | cons a t hvi' =>
        cases hwi with
        | nil => rw [List.zip_nil_right] at hz; cases hz
        | cons c u hwi' =>
          rw [List.zip_cons_cons] at hz
          injection hz with hyx hrest
          injection hyx with hy hx
          subst hy hx
          rw [lexLt_cons] at hR
          simp only [List.length_cons] at hlen
          obtain ⟨e, he, hiff⟩ := eqAt_int A.in1 ⟨hp, g, d, tk, os⟩ a t c u
          refine wpAny_bind (he prog w _ _ ?_)
          cases e with
          | true =>
            rw [if_pos (hiff.mp rfl)] at hR
            wp_walk
            exact ⟨rfl, rfl, _, _, _, _, hrest, hvi', hwi', by omega, hR⟩
          | false =>
            rw [if_neg (fun q => absurd (hiff.mpr q) Bool.false_ne_true)] at hR
            have hri := rcLt_int A.in1 ⟨hp, g, d, tk, os⟩ a t c u prog w
            wp_walk using hri
            exact ⟨_, rfl, by simpa using hR⟩
    case fin =>
      rintro ⟨b1, b2⟩ s' ⟨hb', rfl, vs, ws, ns', ms', hz, hvi, hwi, hlen, hR⟩
      simp only at hb'
      subst hb'
      have hv : lexLt ns' ms' = decide (items.size < items2.size) := by
        cases hvi with
        | nil =>
          cases hwi with
          | nil =>
            simp only [List.length_nil] at hlen
            rw [lexLt_nil_nil]
            exact (decide_eq_false (by omega)).symm
          | cons c u hw =>
            simp only [List.length_nil, List.length_cons] at hlen
            rw [lexLt_nil_cons]
            exact (decide_eq_true (by omega)).symm
        | cons a t hv =>
          cases hwi with
          | nil =>
            simp only [List.length_nil, List.length_cons] at hlen
            rw [lexLt_cons_nil]
            exact (decide_eq_false (by omega)).symm
          | cons c u hw =>
            rw [List.zip_cons_cons] at hz
            cases hz
      rw [hv] at hR
      wp_walk
      exact ⟨_, rfl, by simpa [Builtin.Tuple.tupleCompareSizes] using hR⟩
    case h =>
      exact ⟨rfl, rfl, items.toList, items2.toList, ns, ms, rfl, hi, hj, by omega, h⟩
end

section
variable {prog : Program} {w : World} {A : Around} {E : Value → Shared → Prop} {s : Shared}

theorem lt_tupInts {l b : Addr} {items items2 : Array Value} {ns ms : List Int} {Q : Value → Shared → Prop} (hl : IsTup s.heap l items) (hb : IsTup s.heap b items2) (hi : IntsAre items.toList ns) (hj : IntsAre items2.toList ms)
    (hu : A.units < cLine) (h : Q (.bool (lexLt ns ms)) s) : wpAny (model prog w) A (compareOp .Lt (.ref l) (.ref b)) Q E s := by
  obtain ⟨⟨cls, dd, data, sl⟩, ho, hc, n, hd⟩ := id hl
  obtain ⟨⟨cls2, dd2, data2, sl2⟩, ho2, hc2, n2, hd2⟩ := id hb
  simp only at hc hd hc2 hd2
  subst hc hd hc2 hd2
  exact richCompare_meets_room (op := .Lt) ⟨_, ho, rfl⟩ ⟨_, ho2, rfl⟩ PySem.F.slot_tuple_lt PySem.F.entry_tuple_lt (PySem.F.args_tuple_lt_2 _ _) (tuple_lt_ints l b items items2 n n2 dd dd2 sl sl2 ns ms hi hj)
    ⟨ho, ho2, show Value.bool (lexLt ns ms) ≠ Value.notImplemented ∧ Q (.bool (lexLt ns ms)) s from ⟨(fun x => nomatch x), h⟩⟩ hu

/-- t + u, t not empty -/
theorem cat_tup {t b : Addr} {vs ws : List Value} {Q : Value → Shared → Prop} (ht : IsTup s.heap t vs.toArray) (hb : IsTup s.heap b ws.toArray) (hv : vs ≠ [])
    (h1 : ws = [] → Q (.ref t) s) (h2 : ws ≠ [] → Q (.ref s.heap.objs.size) { s with heap := s.heap.push { cls := .type "tuple", data := .seq (vs ++ ws).toArray } })
    (hsz : vs.length + ws.length ≤ sizeLine) : wpAny (model prog w) A (binaryOp .Add (.ref t) (.ref b)) Q E s := by
  obtain ⟨⟨cls, dd, data, sl⟩, ho, hc, n, hd⟩ := id ht
  obtain ⟨⟨cls2, dd2, data2, sl2⟩, ho2, hc2, n2, hd2⟩ := id hb
  simp only at hc hd hc2 hd2
  subst hc hd hc2 hd2
  have e : vs.toArray ++ ws.toArray = (vs ++ ws).toArray := by simp
  by_cases hw : ws = []
  · exact concat_meets ⟨_, ho, rfl⟩ ⟨_, ho2, rfl⟩ noFill_tuple_add seq_tuple_add PySem.F.slot_tuple_add PySem.F.entry_tuple_add (PySem.F.args_tuple_add_2 _ _)
      (tuple_addW1 t b vs.toArray ws.toArray n n2 dd dd2 sl sl2 (by simpa using hv) (by simp [hw])) ⟨ho, ho2, h1 hw⟩
  · refine concat_meets ⟨_, ho, rfl⟩ ⟨_, ho2, rfl⟩ noFill_tuple_add seq_tuple_add PySem.F.slot_tuple_add PySem.F.entry_tuple_add (PySem.F.args_tuple_add_2 _ _)
      (tuple_addW2 t b vs.toArray ws.toArray n n2 dd dd2 sl sl2 (by simpa using hv) (by simpa using hw) (by rw [List.size_toArray, List.size_toArray]; exact hsz)) ⟨ho, ho2, ?_⟩
    rw [e]
    exact h2 hw

/-! ### t[a:b], not the whole -/
/-- a slice's bound as a place among n (d where it is left out) -/
def sIx (n d : Nat) : Option Int → Nat
  | none => d
  | some v => if v < 0 then (v + (n : Int)).toNat else min v.toNat n
theorem sIx_none (n d : Nat) : sIx n d none = d := rfl
theorem sIx_nat (n d k : Nat) : sIx n d (some (k : Int)) = min k n := by
  show (if (k : Int) < 0 then ((k : Int) + (n : Int)).toNat else min (k : Int).toNat n) = min k n
  rw [if_neg (by omega), Int.toNat_natCast]
theorem sIx_le (n d : Nat) (hd : d ≤ n) (o : Option Int) : sIx n d o ≤ n := by
  cases o with
  | none => exact hd
  | some v =>
    show (if v < 0 then (v + (n : Int)).toNat else min v.toNat n) ≤ n
    by_cases hv : v < 0
    · rw [if_pos hv]; omega
    · rw [if_neg hv]; exact Nat.min_le_right _ _
theorem clip_eq (v : Int) (n d : Nat) : (if v < 0 then max (v + (n : Int)) 0 else min v (n : Int)) = ((sIx n d (some v) : Nat) : Int) := by
  show (if v < 0 then max (v + (n : Int)) 0 else min v (n : Int)) = (((if v < 0 then (v + (n : Int)).toNat else min v.toNat n) : Nat) : Int)
  by_cases hv : v < 0
  · simp only [if_pos hv]; omega
  · simp only [if_neg hv]; omega
theorem adjust_gen (lo hi : Option Int) (n : Nat) : Builtin.Slice.sliceAdjust lo hi 1 (n : Int) = (((sIx n 0 lo : Nat) : Int), ((sIx n n hi : Nat) : Int)) := by
  have h1 : ¬ ((1 : Int) < 0) := by omega
  unfold Builtin.Slice.sliceAdjust
  simp only [h1, if_false]
  refine Prod.ext ?_ ?_
  · cases lo with
    | none => rfl
    | some v => exact clip_eq v n 0
  · cases hi with
    | none => rfl
    | some v => exact clip_eq v n n
theorem places_gen (i j : Nat) : Builtin.Slice.slicePlaces (i : Int) (j : Int) 1 = j - i := by
  unfold Builtin.Slice.slicePlaces
  have h1 : (1 : Int) > 0 := by omega
  simp only [h1, if_true, Int.ediv_one]
  split <;> omega
theorem slicePart_ {v : Value} {o : Option Int} {Q : Option Int → Shared → Prop} (p : IsPart v o) (h : Q o s) : wpAny (model prog w) A (Builtin.Slice.slicePartIndex v) Q E s := by
  cases p with
  | none => exact slicePart_none h
  | int i t => exact slicePart_int h
theorem sliceApplied_gen {sl : Addr} {vl vu : Value} {lo hi : Option Int} {n : Nat} {Q : Int × Int × Nat → Shared → Prop} (hs : s.heap.IsSliceOf sl vl vu .none) (pl : IsPart vl lo) (pu : IsPart vu hi)
    (h : Q (((sIx n 0 lo : Nat) : Int), 1, sIx n n hi - sIx n 0 lo) s) : wpAny (model prog w) A (Builtin.Slice.sliceApplied (.ref sl) (pure (n : Int))) Q E s := by
  obtain ⟨os, hos, hcs, hds⟩ := id hs
  unfold Builtin.Slice.sliceApplied Builtin.Slice.sliceFields
  refine wpAny_bind (wpAny_bind (wpAny_field hos hds (x := vl) rfl (wpAny_bind (wpAny_field hos hds (x := vu) rfl (wpAny_bind (wpAny_field hos hds (x := .none) rfl (wpAny_pure ?_)))))))
  refine wpAny_bind (slicePart_none ?_)
  show wpAny _ _ (if ((1 : Int) == 0) = true then _ else _) _ _ s
  rw [if_neg (by decide)]
  refine wpAny_bind (slicePart_ pl (wpAny_bind (slicePart_ pu (wpAny_bind (wpAny_pure ?_)))))
  show wpAny _ _ (match Builtin.Slice.sliceAdjust lo hi 1 (n : Int) with | (lo, hi) => pure (lo, (1 : Int), Builtin.Slice.slicePlaces lo hi 1)) _ _ s
  rw [adjust_gen lo hi n]
  show wpAny _ _ (pure (((sIx n 0 lo : Nat) : Int), (1 : Int), Builtin.Slice.slicePlaces ((sIx n 0 lo : Nat) : Int) ((sIx n n hi : Nat) : Int) 1)) _ _ s
  rw [places_gen]
  exact wpAny_pure h
theorem pick_gen (xs : Array Value) (i k : Nat) : ((List.range k).filterMap fun (m : Nat) => xs[((i : Int) + (m : Int) * 1).toNat]?).toArray = ((xs.toList.drop i).take k).toArray := by
  have e : (fun (m : Nat) => xs[((i : Int) + (m : Int) * 1).toNat]?) = fun m => xs[i + m]? := by
    funext m
    have : ((i : Int) + (m : Int) * 1).toNat = i + m := by omega
    rw [this]
  rw [e]
  have := pick_run xs i k
  rw [List.filterMap_map] at this
  have e2 : ((fun x => xs[x]?) ∘ fun x => i + x) = fun m => xs[i + m]? := rfl
  rw [e2] at this
  rw [this]

theorem getItem_tuple_cut {t sl : Addr} {items : Array Value} {vl vu : Value} {lo hi : Option Int} {Q : Value → Shared → Prop} (ht : IsTup s.heap t items) (hs : s.heap.IsSliceOf sl vl vu .none) (pl : IsPart vl lo) (pu : IsPart vu hi)
    (hw : ¬ (sIx items.size 0 lo = 0 ∧ sIx items.size items.size hi = items.size))
    (h : Q (.ref s.heap.objs.size) { s with heap := s.heap.push { cls := .type "tuple", data := .seq ((items.toList.drop (sIx items.size 0 lo)).take (sIx items.size items.size hi - sIx items.size 0 lo)).toArray } })
    (hsz : items.size ≤ sizeLine) : wpAny (model prog w) A (getItem (.ref t) (.ref sl)) Q E s := by
  have htake : sizeOk (.seq ((items.toList.drop (sIx items.size 0 lo)).take (sIx items.size items.size hi - sIx items.size 0 lo)).toArray) := by
    show ((items.toList.drop (sIx items.size 0 lo)).take (sIx items.size items.size hi - sIx items.size 0 lo)).toArray.size ≤ sizeLine
    rw [List.size_toArray, List.length_take, List.length_drop, Array.length_toList]
    omega
  have hj : sIx items.size items.size hi ≤ items.size := sIx_le _ _ (Nat.le_refl _) hi
  obtain ⟨os, hos, hcs, hds⟩ := id hs
  have hTs : s.TypeIs (.ref sl) "slice" := ⟨os, hos, hcs⟩
  unfold getItem
  try with_reducible refine wpAny_holding ?_
  first | refine wpAny_bind (wpAny_pure ?_) | skip
  refine wpAny_bind (wpAny_sequenceKey ht.typeIs (by decide) ?_)
  refine wpAny_bind (wpAny_callSpecial?_slot (name := Str.ofString "__getitem__") ht.typeIs PyProof.Rows.slot_tuple_getitem
    (wpAny_call_entry PyProof.Rows.slot_tuple_getitem ht.typeIs entry_tuple_getitem ?_ (args_tuple_getitem _ _)))
  show wpAny _ _ (Builtin.Tuple.tupleItemsOf (.ref t) >>= _) _ _ s
  refine wpAny_bind (tupleItemsOf_ ht ?_)
  refine wpAny_bind (wpAny_typeOf hTs ?_)
  rw [if_pos (by decide)]
  refine wpAny_bind (sliceApplied_gen hs pl pu ?_)
  have hno : ¬ ((((sIx items.size 0 lo : Nat) : Int) == 0 && (1 : Int) == 1 && (sIx items.size items.size hi - sIx items.size 0 lo) == items.size) = true) := by
    intro q
    rw [Bool.and_eq_true, Bool.and_eq_true] at q
    have q1 : ((sIx items.size 0 lo : Nat) : Int) = 0 := eq_of_beq q.1.1
    have q2 : sIx items.size items.size hi - sIx items.size 0 lo = items.size := eq_of_beq q.2
    exact hw ⟨by omega, by omega⟩
  show wpAny _ _ (if (((sIx items.size 0 lo : Nat) : Int) == 0 && (1 : Int) == 1 && (sIx items.size items.size hi - sIx items.size 0 lo) == items.size) = true then _ else _) _ _ s
  rw [if_neg hno, pick_gen]
  first
    | exact wpAny_bind (m := Builtin.Tuple.tupleExact _) (wpAny_newObj_type (wpAny_pure ⟨_, rfl, wpAny_pure h⟩) htake)
    | exact wpAny_bind (m := Builtin.Tuple.tupleExact _) (wpAny_newObj_type (wpAny_bind (wpAny_pure (wpAny_pure ⟨_, rfl, wpAny_pure h⟩))) htake)
    | exact wpAny_bind (wpAny_bind (m := Builtin.Tuple.tupleExact _) (wpAny_newObj_type (wpAny_pure (wpAny_pure ⟨_, rfl, wpAny_pure h⟩)) htake))
    | exact wpAny_bind (wpAny_bind (m := Builtin.Tuple.tupleExact _) (wpAny_newObj_type (wpAny_pure ⟨_, rfl, wpAny_pure h⟩) htake))
end
end HT

namespace L2
open PySem PySem.Spec PyProof.Rows

/-! ### the parts of a slice -/
abbrev TO := St → Hp → (Option Int → Hp → Prop) → Prop
/-- a slice's part (left out, or an int) -/
def PO (X : Cx) (e : Option Expr) (t : TO) : Prop :=
  ∀ (pins : List (Addr × Obj)) (s : Shared) (σ : St) (H : Hp) (Q : Option Int → Hp → Prop), Inv X pins σ H s → t σ H Q →
    wpAny (model X.prog X.w) X.A (evalPart e X.env) (fun u s' => ∃ o H', Inv X pins σ H' s' ∧ IsPart u o ∧ Q o H') X.xe s
def tNoPart : TO := fun _ H Q => Q none H
def tPart (t : TE) : TO := fun σ H Q => t σ H fun x H1 => ∃ i, x = .int i ∧ Q (some i) H1

theorem intsAre_of {ns : List Int} : ∀ {us : List Value}, Vals (ns.map V.int) us → IntsAre us ns := by
  induction ns with
  | nil => intro us r; rw [List.map_nil] at r; cases r; exact .nil
  | cons n ns ih =>
    intro us r
    rw [List.map_cons] at r
    cases r with
    | cons r1 r2 =>
      obtain ⟨t, e⟩ := r1
      subst e
      exact .cons n t (ih r2)

section
variable {X : Cx} {e : Expr} {te : TE} {lo hi : Option Expr} {tl th : TO} {pos p2 : Pos}

theorem po_none : PO X none tNoPart := by
  intro pins s σ H Q I h
  rw [evalPart_none]
  exact wpAny_pure ⟨none, H, I, .none, h⟩
theorem po_some (h : PE X e te) : PO X (some e) (tPart te) := by
  intro pins s σ H Q I hw
  rw [evalPart_some]
  refine thn (h pins s σ H _ I hw) fun u s1 ⟨x, H1, I1, r1, q1⟩ => ?_
  obtain ⟨i, rfl, q⟩ := q1
  obtain ⟨t, rfl⟩ := r1
  exact ⟨some i, H1, I1, .int i t, q⟩

/-- what a slice of a value is, by values: the slice object stands at sl -/
def SlR (X : Cx) (r : V → Option Int → Option Int → Hp → VK → Prop) : Prop :=
  ∀ (pins : List (Addr × Obj)) (s : Shared) (σ : St) (H : Hp) (x : V) (v vl vu : Value) (lo hi : Option Int) (sl : Addr) (Q : VK), Inv X pins σ H s → RelV x v → s.heap.IsSliceOf sl vl vu .none → IsPart vl lo → IsPart vu hi → r x lo hi H Q →
    ∃ T id, typeLookup (.type T) "__getitem__" = pure (some (.builtin id)) ∧ s.TypeIs v T ∧ wpAny (model X.prog X.w) X.A (getItem v (.ref sl)) (EP X pins σ Q) X.xe s
theorem SlR.or {r r' : V → Option Int → Option Int → Hp → VK → Prop} (h : SlR X r) (h' : SlR X r') : SlR X (fun x lo hi H Q => r x lo hi H Q ∨ r' x lo hi H Q) := by
  intro pins s σ H x v vl vu lo hi sl Q I rx hs pl pu q
  rcases q with q | q
  · exact h pins s σ H x v vl vu lo hi sl Q I rx hs pl pu q
  · exact h' pins s σ H x v vl vu lo hi sl Q I rx hs pl pu q
def tSl (r : V → Option Int → Option Int → Hp → VK → Prop) (te : TE) (tl th : TO) : TE := fun σ H Q => te σ H fun x H1 => tl σ H1 fun l H2 => th σ H2 fun u H3 => r x l u H3 Q
/-- a[lo:hi], any a -/
theorem pe_slice {r : V → Option Int → Option Int → Hp → VK → Prop} (hr : SlR X r) (he : PE X e te) (hl : PO X lo tl) (hu : PO X hi th) : PE X (.Subscript e (.Slice lo hi none p2) pos) (tSl r te tl th) := by
  intro pins s σ H Q I h
  refine Subscript_ (thn (he pins s σ H _ I h) fun v s1 ⟨x, H1, I1, r1, q1⟩ => ?_)
  refine wpAny_Slice (thn (hl pins s1 σ H1 _ I1 q1) fun vl s2 ⟨l, H2, I2, pl, q2⟩ => thn (hu pins s2 σ H2 _ I2 q2) fun vu s3 ⟨u, H3, I3, pu, q3⟩ => ?_)
  rw [evalPart_none]
  refine wpAny_pure ?_
  have I4 : Inv X pins σ H3 { s3 with heap := s3.heap.push { cls := .type "slice", data := .fields #[vl, vu, .none] } } := I3.kept (t' := s3.toks) fun b ob q => Heap.get?_push_of_some _ q
  obtain ⟨T, id, hT, ht, hg⟩ := hr pins { s3 with heap := s3.heap.push { cls := .type "slice", data := .fields #[vl, vu, .none] } } σ H3 x v vl vu l u s3.heap.objs.size Q I4 r1 (Heap.IsSliceOf.new ..) pl pu q3
  show wpAny (model X.prog X.w) X.A (subscriptTail e (.Slice lo hi none p2) v (.ref s3.heap.objs.size)) (EP X pins σ Q) X.xe { s3 with heap := s3.heap.push { cls := .type "slice", data := .fields #[vl, vu, .none] } }
  exact tail_any (ops := [.ref s3.heap.objs.size, v]) ht hT hg (by with_unfolding_all rfl)

/-- the items of xs[lo:hi] -/
def cutV (xs : List V) (lo hi : Option Int) : List V := (xs.drop (HT.sIx xs.length 0 lo)).take (HT.sIx xs.length xs.length hi - HT.sIx xs.length 0 lo)
theorem cutV_length (xs : List V) (lo hi : Option Int) : (cutV xs lo hi).length ≤ xs.length := by
  unfold cutV
  rw [List.length_take, List.length_drop]
  omega
/-- t[lo:hi], not the whole of it (the whole would be t itself) -/
def rSlT (K : PySem.W.Frag) : V → Option Int → Option Int → Hp → VK → Prop := fun x lo hi H Q => ∃ a xs, x = .ref a ∧ SqT K H a xs ∧
  ¬ (HT.sIx xs.length 0 lo = 0 ∧ HT.sIx xs.length xs.length hi = xs.length) ∧ ∀ p, H p = none → Q (.ref p) (upd H p (.tup (cutV xs lo hi)))
theorem sl_tup : SlR X (rSlT X.K) := by
  intro pins s σ H x v vl vu lo hi sl Q I rx hs pl pu h
  obtain ⟨a, xs, rfl, hx, hw, q⟩ := h
  cases rx
  obtain ⟨its, r, ht, hz⟩ := I.tuple hx
  have hlen : its.toArray.size = xs.length := by rw [List.size_toArray]; exact r.length.symm
  refine ⟨"tuple", _, PyProof.Rows.slot_tuple_getitem.lookup, ht.typeIs, ?_⟩
  refine HT.getItem_tuple_cut ht hs pl pu (by rw [hlen]; exact hw) ?_ (by rw [hlen]; exact hz)
  rw [hlen]
  refine ⟨.ref s.heap.objs.size, _, I.laid (t' := s.toks) (o := .tup (cutV xs lo hi)) (fun b ob q => Heap.get?_push_of_some _ q) (Nat.le_refl _) ?_, rfl, q _ (I.hok.fresh (Nat.le_refl _))⟩
  exact ⟨Nat.le_trans (cutV_length xs lo hi) hz, _, (r.drop (HT.sIx xs.length 0 lo)).take (HT.sIx xs.length xs.length hi - HT.sIx xs.length 0 lo), IsTup.new _ _⟩

/-! ### t < u, t + u -/
def rLtT (K : PySem.W.Frag) : R2 := fun x y H Q => ∃ a b ns ms, x = .ref a ∧ y = .ref b ∧ SqT K H a (ns.map V.int) ∧ SqT K H b (ms.map V.int) ∧ Q (.bl (HT.lexLt ns ms)) H
theorem op_ltT (hu : X.A.units < cLine) : OpR X (compareOp .Lt) (rLtT X.K) := by
  intro pins s σ H x y v u Q I rx ry h
  obtain ⟨a, b, ns, ms, rfl, rfl, ha, hb, q⟩ := h
  cases rx
  cases ry
  obtain ⟨its, r1, p1, _⟩ := I.tuple ha
  obtain ⟨its2, r2, p2, _⟩ := I.tuple hb
  have i1 : IntsAre its.toArray.toList ns := intsAre_of r1
  have i2 : IntsAre its2.toArray.toList ms := intsAre_of r2
  exact HT.lt_tupInts p1 p2 i1 i2 hu ⟨.bl (HT.lexLt ns ms), H, I, rfl, q⟩
/-- t + u, t not empty: u empty gives t itself -/
def rCatT (K : PySem.W.Frag) : R2 := fun x y H Q => ∃ a b xs ys, x = .ref a ∧ y = .ref b ∧ SqT K H a xs ∧ SqT K H b ys ∧ xs ≠ [] ∧ xs.length + ys.length ≤ sizeLine ∧
  (ys = [] → Q (.ref a) H) ∧ (ys ≠ [] → ∀ p, H p = none → Q (.ref p) (upd H p (.tup (xs ++ ys))))
theorem Vals.nil_iff {xs : List V} {us : List Value} (r : Vals xs us) : us = [] ↔ xs = [] := by
  cases r with
  | nil => simp
  | cons _ _ => simp
theorem op_catT : OpR X (binaryOp .Add) (rCatT X.K) := by
  intro pins s σ H x y v u Q I rx ry h
  obtain ⟨a, b, xs, ys, rfl, rfl, ha, hb, hx, hz, q1, q2⟩ := h
  cases rx
  cases ry
  obtain ⟨its, r1, p1, _⟩ := I.tuple ha
  obtain ⟨its2, r2, p2, _⟩ := I.tuple hb
  refine HT.cat_tup p1 p2 (fun z => hx (r1.nil_iff.mp z)) (fun z => ⟨.ref a, H, I, rfl, q1 (r2.nil_iff.mp z)⟩) (fun z => ?_) (by rw [← r1.length, ← r2.length]; exact hz)
  refine ⟨.ref s.heap.objs.size, _, I.laid (t' := s.toks) (o := .tup (xs ++ ys)) (fun b ob q => Heap.get?_push_of_some _ q) (Nat.le_refl _) ?_, rfl, q2 (fun w => z (r2.nil_iff.mpr w)) _ (I.hok.fresh (Nat.le_refl _))⟩
  exact ⟨by rw [List.length_append]; exact hz, _, r1.append r2, IsTup.new _ _⟩
theorem call_tupleT : CallR X (.type "tuple") (fun xs H Q => ∃ a ys, xs = [.ref a] ∧ SqT X.K H a ys ∧ Q (.ref a) H) := by
  intro pins s σ H xs us Q I r h
  obtain ⟨a, ys, rfl, ha, q⟩ := h
  obtain ⟨u, rfl, ru⟩ := vals1 r
  cases ru
  obtain ⟨its, _, p1, _⟩ := I.tuple ha
  exact call_tuple_same (items := its.toArray) p1 ⟨.ref a, H, I, rfl, q⟩
end
end L2

namespace L2
open PySem PySem.Spec PyProof.Rows

/-! ### places -/
/-- the place that an index of any sign means -/
def ixN (n : Nat) (i : Int) : Option Nat := if 0 ≤ i then (if i < n then some i.toNat else none) else if -(n : Int) ≤ i then some (i + n).toNat else none
def atI {α : Type} (xs : List α) (i : Int) : Option α := (ixN xs.length i).bind fun j => xs[j]?
theorem ixN_seq {n : Nat} {i : Int} {j : Nat} (h : ixN n i = some j) : seqIndex? i n = some j ∧ j < n ∧ -(n : Int) ≤ i ∧ i < n := by
  unfold ixN at h
  by_cases h0 : 0 ≤ i
  · rw [if_pos h0] at h
    by_cases h1 : i < n
    · rw [if_pos h1] at h
      have e : i.toNat = j := Option.some.inj h
      exact ⟨by rw [seqIndex_of h0 h1, e], by omega, by omega, h1⟩
    · rw [if_neg h1] at h; cases h
  · rw [if_neg h0] at h
    by_cases h1 : -(n : Int) ≤ i
    · rw [if_pos h1] at h
      have e : (i + n).toNat = j := Option.some.inj h
      exact ⟨by rw [seqIndex_neg (by omega) h1, e], by omega, h1, by omega⟩
    · rw [if_neg h1] at h; cases h
theorem atI_get {α : Type} {xs : List α} {i : Int} {v : α} (h : atI xs i = some v) : ∃ j, seqIndex? i xs.length = some j ∧ xs[j]? = some v ∧ j < xs.length ∧ -(xs.length : Int) ≤ i ∧ i < xs.length := by
  unfold atI at h
  cases e : ixN xs.length i with
  | none => rw [e] at h; cases h
  | some j =>
    rw [e] at h
    obtain ⟨h1, h2, h3, h4⟩ := ixN_seq e
    exact ⟨j, h1, h, h2, h3, h4⟩
theorem atI_nat {α : Type} {xs : List α} {j : Nat} {v : α} (h : xs[j]? = some v) : atI xs (j : Int) = some v := by
  have hj : j < xs.length := (List.getElem?_eq_some_iff.mp h).1
  have e : ixN xs.length (j : Int) = some j := by
    unfold ixN
    rw [if_pos (by omega), if_pos (by omega)]; simp
  unfold atI; rw [e]; exact h
theorem atI_last {α : Type} (xs : List α) (v : α) : atI (xs ++ [v]) (-1) = some v := by
  have hl : (xs ++ [v]).length = xs.length + 1 := by simp
  have e : ixN (xs ++ [v]).length (-1) = some xs.length := by
    unfold ixN
    rw [hl, if_neg (by decide), if_pos (by omega)]
    congr 1
    omega
  unfold atI
  rw [e]
  show (xs ++ [v])[xs.length]? = some v
  simp

/-! ### what may be subscripted -/
/-- what stands as an index of a plain subscript -/
def PlainIx (b : Expr) : Prop := ∀ o i, subscripted b false o i = operate [o, i] (getItem o i)
/-- a subscript by values -/
def IxR (X : Cx) (r : R2) : Prop :=
  ∀ (value slice : Expr) (pins : List (Addr × Obj)) (s : Shared) (σ : St) (H : Hp) (x y : V) (v u : Value) (Q : VK), Inv X pins σ H s → RelV x v → RelV y u → r x y H Q →
    subscripted slice false v u = operate [v, u] (getItem v u) → wpAny (model X.prog X.w) X.A (subscriptTail value slice v u) (EP X pins σ Q) X.xe s
/-- a call of a builtin's method by values: the receiver, the arguments -/
def MtR (X : Cx) (id : String) (r : V → List V → Hp → VK → Prop) : Prop :=
  ∀ (pins : List (Addr × Obj)) (s : Shared) (σ : St) (H : Hp) (x : V) (xs : List V) (v : Value) (us : List Value) (Q : VK), Inv X pins σ H s → RelV x v → Vals xs us → r x xs H Q →
    wpAny (model X.prog X.w) X.A (call (.builtin id) (v :: us)) (EP X pins σ Q) X.xe s
section
variable {X : Cx} {a b : Expr} {ta tb : TE} {pos : Pos}
theorem IxR.or {r r' : R2} (h : IxR X r) (h' : IxR X r') : IxR X (fun x y H Q => r x y H Q ∨ r' x y H Q) := by
  intro value slice pins s σ H x y v u Q I rx ry q hs
  rcases q with q | q
  · exact h value slice pins s σ H x y v u Q I rx ry q hs
  · exact h' value slice pins s σ H x y v u Q I rx ry q hs
theorem MtR.or {id : String} {r r' : V → List V → Hp → VK → Prop} (h : MtR X id r) (h' : MtR X id r') : MtR X id (fun x xs H Q => r x xs H Q ∨ r' x xs H Q) := by
  intro pins s σ H x xs v us Q I rx rs q
  rcases q with q | q
  · exact h pins s σ H x xs v us Q I rx rs q
  · exact h' pins s σ H x xs v us Q I rx rs q
/-- a[b] -/
theorem pe_ix {r : R2} (hr : IxR X r) (ha : PE X a ta) (hb : PE X b tb) (hs : PlainIx b) : PE X (.Subscript a b pos) (tOp r ta tb) := by
  intro pins s σ H Q I h
  exact Subscript_ (binT ha hb I h fun v u s2 x y H2 I2 rx ry q => hr a b pins s2 σ H2 x y v u Q I2 rx ry q (hs _ _))

def rIxL (K : PySem.W.Frag) : R2 := fun x y H Q => ∃ p xs i v, x = .ref p ∧ y = .int i ∧ SqL K H p xs ∧ atI xs i = some v ∧ Q v H
def rIxT (K : PySem.W.Frag) : R2 := fun x y H Q => ∃ p xs i v, x = .ref p ∧ y = .int i ∧ SqT K H p xs ∧ atI xs i = some v ∧ Q v H
def rIxS : R2 := fun x y H Q => ∃ z i c, x = .str z ∧ y = .int i ∧ z.length ≤ sizeLine ∧ atI z.cps.toList i = some c ∧ Q (.str ⟨#[c]⟩) H
theorem ix_list : IxR X (rIxL X.K) := by
  intro value slice pins s σ H x y v u Q I rx ry h hs
  obtain ⟨p, xs, i, z, rfl, rfl, hq, he, q⟩ := h
  cases rx
  obtain ⟨t, rfl⟩ := ry
  obtain ⟨its, r, pl, hz⟩ := I.list hq
  obtain ⟨j, h1, h2, h3, h4, h5⟩ := atI_get he
  obtain ⟨w, ew, rw'⟩ := r.get h2
  have hl := r.length
  have hn := line63
  have fin : EP X pins σ Q w s := ⟨z, H, I, rw', q⟩
  by_cases h0 : 0 ≤ i
  · have hj : i.toNat = j := by
      rw [seqIndex_of h0 h5] at h1
      exact Option.some.inj h1
    exact item_listR pl.isList h0 (by omega) (by rw [hj]; simpa using ew) fin hs
  · have hj : (i + (its.toArray.size : Int)).toNat = j := by
      rw [seqIndex_neg (by omega) h4] at h1
      rw [List.size_toArray, ← hl]
      exact Option.some.inj h1
    exact subscriptTail_builtinR (x := w) pl.isList.typeIs slot_list_getitem.lookup
      (wpAny_getItem_list_neg (Q := fun r s' => r = w ∧ EP X pins σ Q r s') pl.isList (by omega) (by rw [List.size_toArray] <;> omega) (by omega) (by rw [hj]; simpa using ew) ⟨rfl, fin⟩) hs
theorem ix_tup : IxR X (rIxT X.K) := by
  intro value slice pins s σ H x y v u Q I rx ry h hs
  obtain ⟨p, xs, i, z, rfl, rfl, hq, he, q⟩ := h
  cases rx
  obtain ⟨t, rfl⟩ := ry
  obtain ⟨its, r, pl, hz⟩ := I.tuple hq
  obtain ⟨j, h1, h2, h3, h4, h5⟩ := atI_get he
  obtain ⟨w, ew, rw'⟩ := r.get h2
  have hl := r.length
  have hn := line63
  have fin : EP X pins σ Q w s := ⟨z, H, I, rw', q⟩
  exact subscriptTail_builtinR (x := w) pl.typeIs slot_tuple_getitem.lookup
    (getItem_tuple (j := j) (Q := fun r s' => r = w ∧ EP X pins σ Q r s') pl (by omega) (by omega) (by rw [List.size_toArray, ← hl]; exact h1) (by simpa using ew) ⟨rfl, fin⟩) hs
theorem ix_str : IxR X rIxS := by
  intro value slice pins s σ H x y v u Q I rx ry h hs
  obtain ⟨z, i, c, rfl, rfl, hz, he, q⟩ := h
  obtain ⟨t, rfl⟩ := rx
  obtain ⟨t', rfl⟩ := ry
  obtain ⟨j, h1, h2, h3, h4, h5⟩ := atI_get he
  have hl : z.cps.toList.length = z.length := by simp [Str.length]
  rw [hl] at h1 h4 h5
  have hn := line63
  exact tail_any (typeIs_str s z t) slot_str_getitem.lookup (getItem_str (c := c) (by
    have e1 : decide (i < -(2 ^ 63 : Int)) = false := decide_eq_false (by omega)
    have e2 : decide (i ≥ 2 ^ 63) = false := decide_eq_false (by omega)
    rw [e1, e2, Bool.or_false]) (by rw [h1]; simpa using h2) ⟨.str ⟨#[c]⟩, H, I.tok _, ⟨_, rfl⟩, q⟩) hs
/-- list, tuple or str -/
def rIx (K : PySem.W.Frag) : R2 := fun x y H Q => rIxL K x y H Q ∨ rIxT K x y H Q ∨ rIxS x y H Q
theorem ix_seq : IxR X (rIx X.K) := ix_list.or (ix_tup.or ix_str)

/-! ### xs[i] = v, any sign -/
/-- the list's object behind a store -/
theorem mapSeq_set (its : List Value) (n j : Nat) (u : Value) : Obj.mapSeq (·.setIfInBounds j u) { cls := .type "list", data := .seq its.toArray n } = { cls := .type "list", data := .seq (its.set j u).toArray n } := by
  simp [Obj.mapSeq]
theorem Inv.lst {pins : List (Addr × Obj)} {σ : St} {H : Hp} {s : Shared} {p : Addr} {xs : List V} (I : Inv X pins σ H s) (h : H p = some (.lst xs)) :
    ∃ (its : List Value) (n : Nat), Vals xs its ∧ s.heap.get? p = some { cls := .type "list", data := .seq its.toArray n } ∧ xs.length ≤ sizeLine := by
  obtain ⟨z, its, n, r, e⟩ := I.hok p _ h
  exact ⟨its, n, r, e, z⟩
/-- the list at p is written by an update of its object -/
theorem Inv.lstUpd {pins : List (Addr × Obj)} {σ : St} {H : Hp} {s : Shared} {p : Addr} {xs ys : List V} {its its' : List Value} {n n' : Nat} {f : Obj → Obj} (I : Inv X pins σ H s) (h : H p = some (.lst xs))
    (ho : s.heap.get? p = some { cls := .type "list", data := .seq its.toArray n }) (hf : f { cls := .type "list", data := .seq its.toArray n } = { cls := .type "list", data := .seq its'.toArray n' }) (r : Vals ys its') (hz : ys.length ≤ sizeLine) (t : Nat) :
    Inv X pins σ (upd H p (.lst ys)) { s with heap := s.heap.update p f, toks := t } := by
  have e : (s.heap.update p f).get? p = some { cls := .type "list", data := .seq its'.toArray n' } := by
    rw [Heap.get?_update_self f ho (by rw [hf] <;> rfl), hf]
  refine I.write (x := p) (e := p) (by rw [h]; trivial) (.inl rfl) (fun b u hb q => (Heap.get?_update_other _ _ (Ne.symm hb)).trans q) ⟨_, e⟩ ?_
  exact ⟨hz, its', n', r, e⟩
def rSetL : V → V → V → Hp → (Hp → Prop) → Prop := fun o i v H Q => ∃ p xs k j, o = .ref p ∧ i = .int k ∧ H p = some (.lst xs) ∧ ixN xs.length k = some j ∧ Q (upd H p (.lst (xs.set j v)))
theorem set_list : PSet X rSetL := by
  intro pins s σ H o i v ov iv u Q I ro ri rv h
  obtain ⟨p, xs, k, j, rfl, rfl, hp, hj, q⟩ := h
  cases ro
  obtain ⟨t, rfl⟩ := ri
  obtain ⟨its, n, r, ho, hz⟩ := I.lst hp
  obtain ⟨h1, h2, h3, h4⟩ := ixN_seq hj
  have hl := r.length
  have hn := line63
  have I' : Inv X pins σ (upd H p (.lst (xs.set j v))) { s with heap := s.heap.update p (Obj.mapSeq (·.setIfInBounds j u)) } :=
    I.lstUpd hp ho (mapSeq_set its n j u) (r.set rv j) (by rw [List.length_set]; exact hz) s.toks
  by_cases h0 : 0 ≤ k
  · have hk : k.toNat = j := by
      rw [seqIndex_of h0 h4] at h1
      exact Option.some.inj h1
    exact PySem.W.ki_setAt ho h0 (by omega) (by rw [List.size_toArray, ← hl]; exact h4) (by rw [hk]; exact ⟨_, I', q⟩)
  · have hk : (k + (its.toArray.size : Int)).toNat = j := by
      rw [seqIndex_neg (by omega) h3] at h1
      rw [List.size_toArray, ← hl]
      exact Option.some.inj h1
    exact PySem.W.ki_setBack ho (by omega) (by rw [List.size_toArray, ← hl]; exact h3) (by omega) (by rw [hk]; exact ⟨_, I', q⟩)

/-! ### slices -/
theorem slice_bounds (lo hi : Option Int) (n : Nat) : (sliceBounds lo hi none n).1 = ((HT.sIx n 0 lo : Nat) : Int) ∧ (sliceBounds lo hi none n).2.1 = ((HT.sIx n n hi : Nat) : Int) ∧ (sliceBounds lo hi none n).2.2 = 1 := by
  refine ⟨?_, ?_, rfl⟩
  · cases lo with
    | none => simp [sliceBounds, HT.sIx]
    | some i =>
      simp only [sliceBounds, HT.sIx, Option.getD_none, show (1 : Int) > 0 by decide, if_true]
      by_cases h : i < 0
      · simp only [h, if_true] <;> omega
      · simp only [h, if_false] <;> omega
  · cases hi with
    | none => simp [sliceBounds, HT.sIx]
    | some i =>
      simp only [sliceBounds, HT.sIx, Option.getD_none, show (1 : Int) > 0 by decide, if_true]
      by_cases h : i < 0
      · simp only [h, if_true] <;> omega
      · simp only [h, if_false] <;> omega
theorem slicePick_cut (its : List Value) (lo hi : Option Int) : slicePick its.toArray lo hi none = ((its.drop (HT.sIx its.length 0 lo)).take (HT.sIx its.length its.length hi - HT.sIx its.length 0 lo)).toArray := by
  obtain ⟨h1, h2, h3⟩ := slice_bounds lo hi its.toArray.size
  unfold slicePick
  rw [h1, h2, h3]
  simp only [sliceRange_one, pick_run, List.size_toArray] <;> rfl
/-- xs[lo:hi] of a list: a new list -/
def rSlL (K : PySem.W.Frag) : V → Option Int → Option Int → Hp → VK → Prop := fun x lo hi H Q => ∃ a xs, x = .ref a ∧ SqL K H a xs ∧ ∀ p, H p = none → Q (.ref p) (upd H p (.lst (cutV xs lo hi)))
theorem sl_list : SlR X (rSlL X.K) := by
  intro pins s σ H x v vl vu lo hi sl Q I rx hs pl pu h
  obtain ⟨a, xs, rfl, hx, q⟩ := h
  cases rx
  obtain ⟨its, r, ht, hz⟩ := I.list hx
  have hlen := r.length
  refine ⟨"list", _, slot_list_getitem.lookup, ht.isList.typeIs, ?_⟩
  refine wpAny_getItem_list_slice ht.isList hs pl pu .none (by simp) ?_ (by rw [List.size_toArray] <;> omega)
  rw [slicePick_cut, ← hlen]
  refine ⟨.ref s.heap.objs.size, _, I.laid (t' := s.toks) (o := .lst (cutV xs lo hi)) (fun b ob q => Heap.get?_push_of_some _ q) (Nat.le_refl _) ?_, rfl, q _ (I.hok.fresh (Nat.le_refl _))⟩
  exact ⟨Nat.le_trans (cutV_length xs lo hi) hz, _, 0, (r.drop (HT.sIx xs.length 0 lo)).take (HT.sIx xs.length xs.length hi - HT.sIx xs.length 0 lo), Heap.get?_push_size _ rfl⟩

/-! ### in, not in: flat items -/
def flatV : V → Bool
  | .non => true
  | .bl _ => true
  | .int _ => true
  | .str _ => true
  | _ => false
/-- == of flat values -/
def eqV : V → V → Bool
  | .non, .non => true
  | .bl a, .bl b => a == b
  | .bl a, .int b => (if a then 1 else 0) == b
  | .int a, .bl b => a == (if b then 1 else 0)
  | .int a, .int b => a == b
  | .str a, .str b => a == b
  | _, _ => false
theorem eqAt_V {A : Around} {s : Shared} {y x : V} {u v : Value} (ry : RelV y u) (rx : RelV x v) (fy : flatV y = true) (fx : flatV x = true) : SeqAt.EqAt A s u v (eqV y x) := by
  cases y with
  | non =>
    cases ry
    cases x with
    | non => cases rx; exact SeqAt.EqAt.same _
    | bl b => cases rx; exact SeqAt.EqAt.none_bool b
    | int b => obtain ⟨t, rfl⟩ := rx; exact SeqAt.EqAt.none_int b t
    | str b => obtain ⟨t, rfl⟩ := rx; exact SeqAt.EqAt.none_str b t
    | _ => exact absurd (show false = true from fx) Bool.false_ne_true
  | bl a =>
    cases ry
    cases x with
    | non => cases rx; exact SeqAt.EqAt.bool_none a
    | bl b => cases rx; exact SeqAt.EqAt.bool_bool a b
    | int b => obtain ⟨t, rfl⟩ := rx; exact SeqAt.EqAt.bool_int a b t
    | str b => obtain ⟨t, rfl⟩ := rx; exact SeqAt.EqAt.bool_str a b t
    | _ => exact absurd (show false = true from fx) Bool.false_ne_true
  | int a =>
    obtain ⟨t', rfl⟩ := ry
    cases x with
    | non => cases rx; exact SeqAt.EqAt.int_none a t'
    | bl b => cases rx; exact SeqAt.EqAt.int_bool a t' b
    | int b => obtain ⟨t, rfl⟩ := rx; exact SeqAt.EqAt.int_int a t' b t
    | str b => obtain ⟨t, rfl⟩ := rx; exact SeqAt.EqAt.int_str a t' b t
    | _ => exact absurd (show false = true from fx) Bool.false_ne_true
  | str a =>
    obtain ⟨t', rfl⟩ := ry
    cases x with
    | non => cases rx; exact SeqAt.EqAt.str_none a t'
    | bl b => cases rx; exact SeqAt.EqAt.str_bool a t' b
    | int b => obtain ⟨t, rfl⟩ := rx; exact SeqAt.EqAt.str_int a t' b t
    | str b => obtain ⟨t, rfl⟩ := rx; exact SeqAt.EqAt.str_str a t' b t
    | _ => exact absurd (show false = true from fx) Bool.false_ne_true
  | _ => exact absurd (show false = true from fy) Bool.false_ne_true
/-- the items' answers, read off the values (a value's own answer does not lean on its token) -/
def eqU (x : V) (u : Value) : Bool := match u with
  | .none => eqV .non x
  | .bool b => eqV (.bl b) x
  | .int i _ => eqV (.int i) x
  | .str z _ => eqV (.str z) x
  | _ => false
theorem eqU_of {x y : V} {u : Value} (r : RelV y u) (f : flatV y = true) : eqU x u = eqV y x := by
  cases y with
  | non => cases r; rfl
  | bl b => cases r; rfl
  | int i => obtain ⟨t, rfl⟩ := r; rfl
  | str z => obtain ⟨t, rfl⟩ := r; rfl
  | _ => exact absurd (show false = true from f) Bool.false_ne_true
theorem any_eqU {x : V} : ∀ {xs : List V} {us : List Value}, Vals xs us → xs.all flatV = true → us.any (eqU x) = xs.any fun y => eqV y x
  | _, _, .nil, _ => rfl
  | y :: xs, u :: us, .cons r t, f => by
    rw [List.all_cons, Bool.and_eq_true] at f
    rw [List.any_cons, List.any_cons, eqU_of r f.1, any_eqU t f.2]
theorem mem_eqAt {A : Around} {s : Shared} {x : V} {v : Value} (rx : RelV x v) (fx : flatV x = true) : ∀ {xs : List V} {us : List Value}, Vals xs us → xs.all flatV = true → ∀ u ∈ us, SeqAt.EqAt A s u v (eqU x u)
  | _, _, .nil, _ => fun u hu => by cases hu
  | y :: xs, u :: us, .cons r t, f => fun u' hu => by
    rw [List.all_cons, Bool.and_eq_true] at f
    rcases List.mem_cons.mp hu with rfl | hu
    · rw [eqU_of r f.1]; exact eqAt_V r rx f.1 fx
    · exact mem_eqAt rx fx t f.2 u' hu
def inV (x : V) (xs : List V) : Bool := xs.any fun y => eqV y x
/-- x in a list or tuple of flat items -/
def rIn (K : PySem.W.Frag) (neg : Bool) : R2 := fun x y H Q => ∃ p xs, y = .ref p ∧ (SqL K H p xs ∨ SqT K H p xs) ∧ flatV x = true ∧ xs.all flatV = true ∧ Q (.bl (if neg then !inV x xs else inV x xs)) H
theorem op_in_seq : OpR X (compareOp .In) (rIn X.K false) := by
  intro pins s σ H x y v u Q I rx ry h
  obtain ⟨p, xs, rfl, hq, fx, fs, q⟩ := h
  cases ry
  rcases hq with hq | hq
  · obtain ⟨its, r, pl, hz⟩ := I.list hq
    refine SeqAt.in_listAt (eqU x) pl.isList (fun w hw => mem_eqAt rx fx r fs w (by simpa using hw)) ⟨.bl _, H, I, rfl, ?_⟩
    rw [show its.toArray.any (eqU x) = its.any (eqU x) by simp, any_eqU r fs]
    exact q
  · obtain ⟨its, r, pl, hz⟩ := I.tuple hq
    refine SeqAt.in_tupleAt (eqU x) pl (fun w hw => mem_eqAt rx fx r fs w (by simpa using hw)) ⟨.bl _, H, I, rfl, ?_⟩
    rw [show its.toArray.any (eqU x) = its.any (eqU x) by simp, any_eqU r fs]
    exact q
theorem op_notIn_seq : OpR X (compareOp .NotIn) (rIn X.K true) := by
  intro pins s σ H x y v u Q I rx ry h
  obtain ⟨p, xs, rfl, hq, fx, fs, q⟩ := h
  cases ry
  rcases hq with hq | hq
  · obtain ⟨its, r, pl, hz⟩ := I.list hq
    refine SeqAt.notIn_listAt (eqU x) pl.isList (fun w hw => mem_eqAt rx fx r fs w (by simpa using hw)) ⟨.bl _, H, I, rfl, ?_⟩
    rw [show its.toArray.any (eqU x) = its.any (eqU x) by simp, any_eqU r fs]
    exact q
  · obtain ⟨its, r, pl, hz⟩ := I.tuple hq
    refine SeqAt.notIn_tupleAt (eqU x) pl (fun w hw => mem_eqAt rx fx r fs w (by simpa using hw)) ⟨.bl _, H, I, rfl, ?_⟩
    rw [show its.toArray.any (eqU x) = its.any (eqU x) by simp, any_eqU r fs]
    exact q
theorem op_notIn_str : OpR X (compareOp .NotIn) (fun x y H Q => ∃ i j, x = .str i ∧ y = .str j ∧ Q (.bl (!(!(Builtin.Str.occurrences j i 0 j.length 1).isEmpty))) H) := by
  intro pins s σ H x y v u Q I rx ry h
  obtain ⟨i, j, rfl, rfl, q⟩ := h
  obtain ⟨t, rfl⟩ := rx
  obtain ⟨t', rfl⟩ := ry
  exact notIn_str ⟨.bl _, H, I, rfl, q⟩

/-! ### len, list(x), tuple(x) of any list or tuple that is read -/
theorem call_len_seq : CallR X (.builtin "len") (fun xs H Q => ∃ p ys, xs = [.ref p] ∧ (SqL X.K H p ys ∨ SqT X.K H p ys) ∧ Q (.int ys.length) H) := by
  intro pins s σ H xs us Q I r h
  obtain ⟨p, ys, rfl, hq, q⟩ := h
  obtain ⟨u, rfl, rx⟩ := vals1 r
  cases rx
  have hn := line63
  rcases hq with hq | hq
  · obtain ⟨its, r', pl, hz⟩ := I.list hq
    have hlen := r'.length
    exact Calls.call_len_list pl.isList (by simp only [List.size_toArray] <;> omega) ⟨.int ys.length, H, I.tok _, ⟨s.toks + 1, by rw [List.size_toArray, hlen]⟩, q⟩
  · obtain ⟨its, r', pl, hz⟩ := I.tuple hq
    have hlen := r'.length
    exact len_tuple pl (by simp only [List.size_toArray] <;> omega) ⟨.int ys.length, H, I.tok _, ⟨s.toks + 1, by rw [List.size_toArray, hlen]⟩, q⟩
theorem call_len_str : CallR X (.builtin "len") (fun xs H Q => ∃ z, xs = [.str z] ∧ z.length ≤ sizeLine ∧ Q (.int z.length) H) := by
  intro pins s σ H xs us Q I r h
  obtain ⟨z, rfl, hz, q⟩ := h
  obtain ⟨u, rfl, t, rfl⟩ := vals1 r
  have hn := line63
  exact len_str (by omega) ⟨.int z.length, H, I.tok _, ⟨_, rfl⟩, q⟩
theorem CallR.or {f : Value} {r r' : List V → Hp → VK → Prop} (h : CallR X f r) (h' : CallR X f r') : CallR X f (fun xs H Q => r xs H Q ∨ r' xs H Q) := by
  intro pins s σ H xs us Q I rs q
  rcases q with q | q
  · exact h pins s σ H xs us Q I rs q
  · exact h' pins s σ H xs us Q I rs q
theorem call_list_of : CallR X (.type "list") (fun xs H Q => ∃ p ys, xs = [.ref p] ∧ (SqL X.K H p ys ∨ SqT X.K H p ys) ∧ ∀ l, H l = none → Q (.ref l) (upd H l (.lst ys))) := by
  intro pins s σ H xs us Q I r h
  obtain ⟨p, ys, rfl, hq, q⟩ := h
  obtain ⟨u, rfl, rx⟩ := vals1 r
  cases rx
  have fin : ∀ (its : List Value), Vals ys its → ys.length ≤ sizeLine → ∀ (h' : Heap) (c' : Nat), (∀ b o', s.heap.get? b = some o' → h'.get? b = some o') →
      h'.get? s.heap.objs.size = some { cls := .type "list", dict := none, data := .seq its.toArray c', slots := #[] } → EP X pins σ Q (.ref s.heap.objs.size) { s with heap := h' } := fun its r' hz h' c' kp e =>
    ⟨.ref s.heap.objs.size, _, I.laid (t' := s.toks) kp (Nat.le_refl _) (show ObjOk X.prog X.w _ h' _ (.lst ys) from ⟨hz, its, c', r', e⟩), rfl, q _ (I.hok.fresh (Nat.le_refl _))⟩
  rcases hq with hq | hq
  · obtain ⟨its, r', pl, hz⟩ := I.list hq
    have hlen := r'.length
    obtain ⟨o, ho, hc, n, hd⟩ := pl.isList
    exact call_list_seq p (.inl rfl) ho hc hd (fun h' c' kp e => fin its r' hz h' c' kp e) (by simp only [List.size_toArray] <;> omega)
  · obtain ⟨its, r', pl, hz⟩ := I.tuple hq
    have hlen := r'.length
    obtain ⟨o, ho, hc, n, hd⟩ := pl
    exact call_list_seq p (.inr rfl) ho hc hd (fun h' c' kp e => fin its r' hz h' c' kp e) (by simp only [List.size_toArray] <;> omega)
theorem call_tuple_of : CallR X (.type "tuple") (fun xs H Q => ∃ p ys, xs = [.ref p] ∧ ((SqL X.K H p ys ∧ ∀ l, H l = none → Q (.ref l) (upd H l (.tup ys))) ∨ (SqT X.K H p ys ∧ Q (.ref p) H))) := by
  intro pins s σ H xs us Q I r h
  obtain ⟨p, ys, rfl, h⟩ := h
  obtain ⟨u, rfl, rx⟩ := vals1 r
  cases rx
  rcases h with ⟨hq, q⟩ | ⟨hq, q⟩
  · obtain ⟨its, r', pl, hz⟩ := I.list hq
    have hlen := r'.length
    refine call_tuple_list pl.isList (fun h' kp => ?_) (by simp only [List.size_toArray] <;> omega)
    have I1 : Inv X pins σ H { s with heap := h' } := I.kept (t' := s.toks) kp
    have I2 : Inv X pins σ (upd H h'.objs.size (.tup ys)) { s with heap := h'.push { cls := .type "tuple", data := .seq its.toArray } } :=
      I1.laid (t' := s.toks) (fun b o e => Heap.get?_push_of_some _ e) (Nat.le_refl _) (show ObjOk X.prog X.w _ _ _ (.tup ys) from ⟨hz, its, r', IsTup.new _ _⟩)
    exact ⟨.ref h'.objs.size, _, I2, rfl, q _ (I1.hok.fresh (Nat.le_refl _))⟩
  · obtain ⟨its, r', pl, hz⟩ := I.tuple hq
    exact call_tuple_same pl ⟨.ref p, H, I, rfl, q⟩

/-! ### the call of a builtin's method: o.m(..) -/
/-- the value is of that builtin type -/
def tyV (K : PySem.W.Frag) (T : String) (x : V) (H : Hp) : Prop := match x with
  | .str _ => T = "str"
  | .int _ => T = "int"
  | .ref p => (T = "list" ∧ ∃ xs, SqL K H p xs) ∨ (T = "tuple" ∧ ∃ o, K.lookup p = some o ∧ o.cls = .type "tuple" ∧ o.dict = none) ∨
      (T = "dict" ∧ ((∃ kvs, H p = some (.dK kvs)) ∨ ∃ kvs, H p = some (.dT kvs))) ∨ (T = "set" ∧ ∃ S n, H p = some (.set S n))
  | _ => False
theorem tyV_is {pins : List (Addr × Obj)} {σ : St} {H : Hp} {s : Shared} {T : String} {x : V} {v : Value} (I : Inv X pins σ H s) (r : RelV x v) (ty : tyV X.K T x H) :
    s.TypeIs v T ∧ ∀ a, v = .ref a → ∃ ob, s.heap.get? a = some ob ∧ ob.dict = none := by
  cases x with
  | str z =>
    obtain ⟨t, rfl⟩ := r
    cases (show T = "str" from ty)
    exact ⟨typeIs_str s z t, fun _ e => nomatch e⟩
  | int i =>
    obtain ⟨t, rfl⟩ := r
    cases (show T = "int" from ty)
    exact ⟨typeIs_int s i t, fun _ e => nomatch e⟩
  | ref p =>
    cases r
    rcases ty with ⟨rfl, xs, hq⟩ | ⟨rfl, o, hk, hc, hd⟩ | ⟨rfl, hk⟩ | ⟨rfl, S, n, hk⟩
    · obtain ⟨its, _, pl, _⟩ := I.list hq
      refine ⟨pl.isList.typeIs, fun a e => ?_⟩
      cases e
      obtain ⟨o, n, e, c, hd, _⟩ := pl
      exact ⟨o, e, hd⟩
    · refine ⟨⟨o, I.kIn p o hk, hc⟩, fun a e => ?_⟩
      cases e
      exact ⟨o, I.kIn _ o hk, hd⟩
    · have z : ∃ o, s.heap.get? p = some o ∧ o.ExactDict := by
        rcases hk with ⟨kvs, hk⟩ | ⟨kvs, hk⟩
        · obtain ⟨_, _, _, _, o, _, _, e, ex, _⟩ := I.hok p _ hk
          exact ⟨o, e, ex⟩
        · obtain ⟨_, _, _, _, o, _, _, e, ex, _⟩ := I.hok p _ hk
          exact ⟨o, e, ex⟩
      obtain ⟨o, e, ex⟩ := z
      refine ⟨⟨o, e, ex.1⟩, fun a e2 => ?_⟩
      cases e2
      exact ⟨o, e, ex.2.1⟩
    · obtain ⟨o, _, _, _, e, ex, _⟩ := I.hok p _ hk
      refine ⟨⟨o, e, ex.1⟩, fun a e2 => ?_⟩
      cases e2
      exact ⟨o, e, ex.2.1⟩
  | _ => exact False.elim ty
def tBM0 (K : PySem.W.Frag) (T : String) (r : V → List V → Hp → VK → Prop) (to : TE) : TE := fun σ H Q => to σ H fun x H1 => tyV K T x H1 ∧ r x [] H1 Q
def tBM (K : PySem.W.Frag) (T : String) (r : V → List V → Hp → VK → Prop) (to : TE) (t : TA) : TE := fun σ H Q => to σ H fun x H1 => tyV K T x H1 ∧ t σ H1 fun xs H2 => r x xs H2 Q
variable {o e : Expr} {es : List Expr} {to : TE} {t : TA} {name : Str} {apos cpos : Pos} {T id : String} {r : V → List V → Hp → VK → Prop}
theorem pe_bm0 (pa : PlainAttrs T) (slot : Slot T name id) (hty : typeOf (.builtin id) = pure (.type "method_descriptor")) (hm : MtR X id r) (ho : PE X o to)
    (hbase : attributeBase o name X.env (eval o X.env) = eval o X.env := by rfl) (hline : (apos.endLine == cpos.line) = true := by rfl) : PE X (.Call (.Attribute o name apos) [] [] cpos) (tBM0 X.K T r to) := by
  intro pins s σ H Q I h
  refine wpAny_Call_method0_late hbase hline (thn (ho pins s σ H _ I h) fun v s1 ⟨x, H1, I1, r1, ty, q1⟩ => ?_)
  obtain ⟨h1, h2⟩ := tyV_is I1 r1 ty
  exact ⟨T, id, pa, slot, hty, h1, h2, Calls.callWith_builtin rfl (PySem.evalArgs_none (hm pins s1 σ H1 x [] v [] Q I1 r1 .nil q1))⟩
theorem pe_bm (pa : PlainAttrs T) (slot : Slot T name id) (hty : typeOf (.builtin id) = pure (.type "method_descriptor")) (hm : MtR X id r) (ho : PE X o to) (ha : PA X (e :: es) t)
    (hbase : attributeBase o name X.env (eval o X.env) = eval o X.env := by rfl)
    (hfew : ((backTo cpos (starEach (e :: es) X.env)).all (fun x => !x.1) && (backToKw cpos (keywordEach [] X.env)).all (fun x => x.1.isSome)
      && decide ((e :: es).length + ([] : List Keyword).length + (if ([] : List Keyword).isEmpty then 0 else 1) < 30)) = true := by rfl)
    (hline : (apos.endLine == cpos.line) = true := by rfl) (hs : starEach (e :: es) X.env = (false, eval e X.env) :: starEach es X.env := by rfl) (hplain : (backTo cpos (starEach es X.env)).any (·.1) = false := by rfl) :
    PE X (.Call (.Attribute o name apos) (e :: es) [] cpos) (tBM X.K T r to t) := by
  intro pins s σ H Q I h
  refine wpAny_Call_method_late hbase hfew hline rfl (thn (ho pins s σ H _ I h) fun v s1 ⟨x, H1, I1, r1, ty, q1⟩ => ?_)
  obtain ⟨h1, h2⟩ := tyV_is I1 r1 ty
  refine ⟨T, id, pa, slot, hty, h1, h2, ?_⟩
  have hA := ha cpos pins s1 σ H1 _ I1 q1
  rw [hs] at hA ⊢
  refine Calls.callWith_builtin (by show (false || (backTo cpos (starEach es X.env)).any (·.1)) = false; rw [hplain] <;> rfl) (Calls.evalArgs_plain ?_)
  exact thn hA fun us s2 ⟨vs, H2, I2, r2, q2⟩ => hm pins s2 σ H2 x vs v us Q I2 r1 r2 q2
/- xs.append(e), list.index on a module's tuple .. are MtR facts of 06m -/
end
end L2

namespace L2
open PySem PySem.Spec PyProof.Rows

def MtM (X : Cx) (id : String) (r : V → List V → Hp → VK → Prop) : Prop :=
  ∀ (pins : List (Addr × Obj)) (s : Shared) (σ : St) (H : Hp) (x : V) (xs : List V) (v : Value) (us : List Value) (Q : VK), Inv X pins σ H s → RelV x v → Vals xs us → r x xs H Q →
    wpAny (model X.prog X.w) X.A (call (.builtin id) (v :: us)) (EP X pins σ Q) X.xe s

/-! ### lists of values -/
theorem Vals.one : ∀ {x : V} {us : List Value}, Vals [x] us → ∃ u, us = [u] ∧ RelV x u
  | _, _, .cons r .nil => ⟨_, rfl, r⟩
theorem Vals.two : ∀ {x y : V} {us : List Value}, Vals [x, y] us → ∃ u v, us = [u, v] ∧ RelV x u ∧ RelV y v
  | _, _, _, .cons r (.cons q .nil) => ⟨_, _, rfl, r, q⟩
theorem Vals.zero : ∀ {us : List Value}, Vals [] us → us = []
  | _, .nil => rfl
theorem Vals.dropLast {xs : List V} {us : List Value} (h : Vals xs us) : Vals xs.dropLast us.dropLast := by
  induction h with
  | nil => exact .nil
  | cons r t ih =>
    cases t with
    | nil => exact .nil
    | cons q t' => exact .cons r ih
theorem Vals.eraseIdx : ∀ {xs : List V} {us : List Value} (i : Nat), Vals xs us → Vals (xs.eraseIdx i) (us.eraseIdx i)
  | _, _, _, .nil => .nil
  | _, _, 0, .cons _ t => t
  | _, _, i + 1, .cons r t => .cons r (Vals.eraseIdx i t)
theorem Vals.reverse {xs : List V} {us : List Value} (h : Vals xs us) : Vals xs.reverse us.reverse := by
  induction h with
  | nil => exact .nil
  | cons r t ih => rw [List.reverse_cons, List.reverse_cons]; exact Vals.append ih (.cons r .nil)
theorem Vals.rep {xs : List V} {us : List Value} (h : Vals xs us) : ∀ k : Nat, Vals (List.replicate k xs).flatten (List.replicate k us).flatten
  | 0 => .nil
  | k + 1 => by
    rw [List.replicate_succ, List.replicate_succ, List.flatten_cons, List.flatten_cons]
    exact Vals.append h (Vals.rep h k)
theorem erase_last {α : Type} (l : List α) : l.eraseIdx (l.length - 1) = l.dropLast := by
  induction l with
  | nil => rfl
  | cons a r ih =>
    cases r with
    | nil => rfl
    | cons b r =>
      have e : (a :: b :: r).length - 1 = ((b :: r).length - 1) + 1 := by
        have h1 : (a :: b :: r).length = r.length + 2 := rfl
        have h2 : (b :: r).length = r.length + 1 := rfl
        omega
      rw [e, List.eraseIdx_cons_succ, ih]
      all_goals rfl
theorem len_erase {α : Type} : ∀ (l : List α) (i : Nat), (l.eraseIdx i).length ≤ l.length
  | [], _ => Nat.le_refl _
  | _ :: _, 0 => Nat.le_succ _
  | _ :: r, i + 1 => Nat.succ_le_succ (len_erase r i)
theorem foldl_rep (its : List Value) : ∀ (k : Nat) (acc : List Value),
    List.foldl (fun x1 x2 => x1 ++ x2) acc.toArray (List.replicate k its.toArray) = (acc ++ (List.replicate k its).flatten).toArray
  | 0, acc => by simp
  | k + 1, acc => by
    have e : acc.toArray ++ its.toArray = (acc ++ its).toArray := by simp
    have e2 : (acc ++ its) ++ (List.replicate k its).flatten = acc ++ (List.replicate (k + 1) its).flatten := by
      rw [List.replicate_succ, List.flatten_cons, List.append_assoc]
    rw [← e2, ← foldl_rep its k (acc ++ its), ← e, List.replicate_succ, List.foldl_cons]

section
variable {X : Cx} {pins : List (Addr × Obj)} {σ : St} {H : Hp} {s : Shared} {l b : Addr} {xs ys zs : List V}

/-! ### the two steps: a tracked list is rewritten, a new list is laid -/
theorem Inv.lset {its its' : List Value} {n : Nat} {f : Array Value → Array Value} {t' : Nat} (I : Inv X pins σ H s) (hH : H l = some (.lst xs))
    (e : s.heap.get? l = some { cls := .type "list", data := .seq its.toArray n }) (hf : f its.toArray = its'.toArray) (hv : Vals ys its') (hz : ys.length ≤ sizeLine) :
    Inv X pins σ (upd H l (.lst ys)) { s with heap := s.heap.update l (Obj.mapSeq f), toks := t' } := by
  have q := PySem.IsL.update e f
  rw [hf] at q
  refine I.write (x := l) (e := l) (by rw [hH]; exact trivial) (.inl rfl) (fun b' u hb hu => (Heap.get?_update_other s.heap (Obj.mapSeq f) (Ne.symm hb)).trans hu) ⟨_, q⟩ ?_
  exact ⟨hz, its', _, hv, q⟩
theorem Inv.lnew {its : List Value} {t' : Nat} (I : Inv X pins σ H s) (hv : Vals ys its) (hz : ys.length ≤ sizeLine) :
    Inv X pins σ (upd H s.heap.objs.size (.lst ys)) { s with heap := s.heap.push { cls := .type "list", data := .seq its.toArray }, toks := t' } :=
  I.laid (fun _ _ q => Heap.get?_push_of_some _ q) (Nat.le_refl _) ⟨hz, its, 0, hv, Heap.get?_push_size _ rfl⟩
theorem Inv.fresh (I : Inv X pins σ H s) : H s.heap.objs.size = none := I.hok.fresh (Nat.le_refl _)
theorem Inv.lstM (I : Inv X pins σ H s) (hH : H l = some (.lst xs)) : xs.length ≤ sizeLine ∧ ∃ (its : List Value) (n : Nat), Vals xs its ∧ xs.length = its.length ∧ s.heap.get? l = some { cls := .type "list", data := .seq its.toArray n } := by
  obtain ⟨z, its, n, r, e⟩ := I.hok l _ hH
  exact ⟨z, its, n, r, r.length, e⟩

theorem notLongL {n : Nat} (h : n ≤ sizeLine) : Builtin.List.listTooLong n = false := by
  unfold Builtin.List.listTooLong
  exact decide_eq_false (by omega)
end

section
variable {X : Cx}

/-! ### methods -/
def rAppend : V → List V → Hp → VK → Prop := fun x vs H Q => ∃ l xs y, x = .ref l ∧ vs = [y] ∧ H l = some (.lst xs) ∧ xs.length < sizeLine ∧ Q .non (upd H l (.lst (xs ++ [y])))
theorem mt_append : MtM X "list.append" rAppend := by
  intro pins s σ H x vs v us Q I rx rv h
  obtain ⟨l, xs, y, rfl, rfl, hH, hz, q⟩ := h
  cases rx
  obtain ⟨u, rfl, ru⟩ := rv.one
  obtain ⟨z, its, n, r, hl, e⟩ := I.lstM hH
  refine call_meets F.slot_list_append ⟨_, e, rfl⟩ F.entry_list_append (F.args_list_append_2 _ _) (PySem.list_append l its.toArray n u (by rw [List.size_toArray]; omega)) ⟨e, ?_⟩
  refine ⟨.non, _, I.lset (its' := its ++ [u]) hH e (by simp) (r.append (.cons ru .nil)) ?_, rfl, q⟩
  rw [List.length_append, List.length_singleton]
  omega

def rExtend : V → List V → Hp → VK → Prop := fun x vs H Q => ∃ l b xs zs, x = .ref l ∧ vs = [.ref b] ∧ H l = some (.lst xs) ∧ H b = some (.lst zs) ∧ xs.length + zs.length ≤ sizeLine ∧ Q .non (upd H l (.lst (xs ++ zs)))
theorem mt_extend : MtM X "list.extend" rExtend := by
  intro pins s σ H x vs v us Q I rx rv h
  obtain ⟨l, b, xs, zs, rfl, rfl, hH, hB, hz, q⟩ := h
  cases rx
  obtain ⟨u, rfl, ru⟩ := rv.one
  cases ru
  obtain ⟨z, its, n, r, hl, e⟩ := I.lstM hH
  obtain ⟨z2, its2, n2, r2, hl2, e2⟩ := I.lstM hB
  have hsz : its.toArray.size + its2.toArray.size ≤ sizeLine := by rw [List.size_toArray, List.size_toArray]; omega
  have hlong : ¬ (!its.toArray.isEmpty && Builtin.List.listTooLong (its.toArray.size + its2.toArray.size)) = true := by
    rw [notLongL hsz, Bool.and_false]
    exact Bool.false_ne_true
  refine call_meets F.slot_list_extend ⟨_, e, rfl⟩ F.entry_list_extend (F.args_list_extend_2 _ _)
    (AutoSeq1.list_extend_list_list_0 l its.toArray n b its2.toArray n2 hlong (by rw [List.size_toArray]; omega) (by omega)) ⟨e, e2, ?_⟩
  refine ⟨.non, _, I.lset (its' := its ++ its2) hH e (by simp) (r.append r2) ?_, rfl, q⟩
  rw [List.length_append]
  omega

def rPop : V → List V → Hp → VK → Prop := fun x vs H Q => ∃ l xs y, x = .ref l ∧ vs = [] ∧ H l = some (.lst xs) ∧ xs[xs.length - 1]? = some y ∧ Q y (upd H l (.lst xs.dropLast))
theorem mt_pop : MtM X "list.pop" rPop := by
  intro pins s σ H x vs v us Q I rx rv h
  obtain ⟨l, xs, y, rfl, rfl, hH, hy, q⟩ := h
  cases rx
  have hus := rv.zero
  subst hus
  obtain ⟨z, its, n, r, hl, e⟩ := I.lstM hH
  obtain ⟨u, hu, ru⟩ := r.get hy
  have hy' : its.toArray[its.toArray.size - 1]? = some u := by
    show its.toArray[its.length - 1]? = some u
    rw [← Array.getElem?_toList, ← hl]
    exact hu
  refine call_meets F.slot_list_pop ⟨_, e, rfl⟩ F.entry_list_pop (F.args_list_pop_1 _) (MeetsSeq.list_pop_last l its.toArray n u hy' (by rw [List.size_toArray]; omega)) ⟨e, ?_⟩
  refine ⟨y, _, I.lset (its' := its.dropLast) hH e ?_ r.dropLast ?_, ru, q⟩
  · show its.toArray.eraseIdxIfInBounds (its.toArray.size - 1) = its.dropLast.toArray
    rw [List.size_toArray, List.eraseIdxIfInBounds_toArray, erase_last]
  · rw [List.length_dropLast]
    omega

def rPopAt : V → List V → Hp → VK → Prop := fun x vs H Q => ∃ l xs i k y, x = .ref l ∧ vs = [.int i] ∧ H l = some (.lst xs) ∧ -(2 ^ 63) ≤ i ∧ i < 2 ^ 63 ∧ seqIndex? i xs.length = some k ∧ xs[k]? = some y ∧ Q y (upd H l (.lst (xs.eraseIdx k)))
theorem mt_popAt : MtM X "list.pop" rPopAt := by
  intro pins s σ H x vs v us Q I rx rv h
  obtain ⟨l, xs, i, k, y, rfl, rfl, hH, h1, h2, hk, hy, q⟩ := h
  cases rx
  obtain ⟨u, rfl, ru⟩ := rv.one
  obtain ⟨t, rfl⟩ := ru
  obtain ⟨z, its, n, r, hl, e⟩ := I.lstM hH
  obtain ⟨w, hw, rw'⟩ := r.get hy
  refine call_meets F.slot_list_pop ⟨_, e, rfl⟩ F.entry_list_pop (F.args_list_pop_2 _ _)
    (MeetsSeq.list_pop_at l its.toArray n i t k w (fitsIndex_both h1 h2) (by rw [List.size_toArray, ← hl]; exact hk) (by rw [← Array.getElem?_toList]; exact hw) (by rw [List.size_toArray]; omega)) ⟨e, ?_⟩
  refine ⟨y, _, I.lset (its' := its.eraseIdx k) hH e ?_ (r.eraseIdx k) ?_, rw', q⟩
  · show its.toArray.eraseIdxIfInBounds k = (its.eraseIdx k).toArray
    rw [List.eraseIdxIfInBounds_toArray]
  · have := len_erase xs k
    omega

def rReverse : V → List V → Hp → VK → Prop := fun x vs H Q => ∃ l xs, x = .ref l ∧ vs = [] ∧ H l = some (.lst xs) ∧ Q .non (upd H l (.lst xs.reverse))
theorem mt_reverse : MtM X "list.reverse" rReverse := by
  intro pins s σ H x vs v us Q I rx rv h
  obtain ⟨l, xs, rfl, rfl, hH, q⟩ := h
  cases rx
  have hus := rv.zero
  subst hus
  obtain ⟨z, its, n, r, hl, e⟩ := I.lstM hH
  refine call_meets F.slot_list_reverse ⟨_, e, rfl⟩ F.entry_list_reverse (F.args_list_reverse_1 _) (AutoSeq1.list_reverse_list_0 l its.toArray n (by rw [List.size_toArray]; omega)) ⟨e, ?_⟩
  refine ⟨.non, _, I.lset (its' := its.reverse) hH e (by simp) r.reverse ?_, rfl, q⟩
  rw [List.length_reverse]
  omega

def rClear : V → List V → Hp → VK → Prop := fun x vs H Q => ∃ l xs, x = .ref l ∧ vs = [] ∧ H l = some (.lst xs) ∧ Q .non (upd H l (.lst []))
theorem mt_clear : MtM X "list.clear" rClear := by
  intro pins s σ H x vs v us Q I rx rv h
  obtain ⟨l, xs, rfl, rfl, hH, q⟩ := h
  cases rx
  have hus := rv.zero
  subst hus
  obtain ⟨z, its, n, r, hl, e⟩ := I.lstM hH
  refine call_meets F.slot_list_clear ⟨_, e, rfl⟩ F.entry_list_clear (F.args_list_clear_1 _) (AutoSeq1.list_clear_list_0 l its.toArray n (by rw [List.size_toArray]; omega)) ⟨e, ?_⟩
  exact ⟨.non, _, I.lset (its' := []) (ys := []) hH e rfl .nil (Nat.zero_le _), rfl, q⟩

/-! ### list + list, list += list, list * int -/
def rCat : R2 := fun x y H Q => ∃ l b xs zs, x = .ref l ∧ y = .ref b ∧ H l = some (.lst xs) ∧ H b = some (.lst zs) ∧ xs.length + zs.length ≤ sizeLine ∧ ∀ p, H p = none → Q (.ref p) (upd H p (.lst (xs ++ zs)))
theorem op_cat : OpR X (binaryOp .Add) rCat := by
  intro pins s σ H x y v u Q I rx ry h
  obtain ⟨l, b, xs, zs, rfl, rfl, hH, hB, hz, q⟩ := h
  cases rx
  cases ry
  obtain ⟨z, its, n, r, hl, e⟩ := I.lstM hH
  obtain ⟨z2, its2, n2, r2, hl2, e2⟩ := I.lstM hB
  refine PySem.P.add_list e e2 ?_ (by rw [List.size_toArray, List.size_toArray]; omega)
  have ea : its.toArray ++ its2.toArray = (its ++ its2).toArray := by simp
  rw [ea]
  exact ⟨.ref _, _, I.lnew (t' := s.toks) (r.append r2) (by rw [List.length_append]; omega), rfl, q _ I.fresh⟩
/-- a list times an int (a negative one is nothing) -/
def rRep : R2 := fun x y H Q => ∃ l k xs, x = .ref l ∧ y = .int k ∧ H l = some (.lst xs) ∧ -(2 ^ 63) ≤ k ∧ k < 2 ^ 63 ∧ xs.length * k.toNat ≤ sizeLine ∧
  ∀ p, H p = none → Q (.ref p) (upd H p (.lst (List.replicate k.toNat xs).flatten))
theorem len_rep {α : Type} (xs : List α) (k : Nat) : (List.replicate k xs).flatten.length = k * xs.length := by
  induction k with
  | zero => simp
  | succ k ih => rw [List.replicate_succ, List.flatten_cons, List.length_append, ih, Nat.succ_mul, Nat.add_comm]
theorem op_rep : OpR X (binaryOp .Mult) rRep := by
  intro pins s σ H x y v u Q I rx ry h
  obtain ⟨l, k, xs, rfl, rfl, hH, h1, h2, hz, q⟩ := h
  cases rx
  obtain ⟨t, rfl⟩ := ry
  obtain ⟨z, its, n, r, hl, e⟩ := I.lstM hH
  have hlen : its.toArray.size * k.toNat ≤ sizeLine := by rw [List.size_toArray, ← hl]; exact hz
  have hcap : ¬ its.toArray.size * k.toNat > (2 ^ 63 - 1) / 8 := by
    have : (sizeLine : Nat) ≤ (2 ^ 63 - 1) / 8 := by decide
    omega
  have hfit : ¬ (!Builtin.List.listFitsIndex k) = true := by
    rw [fitsIndex_both h1 h2]
    exact Bool.false_ne_true
  have hlong : ¬ Builtin.List.listTooLong (its.toArray.size * k.toNat) = true := by
    rw [notLongL hlen]
    exact Bool.false_ne_true
  have hnew : List.foldl (fun x1 x2 => x1 ++ x2) #[] (List.replicate (if its.toArray.isEmpty = true then 0 else k.toNat) its.toArray) = (List.replicate k.toNat its).flatten.toArray := by
    have f0 : ∀ m : Nat, List.foldl (fun x1 x2 => x1 ++ x2) #[] (List.replicate m its.toArray) = (List.replicate m its).flatten.toArray := fun m => by
      have := foldl_rep its m []
      rw [List.nil_append] at this
      exact this
    rw [f0]
    cases its with
    | nil => simp
    | cons a r' => rw [if_neg (by simp)]
  refine wpAny_binaryOp_repeat_ref (T := "list") (U := "int") (by decide) ⟨_, e, rfl⟩ (fun s' => typeIs_int s' k t) noFill_list_mul F.fills_int_mul F.slot_int_rmul repeat_list F.slot_int_index.lookup
    (call_meets F.slot_int_rmul (typeIs_int s k t) F.entry_int_rmul (F.args_int_rmul_2 _ _) (int___rmul___int_list k t l its.toArray n)
      ⟨e, rfl, ⟨_, e, rfl⟩, call_meets F.slot_list_mul ⟨_, e, rfl⟩ F.entry_list_mul (F.args_list_mul_2 _ _) (AutoListH.list___mul___list_int_3 l its.toArray n k t hfit hcap hlong) ⟨e, ?_⟩⟩)
  rw [hnew]
  exact ⟨.ref _, _, I.lnew (t' := s.toks) (r.rep k.toNat) (by rw [len_rep, Nat.mul_comm]; exact hz), rfl, q _ I.fresh⟩

/-! ### del xs[i] -/
theorem del_list {pins : List (Addr × Obj)} {s : Shared} {σ : St} {H : Hp} {l : Addr} {xs : List V} {i : Int} {t : Tok} {k : Nat} {Q : Unit → Shared → Prop} (I : Inv X pins σ H s) (hH : H l = some (.lst xs))
    (h1 : -(2 ^ 63) ≤ i) (h2 : i < 2 ^ 63) (hk : seqIndex? i xs.length = some k) (h : ∀ s', Inv X pins σ (upd H l (.lst (xs.eraseIdx k))) s' → Q () s') :
    wpAny (model X.prog X.w) X.A (delItem (.ref l) (.int i t)) Q X.xe s := by
  obtain ⟨z, its, n, r, hl, e⟩ := I.lstM hH
  refine PySem.P.delItem_list (k := k) e (fitsIndex_both h1 h2) (by rw [List.size_toArray, ← hl]; exact hk) (h _ ?_) (by rw [List.size_toArray]; omega)
  refine I.lset (its' := its.eraseIdx k) (t' := s.toks) hH e ?_ (r.eraseIdx k) ?_
  · show its.toArray.eraseIdxIfInBounds k = (its.eraseIdx k).toArray
    rw [List.eraseIdxIfInBounds_toArray]
  · have := len_erase xs k
    omega
end

/-! ### xs[a:b] = ys -/
section
variable {prog : Program} {w : World} {A : Around} {E : Value → Shared → Prop} {s : Shared}
theorem splice_eq (its its2 : List Value) (a c : Nat) : its.toArray.extract 0 a ++ its2.toArray ++ its.toArray.extract c its.toArray.size = (its.take a ++ its2 ++ its.drop c).toArray := by
  apply Array.toList_inj.mp
  first
    | (simp
       exact List.take_of_length_le (by simp))
    | simp [List.take_of_length_le]
    | simp
theorem bounds_run {a c n : Nat} (hac : a ≤ c) (hc : c ≤ n) : sliceBounds (some (a : Int)) (some (c : Int)) none n = ((a : Int), (c : Int), 1) := by
  simp only [sliceBounds, Option.getD_none]
  have h1 : ¬ ((a : Int) < 0) := by omega
  have h2 : ¬ ((c : Int) < 0) := by omega
  simp only [h1, h2, if_false, show (1 : Int) > 0 by decide, if_true]
  congr 1
  · omega
  · congr 1; omega
set_option maxRecDepth 100000 in
/-- list.__setitem__ with a slice of step one and another list -/
theorem setItem_slice {l b sl : Addr} {items new : Array Value} {n n2 : Nat} {vl vu : Value} {a c : Nat} {Q : Unit → Shared → Prop}
    (e : s.heap.get? l = some { cls := .type "list", data := .seq items n }) (e2 : s.heap.get? b = some { cls := .type "list", data := .seq new n2 }) (hne : l ≠ b)
    (hs : s.heap.IsSliceOf sl vl vu .none) (pl : IsPart vl (some (a : Int))) (pu : IsPart vu (some (c : Int))) (hac : a ≤ c) (hc : c ≤ items.size)
    (hsz : items.size + new.size ≤ sizeLine) (h : Q () { s with heap := s.heap.update l (Obj.mapSeq fun xs => xs.extract 0 a ++ new ++ xs.extract c xs.size) }) :
    wpAny (model prog w) A (setItem (.ref l) (.ref sl) (.ref b)) Q E s := by
  have hl : s.heap.IsList l items := PySem.IsL.isList e
  have hb : s.heap.IsList b new := PySem.IsL.isList e2
  obtain ⟨os, hos, hcs, hds⟩ := id hs
  have hTs : s.TypeIs (.ref sl) "slice" := ⟨os, hos, hcs⟩
  have hstep : ¬ ((rawPart none == rawInt 0) = true) := Bool.false_ne_true
  have hsame : Builtin.List.listSameRef (.ref l) (.ref b) = false := by
    unfold Builtin.List.listSameRef
    exact beq_eq_false_iff_ne.mpr hne
  have hmax : (max (a : Int) (c : Int)).toNat = c := by omega
  have hz' : ((fun xs : Array Value => xs.extract 0 a ++ new ++ xs.extract c xs.size) items).size ≤ sizeLine + 1 := by
    simp only [Array.size_append, Array.size_extract]
    omega
  unfold setItem
  try with_reducible refine wpAny_holding ?_
  first | refine wpAny_bind (wpAny_pure ?_) | skip
  refine wpAny_bind (wpAny_sequenceKey hl.typeIs (by decide) ?_)
  refine wpAny_bind (wpAny_callSpecial?_slot (name := Str.ofString "__setitem__") hl.typeIs slot_list_setitem
    (wpAny_call_entry slot_list_setitem hl.typeIs entry_list_setitem ?_ (args_list_setitem _ _ _)))
  show wpAny _ _ (Builtin.List.listSubscript? (.ref sl) >>= _) _ _ s
  refine wpAny_bind ?_
  unfold Builtin.List.listSubscript?
  refine wpAny_bind (wpAny_specialOf hTs slice_no_index ?_)
  simp only [Option.isNone_none, if_true]
  refine wpAny_pure ?_
  show wpAny _ _ (typeOf (.ref sl) >>= _) _ _ s
  refine wpAny_bind (wpAny_typeOf hTs ?_)
  first
    | rw [if_neg (by decide)]
    | refine PySem.W.KFB.if_not (by decide) ?_
  rw [listSliceParts_eq]
  refine wpAny_bind (wpAny_bind (wpAny_field hos hds (x := .none) rfl (wpAny_bind (wpAny_listPart .none ?_))))
  rw [if_neg hstep]
  refine wpAny_bind (wpAny_field hos hds (x := vl) rfl (wpAny_bind (wpAny_listPart pl ?_)))
  refine wpAny_bind (wpAny_field hos hds (x := vu) rfl (wpAny_bind (wpAny_listPart pu (wpAny_pure ?_))))
  first
    | simp only [hsame, Bool.false_eq_true, if_false]
    | refine PySem.W.KFB.if_not hsame ?_
    | (dsimp only
       rw [if_neg (by rw [hsame]; exact Bool.false_ne_true)])
  refine wpAny_bind (m := Builtin.List.listAllItems (.ref b) "must assign iterable to extended slice") ?_
  unfold Builtin.List.listAllItems
  refine wpAny_bind (wpAny_typeOf hb.typeIs ?_)
  first
    | refine PySem.W.KFB.if_so (by decide) ?_
    | rw [if_pos (by decide)]
    | simp only [beq_self_eq_true, Bool.true_or, if_true]
  unfold Builtin.List.listItems
  refine wpAny_bind (wpAny_seqItems e2 rfl (wpAny_pure ?_))
  refine wpAny_bind (wpAny_bind (wpAny_seqItems e rfl (wpAny_pure ?_)))
  refine wpAny_bind (wpAny_of_eq ((sliceIndices_raw (some (a : Int)) (some (c : Int)) none items.size (by simp)).trans (congrArg (pure : Int × Int × Int → Sem (Int × Int × Int)) (bounds_run hac hc))) ?_)
  show wpAny _ _ (if ((1 : Int) == 1) = true then _ else _) _ _ s
  rw [if_pos (by decide)]
  refine wpAny_bind (wpAny_rule ?_)
  first
    | simp only [notLongL hsz, Bool.false_eq_true, if_false]
    | refine PySem.W.KFB.if_not (notLongL hsz) ?_
  first | refine wpAny_bind (wpAny_pure ?_) | skip
  show wpAny _ _ (updateSeq l (fun xs => xs.extract 0 ((a : Int)).toNat ++ new ++ xs.extract (max (a : Int) (c : Int)).toNat xs.size) >>= _) _ _ s
  rw [hmax, Int.toNat_natCast]
  refine wpAny_bind (wpAny_updateSeq (hz := Nat.le_trans (Nat.le_add_right _ _) hsz) (_hz' := hz') e rfl ?_)
  refine wpAny_bind (wpAny_letGo ?_)
  first
    | exact wpAny_bind (wpAny_pure (wpAny_pure ⟨.none, rfl, wpAny_pure h⟩))
    | exact wpAny_pure ⟨.none, rfl, wpAny_pure h⟩
end

section
variable {X : Cx}
/-- xs[a:c] = ys of another list, at the value level: sl is the slice object that was just made -/
theorem set_slice {pins : List (Addr × Obj)} {s : Shared} {σ : St} {H : Hp} {l b sl : Addr} {xs ys : List V} {a c : Int} {vl vu : Value} {Q : Unit → Shared → Prop} (I : Inv X pins σ H s)
    (hH : H l = some (.lst xs)) (hB : H b = some (.lst ys)) (hne : l ≠ b) (hs : s.heap.IsSliceOf sl vl vu .none) (ra : RelV (.int a) vl) (rc : RelV (.int c) vu) (h0 : 0 ≤ a) (hac : a ≤ c) (hc : c ≤ xs.length)
    (hz : xs.length + ys.length ≤ sizeLine) (h : ∀ s', Inv X pins σ (upd H l (.lst (xs.take a.toNat ++ ys ++ xs.drop c.toNat))) s' → Q () s') :
    wpAny (model X.prog X.w) X.A (setItem (.ref l) (.ref sl) (.ref b)) Q X.xe s := by
  obtain ⟨ta, rfl⟩ := ra
  obtain ⟨tc, rfl⟩ := rc
  obtain ⟨z, its, n, r, hl, e⟩ := I.lstM hH
  obtain ⟨z2, its2, n2, r2, hl2, e2⟩ := I.lstM hB
  obtain ⟨a', rfl⟩ := Int.eq_ofNat_of_zero_le h0
  obtain ⟨c', rfl⟩ := Int.eq_ofNat_of_zero_le (Int.le_trans h0 hac)
  simp only [Int.toNat_natCast] at h
  refine setItem_slice (a := a') (c := c') e e2 hne hs (.int _ _) (.int _ _) (by omega) (by rw [List.size_toArray]; omega) (by rw [List.size_toArray, List.size_toArray]; omega) (h _ ?_)
  refine I.lset (its' := its.take a' ++ its2 ++ its.drop c') (t' := s.toks) hH e ?_ (Vals.append (Vals.append (r.take _) r2) (r.drop _)) ?_
  · exact splice_eq its its2 a' c'
  · rw [List.length_append, List.length_append, List.length_take, List.length_drop]
    omega
end
end L2

namespace L2
open PySem PySem.Spec PyProof.Rows

/-! ### lists of pairs as tables -/
section
variable {κ : Type} [DecidableEq κ]
def valV (kvs : List (κ × V)) (k : κ) : Option V := (kvs.find? fun kv => decide (kv.1 = k)).map (·.2)
/-- in its place, or at the end -/
def putK (kvs : List (κ × V)) (k : κ) (v : V) : List (κ × V) :=
  if (kvs.any fun kv => decide (kv.1 = k)) = true then kvs.map (fun kv => if kv.1 = k then (kv.1, v) else kv) else kvs ++ [(k, v)]
def dropK (kvs : List (κ × V)) (k : κ) : List (κ × V) := kvs.filter fun kv => decide (kv.1 ≠ k)

theorem valV_nil {k : κ} : valV ([] : List (κ × V)) k = none := rfl
theorem valV_pos {p : κ × V} {r : List (κ × V)} {k : κ} (e : p.1 = k) : valV (p :: r) k = some p.2 := by simp [valV, List.find?_cons, e]
theorem valV_neg {p : κ × V} {r : List (κ × V)} {k : κ} (e : ¬ p.1 = k) : valV (p :: r) k = valV r k := by simp [valV, List.find?_cons, e]
theorem valV_any (k : κ) : ∀ kvs : List (κ × V), (kvs.any fun kv => decide (kv.1 = k)) = (valV kvs k).isSome
  | [] => rfl
  | p :: r => by
    rw [List.any_cons]
    by_cases e : p.1 = k
    · simp only [valV_pos e, decide_eq_true e, Bool.true_or, Option.isSome_some]
    · rw [valV_neg e, decide_eq_false e, Bool.false_or]; exact valV_any k r
theorem valV_map (k j : κ) (y : V) : ∀ kvs : List (κ × V), valV (kvs.map fun kv => if kv.1 = k then (kv.1, y) else kv) j = (valV kvs j).map fun x => if j = k then y else x
  | [] => rfl
  | p :: r => by
    have ih := valV_map k j y r
    rw [List.map_cons]
    by_cases h : p.1 = k
    · rw [if_pos h]
      by_cases e : p.1 = j
      · rw [valV_pos (p := (p.1, y)) e, valV_pos e, Option.map_some, if_pos (e.symm.trans h)]
      · rw [valV_neg (p := (p.1, y)) e, valV_neg e, ih]
    · rw [if_neg h]
      by_cases e : p.1 = j
      · rw [valV_pos (p := p) e, valV_pos e, Option.map_some, if_neg (fun z => h (e.trans z))]
      · rw [valV_neg (p := p) e, valV_neg e, ih]
theorem valV_snoc (k j : κ) (y : V) : ∀ kvs : List (κ × V), valV kvs k = none → valV (kvs ++ [(k, y)]) j = if j = k then some y else valV kvs j
  | [], _ => by
    by_cases e : k = j
    · rw [if_pos e.symm]; exact valV_pos (p := (k, y)) e
    · rw [if_neg (fun z => e z.symm)]; exact valV_neg (p := (k, y)) e
  | p :: r, hn => by
    rw [List.cons_append]
    have hk : ¬ p.1 = k := fun z => by rw [valV_pos z] at hn; cases hn
    rw [valV_neg hk] at hn
    have ih := valV_snoc k j y r hn
    by_cases e : p.1 = j
    · rw [valV_pos e, valV_pos e, if_neg (fun z => hk (e.trans z))]
    · rw [valV_neg e, valV_neg e, ih]
theorem valV_put (kvs : List (κ × V)) (k j : κ) (y : V) : valV (putK kvs k y) j = if j = k then some y else valV kvs j := by
  unfold putK
  by_cases a : (kvs.any fun kv => decide (kv.1 = k)) = true
  · rw [if_pos a, valV_map]
    rw [valV_any] at a
    by_cases e : j = k
    · obtain ⟨x, hx⟩ := Option.isSome_iff_exists.mp a
      rw [if_pos e, e, hx, Option.map_some, if_pos rfl]
    · rw [if_neg e]
      cases valV kvs j with
      | none => rfl
      | some x => rw [Option.map_some, if_neg e]
  · rw [if_neg a]
    refine valV_snoc k j y kvs ?_
    rw [valV_any] at a
    cases q : valV kvs k with
    | none => rfl
    | some x => rw [q] at a; exact (a rfl).elim
theorem length_putK (kvs : List (κ × V)) (k : κ) (v : V) : (putK kvs k v).length ≤ kvs.length + 1 := by
  unfold putK
  split
  · rw [List.length_map]; omega
  · rw [List.length_append, List.length_cons, List.length_nil]; omega
theorem putK_new {kvs : List (κ × V)} {k : κ} (v : V) (h : valV kvs k = none) : putK kvs k v = kvs ++ [(k, v)] := by
  unfold putK
  rw [valV_any, h]
  exact if_neg (by decide)

theorem RelO.isSome_eq {o : Option V} {u : Option Value} (r : RelO o u) : o.isSome = u.isSome := by
  cases o with
  | none => cases u with
    | none => rfl
    | some _ => exact (show False from r).elim
  | some _ => cases u with
    | none => exact (show False from r).elim
    | some _ => rfl
theorem RelO.getD {o : Option V} {u : Option Value} {d : V} {d' : Value} (r : RelO o u) (rd : RelV d d') : RelV (o.getD d) (u.getD d') := by
  cases o with
  | none => cases u with
    | none => exact rd
    | some _ => exact (show False from r).elim
  | some _ => cases u with
    | none => exact (show False from r).elim
    | some _ => exact r

/-- raw tables of the same keys -/
theorem KV.val {kvs : List (κ × V)} {vs : List (κ × Value)} (r : KV kvs vs) (k : κ) : RelO (valV kvs k) (valueAt vs k) := by
  unfold KV at r
  induction r with
  | nil => exact True.intro
  | @cons p q ps qs h t ih =>
    obtain ⟨h1, h2⟩ := h
    by_cases e : p.1 = k
    · have e' : q.1 = k := h1.symm.trans e
      have b : valueAt (q :: qs) k = some q.2 := by simp [valueAt, List.find?_cons, e']
      rw [valV_pos e, b]; exact h2
    · have e' : ¬ q.1 = k := fun z => e (h1.trans z)
      have b : valueAt (q :: qs) k = valueAt qs k := by simp [valueAt, List.find?_cons, e']
      rw [valV_neg e, b]; exact ih
theorem KV.any {kvs : List (κ × V)} {vs : List (κ × Value)} (r : KV kvs vs) (k : κ) : (kvs.any fun kv => decide (kv.1 = k)) = vs.any fun kv => decide (kv.1 = k) := by
  unfold KV at r
  induction r with
  | nil => rfl
  | cons h t ih => rw [List.any_cons, List.any_cons, ih, h.1]
theorem KV.repl {kvs : List (κ × V)} {vs : List (κ × Value)} (r : KV kvs vs) (k : κ) {y : V} {u : Value} (ry : RelV y u) :
    KV (kvs.map fun kv => if kv.1 = k then (kv.1, y) else kv) (vs.map fun kv => if kv.1 = k then (kv.1, u) else kv) := by
  unfold KV at r ⊢
  induction r with
  | nil => exact .nil
  | @cons p q ps qs h t ih =>
    rw [List.map_cons, List.map_cons]
    refine .cons ?_ ih
    obtain ⟨h1, h2⟩ := h
    by_cases e : p.1 = k
    · rw [if_pos e, if_pos (h1.symm.trans e)]; exact ⟨h1, ry⟩
    · rw [if_neg e, if_neg (fun z => e (h1.trans z))]; exact ⟨h1, h2⟩
theorem KV.put {kvs : List (κ × V)} {vs : List (κ × Value)} (r : KV kvs vs) (k : κ) {y : V} {u : Value} (ry : RelV y u) : KV (putK kvs k y) (stored vs k u) := by
  unfold putK stored
  rw [r.any k]
  by_cases e : (vs.any fun kv => decide (kv.1 = k)) = true
  · rw [if_pos e, if_pos e]; exact r.repl k ry
  · rw [if_neg e, if_neg e]; exact Paired.snoc r ⟨rfl, ry⟩
theorem KV.drop {kvs : List (κ × V)} {vs : List (κ × Value)} (r : KV kvs vs) (k : κ) : KV (dropK kvs k) (without vs k) := by
  unfold KV at r ⊢
  unfold dropK without
  induction r with
  | nil => exact .nil
  | @cons p q ps qs h t ih =>
    obtain ⟨h1, h2⟩ := h
    rw [List.filter_cons, List.filter_cons]
    by_cases e : p.1 = k
    · have a : ¬ decide (p.1 ≠ k) = true := by simp [e]
      have b : ¬ decide (q.1 ≠ k) = true := by simp [h1.symm.trans e]
      rw [if_neg a, if_neg b]; exact ih
    · have e' : ¬ q.1 = k := fun z => e (h1.trans z)
      have a : decide (p.1 ≠ k) = true := by simp [e]
      have b : decide (q.1 ≠ k) = true := by simp [e']
      rw [if_pos a, if_pos b]; exact .cons ⟨h1, h2⟩ ih
theorem KV.keys {kvs : List (κ × V)} {vs : List (κ × Value)} (r : KV kvs vs) : kvs.map (·.1) = vs.map (·.1) := by
  unfold KV at r
  induction r with
  | nil => rfl
  | cons h t ih => rw [List.map_cons, List.map_cons, ih, h.1]
theorem KV.length {kvs : List (κ × V)} {vs : List (κ × Value)} (r : KV kvs vs) : kvs.length = vs.length := Paired.length r
theorem dropK_le (kvs : List (κ × V)) (k : κ) : (dropK kvs k).length ≤ kvs.length := List.length_filter_le _ _
end


/-! ### a tracked dict, its keys ints and texts or tuples of these -/
theorem kV_is {P : Program} {w : World} {k : Key} {u : Value} (r : RelV (kV k) u) : (mixKind P w).is k u = true := by
  cases k with
  | inl i => obtain ⟨t, e⟩ := (show ∃ t, u = Value.int i t from r); subst e; exact mixKind_int P w i t
  | inr x => obtain ⟨t, e⟩ := (show ∃ t, u = Value.str x t from r); subst e; exact mixKind_str P w x t
theorem kV_inj {a b : Key} (e : kV a = kV b) : a = b := by
  cases a with
  | inl i => cases b with
    | inl j => have e' : V.int i = V.int j := e; injection e' with e'; rw [e']
    | inr y => exact nomatch (show V.int i = V.str y from e)
  | inr x => cases b with
    | inl j => exact nomatch (show V.str x = V.int j from e)
    | inr y => have e' : V.str x = V.str y := e; injection e' with e'; rw [e']
theorem kVs_inj : ∀ {a b : List Key}, a.map kV = b.map kV → a = b
  | [], [], _ => rfl
  | [], _ :: _, e => by simp at e
  | _ :: _, [], e => by simp at e
  | x :: xs, y :: ys, e => by
    rw [List.map_cons, List.map_cons] at e
    injection e with e1 e2
    rw [kV_inj e1, kVs_inj e2]
theorem items_are {P : Program} {w : World} : ∀ {ks : List Key} {us : List Value}, Vals (ks.map kV) us → ItemsAre (mixKind P w) ks us
  | [], _, r => by rw [List.map_nil] at r; cases r; exact .nil
  | k :: ks, _, r => by
    rw [List.map_cons] at r
    cases r with
    | cons h t => exact .cons (kV_is h) (items_are t)

/-- raw entries of a dict with tuple keys -/
abbrev KT (H : Hp) : List (List Key × V) → List (List Key × Addr × Value) → Prop := Paired fun p q => p.1 = q.1 ∧ H q.2.1 = some (.tup (p.1.map kV)) ∧ RelV p.2 q.2.2
theorem KT.val {H : Hp} {kvs : List (List Key × V)} {xs : List (List Key × Addr × Value)} (r : KT H kvs xs) (k : List Key) : RelO (valV kvs k) ((atKey xs k).map (·.2)) := by
  induction r with
  | nil => exact True.intro
  | @cons p q ps qs h t ih =>
    obtain ⟨h1, _, h2⟩ := h
    by_cases e : p.1 = k
    · have e' : q.1 = k := h1.symm.trans e
      have b : atKey (q :: qs) k = some q.2 := by simp [atKey, List.find?_cons, e']
      rw [valV_pos e, b]; exact h2
    · have e' : ¬ q.1 = k := fun z => e (h1.trans z)
      have b : atKey (q :: qs) k = atKey qs k := by simp [atKey, List.find?_cons, e']
      rw [valV_neg e, b]; exact ih
theorem KT.repl {H : Hp} {kvs : List (List Key × V)} {xs : List (List Key × Addr × Value)} (r : KT H kvs xs) (k : List Key) {y : V} {u : Value} (ry : RelV y u) :
    KT H (kvs.map fun kv => if kv.1 = k then (kv.1, y) else kv) (xs.map (putAt k u)) := by
  induction r with
  | nil => exact .nil
  | @cons p q ps qs h t ih =>
    rw [List.map_cons, List.map_cons]
    refine .cons ?_ ih
    obtain ⟨h1, h2, h3⟩ := h
    unfold putAt
    by_cases e : p.1 = k
    · rw [if_pos e, if_pos (h1.symm.trans e)]; exact ⟨h1, h2, ry⟩
    · rw [if_neg e, if_neg (fun z => e (h1.trans z))]; exact ⟨h1, h2, h3⟩
theorem KT.put {H : Hp} {kvs : List (List Key × V)} {xs : List (List Key × Addr × Value)} (r : KT H kvs xs) (k : List Key) {b : Addr} {y : V} {u : Value} (hb : H b = some (.tup (k.map kV))) (ry : RelV y u) :
    KT H (putK kvs k y) (storedH xs k b u) := by
  have e : (kvs.any fun kv => decide (kv.1 = k)) = (atKey xs k).isSome := by
    rw [valV_any, (r.val k).isSome_eq, Option.isSome_map]
  unfold putK storedH
  rw [e]
  by_cases q : (atKey xs k).isSome = true
  · rw [if_pos q, if_pos q]; exact r.repl k ry
  · rw [if_neg q, if_neg q]; exact Paired.snoc r ⟨rfl, hb, ry⟩
theorem KT.keeps {H H' : Hp} {kvs : List (List Key × V)} {xs : List (List Key × Addr × Value)} (r : KT H kvs xs) (ht : ∀ b ys, H b = some (.tup ys) → H' b = some (.tup ys)) : KT H' kvs xs :=
  Paired.mapP r fun _ _ z => ⟨z.1, ht _ _ z.2.1, z.2.2⟩

section
variable {P : Program} {w : World} {H : Hp} {h : Heap} {a : Addr}
theorem rd_of {u : HO} (ok : HOk P w H h) (e : Rd H a u) : ObjOk P w H h a u := e.ok ok
theorem dk_rd {kvs : List (Key × V)} (ok : HOk P w H h) (e : Rd H a (.dK kvs)) : kvs.length ≤ sizeLine ∧ (a == sysModules) = false ∧ ∃ vs, KV kvs vs ∧ h.DictOf (mixKind P w) a vs :=
  show ObjOk P w H h a (.dK kvs) from rd_of ok e
theorem dk_of {kvs : List (Key × V)} (ok : HOk P w H h) (e : H a = some (.dK kvs)) : kvs.length ≤ sizeLine ∧ (a == sysModules) = false ∧ ∃ vs, KV kvs vs ∧ h.DictOf (mixKind P w) a vs := dk_rd ok (.inl e)
/-- a tracked tuple of ints and texts is a key -/
theorem key_of {ks : List Key} (ok : HOk P w H h) (e : H a = some (.tup (ks.map kV))) : (tupleKind (mixKind P w)).is h ks a := by
  obtain ⟨_, its, r, o, h1, h2, n, h3⟩ := (show ObjOk P w H h a (.tup (ks.map kV)) from ok a _ e)
  exact ⟨o, its.toArray, n, h1, h2, h3, by simpa using items_are r⟩
theorem dt_rd {kvs : List (List Key × V)} (ok : HOk P w H h) (e : Rd H a (.dT kvs)) : kvs.length ≤ sizeLine ∧ (a == sysModules) = false ∧
    ∃ xs, KT H kvs xs ∧ h.DictOfH (tupleKind (mixKind P w)) a xs := by
  obtain ⟨z, y, xs, r, o, es, ep, h1, h2, h3, h4, h5⟩ := (show ObjOk P w H h a (.dT kvs) from rd_of ok e)
  refine ⟨z, y, xs, r, o, es, ep, h1, h2, h3, h4, fun x hx => ?_, h5⟩
  have all : ∀ {l : List (List Key × V)} {m : List (List Key × Addr × Value)}, KT H l m → ∀ x ∈ m, (tupleKind (mixKind P w)).is h x.1 x.2.1 := by
    intro l m q
    induction q with
    | nil => intro x hx; exact nomatch hx
    | @cons p q ps qs hq t ih =>
      intro x hx
      rcases List.mem_cons.mp hx with e | hx
      · subst e
        exact key_of ok (by rw [← hq.1]; exact hq.2.1)
      · exact ih x hx
  exact all r x hx
theorem dt_of {kvs : List (List Key × V)} (ok : HOk P w H h) (e : H a = some (.dT kvs)) : kvs.length ≤ sizeLine ∧ (a == sysModules) = false ∧
    ∃ xs, KT H kvs xs ∧ h.DictOfH (tupleKind (mixKind P w)) a xs := dt_rd ok (.inl e)
end

/-- what the dict at a holds at the key y -/
def DGet (H : Hp) (a : Addr) (y : V) (r : Option V) : Prop :=
  (∃ kvs k, Rd H a (.dK kvs) ∧ y = kV k ∧ r = valV kvs k) ∨ ∃ kvs k b, Rd H a (.dT kvs) ∧ y = .ref b ∧ H b = some (.tup (k.map kV)) ∧ r = valV kvs k
/-- the heap behind a[y] = v -/
def DPut (H : Hp) (a : Addr) (y v : V) (H' : Hp) : Prop :=
  (∃ kvs k, H a = some (.dK kvs) ∧ y = kV k ∧ kvs.length < sizeLine ∧ H' = upd H a (.dK (putK kvs k v))) ∨
  ∃ kvs k b, H a = some (.dT kvs) ∧ y = .ref b ∧ H b = some (.tup (k.map kV)) ∧ kvs.length < sizeLine ∧ H' = upd H a (.dT (putK kvs k v))
theorem DGet.k {H : Hp} {a : Addr} {kvs : List (Key × V)} {k : Key} (e : H a = some (.dK kvs)) : DGet H a (kV k) (valV kvs k) := .inl ⟨kvs, k, .inl e, rfl, rfl⟩
theorem DGet.t {H : Hp} {a b : Addr} {kvs : List (List Key × V)} {k : List Key} (e : H a = some (.dT kvs)) (eb : H b = some (.tup (k.map kV))) : DGet H a (.ref b) (valV kvs k) := .inr ⟨kvs, k, b, .inl e, rfl, eb, rfl⟩
theorem DPut.k {H : Hp} {a : Addr} {kvs : List (Key × V)} {k : Key} {v : V} (e : H a = some (.dK kvs)) (hl : kvs.length < sizeLine) : DPut H a (kV k) v (upd H a (.dK (putK kvs k v))) := .inl ⟨kvs, k, e, rfl, hl, rfl⟩
theorem DPut.t {H : Hp} {a b : Addr} {kvs : List (List Key × V)} {k : List Key} {v : V} (e : H a = some (.dT kvs)) (eb : H b = some (.tup (k.map kV))) (hl : kvs.length < sizeLine) :
    DPut H a (.ref b) v (upd H a (.dT (putK kvs k v))) := .inr ⟨kvs, k, b, e, rfl, eb, hl, rfl⟩


section
variable {X : Cx} {pins : List (Addr × Obj)} {σ : St} {H : Hp} {s : Shared} {a : Addr} {y v : V} {u r : Value} {o : Option V} {A : Around} {E : Value → Shared → Prop}

theorem Inv.big (I : Inv X pins σ H s) : sysModules < s.heap.objs.size := by
  have h : mainGlobals < s.heap.objs.size := (I.mod.glob.keeps I.bk).lt
  exact Nat.lt_trans (by decide) h

/-- d[y], there -/
theorem d_getItem {Q : Value → Shared → Prop} (hu : A.units + 1 < cLine) (I : Inv X pins σ H s) (g : DGet H a y (some v)) (ry : RelV y u) (h : ∀ w' s', Inv X pins σ H s' → RelV v w' → Q w' s') :
    wpAny (model X.prog X.w) A (getItem (.ref a) u) Q E s := by
  rcases g with ⟨kvs, k, e, ey, l⟩ | ⟨kvs, k, b, e, ey, eb, l⟩
  · subst ey
    obtain ⟨z, hd, vs, rel, dd⟩ := dk_rd I.hok e
    obtain ⟨w', hw, rw'⟩ := RelO.some_of (v := v) (o := valueAt vs k) (by rw [l]; exact rel.val k)
    exact wpAny_getItem_of (kV_is ry) dd.mapOf hw (h w' _ (I.tok _) rw')
  · subst ey
    cases (show u = Value.ref b from ry)
    obtain ⟨z, hd, xs, rel, dd⟩ := dt_rd I.hok e
    obtain ⟨w', hw, rw'⟩ := RelO.some_of (v := v) (o := (atKey xs k).map (·.2)) (by rw [l]; exact rel.val k)
    obtain ⟨p, hp, hp2⟩ := Option.map_eq_some_iff.mp hw
    refine wpAny_getItem_heap (tupleKind_room_in1 hu) (key_of I.hok eb) dd hp ?_
    rw [hp2]
    exact h w' _ (I.tok _) rw'
/-- y in d -/
theorem d_in {Q : Value → Shared → Prop} (hu : A.units + 1 < cLine) (I : Inv X pins σ H s) (g : DGet H a y o) (ry : RelV y u) (h : ∀ s', Inv X pins σ H s' → Q (.bool o.isSome) s') :
    wpAny (model X.prog X.w) A (compareOp .In u (.ref a)) Q E s := by
  rcases g with ⟨kvs, k, e, ey, l⟩ | ⟨kvs, k, b, e, ey, eb, l⟩
  · subst ey
    obtain ⟨z, hd, vs, rel, dd⟩ := dk_rd I.hok e
    refine wpAny_in_of (kV_is ry) hd dd.mapOf ?_
    rw [← (rel.val k).isSome_eq, ← l]
    exact h _ (I.tok _)
  · subst ey
    cases (show u = Value.ref b from ry)
    obtain ⟨z, hd, xs, rel, dd⟩ := dt_rd I.hok e
    refine wpAny_in_heap (tupleKind_room_in1 hu) (key_of I.hok eb) hd dd ?_
    have q := (rel.val k).isSome_eq
    rw [Option.isSome_map] at q
    rw [← q, ← l]
    exact h _ (I.tok _)
theorem d_notIn {Q : Value → Shared → Prop} (hu : A.units + 1 < cLine) (I : Inv X pins σ H s) (g : DGet H a y o) (ry : RelV y u) (h : ∀ s', Inv X pins σ H s' → Q (.bool (!o.isSome)) s') :
    wpAny (model X.prog X.w) A (compareOp .NotIn u (.ref a)) Q E s := by
  rcases g with ⟨kvs, k, e, ey, l⟩ | ⟨kvs, k, b, e, ey, eb, l⟩
  · subst ey
    obtain ⟨z, hd, vs, rel, dd⟩ := dk_rd I.hok e
    refine wpAny_notIn_of (kV_is ry) hd dd.mapOf ?_
    rw [← (rel.val k).isSome_eq, ← l]
    exact h _ (I.tok _)
  · subst ey
    cases (show u = Value.ref b from ry)
    obtain ⟨z, hd, xs, rel, dd⟩ := dt_rd I.hok e
    refine wpAny_notIn_heap (tupleKind_room_in1 hu) (key_of I.hok eb) hd dd ?_
    have q := (rel.val k).isSome_eq
    rw [Option.isSome_map] at q
    rw [← q, ← l]
    exact h _ (I.tok _)
/-- a dict's object is replaced -/
theorem d_write {h' : Heap} {t' : Nat} {ob : HO} (I : Inv X pins σ H s) (mu : Mut (H a)) (hs : Heap.SameBut a s.heap h') (he : ∃ q, h'.get? a = some q) (new : ObjOk X.prog X.w (upd H a ob) h' a ob) :
    Inv X pins σ (upd H a ob) { s with heap := h', toks := t' } :=
  I.write (x := a) (e := a) mu (.inl rfl) (fun b q hb z => (hs.2 b hb).trans z) he new
theorem dk_new {P : Program} {w : World} {H' : Hp} {h' : Heap} {kvs : List (Key × V)} {vs : List (Key × Value)} (z : kvs.length ≤ sizeLine) (hd : (a == sysModules) = false) (rel : KV kvs vs) (dd : h'.DictOf (mixKind P w) a vs) :
    ObjOk P w H' h' a (.dK kvs) := ⟨z, hd, vs, rel, dd⟩
/-- d[y] = v -/
theorem d_setItem {H' : Hp} {Q : Unit → Shared → Prop} (hu : A.units + 1 < cLine) (I : Inv X pins σ H s) (g : DPut H a y v H') (ry : RelV y u) (rv : RelV v r) (h : ∀ s', Inv X pins σ H' s' → Q () s') :
    wpAny (model X.prog X.w) A (setItem (.ref a) u r) Q E s := by
  rcases g with ⟨kvs, k, e, ey, l, eH⟩ | ⟨kvs, k, b, e, ey, eb, l, eH⟩
  · subst ey eH
    obtain ⟨z, hd, vs, rel, dd⟩ := dk_of I.hok e
    have hz : vs.length ≤ sizeLine := by rw [← rel.length]; exact z
    have hl : (putK kvs k v).length ≤ sizeLine := by have := length_putK kvs k v; omega
    refine wpAny_setItem_pairs (hsz := hz) (kV_is ry) dd fun h' dd' hs => h _ ?_
    have he : ∃ q, h'.get? a = some q := let ⟨q, _, _, hq, _⟩ := dd'; ⟨q, hq⟩
    exact d_write I (by rw [e]; exact True.intro) hs he (dk_new hl hd (rel.put k rv) dd')
  · subst ey eH
    cases (show u = Value.ref b from ry)
    obtain ⟨z, hd, xs, rel, dd⟩ := dt_of I.hok e
    have hz : xs.length ≤ sizeLine := by rw [← Paired.length rel]; exact z
    have hl : (putK kvs k v).length ≤ sizeLine := by have := length_putK kvs k v; omega
    refine wpAny_setItem_heap (hsz := hz) (tupleKind_room_in1 hu) (key_of I.hok eb) dd fun h' dd' hs => h _ ?_
    obtain ⟨q, es, ep, hq, h2, h3, h4, _, h5⟩ := dd'
    refine d_write I (by rw [e]; exact True.intro) hs ⟨q, hq⟩ ⟨hl, hd, _, (rel.put k eb rv).keeps fun c ys ec => ?_, q, es, ep, hq, h2, h3, h4, h5⟩
    rw [upd_ne (ne_of ec e (fun z => nomatch z))]
    exact ec
end

section
variable {X : Cx} {pins : List (Addr × Obj)} {σ : St} {H : Hp} {s : Shared} {a : Addr} {kvs : List (Key × V)} {k : Key} {u : Value} {A : Around} {E : Value → Shared → Prop}
/-- del d[k] -/
theorem d_delItem {Q : Unit → Shared → Prop} (I : Inv X pins σ H s) (e : H a = some (.dK kvs)) (ry : RelV (kV k) u) (l : (valV kvs k).isSome = true) (h : ∀ s', Inv X pins σ (upd H a (.dK (dropK kvs k))) s' → Q () s') :
    wpAny (model X.prog X.w) A (delItem (.ref a) u) Q E s := by
  obtain ⟨z, hd, vs, rel, dd⟩ := dk_of I.hok e
  refine wpAny_delItem_slot dd.typeIs (by decide) PySem.F.slot_dict_delitem
    (call_meetsIn PySem.F.slot_dict_delitem dd.typeIs PySem.F.entry_dict_delitem (PySem.F.args_dict_delitem_2 _ _) (meets_dict_delitem_pairs (mixKind X.prog X.w) a (kV_is ry)) ⟨vs, dd, by rw [← rel.length]; exact z, by rw [← (rel.val k).isSome_eq]; exact l, fun h' dd' hs => h _ ?_⟩)
  have he : ∃ q, h'.get? a = some q := let ⟨q, _, _, hq, _⟩ := dd'; ⟨q, hq⟩
  exact d_write I (by rw [e]; exact True.intro) hs he (dk_new (Nat.le_trans (dropK_le kvs k) z) hd (rel.drop k) dd')
/-- d.pop(k[, x]), there -/
theorem d_pop {v : V} {more : List Value} {Q : Value → Shared → Prop} (I : Inv X pins σ H s) (e : H a = some (.dK kvs)) (ry : RelV (kV k) u) (l : valV kvs k = some v) (hm : more = [] ∨ ∃ x, more = [x])
    (h : ∀ w' s', Inv X pins σ (upd H a (.dK (dropK kvs k))) s' → RelV v w' → Q w' s') : wpAny (model X.prog X.w) A (call (.builtin "dict.pop") (.ref a :: u :: more)) Q E s := by
  obtain ⟨z, hd, vs, rel, dd⟩ := dk_of I.hok e
  obtain ⟨w', hw, rw'⟩ := RelO.some_of (v := v) (o := valueAt vs k) (by rw [← l]; exact rel.val k)
  have hp : (keyPart u).isSome = true := by
    cases k with
    | inl i => obtain ⟨t, q⟩ := (show ∃ t, u = Value.int i t from ry); subst q; rfl
    | inr x => obtain ⟨t, q⟩ := (show ∃ t, u = Value.str x t from ry); subst q; rfl
  have ha : argsOk "dict.pop" ⟨.ref a :: u :: more, []⟩ := by
    rcases hm with q | ⟨x, q⟩
    · subst q; exact PySem.F.args_dict_pop_2 _ _
    · subst q; exact PySem.F.args_dict_pop_3 _ _ _
  refine call_meetsIn PySem.F.slot_dict_pop dd.typeIs PySem.F.entry_dict_pop ha (meets_dict_pop_there (mixKind X.prog X.w) a (kV_is ry) more hm hp)
    ⟨vs, w', dd, by rw [← rel.length]; exact z, hw, fun h' dd' hs => h w' _ ?_ rw'⟩
  have he : ∃ q, h'.get? a = some q := let ⟨q, _, _, hq, _⟩ := dd'; ⟨q, hq⟩
  exact d_write I (by rw [e]; exact True.intro) hs he (dk_new (Nat.le_trans (dropK_le kvs k) z) hd (rel.drop k) dd')
/-- d.pop(k, x), not there -/
theorem d_popD {r : Value} {Q : Value → Shared → Prop} (I : Inv X pins σ H s) (e : H a = some (.dK kvs)) (ry : RelV (kV k) u) (l : valV kvs k = none) (h : ∀ s', Inv X pins σ H s' → Q r s') :
    wpAny (model X.prog X.w) A (call (.builtin "dict.pop") [.ref a, u, r]) Q E s := by
  obtain ⟨z, hd, vs, rel, dd⟩ := dk_of I.hok e
  have hn : valueAt vs k = none := RelO.none_of (by rw [← l]; exact rel.val k)
  have hp : (keyPart u).isSome = true := by
    cases k with
    | inl i => obtain ⟨t, q⟩ := (show ∃ t, u = Value.int i t from ry); subst q; rfl
    | inr x => obtain ⟨t, q⟩ := (show ∃ t, u = Value.str x t from ry); subst q; rfl
  exact call_meetsIn PySem.F.slot_dict_pop dd.typeIs PySem.F.entry_dict_pop (PySem.F.args_dict_pop_3 _ _ _) (meets_dict_pop_default (mixKind X.prog X.w) a (kV_is ry) hd hp r) ⟨vs, dd, hn, h _ (I.tok _)⟩
/-- d.clear() -/
theorem d_clear {Q : Value → Shared → Prop} (I : Inv X pins σ H s) (e : H a = some (.dK kvs)) (h : ∀ s', Inv X pins σ (upd H a (.dK [])) s' → Q .none s') : wpAny (model X.prog X.w) A (call (.builtin "dict.clear") [.ref a]) Q E s := by
  obtain ⟨z, hd, vs, rel, dd⟩ := dk_of I.hok e
  refine call_meetsIn PySem.F.slot_dict_clear dd.typeIs PySem.F.entry_dict_clear (PySem.F.args_dict_clear_1 _) (meets_dict_clear (mixKind X.prog X.w) a) ⟨vs, dd, by rw [← rel.length]; exact z, fun h' dd' hs => h _ ?_⟩
  have he : ∃ q, h'.get? a = some q := let ⟨q, _, _, hq, _⟩ := dd'; ⟨q, hq⟩
  exact d_write (t' := s.toks) I (by rw [e]; exact True.intro) hs he (dk_new (Nat.zero_le _) hd .nil dd')
theorem d_len {Q : Value → Shared → Prop} (I : Inv X pins σ H s) (e : Rd H a (.dK kvs)) (h : ∀ t s', Inv X pins σ H s' → Q (.int kvs.length t) s') : wpAny (model X.prog X.w) A (call (.builtin "len") [.ref a]) Q E s := by
  obtain ⟨z, hd, vs, rel, dd⟩ := dk_rd I.hok e
  refine call_len_dict hd dd (by rw [← rel.length]; rw [sizeLine_eq] at z; omega) ?_
  rw [← rel.length]
  exact h _ _ (I.tok _)
/-- if d -/
theorem d_truth {Q : Bool → Shared → Prop} (I : Inv X pins σ H s) (e : Rd H a (.dK kvs)) (h : ∀ s', Inv X pins σ H s' → Q (!kvs.isEmpty) s') : wpAny (model X.prog X.w) A (truthy (.ref a)) Q E s := by
  obtain ⟨z, hd, vs, rel, dd⟩ := dk_rd I.hok e
  refine wpAny_truthy_dict hd dd (by rw [← rel.length]; rw [sizeLine_eq] at z; omega) ?_
  have q : kvs.isEmpty = vs.isEmpty := by cases rel <;> rfl
  rw [← q]
  exact h _ (I.tok _)
end


/-! ### readings and rules -/
/-- the element of a subscription, not a slice -/
def NoSl (i : Expr) : Prop := ∀ ov iv, subscripted i false ov iv = operate [ov, iv] (getItem ov iv)
theorem subD_of {prog : Program} {w : World} {A : Around} {E : Value → Shared → Prop} {s : Shared} {env : Env} {value slice : Expr} {pos : Pos} {T id : String} {Q : Value → Shared → Prop}
    (hl : typeLookup (.type T) "__getitem__" = pure (some (.builtin id))) (hs : NoSl slice)
    (h : wpAny (model prog w) A (eval value env) (fun o s₁ => wpAny (model prog w) A (eval slice env) (fun i s₂ => s₂.TypeIs o T ∧ wpAny (model prog w) A (getItem o i) Q E s₂) E s₁) E s) :
    wpAny (model prog w) A (eval (.Subscript value slice pos) env) Q E s := by
  refine Subscript_ (wpAny_mono h (fun o s₁ h₁ => wpAny_mono h₁ (fun i s₂ h₂ => ?_) fun _ _ x => x) fun _ _ x => x)
  obtain ⟨hT, h₂⟩ := h₂
  unfold subscriptTail
  refine wpAny_bind ?_
  rw [getitemInPython_of_ne hT.not_modules]
  refine wpAny_bind (wpAny_specialOf hT hl ?_)
  have fin : wpAny (model prog w) A (subscripted slice false o i) (fun r s₃ => wpAny (model prog w) A (letTemporaryGo value o r >>= fun _ => pure r) Q E s₃) E s₂ := by
    rw [hs o i]
    exact wpAny_operating (wpAny_mono h₂ (fun r s₃ h₃ => wpAny_bind (wpAny_letTemporaryGo (wpAny_pure h₃))) fun _ _ x => x)
  first
    | exact wpAny_pure (wpAny_bind fin)
    | exact wpAny_bind (wpAny_pure (wpAny_bind fin))
    | exact wpAny_bind fin

theorem dict_typeIs {X : Cx} {pins : List (Addr × Obj)} {σ : St} {H : Hp} {s : Shared} {a : Addr} {y : V} {o : Option V} (I : Inv X pins σ H s) (g : DGet H a y o) : s.TypeIs (.ref a) "dict" := by
  rcases g with ⟨kvs, k, e, _, _⟩ | ⟨kvs, k, b, e, _, _, _⟩
  · obtain ⟨_, _, vs, _, dd⟩ := dk_rd I.hok e
    exact dd.typeIs
  · obtain ⟨_, _, xs, _, dd⟩ := dt_rd I.hok e
    exact dd.typeIs
theorem dict_noDict {X : Cx} {pins : List (Addr × Obj)} {σ : St} {H : Hp} {s : Shared} {a : Addr} {y : V} {o : Option V} (I : Inv X pins σ H s) (g : DGet H a y o) :
    ∀ b, Value.ref a = .ref b → ∃ ob, s.heap.get? b = some ob ∧ ob.dict = none := fun b q => by
  cases q
  rcases g with ⟨kvs, k, e, _, _⟩ | ⟨kvs, k, b, e, _, _, _⟩
  · obtain ⟨_, _, vs, _, ob, _, _, h1, h2, _⟩ := dk_rd I.hok e
    exact ⟨ob, h1, h2.2.1⟩
  · obtain ⟨_, _, xs, _, ob, _, _, h1, h2, _⟩ := dt_rd I.hok e
    exact ⟨ob, h1, h2.2.1⟩

/-- d[y] -/
def tDGet (td ty : TE) : TE := fun σ H Q => td σ H fun x H1 => ty σ H1 fun y H2 => ∃ a v, x = .ref a ∧ DGet H2 a y (some v) ∧ Q v H2
/-- y in d, y not in d -/
def tDIn (ty td : TE) : TE := fun σ H Q => ty σ H fun y H1 => td σ H1 fun x H2 => ∃ a o, x = .ref a ∧ DGet H2 a y o ∧ Q (.bl o.isSome) H2
def tDNotIn (ty td : TE) : TE := fun σ H Q => ty σ H fun y H1 => td σ H1 fun x H2 => ∃ a o, x = .ref a ∧ DGet H2 a y o ∧ Q (.bl (!o.isSome)) H2
/-- d[y] = v -/
def sDPut (td ty tv : TE) : TS := fun D σ H => tv σ H fun v H1 => td σ H1 fun x H2 => ty σ H2 fun y H3 => ∃ a H4, x = .ref a ∧ DPut H3 a y v H4 ∧ D.nx σ H4
/-- d[y] op= v -/
def sDAug (td ty tv : TE) (rd : V → V → Hp → VK → Prop) : TS := fun D σ H => td σ H fun x H1 => ty σ H1 fun y H2 => ∃ a v, x = .ref a ∧ DGet H2 a y (some v) ∧
  tv σ H2 fun y2 H3 => rd v y2 H3 fun z H4 => ∃ H5, DPut H4 a y z H5 ∧ D.nx σ H5
/-- del d[y] -/
def sDDel (td ty : TE) : TS := fun D σ H => td σ H fun x H1 => ty σ H1 fun y H2 => ∃ a kvs k, x = .ref a ∧ H2 a = some (.dK kvs) ∧ y = kV k ∧ (valV kvs k).isSome = true ∧ D.nx σ (upd H2 a (.dK (dropK kvs k)))

section
variable {X : Cx} {o i e value : Expr} {pos pos' tpos : Pos} {td ty tv : TE}
theorem pe_dget (hu : X.A.units + 1 < cLine) (ho : PE X o td) (hi : PE X i ty) (hs : NoSl i) : PE X (.Subscript o i pos) (tDGet td ty) := by
  intro pins s σ H Q I h
  refine subD_of PySem.F.slot_dict_getitem.lookup hs (thn (ho pins s σ H _ I h) fun u s1 ⟨x, H1, I1, rx, q1⟩ => thn (hi pins s1 σ H1 _ I1 q1) fun iv s2 ⟨y, H2, I2, ry, a, v, ex, g, q2⟩ => ?_)
  subst ex
  obtain rfl : u = Value.ref a := rx
  exact ⟨dict_typeIs I2 g, d_getItem hu I2 g ry fun w' s3 I3 rw' => ⟨v, H2, I3, rw', q2⟩⟩
theorem pc_din (hu : X.A.units + 1 < cLine) (hi : PE X i ty) (ho : PE X o td) : PC X .In i o (tDIn ty td) := by
  intro pins s σ H Q I h
  refine thn (hi pins s σ H _ I h) fun iv s1 ⟨y, H1, I1, ry, q1⟩ => thn (ho pins s1 σ H1 _ I1 q1) fun u s2 ⟨x, H2, I2, rx, a, ov, ex, g, q2⟩ => ?_
  subst ex
  obtain rfl : u = Value.ref a := rx
  exact d_in hu I2 g ry fun s3 I3 => ⟨.bl ov.isSome, H2, I3, rfl, q2⟩
theorem pc_dnotin (hu : X.A.units + 1 < cLine) (hi : PE X i ty) (ho : PE X o td) : PC X .NotIn i o (tDNotIn ty td) := by
  intro pins s σ H Q I h
  refine thn (hi pins s σ H _ I h) fun iv s1 ⟨y, H1, I1, ry, q1⟩ => thn (ho pins s1 σ H1 _ I1 q1) fun u s2 ⟨x, H2, I2, rx, a, ov, ex, g, q2⟩ => ?_
  subst ex
  obtain rfl : u = Value.ref a := rx
  exact d_notIn hu I2 g ry fun s3 I3 => ⟨.bl (!ov.isSome), H2, I3, rfl, q2⟩
theorem ps_dput (hu : X.A.units + 1 < cLine) (ho : PE X o td) (hi : PE X i ty) (hv : PE X value tv) (hs : swapsWith value (some (.Subscript o i pos')) pos.line X.env = pure false) :
    PS X (.Assign [.Subscript o i pos'] value pos) (sDPut td ty tv) := by
  intro pins s σ H D I h
  refine wpAny_Assign_Subscript (thn (hv pins s σ H _ I h) fun r s1 ⟨v, H1, I1, rv, q1⟩ => thn (ho pins s1 σ H1 _ I1 q1) fun u s2 ⟨x, H2, I2, rx, q2⟩ => thn (hi pins s2 σ H2 _ I2 q2) fun iv s3 ⟨y, H3, I3, ry, a, H4, ex, g, q3⟩ => ?_) hs
  subst ex
  obtain rfl : u = Value.ref a := rx
  exact d_setItem hu I3 g ry rv fun s4 I4 => ⟨σ, H4, I4, q3⟩
theorem ps_daug {op : Operator} {rd : V → V → Hp → VK → Prop} (hu : X.A.units + 1 < cLine) (ho : PE X o td) (hi : PE X i ty) (hv : PE X value tv) (hop : InOp X op rd)
    (ha : ∀ ov iv new, augStore i ov iv new = (do holding [new, ov, iv] (setItem ov iv new); release [new, ov, iv] []; pure .next)) : PS X (.AugAssign (.Subscript o i tpos) op value pos) (sDAug td ty tv rd) := by
  intro pins s σ H D I h
  refine wpAny_AugAssign_SubscriptAny (thn (ho pins s σ H _ I h) fun u s1 ⟨x, H1, I1, rx, q1⟩ => thn (hi pins s1 σ H1 _ I1 q1) fun iv s2 ⟨y, H2, I2, ry, a, v, ex, g, q2⟩ => ?_) ha
  subst ex
  obtain rfl : u = Value.ref a := rx
  refine d_getItem hu I2 g ry fun w' s3 I3 rw' => thn (hv pins s3 σ H2 _ I3 q2) fun w2 s4 ⟨y2, H3, I4, ry2, q3⟩ => thn (hop pins s4 σ H3 v y2 w' w2 _ I4 rw' ry2 q3) fun w3 s5 ⟨z, H4, I5, rz, H5, g5, q4⟩ => ?_
  exact d_setItem hu I5 g5 ry rz fun s6 I6 => ⟨σ, H5, I6, q4⟩
theorem ps_ddel (ho : PE X o td) (hi : PE X i ty) : PS X (.Delete [.Subscript o i tpos] pos) (sDDel td ty) := by
  intro pins s σ H D I h
  refine wpAny_Delete (wpAny_deleteEach_cons (wpAny_delete_Subscript (thn (ho pins s σ H _ I h) fun u s1 ⟨x, H1, I1, rx, q1⟩ => thn (hi pins s1 σ H1 _ I1 q1) fun iv s2 ⟨y, H2, I2, ry, a, kvs, k, ex, e, ey, l, q2⟩ => ?_)))
  subst ex ey
  obtain rfl : u = Value.ref a := rx
  exact d_delItem I2 e ry l fun s3 I3 => wpAny_deleteEach_nil ⟨σ, _, I3, q2⟩
end


/-! ### displays -/
theorem dk_empty {P : Program} {w : World} {H : Hp} (h : Heap) (hb : sysModules < h.objs.size) : ObjOk P w H (h.push { cls := .type "dict", data := .dict #[] }) h.objs.size (.dK []) :=
  ⟨Nat.zero_le _, beq_eq_false_iff_ne.mpr (Ne.symm (Nat.ne_of_lt hb)), [], .nil, Heap.DictOf.new h⟩
theorem dt_empty {P : Program} {w : World} {H : Hp} (h : Heap) (hb : sysModules < h.objs.size) : ObjOk P w H (h.push { cls := .type "dict", data := .dict #[] }) h.objs.size (.dT []) :=
  ⟨Nat.zero_le _, beq_eq_false_iff_ne.mpr (Ne.symm (Nat.ne_of_lt hb)), [], .nil, _, #[], 0, Heap.get?_push_size _ rfl, ⟨rfl, rfl, rfl⟩, rfl, rfl, List.nodup_nil⟩
/-- {}, to be a dict of the kind that is wanted -/
def tDNewK : TE := fun _ H Q => ∀ p, H p = none → Q (.ref p) (upd H p (.dK []))
def tDNewT : TE := fun _ H Q => ∀ p, H p = none → Q (.ref p) (upd H p (.dT []))
section
variable {X : Cx} {pos : Pos}
theorem pe_dnewK : PE X (.Dict [] [] pos) tDNewK := fun pins s σ H Q I h =>
  wpAny_Dict_empty ⟨.ref s.heap.objs.size, _, I.laid (a := s.heap.objs.size) (o := .dK []) (t' := s.toks) (fun _ _ q => Heap.get?_push_of_some _ q) (Nat.le_refl _) (dk_empty s.heap I.big), rfl, h _ (I.hok.fresh (Nat.le_refl _))⟩
theorem pe_dnewT : PE X (.Dict [] [] pos) tDNewT := fun pins s σ H Q I h =>
  wpAny_Dict_empty ⟨.ref s.heap.objs.size, _, I.laid (a := s.heap.objs.size) (o := .dT []) (t' := s.toks) (fun _ _ q => Heap.get?_push_of_some _ q) (Nat.le_refl _) (dt_empty s.heap I.big), rfl, h _ (I.hok.fresh (Nat.le_refl _))⟩
end

/-- the pairs of a display, from the left -/
def tPairs : List (TE × TE) → St → Hp → (List (V × V) → Hp → Prop) → Prop
  | [], _, H, Q => Q [] H
  | (tk, tv) :: r, σ, H, Q => tk σ H fun x H1 => tv σ H1 fun y H2 => tPairs r σ H2 fun ps H3 => Q ((x, y) :: ps) H3
abbrev VV : List (V × V) → List (Value × Value) → Prop := Paired fun p q => RelV p.1 q.1 ∧ RelV p.2 q.2
def PPs (X : Cx) (pos : Pos) (keys : List (Option Expr)) (values : List Expr) (trs : List (TE × TE)) : Prop :=
  ∀ (pins : List (Addr × Obj)) (s : Shared) (σ : St) (H : Hp) (Q : List (V × V) → Hp → Prop), Inv X pins σ H s → tPairs trs σ H Q →
    wpAny (model X.prog X.w) X.A (evalPairs (pairTrees keys values X.env pos)) (fun vs s' => ∃ ps H', Inv X pins σ H' s' ∧ VV ps vs ∧ Q ps H') X.xe s
theorem pps_nil {X : Cx} {pos : Pos} : PPs X pos [] [] [] := fun pins s σ H Q I h => pairTrees_nil_walk ⟨[], H, I, .nil, h⟩
theorem pps_cons {X : Cx} {pos : Pos} {k v : Expr} {ks : List (Option Expr)} {vs : List Expr} {tk tv : TE} {trs : List (TE × TE)} (hk : PE X k tk) (hv : PE X v tv) (hr : PPs X pos ks vs trs) :
    PPs X pos (some k :: ks) (v :: vs) ((tk, tv) :: trs) := fun pins s σ H Q I h =>
  pairTrees_cons_walk (thn (hk pins s σ H _ I h) fun u s1 ⟨x, H1, I1, rx, q1⟩ => thn (hv pins s1 σ H1 _ I1 q1) fun w2 s2 ⟨y, H2, I2, ry, q2⟩ =>
    thn (hr pins s2 σ H2 _ I2 q2) fun ws s3 ⟨ps, H3, I3, rel, q3⟩ => ⟨(x, y) :: ps, H3, I3, .cons ⟨rx, ry⟩ rel, q3⟩)

def mergeK (kvs more : List (Key × V)) : List (Key × V) := more.foldl (fun acc kv => putK acc kv.1 kv.2) kvs
theorem KV.merge : ∀ {more : List (Key × V)} {rs : List (Key × Value)} {kvs : List (Key × V)} {vs : List (Key × Value)}, KV more rs → KV kvs vs → KV (mergeK kvs more) (merged vs rs) := by
  intro more rs kvs vs r
  unfold KV at r
  induction r generalizing kvs vs with
  | nil => intro q; exact q
  | @cons p q ps qs h t ih =>
    intro r0
    have e : KV (putK kvs p.1 p.2) (stored vs q.1 q.2) := by
      have := r0.put p.1 h.2
      rw [← h.1]; exact this
    exact ih e
theorem length_mergeK : ∀ (more kvs : List (Key × V)), (mergeK kvs more).length ≤ kvs.length + more.length
  | [], kvs => by show kvs.length ≤ kvs.length + 0; omega
  | p :: r, kvs => by
    have h1 := length_mergeK r (putK kvs p.1 p.2)
    have h2 := length_putK kvs p.1 p.2
    show (mergeK (putK kvs p.1 p.2) r).length ≤ _
    rw [List.length_cons]; omega
theorem carries_of {P : Program} {w : World} : ∀ {kvs : List (Key × V)} {ws : List (Value × Value)}, VV (kvs.map fun kv => (kV kv.1, kv.2)) ws → ∃ rs, Carries (mixKind P w) ws rs ∧ KV kvs rs
  | [], _, r => by rw [List.map_nil] at r; cases r; exact ⟨[], True.intro, .nil⟩
  | p :: kvs, _, r => by
    rw [List.map_cons] at r
    cases r with
    | @cons a b as bs h t =>
      obtain ⟨rs, c, q⟩ := carries_of (P := P) (w := w) t
      obtain ⟨b1, b2⟩ := b
      exact ⟨(p.1, b2) :: rs, ⟨kV_is h.1, rfl, c⟩, .cons ⟨rfl, h.2⟩ q⟩
/-- {k: v, ..} with keys ints and texts; the new dict stands empty while the pairs are made -/
def tDisp (trs : List (TE × TE)) : TE := fun σ H Q => ∀ p, H p = none → tPairs trs σ (upd H p (.dK [])) fun ps H2 => H2 p = some (.dK []) ∧ ∃ kvs : List (Key × V), ps = kvs.map (fun kv => (kV kv.1, kv.2)) ∧ kvs.length ≤ 15 ∧ Q (.ref p) (upd H2 p (.dK (mergeK [] kvs)))
theorem pe_disp {X : Cx} {pos : Pos} {keys : List (Option Expr)} {values : List Expr} {trs : List (TE × TE)} (h : PPs X pos keys values trs) (hall : keys.all (·.isSome) = true) (hl : keys.length = values.length) (h0 : keys ≠ [])
    (h15 : keys.length ≤ 15) : PE X (.Dict keys values pos) (tDisp trs) := by
  intro pins s σ H Q I q
  have hn := I.hok.fresh (Nat.le_refl s.heap.objs.size)
  have I1 := I.laid (a := s.heap.objs.size) (o := .dK []) (h' := s.heap.push { cls := .type "dict", data := .dict #[] }) (t' := s.toks) (fun _ _ q => Heap.get?_push_of_some _ q) (Nat.le_refl _) (dk_empty s.heap I.big)
  refine wpAny_Dict_walk (knd := mixKind X.prog X.w) hall hl h0 h15 (thn (h pins _ σ _ _ I1 (q _ hn)) fun ws s2 ⟨ps, H2, I2, rel, e, kvs, ep, lk, q2⟩ => ?_)
  subst ep
  obtain ⟨rs, c, rk⟩ := carries_of (P := X.prog) (w := X.w) rel
  obtain ⟨z, hd, vs0, r0, dd⟩ := dk_of I2.hok e
  cases r0
  refine ⟨rs, c, dd, fun h' dd' hs => ⟨.ref s.heap.objs.size, _, ?_, rfl, q2⟩⟩
  have hz : (mergeK [] kvs).length ≤ sizeLine := by
    have h1 := length_mergeK kvs []
    rw [List.length_nil] at h1
    rw [sizeLine_eq]; omega
  have he : ∃ q, h'.get? s.heap.objs.size = some q := let ⟨q, _, _, hq, _⟩ := dd'; ⟨q, hq⟩
  exact d_write I2 (by rw [e]; exact True.intro) hs he (dk_new hz hd (rk.merge .nil) dd')


/-! ### methods -/
/-- a method call o.m(e) of a built-in, with one argument: what must be seen of the text -/
structure M1 (X : Cx) (o : Expr) (m : Str) (apos : Pos) (e : Expr) (cpos : Pos) : Prop where
  base : attributeBase o m X.env (eval o X.env) = eval o X.env
  few : ((backTo cpos (starEach [e] X.env)).all (fun x => !x.1) && (backToKw cpos (keywordEach [] X.env)).all (fun x => x.1.isSome)
    && decide (([e] : List Expr).length + ([] : List Keyword).length + (if ([] : List Keyword).isEmpty then 0 else 1) < 30)) = true
  line : (apos.endLine == cpos.line) = true
  trees : backTo cpos (starEach [e] X.env) = [(false, eval e X.env)]
structure M2 (X : Cx) (o : Expr) (m : Str) (apos : Pos) (e f : Expr) (cpos : Pos) : Prop where
  base : attributeBase o m X.env (eval o X.env) = eval o X.env
  few : ((backTo cpos (starEach [e, f] X.env)).all (fun x => !x.1) && (backToKw cpos (keywordEach [] X.env)).all (fun x => x.1.isSome)
    && decide (([e, f] : List Expr).length + ([] : List Keyword).length + (if ([] : List Keyword).isEmpty then 0 else 1) < 30)) = true
  line : (apos.endLine == cpos.line) = true
  trees : backTo cpos (starEach [e, f] X.env) = [(false, eval e X.env), (false, eval f X.env)]

/-- a is a dict, whatever its keys -/
def IsD (H : Hp) (a : Addr) : Prop := (∃ kvs, Rd H a (.dK kvs)) ∨ ∃ kvs, Rd H a (.dT kvs)
theorem isD_at {X : Cx} {pins : List (Addr × Obj)} {σ : St} {H : Hp} {s : Shared} {a : Addr} (I : Inv X pins σ H s) (d : IsD H a) :
    s.TypeIs (.ref a) "dict" ∧ (∀ b, Value.ref a = .ref b → ∃ ob, s.heap.get? b = some ob ∧ ob.dict = none) ∧ (a == sysModules) = false := by
  rcases d with ⟨kvs, e⟩ | ⟨kvs, e⟩
  · obtain ⟨_, hd, vs, _, dd⟩ := dk_rd I.hok e
    refine ⟨dd.typeIs, fun b q => ?_, hd⟩
    cases q
    obtain ⟨ob, _, _, h1, h2, _⟩ := dd
    exact ⟨ob, h1, h2.2.1⟩
  · obtain ⟨_, hd, xs, _, dd⟩ := dt_rd I.hok e
    refine ⟨dd.typeIs, fun b q => ?_, hd⟩
    cases q
    obtain ⟨ob, _, _, h1, h2, _⟩ := dd
    exact ⟨ob, h1, h2.2.1⟩

section
variable {X : Cx} {pins : List (Addr × Obj)} {σ : St} {H : Hp} {s : Shared} {a : Addr} {y d : V} {u r : Value} {o : Option V} {A : Around} {E : Value → Shared → Prop}
/-- d.get(y) -/
theorem d_get1 {Q : Value → Shared → Prop} (hu : A.units + 1 < cLine) (I : Inv X pins σ H s) (g : DGet H a y o) (ry : RelV y u) (h : ∀ w' s', Inv X pins σ H s' → RelV (o.getD .non) w' → Q w' s') :
    wpAny (model X.prog X.w) A (call (.builtin "dict.get") [.ref a, u]) Q E s := by
  rcases g with ⟨kvs, k, e, ey, l⟩ | ⟨kvs, k, b, e, ey, eb, l⟩
  · subst ey
    obtain ⟨z, hd, vs, rel, dd⟩ := dk_rd I.hok e
    refine call_meetsIn PySem.F.slot_dict_get dd.typeIs PySem.F.entry_dict_get (PySem.F.args_dict_get_2 _ _) (meets_dict_get (mixKind X.prog X.w) a (kV_is ry) hd) ⟨_, dd.mapOf, h _ _ (I.tok _) ?_⟩
    rw [l]
    exact (rel.val k).getD rfl
  · subst ey
    cases (show u = Value.ref b from ry)
    obtain ⟨z, hd, xs, rel, dd⟩ := dt_rd I.hok e
    refine call_meetsIn PySem.F.slot_dict_get dd.typeIs PySem.F.entry_dict_get (PySem.F.args_dict_get_2 _ _) (meetsH_dict_get (tupleKind (mixKind X.prog X.w)) a b hd) ⟨tupleKind_room_in1 hu, k, xs, key_of I.hok eb, dd, h _ _ (I.tok _) ?_⟩
    rw [l]
    exact (rel.val k).getD rfl
/-- d.get(y, x) -/
theorem d_get2 {Q : Value → Shared → Prop} (hu : A.units + 1 < cLine) (I : Inv X pins σ H s) (g : DGet H a y o) (ry : RelV y u) (rd : RelV d r) (h : ∀ w' s', Inv X pins σ H s' → RelV (o.getD d) w' → Q w' s') :
    wpAny (model X.prog X.w) A (call (.builtin "dict.get") [.ref a, u, r]) Q E s := by
  rcases g with ⟨kvs, k, e, ey, l⟩ | ⟨kvs, k, b, e, ey, eb, l⟩
  · subst ey
    obtain ⟨z, hd, vs, rel, dd⟩ := dk_rd I.hok e
    refine call_meetsIn PySem.F.slot_dict_get dd.typeIs PySem.F.entry_dict_get (PySem.F.args_dict_get_3 _ _ _) (meets_dict_get_default (mixKind X.prog X.w) a (kV_is ry) hd r) ⟨_, dd.mapOf, h _ _ (I.tok _) ?_⟩
    rw [l]
    exact (rel.val k).getD rd
  · subst ey
    cases (show u = Value.ref b from ry)
    obtain ⟨z, hd, xs, rel, dd⟩ := dt_rd I.hok e
    refine call_meetsIn PySem.F.slot_dict_get dd.typeIs PySem.F.entry_dict_get (PySem.F.args_dict_get_3 _ _ _) (meetsH_dict_get_default (tupleKind (mixKind X.prog X.w)) a b hd r) ⟨tupleKind_room_in1 hu, k, xs, key_of I.hok eb, dd, h _ _ (I.tok _) ?_⟩
    rw [l]
    exact (rel.val k).getD rd
end

def tDGet1 (td ty : TE) : TE := fun σ H Q => td σ H fun x H1 => ∃ a, x = .ref a ∧ IsD H1 a ∧ ty σ H1 fun y H2 => ∃ o, DGet H2 a y o ∧ Q (o.getD .non) H2
def tDGet2 (td ty tx : TE) : TE := fun σ H Q => td σ H fun x H1 => ∃ a, x = .ref a ∧ IsD H1 a ∧ ty σ H1 fun y H2 => tx σ H2 fun z H3 => ∃ o, DGet H3 a y o ∧ Q (o.getD z) H3
/-- d.pop(k): there; d.pop(k, x): there or not -/
def tDPop1 (td ty : TE) : TE := fun σ H Q => td σ H fun x H1 => ∃ a, x = .ref a ∧ IsD H1 a ∧ ty σ H1 fun y H2 => ∃ kvs k v, H2 a = some (.dK kvs) ∧ y = kV k ∧ valV kvs k = some v ∧ Q v (upd H2 a (.dK (dropK kvs k)))
def tDPop2 (td ty tx : TE) : TE := fun σ H Q => td σ H fun x H1 => ∃ a, x = .ref a ∧ IsD H1 a ∧ ty σ H1 fun y H2 => tx σ H2 fun z H3 => ∃ kvs k, H3 a = some (.dK kvs) ∧ y = kV k ∧
  (∀ v, valV kvs k = some v → Q v (upd H3 a (.dK (dropK kvs k)))) ∧ (valV kvs k = none → Q z H3)
section
variable {X : Cx} {o e f : Expr} {apos cpos : Pos} {td ty tx : TE}
theorem pe_dget1 (hu : X.A.units + 1 < cLine) (ho : PE X o td) (he : PE X e ty) (m : M1 X o "get" apos e cpos) : PE X (.Call (.Attribute o "get" apos) [e] [] cpos) (tDGet1 td ty) := by
  intro pins s σ H Q I h
  refine wpAny_Call_method m.base m.few m.line PySem.F.plainAttrs_dict PySem.F.slot_dict_get PySem.F.type_dict_get (thn (ho pins s σ H _ I h) fun u s1 ⟨x, H1, I1, rx, a, ex, d, q1⟩ => ?_)
  subst ex
  obtain rfl : u = Value.ref a := rx
  obtain ⟨t1, t2, _⟩ := isD_at I1 d
  refine ⟨t1, t2, ?_⟩
  rw [m.trees]
  refine Calls.callWith_builtin rfl (Calls.evalArgs_plain (Calls.spliced_cons (thn (he pins s1 σ H1 _ I1 q1) fun iv s2 ⟨y, H2, I2, ry, ov, g, q2⟩ => Calls.spliced_nil ?_)))
  exact d_get1 hu I2 g ry fun w' s3 I3 rw' => ⟨_, H2, I3, rw', q2⟩
theorem pe_dget2 (hu : X.A.units + 1 < cLine) (ho : PE X o td) (he : PE X e ty) (hf : PE X f tx) (m : M2 X o "get" apos e f cpos) : PE X (.Call (.Attribute o "get" apos) [e, f] [] cpos) (tDGet2 td ty tx) := by
  intro pins s σ H Q I h
  refine wpAny_Call_method m.base m.few m.line PySem.F.plainAttrs_dict PySem.F.slot_dict_get PySem.F.type_dict_get (thn (ho pins s σ H _ I h) fun u s1 ⟨x, H1, I1, rx, a, ex, d, q1⟩ => ?_)
  subst ex
  obtain rfl : u = Value.ref a := rx
  obtain ⟨t1, t2, _⟩ := isD_at I1 d
  refine ⟨t1, t2, ?_⟩
  rw [m.trees]
  refine Calls.callWith_builtin rfl (Calls.evalArgs_plain (Calls.spliced_cons (thn (he pins s1 σ H1 _ I1 q1) fun iv s2 ⟨y, H2, I2, ry, q2⟩ =>
    Calls.spliced_cons (thn (hf pins s2 σ H2 _ I2 q2) fun fv s3 ⟨z, H3, I3, rz, ov, g, q3⟩ => Calls.spliced_nil ?_))))
  exact d_get2 hu I3 g ry rz fun w' s4 I4 rw' => ⟨_, H3, I4, rw', q3⟩
theorem pe_dpop1 (ho : PE X o td) (he : PE X e ty) (m : M1 X o "pop" apos e cpos) : PE X (.Call (.Attribute o "pop" apos) [e] [] cpos) (tDPop1 td ty) := by
  intro pins s σ H Q I h
  refine wpAny_Call_method m.base m.few m.line PySem.F.plainAttrs_dict PySem.F.slot_dict_pop PySem.F.type_dict_pop (thn (ho pins s σ H _ I h) fun u s1 ⟨x, H1, I1, rx, a, ex, d, q1⟩ => ?_)
  subst ex
  obtain rfl : u = Value.ref a := rx
  obtain ⟨t1, t2, _⟩ := isD_at I1 d
  refine ⟨t1, t2, ?_⟩
  rw [m.trees]
  refine Calls.callWith_builtin rfl (Calls.evalArgs_plain (Calls.spliced_cons (thn (he pins s1 σ H1 _ I1 q1) fun iv s2 ⟨y, H2, I2, ry, kvs, k, v, ea, ey, l, q2⟩ => Calls.spliced_nil ?_)))
  subst ey
  exact d_pop I2 ea ry l (.inl rfl) fun w' s3 I3 rw' => ⟨v, _, I3, rw', q2⟩
theorem pe_dpop2 (ho : PE X o td) (he : PE X e ty) (hf : PE X f tx) (m : M2 X o "pop" apos e f cpos) : PE X (.Call (.Attribute o "pop" apos) [e, f] [] cpos) (tDPop2 td ty tx) := by
  intro pins s σ H Q I h
  refine wpAny_Call_method m.base m.few m.line PySem.F.plainAttrs_dict PySem.F.slot_dict_pop PySem.F.type_dict_pop (thn (ho pins s σ H _ I h) fun u s1 ⟨x, H1, I1, rx, a, ex, d, q1⟩ => ?_)
  subst ex
  obtain rfl : u = Value.ref a := rx
  obtain ⟨t1, t2, _⟩ := isD_at I1 d
  refine ⟨t1, t2, ?_⟩
  rw [m.trees]
  refine Calls.callWith_builtin rfl (Calls.evalArgs_plain (Calls.spliced_cons (thn (he pins s1 σ H1 _ I1 q1) fun iv s2 ⟨y, H2, I2, ry, q2⟩ =>
    Calls.spliced_cons (thn (hf pins s2 σ H2 _ I2 q2) fun fv s3 ⟨z, H3, I3, rz, kvs, k, ea, ey, q3, q4⟩ => Calls.spliced_nil ?_))))
  subst ey
  cases l : valV kvs k with
  | some v => exact d_pop I3 ea ry l (.inr ⟨fv, rfl⟩) fun w' s4 I4 rw' => ⟨v, _, I4, rw', q3 v l⟩
  | none => exact d_popD I3 ea ry l fun s4 I4 => ⟨z, H3, I4, rz, q4 l⟩
end

/-! ### dict(d): a copy -/
section
variable {X : Cx} {pins : List (Addr × Obj)} {σ : St} {H : Hp} {s : Shared} {a : Addr} {kvs : List (Key × V)} {A : Around} {E : Value → Shared → Prop}
theorem d_copyOf {Q : Value → Shared → Prop} (I : Inv X pins σ H s) (e : Rd H a (.dK kvs)) (h : ∀ p s', H p = none → Inv X pins σ (upd H p (.dK kvs)) s' → Q (.ref p) s') : wpAny (model X.prog X.w) A (call (.type "dict") [.ref a]) Q E s := by
  obtain ⟨z, hd, vs, rel, dd⟩ := dk_rd I.hok e
  refine kt_call_dict hd dd (by rw [← rel.length]; exact z) fun h' dd' hs => ?_
  refine h _ _ (I.hok.fresh (Nat.le_refl _)) (I.laid (a := s.heap.objs.size) (o := .dK kvs) (t' := s.toks) (fun b q hq => ?_) (Nat.le_refl _) (dk_new z (beq_eq_false_iff_ne.mpr (Ne.symm (Nat.ne_of_lt I.big))) rel dd'))
  exact (hs.2 b (Nat.ne_of_lt (Heap.lt_size hq))).trans (Heap.get?_push_of_some _ hq)
end


section
variable {X : Cx} {pins : List (Addr × Obj)} {σ : St} {H : Hp} {s : Shared} {a : Addr} {y : V} {u : Value} {A : Around} {E : Value → Shared → Prop}
/-- d[y], not there: a KeyError -/
theorem d_missing {Q : Value → Shared → Prop} (hu : A.units + 1 < cLine) (hh : A.handled = none) (I : Inv X pins σ H s) (g : DGet H a y none) (ry : RelV y u)
    (h : ∀ h' e t', Heap.NewExc s.heap h' e "KeyError" → E (.ref e) { s with heap := h', toks := t' }) : wpAny (model X.prog X.w) A (getItem (.ref a) u) Q E s := by
  rcases g with ⟨kvs, k, e, ey, l⟩ | ⟨kvs, k, b, e, ey, eb, l⟩
  · subst ey
    obtain ⟨z, hd, vs, rel, dd⟩ := dk_rd I.hok e
    have hn : valueAt vs k = none := RelO.none_of (by rw [l]; exact rel.val k)
    exact wpAny_getItem_missing_of (kV_is ry) hd hh dd.mapOf hn fun h' ex ne => h h' ex _ ne
  · subst ey
    cases (show u = Value.ref b from ry)
    obtain ⟨z, hd, xs, rel, dd⟩ := dt_rd I.hok e
    have hn : (atKey xs k).map (·.2) = none := RelO.none_of (by rw [l]; exact rel.val k)
    exact wpAny_getItem_missing_heap (tupleKind_room_in1 hu) (key_of I.hok eb) hd hh dd (Option.map_eq_none_iff.mp hn) fun h' ex ne => h h' ex _ ne
end
end L2

namespace Att
open PySem PySem.W PySem.Calls PyProof.Rows

/-! ### the script -/
theorem ints_of_wellAll {P : Params} {h : Heap} : ∀ (ns : List Int) (vs : List Value), WellAll P h vs (ns.map WData.int) → IntsAre vs ns := by
  intro ns
  induction ns with
  | nil =>
    intro vs w
    rw [List.map_nil] at w
    cases w
    exact .nil
  | cons n ns ih =>
    intro vs w
    rw [List.map_cons] at w
    cases w with
    | cons a b =>
      cases a
      exact .cons _ _ (ih _ b)

theorem script_of {l : OpenLaw} {n : Nat} (hn : l.most = some n) {P : Params} {h : Heap} {args : List WData} {vals : List Value}
    (hpre : l.row.toRowW.claim.pre args = true) (hwl : WellAll P h vals args) :
    ∃ a vs ns, vals = [Value.ref a] ∧ args = [WData.list (ns.map WData.int)] ∧ h.get? a = some { cls := .type "list", data := .seq vs.toArray } ∧ IntsAre vs ns ∧ ns.length ≤ n := by
  have hsh : WShape.hasAll [] args [.list .int] = true := (pre_splitW hpre).1
  have hc : l.pre.holds [] { args := args } = true := (pre_splitW hpre).2
  obtain ⟨d, r, rfl, h1, h2⟩ := hasAllW_cons hsh
  obtain rfl := hasAllW_nil h2
  obtain ⟨xs, rfl, h3⟩ := hasW_list h1
  obtain ⟨ns, rfl⟩ := items_int h3
  have hlen : ns.length ≤ n := by
    unfold OpenLaw.pre at hc
    have h4 : (WTm.not (.lt (.lit (.int (n : Int))) (.len (.arg 0)))).holds [] { args := [.list (ns.map .int)] } = true := by
      have h4 := (holds_andW hc).1
      rw [hn] at h4
      exact h4
    have h5 := condW_of h4 (w_not (w_lt w_lit (w_len_list (w_arg rfl))))
    rw [List.length_map] at h5
    refine Nat.le_of_not_lt fun q => ?_
    have q' : (n : Int) < ((ns.length : Nat) : Int) := by omega
    first
      | (rw [decide_eq_true q'] at h5; exact absurd h5 (by decide))
      | (simp at h5; omega)
  cases hwl with
  | cons w1 w2 =>
    cases w2
    cases w1 with
    | list ho hall => exact ⟨_, _, ns, rfl, rfl, ho, ints_of_wellAll ns _ hall, hlen⟩

theorem post_true (l : OpenLaw) (args : List WData) : l.row.toRowW.claim.post args (.bool true) args = true :=
  postW_of (r := l.row.toRowW) (X := (true == true))
    (show WShape.has [] (.bool true) .bool = true by first | rfl | decide | simp [WShape.has, WShape.arms, WShape.armsAll])
    (show (WTm.eq .res (.lit (.bool true))).value [] { args := args, res := some (.bool true), after := args } = some (.bool (true == true)) from w_eq_bool (w_res rfl) w_lit) rfl

/-! ### the attachment: holds_open's last premise (the goal 'hc' behind k_head) from a wpAny of the law's body -/
theorem attach {l : OpenLaw} {n : Nat} {q : Program} {loose : List Str} {XP : (Str → Option Value) → Heap → Prop} {YP : World → Heap → Prop} {d : DefRec} {x : Str}
    (hn : l.most = some n) (hdf : d.params.defaults = [])
    (hbind : ∀ pm cd doc v : Value, bindArgs (docDef d.name d.params d.body d.scope pm cd doc) ⟨[v], []⟩ = pure [(x, v)])
    (hx : d.scope.names.lookup x = some .local ∨ d.scope.names.lookup x = some .cell)
    (hk : d.scope.kind = .function) (hco : d.scope.isCoroutine = false) (hgen : d.scope.isGenerator = false)
    (body : ∀ (w : World) (s₀ s₁ s : Shared) (mg mb : Str → Option Value) (fa : Addr) (o : Obj) (pm cd doc : Value) (a : Addr) (vs : List Value) (ns : List Int),
      Ground q loose [] XP w s₀ mg mb s₁.heap → YP w s₁.heap →
      s₁.heap.get? fa = some o → o.data = .func (docDef d.name d.params d.body d.scope pm cd doc) → s₁.heap.CodeRec cd d.name → mg d.name = some (.ref fa) →
      s₁.heap.get? a = some { cls := .type "list", data := .seq vs.toArray } → IntsAre vs ns → ns.length ≤ n →
      s.gens = #[] → s.os = s₁.os →
      Fr s₁.heap s₁.heap.objs.size s.heap (bindL (envOfC d.name d.scope s₁.heap.objs.size fa cd).kindOf [(x, .ref a)] fun _ => none) →
      Cl s₁.heap.objs.size (cellsFrom (s₁.heap.objs.size + 1) d.scope.names []) s.heap (bindC (envOfC d.name d.scope s₁.heap.objs.size fa cd).kindOf [(x, .ref a)] fun _ => none) →
      wpAny (model l.prog w) (callerA.deeper (envOfC d.name d.scope s₁.heap.objs.size fa cd)) (execs d.body (envOfC d.name d.scope s₁.heap.objs.size fa cd))
        (fun f s' => f = .ret (.bool true) ∧ OldK s₁.heap s'.heap ∧ s'.os = s₁.os ∧ AllBare s'.gens) (fun _ _ => False) s) :
    WalkO q loose XP YP l.row.toRowW d [] (fun f vs => PySem.call f vs) := by
  intro w s₀ s₁ mg mb G Y fa o pm cd doc dV kV ho hd hcd hD hmg hg args vals as hpre hlay hrd hwl hlo
  obtain rfl : dV = .none := Dflts.none hD hdf
  obtain rfl : kV = .none := Dflts.noKw hD
  obtain ⟨a, vs, ns, rfl, rfl, hobj, hints, hlen⟩ := script_of hn hpre hwl
  refine enter_call ?_
  refine call_cells_ret (o := o) (by rw [depth_caller]; decide) ho (fd_plain hd) G.T.nolimit hcd (hbind pm cd doc (.ref a)) (fun y hy => ?_) (fun h₁ tk F X => ?_) hco hgen hk
  · obtain rfl : y = (x, Value.ref a) := List.mem_singleton.mp hy
    rcases hx with e | e
    · exact .inl e
    · exact .inr ⟨e, cellsFrom_some _ _ _ (.inl e)⟩
  · refine wpAny_mono (body w s₀ s₁ { s₁ with heap := h₁, toks := tk } mg mb fa o pm cd doc a vs ns G Y ho (fd_plain hd) hcd hmg hobj hints hlen hg rfl F X) (fun f s' hq => ?_) (fun _ _ hq => hq)
    obtain ⟨rfl, h2, h3, h4⟩ := hq
    exact ⟨.inl ⟨.bool true, .bool true, [], rfl, fun _ => rfl, .bool true, post_true l _, fun _ => ⟨List.Pairwise.nil, fun _ hm => (nomatch hm)⟩⟩, h2, h3, h4⟩

/-- the same from a codeAny of the CALL (for a layer whose function contracts speak of calls) -/
theorem attach_call {l : OpenLaw} {n : Nat} {q : Program} {loose : List Str} {XP : (Str → Option Value) → Heap → Prop} {YP : World → Heap → Prop} {d : DefRec}
    (hn : l.most = some n) (hdf : d.params.defaults = [])
    (call : ∀ (w : World) (s₀ s₁ : Shared) (mg mb : Str → Option Value) (fa : Addr) (o : Obj) (pm cd doc : Value) (a : Addr) (vs : List Value) (ns : List Int),
      Ground q loose [] XP w s₀ mg mb s₁.heap → YP w s₁.heap →
      s₁.heap.get? fa = some o → o.data = .func (docDef d.name d.params d.body d.scope pm cd doc) → s₁.heap.CodeRec cd d.name → mg d.name = some (.ref fa) →
      s₁.heap.get? a = some { cls := .type "list", data := .seq vs.toArray } → IntsAre vs ns → ns.length ≤ n → s₁.gens = #[] →
      codeAny (model l.prog w) callerA (.call (.ref fa) ⟨[.ref a], []⟩) (fun r s' => r = .ok (.ret (.bool true)) ∧ OldK s₁.heap s'.heap ∧ s'.os = s₁.os ∧ AllBare s'.gens) s₁) :
    WalkO q loose XP YP l.row.toRowW d [] (fun f vs => PySem.call f vs) := by
  intro w s₀ s₁ mg mb G Y fa o pm cd doc dV kV ho hd hcd hD hmg hg args vals as hpre hlay hrd hwl hlo
  obtain rfl : dV = .none := Dflts.none hD hdf
  obtain rfl : kV = .none := Dflts.noKw hD
  obtain ⟨a, vs, ns, rfl, rfl, hobj, hints, hlen⟩ := script_of hn hpre hwl
  refine enter_call (codeAny_mono (call w s₀ s₁ mg mb fa o pm cd doc a vs ns G Y ho (fd_plain hd) hcd hmg hobj hints hlen hg) fun r s' hq => ?_)
  obtain ⟨rfl, h2, h3, h4⟩ := hq
  exact ⟨.inl ⟨.bool true, .bool true, [], rfl, fun _ => rfl, .bool true, post_true l _, fun _ => ⟨List.Pairwise.nil, fun _ hm => (nomatch hm)⟩⟩, h2, h3, h4⟩

/-- the same where the top left finished generators (o_head chose holds_openN): nothing may have changed at all and no generator may be left -/
theorem attachN {l : OpenLaw} {n : Nat} {q : Program} {loose : List Str} {XP : (Str → Option Value) → Heap → Prop} {YP : World → Heap → Prop} {d : DefRec} {x : Str}
    (hn : l.most = some n) (hdf : d.params.defaults = [])
    (hbind : ∀ pm cd doc v : Value, bindArgs (docDef d.name d.params d.body d.scope pm cd doc) ⟨[v], []⟩ = pure [(x, v)])
    (hx : d.scope.names.lookup x = some .local ∨ d.scope.names.lookup x = some .cell)
    (hk : d.scope.kind = .function) (hco : d.scope.isCoroutine = false) (hgen : d.scope.isGenerator = false)
    (body : ∀ (w : World) (s₀ s₁ s : Shared) (mg mb : Str → Option Value) (fa : Addr) (o : Obj) (pm cd doc : Value) (a : Addr) (vs : List Value) (ns : List Int),
      Ground q loose [] XP w s₀ mg mb s₁.heap → YP w s₁.heap →
      s₁.heap.get? fa = some o → o.data = .func (docDef d.name d.params d.body d.scope pm cd doc) → s₁.heap.CodeRec cd d.name → mg d.name = some (.ref fa) →
      s₁.heap.get? a = some { cls := .type "list", data := .seq vs.toArray } → IntsAre vs ns → ns.length ≤ n →
      s.gens = #[] → s.os = s₁.os →
      Fr s₁.heap s₁.heap.objs.size s.heap (bindL (envOfC d.name d.scope s₁.heap.objs.size fa cd).kindOf [(x, .ref a)] fun _ => none) →
      Cl s₁.heap.objs.size (cellsFrom (s₁.heap.objs.size + 1) d.scope.names []) s.heap (bindC (envOfC d.name d.scope s₁.heap.objs.size fa cd).kindOf [(x, .ref a)] fun _ => none) →
      wpAny (model l.prog w) (callerA.deeper (envOfC d.name d.scope s₁.heap.objs.size fa cd)) (execs d.body (envOfC d.name d.scope s₁.heap.objs.size fa cd))
        (fun f s' => f = .ret (.bool true) ∧ (∀ b o, s₁.heap.get? b = some o → s'.heap.get? b = some o) ∧ s'.os = s₁.os ∧ s'.gens = #[]) (fun _ _ => False) s) :
    WalkN q loose XP YP l.row.toRowW d [] (fun f vs => PySem.call f vs) := by
  intro w s₀ s₁ mg mb G Y fa o pm cd doc dV kV ho hd hcd hD hmg hg args vals as hpre hlay hrd hwl hlo
  obtain rfl : dV = .none := Dflts.none hD hdf
  obtain rfl : kV = .none := Dflts.noKw hD
  obtain ⟨a, vs, ns, rfl, rfl, hobj, hints, hlen⟩ := script_of hn hpre hwl
  refine enter_callW ?_
  refine call_cells_ret (o := o) (by rw [depth_caller]; decide) ho (fd_plain hd) G.T.nolimit hcd (hbind pm cd doc (.ref a)) (fun y hy => ?_) (fun h₁ tk F X => ?_) hco hgen hk
  · obtain rfl : y = (x, Value.ref a) := List.mem_singleton.mp hy
    rcases hx with e | e
    · exact .inl e
    · exact .inr ⟨e, cellsFrom_some _ _ _ (.inl e)⟩
  · refine wpAny_mono (body w s₀ s₁ { s₁ with heap := h₁, toks := tk } mg mb fa o pm cd doc a vs ns G Y ho (fd_plain hd) hcd hmg hobj hints hlen hg rfl F X) (fun f s' hq => ?_) (fun _ _ hq => hq)
    obtain ⟨rfl, h2, h3, h4⟩ := hq
    exact ⟨.inl ⟨.bool true, .bool true, [], rfl, fun _ => rfl, .bool true, post_true l _, fun _ => ⟨List.Pairwise.nil, fun _ hm => (nomatch hm)⟩⟩, h2, h3, h4⟩

/-! ### rules over ANY heap (no ledger) from facts about the written part K: the library's own take a ledger (News) for what they write -/
section
variable {prog : Program} {w : World} {A : Around} {E : Value → Shared → Prop} {s : Shared} {K : Frag}

/-- a def of the module, or a method (qual 'C.m'), entered: the frame is the next address; cells behind it -/
theorem call_fn {R : Result → Shared → Prop} {name qual : Str} {params : Arguments} {body : List Stmt} {scope : Scope} {dV kV doc pm cdv ct oc : Value} {an od : Option Addr} {osl : Array (Option Value)} {f : Addr} {args : Args} {binds : List (Str × Value)}
    (X : K.In s.heap) (hlim : s.heap.NoLimit) (ho : K.lookup f = some ⟨oc, od, .func (fnOf name qual params body scope dV kV doc pm an cdv ct), osl⟩) (hcd : codeIn K cdv qual = true) (hroom : A.depth < recursionLimit)
    (hbind : BindsTo s (fnOf name qual params body scope dV kV doc pm an cdv ct) args binds)
    (hkind : (binds.all fun y => scope.names.lookup y.1 == some .local || scope.names.lookup y.1 == some .cell) = true)
    (h : ∀ s₁, InCallC s s.heap.objs.size (bindL (envOfC qual scope s.heap.objs.size f cdv).kindOf binds fun _ => none) (cellsFrom (s.heap.objs.size + 1) scope.names [])
        (bindC (envOfC qual scope s.heap.objs.size f cdv).kindOf binds fun _ => none) s₁ →
      wpAny (model prog w) (A.deeper (envOfC qual scope s.heap.objs.size f cdv)) (execs body (envOfC qual scope s.heap.objs.size f cdv))
        (fun fl s' => R (.ok (.ret (match fl with | .ret v => v | _ => .none))) s')
        (fun e s' => wpAny (model prog w) (A.deeper (envOfC qual scope s.heap.objs.size f cdv)) (leaving (envOfC qual scope s.heap.objs.size f cdv) e) (fun _ s'' => R (.error e) s'') (fun e' s'' => R (.error e') s'') s') s₁)
    (hco : scope.isCoroutine = false) (hgen : scope.isGenerator = false) (hk : scope.kind = .function) : codeAny (model prog w) A (.call (.ref f) args) R s := by
  refine codeAny_call_function hroom (X _ _ ho) rfl hco hgen rfl (codeRec_of X hcd) (hbind _ _ _ _ ?_)
  refine wpAny_newFunctionEnv_cells hk (kindsX hkind _) fun env he s₁ x => ?_
  subst he
  exact ⟨hlim.keeps x.toInCall.keep, codeAny_func (h s₁ x)⟩

/-- C(..): dict at size, instance at size + 1, then __init__ -/
theorem make_obj {R : Result → Shared → Prop} {C fI : Addr} {rest : List Value} {kw : List (Str × Value)}
    (X : K.In s.heap) (hm : makesIn K C = true) (hi : findIn K (.ref C) "__init__" = some (some (.ref fI))) (hf : isFn K (.ref fI) = true)
    (h : codeAny (model prog w) (A.under (.builtin "type.__call__" ⟨.ref C :: rest, kw⟩)) (.call (.ref fI) ⟨.ref (s.heap.objs.size + 1) :: rest, kw⟩) (InitBack (s.heap.objs.size + 1) R)
      { s with heap := (s.heap.push emptyDict).push (instObj C s.heap.objs.size) }) : codeAny (model prog w) A (.call (.ref C) ⟨rest, kw⟩) R s := by
  obtain ⟨hh, g, d, t, os⟩ := s
  exact make_core (makes_of X hm) (looks_findIn X hi) (fun self => bind_fn X self (beq_iff_eq.mp hf)) (.inl rfl) h

/-- x.name where the instance's dict holds the name and the class does not -/
theorem get_field {x C : Addr} {ox : Obj} {es : List DictEntry} {n : Nat} {name : Str} {expr : Bool} {v : Value} {Q : Value → Shared → Prop}
    (X : K.In s.heap) (I : PySem.W.InstAt s.heap x ox C (some (dictOf es n))) (hg : plainGet K C name = true) (hh : hasDictIn K C = true) (ha : findIn K (.ref C) name = some none)
    (hl : getL name es = some (some v)) (hv : handedIn v = true) (h : Q v { s with toks := s.toks + 1 }) : wpAny (model prog w) A (getAttr (.ref x) name expr) Q E s :=
  get_value X I (plainGet_of hg).1 (findObj_own hh ha rfl hl) hv h

/-- x.m(..): the method found in the class -/
theorem get_method {x C f : Addr} {ox : Obj} {es : List DictEntry} {n : Nat} {name : Str} {pl : Sem Bool} {Q : Value × List Value → Shared → Prop}
    (X : K.In s.heap) (I : PySem.W.InstAt s.heap x ox C (some (dictOf es n))) (hg : plainGet K C name = true) (hf : findIn K (.ref C) name = some (some (.ref f))) (ht : isFn K (.ref f) = true)
    (hl : getL name es = some none) (h : Q (.ref f, [.ref x]) s) : wpAny (model prog w) A (getMethod (.ref x) name pl) Q E s :=
  method_fn X I (plainGet_of hg).1 (plainGet_of hg).2 hf (beq_iff_eq.mp ht) (by show (lookIn name (dictOf es n)).map _ = _; rw [lookIn_dict, hl]; rfl) h

/-! the whole heap as the ledger: makes every rule that writes through a ledger a rule over any heap -/
def noObjs (h : Heap) : Heap := { h with objs := #[] }
theorem noObjs_get (h : Heap) (b : Addr) : (noObjs h).get? b = none := by
  cases e : (noObjs h).get? b with
  | none => rfl
  | some o => exact absurd (Heap.lt_size e) (Nat.not_lt_zero _)
def ledger (h : Heap) (L d : Addr) : List (Addr × Obj) := (List.range h.objs.size).filterMap fun a => if a = L ∨ a = d then none else (h.get? a).map fun o => (a, o)
theorem mem_ledger {h : Heap} {L d a : Addr} {o : Obj} : (a, o) ∈ ledger h L d ↔ a ≠ L ∧ a ≠ d ∧ h.get? a = some o := by
  unfold ledger
  rw [List.mem_filterMap]
  constructor
  · rintro ⟨b, _, e⟩
    split at e
    · cases e
    · rename_i hb
      obtain ⟨o', ho, e'⟩ := Option.map_eq_some_iff.mp e
      cases e'
      exact ⟨fun q => hb (.inl q), fun q => hb (.inr q), ho⟩
  · rintro ⟨n1, n2, ho⟩
    refine ⟨a, List.mem_range.mpr (Heap.lt_size ho), ?_⟩
    rw [if_neg (show ¬ (a = L ∨ a = d) from fun q => q.elim n1 n2), ho] <;> rfl
theorem news_ledger {h : Heap} {L d : Addr} {od : Obj} (hne : d ≠ L) (ho : h.get? d = some od) : News (noObjs h) L h ([] ++ (d, od) :: ledger h L d) := by
  rintro ⟨a, o⟩ hp
  rcases List.mem_cons.mp hp with e | hp
  · cases e
    exact ⟨ho, hne, noObjs_get _ _⟩
  · obtain ⟨n1, n2, e⟩ := mem_ledger.mp hp
    exact ⟨e, n1, noObjs_get _ _⟩
theorem fr_all {h : Heap} {L : Addr} {m : Str → Option Value} (n : h.Ns L m) : Fr (noObjs h) L h m :=
  ⟨n, fun b o e => (by rw [noObjs_get] at e; cases e), Nat.zero_le _⟩
/-- Upd of the head entry (for append_K, setItem_K ..) -/
theorem upd_ledger {h : Heap} {L d : Addr} {o o' : Obj} : Upd d o o' ((d, o) :: ledger h L d) ((d, o') :: ledger h L d) :=
  .head fun ⟨_, _⟩ hp => (mem_ledger.mp hp).2.1

/-- x.name = v over any heap: L is any namespace of the heap (the frame's, say): its map stays, its object is not told; all else but the dict stays -/
theorem set_field {x C dx L : Addr} {ox : Obj} {m : Str → Option Value} {es es' : List DictEntry} {n n' : Nat} {name : Str} {v : Value} {Q : Unit → Shared → Prop}
    (X : K.In s.heap) (I : PySem.W.InstAt s.heap x ox C (some (dictOf es n))) (hd : ox.dict = some dx) (hL : s.heap.Ns L m) (hne : dx ≠ L)
    (hs : findIn K (.ref C) "__setattr__" = some (some (.builtin "object.__setattr__"))) (hp : plainOver K C = true) (ht : takerIn K C name = some none) (hh : hasDictIn K C = true) (hl : (getL name es).isSome = true)
    (e : (putL name (PyData.keyHash w.params name) (.str name (s.toks + 1)) v es, putN name es n) = (es', n')) (hz : es'.length ≤ 1000)
    (h : ∀ h' : Heap, h'.Ns L m → h'.get? dx = some (dictOf es' n') → (∀ b o, b ≠ dx → b ≠ L → s.heap.get? b = some o → h'.get? b = some o) → Q () { s with heap := h', toks := s.toks + 2 }) :
    wpAny (model prog w) A (setAttr (.ref x) name v) Q E s := by
  obtain ⟨e1, e2⟩ := Prod.mk.inj e
  have hdx : s.heap.get? dx = some (dictOf es n) := by
    have := I.dict
    rw [hd] at this
    exact this
  refine set_plain X I hs (osa_dict (s := { s with toks := s.toks + 1 }) (h₀ := noObjs s.heap) (L := L) (m := m) (od := dictOf es n) (od' := dictOf es' n') (es := es') (n := n') (pre := []) (post := ledger s.heap L dx)
    (fr_all hL) (news_ledger hne hdx) X I hd hp ht hh hl (fun _ q => nomatch q) (fun ⟨_, _⟩ q => (mem_ledger.mp q).2.1) (by rw [putName_dict, e1, e2]) rfl hz fun h' F' N' => ?_)
  exact h h' F'.ns (N'.get (List.Mem.head _)) fun b o n1 n2 ho => N'.get (List.Mem.tail _ (mem_ledger.mpr ⟨n2, n1, ho⟩))
end
end Att

namespace L2
open PySem PySem.Spec PyProof.Rows

theorem vals_ints : ∀ {vs : List Value} {ns : List Int}, IntsAre vs ns → Vals (ns.map V.int) vs
  | _, _, .nil => .nil
  | _, _, .cons n t h => .cons ⟨t, rfl⟩ (vals_ints h)

/-- nothing is tracked but the script, known to the object (or it is an object of the module) -/
def Only (H : Hp) : Prop := ∀ b, H b = none ∨ ∃ o xs, H b = some (.frz o (.lst xs))

/-- THE HEAD: the law's promise, at the heap behind the top. F, the promise of the law's def, may use that base is part of the heap (so K.In base, base.Ns mainGlobals mg stand in Mod) -/
theorem law_call {P : Program} {w : World} {K : PySem.W.Frag} {mg mb : Str → Option Value} {CX : CXT} {k : Nat} {fa a : Addr} {fd : FuncData} {x : Str} {sp : Sp} {s₁ : Shared} {vs : List Value} {ns : List Int}
    (KX : K.In s₁.heap) (hns : s₁.heap.Ns mainGlobals mg) (hb : s₁.heap.Ns builtinsNs mb) (hbb : ∀ x : Str, x ≠ "__name__" → mb x = bootBuiltins x) (hlim : s₁.heap.NoLimit) (hg : s₁.gens = #[])
    (ha : s₁.heap.get? a = some { cls := .type "list", data := .seq vs.toArray }) (hi : IntsAre vs ns) (hl : ns.length ≤ sizeLine) (hr : Room k callerA)
    (F : ∀ base : Heap, K.In base → base.Ns mainGlobals mg → FnOk P w K mg base CX k fa fd [x] sp) (hbind : ∀ (s : Shared) (u : Value), BindsTo s fd ⟨[u], []⟩ [(x, u)])
    (hsp : ∀ H : Hp, Only H → SqL K H a (ns.map V.int) → sp [.ref a] H (fun v _ => v = .bl true) fun _ _ _ => False)
    (hCX : ∀ H e s', CX [] H s₁ (fun _ _ _ => False) e s' → False) :
    codeAny (model P w) callerA (.call (.ref fa) ⟨[.ref a], []⟩) (fun r s' => r = .ok (.ret (.bool true)) ∧ OldK s₁.heap s'.heap ∧ s'.os = s₁.os ∧ AllBare s'.gens) s₁ := by
  have rv := vals_ints hi
  have lenV := hi.length
  -- from an abstract heap in which nothing but the script may be tracked
  have core : ∀ H : Hp, Only H → SqL K H a (ns.map V.int) → HOk P w H s₁.heap → (∀ b, H b ≠ none → b = a) → (H a ≠ none → K.lookup a = none) →
      codeAny (model P w) callerA (.call (.ref fa) ⟨[.ref a], []⟩) (fun r s' => r = .ok (.ret (.bool true)) ∧ OldK s₁.heap s'.heap ∧ s'.os = s₁.os ∧ AllBare s'.gens) s₁ := by
    intro H hO hS hok hA hK
    have base_of : ∀ {b : Addr} {o : Obj}, s₁.heap.get? b = some o → H b = none → (hidT s₁.heap H).get? b = some o := fun e n => hidT_get e n
    have noA : ∀ {b : Addr} {o : Obj} {es : Array DictEntry} {ep : Nat}, s₁.heap.get? b = some o → o.data = .dict es ep → H b = none := fun {b o es ep} e d => by
      cases q : H b with
      | none => rfl
      | some u =>
        have e' : b = a := hA b (by rw [q]; simp)
        subst e'
        rw [ha] at e; cases e
        have d' : Data.seq vs.toArray _ = Data.dict es ep := d
        cases d'
    have nsK : ∀ {b : Addr} {m : Str → Option Value}, s₁.heap.Ns b m → (hidT s₁.heap H).Ns b m := fun {b m} ⟨o, es, ep, e, d, r⟩ => ⟨o, es, ep, base_of e (noA e d), d, r⟩
    have hKb : K.In (hidT s₁.heap H) := fun b o e => base_of (KX b o e) (by
      cases q : H b with
      | none => rfl
      | some u =>
        have e' : b = a := hA b (by rw [q]; simp)
        subst e'
        rw [hK (by rw [q]; simp)] at e; cases e)
    have hM : Mod K mg (hidT s₁.heap H) := ⟨hKb, nsK hns, ⟨mb, nsK hb, hbb⟩, let ⟨mc, h1, h2⟩ := hlim; ⟨mc, nsK h1, h2⟩⟩
    have e0 : Env0 P w K mg (hidT s₁.heap H) callerA [] s₁ H := ⟨rfl, hM, fun b o e => of_hidT e, Nat.le_of_eq (hidT_size _ _), trivial, fun b hb => absurd (show b ∈ ([] : List Addr) from hb) (by simp), hok, .of_eq hg⟩
    refine codeAny_mono ((F _ hKb (nsK hns)).run callerA [] s₁ H ⟨[.ref a], []⟩ [.ref a] [.ref a] _ _ hr e0 (hbind s₁ (.ref a)) (.cons rfl .nil) (hsp H hO hS)) fun r s' h => ?_
    cases r with
    | error e => exact (hCX H e s' h).elim
    | ok fl =>
      cases fl with
      | next => exact False.elim h
      | brk => exact False.elim h
      | cont => exact False.elim h
      | ret u =>
        obtain ⟨v, H', os, bare, un, hok', r', q⟩ := h
        have q' : v = .bl true := q
        subst q'
        obtain rfl : u = Value.bool true := r'
        refine ⟨rfl, OldK.of_keep fun b o e => ?_, os, bare⟩
        cases q : H b with
        | none => exact un.keep b o e q (by intro z; exact absurd (show b ∈ ([] : List Addr) from z) (by simp)) (by simp)
        | some u =>
          rcases hO b with z | ⟨ob, xs, z⟩
          · rw [q] at z; cases z
          · have z2 := un.frzs b ob _ z
            obtain ⟨e1, _⟩ := hok b _ z
            obtain ⟨e2, _⟩ := hok' b _ z2
            rw [e] at e1; cases e1
            exact e2
  cases hk : K.lookup a with
  | some o =>
    -- the script is one of the module's own objects
    have e := KX a o hk
    rw [ha] at e
    cases e
    refine core (fun _ => none) (fun _ => .inl rfl) (.inr ⟨_, vs.toArray, _, hk, rfl, rfl, rfl, by rw [List.size_toArray, lenV]; exact hl, by simpa using rv⟩) (fun b u z => by have z' : (none : Option HO) = some u := z; cases z') (fun b z => absurd rfl z) fun z => absurd rfl z
  | none =>
    refine core (fun b => if b = a then some (.frz { cls := .type "list", data := .seq vs.toArray } (.lst (ns.map V.int))) else none) (fun b => ?_) (.inl (.inr ⟨{ cls := .type "list", data := .seq vs.toArray }, if_pos rfl⟩)) (fun b u z => ?_) (fun b z => ?_) fun _ => hk
    · by_cases hb : b = a
      · exact .inr ⟨_, _, if_pos hb⟩
      · exact .inl (if_neg hb)
    · by_cases hb : b = a
      · have z' := (if_pos hb).symm.trans z
        cases z'
        subst hb
        exact ⟨ha, by rw [List.length_map]; exact hl, vs, _, rv, ha⟩
      · have z' := (if_neg hb).symm.trans z
        cases z'
    · by_cases hb : b = a
      · exact hb
      · exact absurd (if_neg hb) z
end L2

namespace L2
open PySem PySem.Spec PyProof.Rows

abbrev KOf {K : PySem.W.Frag} {h : Heap} (_ : K.In h) : PySem.W.Frag := K

/-- the goal that k_head leaves (case hc), from the law's promise. F gives the function object fd (K's own) once, then the promise over every base -/
theorem walk_of {l : PySem.W.OpenLaw} {n k : Nat} {q : Program} {loose : List Str} {XP : (Str → Option Value) → Heap → Prop} {YP : World → Heap → Prop} {d : DefRec} {K : Params → PySem.W.Frag} {CX : World → CXT} {sp : World → Sp} {x : Str}
    (hn : l.most = some n) (hn2 : n ≤ sizeLine) (hdf : d.params.defaults = []) (hr : Room k callerA)
    (hY : ∀ (w : World) (h : Heap), YP w h → (K w.params).In h)
    (F : ∀ (w : World) (mg : Str → Option Value) (fa : Addr) (h : Heap), (K w.params).In h → h.Ns mainGlobals mg → mg d.name = some (.ref fa) →
      ∃ fd : FuncData, (∀ (s : Shared) (u : Value), BindsTo s fd ⟨[u], []⟩ [(x, u)]) ∧
        ∀ base : Heap, (K w.params).In base → base.Ns mainGlobals mg → FnOk l.prog w (K w.params) mg base (CX w) k fa fd [x] (sp w))
    (hsp : ∀ (w : World) (H : Hp) (a : Addr) (ns : List Int), ns.length ≤ n → Only H → SqL (K w.params) H a (ns.map V.int) → sp w [.ref a] H (fun v _ => v = .bl true) fun _ _ _ => False)
    (hCX : ∀ (w : World) (H : Hp) (s : Shared) (e : Value) (s' : Shared), CX w [] H s (fun _ _ _ => False) e s' → False) :
    PySem.W.WalkO q loose XP YP l.row.toRowW d [] (fun f vs => PySem.call f vs) := by
  refine Att.attach_call hn hdf fun w s₀ s₁ mg mb fa o pm cd doc a vs ns G Y ho hd hcd hmg hobj hints hlen hg => ?_
  have KX := hY w _ Y
  obtain ⟨fd, hb, hF⟩ := F w mg fa _ KX G.T.g hmg
  exact law_call KX G.T.g G.T.b G.T.builtins G.T.nolimit hg hobj hints (Nat.le_trans hlen hn2) hr hF hb (fun H hO hS => hsp w H a ns hlen hO hS) fun H e s' => hCX w H s₁ e s'
/-- the same where the promise hangs on the written part alone: (sp := My.sp_law), no hole under a binder -/
theorem walk_ofK {l : PySem.W.OpenLaw} {n k : Nat} {q : Program} {loose : List Str} {XP : (Str → Option Value) → Heap → Prop} {YP : World → Heap → Prop} {d : DefRec} {K : Params → PySem.W.Frag} {CX : CXT} {sp : PySem.W.Frag → Sp} {x : Str}
    (hn : l.most = some n) (hn2 : n ≤ sizeLine) (hdf : d.params.defaults = []) (hr : Room k callerA)
    (hY : ∀ (w : World) (h : Heap), YP w h → (K w.params).In h)
    (F : ∀ (w : World) (mg : Str → Option Value) (fa : Addr) (h : Heap), (K w.params).In h → h.Ns mainGlobals mg → mg d.name = some (.ref fa) →
      ∃ fd : FuncData, (∀ (s : Shared) (u : Value), BindsTo s fd ⟨[u], []⟩ [(x, u)]) ∧
        ∀ base : Heap, (K w.params).In base → base.Ns mainGlobals mg → FnOk l.prog w (K w.params) mg base CX k fa fd [x] (sp (K w.params)))
    (hsp : ∀ (K : PySem.W.Frag) (H : Hp) (a : Addr) (ns : List Int), ns.length ≤ n → Only H → SqL K H a (ns.map V.int) → sp K [.ref a] H (fun v _ => v = .bl true) fun _ _ _ => False)
    (hCX : ∀ (H : Hp) (s : Shared) (e : Value) (s' : Shared), CX [] H s (fun _ _ _ => False) e s' → False) :
    PySem.W.WalkO q loose XP YP l.row.toRowW d [] (fun f vs => PySem.call f vs) :=
  walk_of (K := K) (CX := fun _ => CX) (sp := fun w => sp (K w.params)) hn hn2 hdf hr hY F (fun w H a ns h1 h2 h3 => hsp (K w.params) H a ns h1 h2 h3) fun _ H s e s' => hCX H s e s'
end L2

/- THE LAST THEOREM (shape; LID, My.* are yours):
   My.Adr: a structure of the addresses that your layer names (classes, functions); My.Txt K t: a structure (Prop) of the equations over K;
   My.txt_mk : {K} {implicit addresses ..} (e1 : nsIn K mainGlobals "law" = some (some (.ref f))) (e2 : K.lookup f = some ⟨oc, od, .func (fnOf "law" "law" params body scope dV kV doc pm an cdv ct), sl⟩) (e3 : codeIn K cdv "law" = true) .. : ∃ t, My.Txt K t

set_option maxRecDepth 100000 in
set_option maxHeartbeats 0 in
theorem PySem.Challenge.cw_LID_holds : PySem.Challenge.rw_LID.Holds := by
  w_on; o_law; k_head; (case hw => w_witness2)
  k_fill
  refine L2.walk_of (l := PySem.Challenge.rw_LID) (n := 63) (k := 40) (x := "script") (CX := fun w => ..) (sp := fun _ => My.sp_law) rfl (by decide) rfl ⟨rfl, by decide, by decide⟩ (fun w h Y => PySem.W.kIn_of Y) ?F ?S ?C
  case F =>
    intro w mg fa h KX G hmg
    have T : ∃ t, My.Txt (L2.KOf KX) t := by
      dsimp only [L2.KOf]                          -- K must stand as «<heap const> w.params» for k_is
      refine' My.txt_mk ?e1 ?e2 ?e3 ..
      (case e1 => PySem.W.k_is)                    -- in the order: a name -> its address -> its object -> its parts
      (case e2 => PySem.W.k_is)
      ..
    obtain ⟨t, T⟩ := T
    have e0 := hmg.symm.trans (PySem.W.mg_of KX G T.law)
    cases e0                                       -- fa is the law's own address
    exact ⟨_, fun s u => .of_eq rfl, fun base kb nb => My.law_fn T kb nb⟩     -- if «.of_eq rfl» comes too early: refine' ⟨_, ?b, fun base kb nb => My.law_fn T kb nb⟩; exact fun s u => .of_eq rfl
  case S => exact fun w H a ns hl hO hS => ..
  case C => exact ..
(the tactic k_is has no namespace: write k_is) -/

/-! SHORT WORDS over the layer: a def of the text, its body, what a loop and a test want. -/
namespace L2
open PySem PySem.Spec PyProof.Rows

/-! ### the text by places -/
/-- the j-th statement of a class's body -/
def inClass (s : Stmt) (j : Nat) : Stmt := match s with
  | .ClassDef _ _ _ body _ _ _ _ _ _ _ => body.getD j (.Pass ⟨0, 0, 0, 0⟩)
  | _ => .Pass ⟨0, 0, 0, 0⟩
def defArgs (s : Stmt) : Arguments := match s with
  | .FunctionDef _ a _ _ _ _ _ _ _ _ => a
  | _ => { posonlyargs := [], args := [], vararg := none, kwonlyargs := [], kw_defaults := [], kwarg := none, defaults := [] }
def defBody (s : Stmt) : List Stmt := match s with
  | .FunctionDef _ _ b _ _ _ _ _ _ _ => b
  | _ => []
def defScope (s : Stmt) : Scope := match s with
  | .FunctionDef _ _ _ _ _ _ sc _ _ _ => sc
  | _ => { kind := .function, names := [], isGenerator := false, isCoroutine := false }

/-! ### no exception leaves a def -/
abbrev CX0 : CXT := fun _ _ _ _ _ _ => False
abbrev E0 : XK := fun _ _ _ => False
theorem pass0 {X : Cx} : Passes CX0 X E0 := fun _ _ _ _ _ _ _ h => h.elim

/-! ### a def (or method) of the text as it stands behind the top -/
structure Fun (K : PySem.W.Frag) (x qual : Str) (st : Stmt) (f : Addr) (fd : FuncData) : Prop where
  ex : ∃ (oc : Value) (od : Option Addr) (kV doc pm : Value) (an : Option Addr) (cdv ct : Value) (osl : Array (Option Value)),
    fd = PySem.W.fnOf x qual (defArgs st) (defBody st) (defScope st) .none kV doc pm an cdv ct ∧ K.lookup f = some ⟨oc, od, .func fd, osl⟩ ∧ PySem.W.codeIn K cdv qual = true
  kp : PySem.W.keepIn K (.ref f) = true
section
variable {P : Program} {w : World} {K : PySem.W.Frag} {mg : Str → Option Value} {base : Heap}
/-- THE RULE for a def: its body as a term of rules, and the reading of that term -/
theorem Fun.ok {x qual : Str} {st : Stmt} {f : Addr} {fd : FuncData} {N ps : List Str} {k : Nat} {sp : Sp} (F : Fun K x qual st f fd) (S : FnScope N ps (defScope st)) (len : ∀ vs H Q E, sp vs H Q E → vs.length = ps.length)
    (hbody : ∀ (cdv : Value) (A : Around) (outer : List Env) (s : Shared) (H : Hp) (vs : List V) (Q : VK) (E : XK), Room k (A.deeper (envOfC qual (defScope st) s.heap.objs.size f cdv)) → sp vs H Q E →
      ∃ t, PSs (cxOf CX0 P w K mg base N qual (defScope st) f cdv A outer s H E).nox (defBody st) t ∧ t { nx := fun _ H' => Q .non H', rt := Q } (start N vs) H) : FnOk P w K mg base CX0 (k + 1) f fd ps sp := by
  obtain ⟨oc, od, kV, doc, pm, an, cdv, ct, osl, rfl, lk, hcd⟩ := F.ex
  refine fn_of lk hcd S len fun A outer s H vs Q E hr hsp => ?_
  obtain ⟨t, h, q⟩ := hbody cdv A outer s H vs Q E hr hsp
  exact ⟨t, h.nox, q⟩
/-- how its arguments bind (no defaults): h is «fun _ _ _ _ _ _ us hl => match us, hl with | [_, _], _ => rfl», one _ a parameter -/
theorem Fun.binds {x qual : Str} {st : Stmt} {f : Addr} {fd : FuncData} {ps : List Str} (F : Fun K x qual st f fd)
    (h : ∀ (kV doc pm : Value) (an : Option Addr) (cdv ct : Value) (us : List Value), us.length = ps.length → bindArgs (PySem.W.fnOf x qual (defArgs st) (defBody st) (defScope st) .none kV doc pm an cdv ct) ⟨us, []⟩ = pure (ps.zip us)) : Binds K fd ps [] := by
  obtain ⟨oc, od, kV, doc, pm, an, cdv, ct, osl, rfl, lk, hcd⟩ := F.ex
  exact .all (h kV doc pm an cdv ct)
theorem fun_mk {x qual : Str} {st : Stmt} {f : Addr} {oc : Value} {od an : Option Addr} {osl : Array (Option Value)} {kV doc pm cdv ct : Value} (l : K.lookup f = some ⟨oc, od, .func (PySem.W.fnOf x qual (defArgs st) (defBody st) (defScope st) .none kV doc pm an cdv ct), osl⟩)
    (c : PySem.W.codeIn K cdv qual = true) (k : PySem.W.keepIn K (.ref f) = true) : Fun K x qual st f (PySem.W.fnOf x qual (defArgs st) (defBody st) (defScope st) .none kV doc pm an cdv ct) := ⟨⟨oc, od, kV, doc, pm, an, cdv, ct, osl, rfl, l, c⟩, k⟩
end
theorem hu_of {A : Around} {k : Nat} (hr : Room k A) : A.units + 1 < cLine := Nat.lt_of_le_of_lt (Nat.add_le_add_left (by decide : 1 ≤ 64) _) hr.units
theorem small1000 {n : Nat} (h : n ≤ 1000) : n < sizeLine := Nat.lt_of_le_of_lt h (by decide)

/-! ### expressions in short: the name that stands in the i-th slot -/
section
variable {X : Cx}
theorem pv (i : Nat) {x : Str} {pos : Pos} (hN : X.N[i]? = some x := by rfl) (hv : Vis X.env.scope x := by first | exact Or.inl rfl | exact Or.inr (Or.inl rfl) | exact Or.inr (Or.inr rfl)) (hd : (x == ("__debug__" : Str)) = false := by decide)
    (hcd : (x == ("__classdict__" : Str)) = false := by decide) : PE X (.Name x pos) (tVar i) := pe_var hN hv hd hcd
/-- len of a dict -/
theorem call_lenD : CallR X (.builtin "len") (fun xs H Q => ∃ a kvs, xs = [V.ref a] ∧ H a = some (.dK kvs) ∧ Q (.int kvs.length) H) := by
  intro pins s σ H xs us Q I r h
  obtain ⟨a, kvs, rfl, ha, q⟩ := h
  obtain ⟨u, rfl, ru⟩ := vals1 r
  cases ru
  exact d_len I (.inl ha) fun t s' I' => ⟨.int kvs.length, H, I', ⟨t, rfl⟩, q⟩
end

/-! ### tests -/
theorem iteF {A B : Prop} (h : B) : if false = true then A else B := by
  rw [if_neg Bool.false_ne_true]
  exact h
theorem iteT {A B : Prop} (h : A) : if true = true then A else B := by
  rw [if_pos rfl]
  exact h
theorem ite2 {c A B : Prop} [Decidable c] (h1 : c → A) (h2 : ¬ c → B) : if c then A else B := by
  by_cases h : c
  · rw [if_pos h]
    exact h1 h
  · rw [if_neg h]
    exact h2 h
theorem iteNS {c A B : Prop} [Decidable c] (hc : c) (h : B) : if (!decide c) = true then A else B := by
  rw [decide_eq_true hc]
  exact iteF h

/-! ### heaps -/
/-- all that was tracked is as it was -/
def Same (H H' : Hp) : Prop := ∀ b o, H b = some o → H' b = some o
theorem Same.refl (H : Hp) : Same H H := fun _ _ h => h
theorem Same.trans {H H1 H2 : Hp} (a : Same H H1) (b : Same H1 H2) : Same H H2 := fun c o h => b c o (a c o h)
theorem Same.free {H H' : Hp} (e : Same H H') {l : Addr} (h : H' l = Option.none) : H l = Option.none := by
  cases q : H l with
  | none => rfl
  | some o =>
    rw [e l o q] at h
    cases h
theorem Same.seq {K : PySem.W.Frag} {H H' : Hp} {a : Addr} {xs : List V} (e : Same H H') (h : SqL K H a xs) : SqL K H' a xs := by
  rcases h with (h | ⟨o, h⟩) | h
  · exact .inl (.inl (e _ _ h))
  · exact .inl (.inr ⟨o, e _ _ h⟩)
  · exact .inr h

/-! ### a dict's pairs: keys that differ -/
section
variable {κ : Type} [DecidableEq κ]
theorem valV_not {kvs : List (κ × V)} {k : κ} (h : valV kvs k = none) : ¬ k ∈ kvs.map (·.1) := by
  intro m
  obtain ⟨p, hp, e⟩ := List.mem_map.mp m
  have q : (kvs.any fun kv => decide (kv.1 = k)) = true := List.any_eq_true.mpr ⟨p, hp, decide_eq_true e⟩
  rw [valV_any, h] at q
  exact absurd q (by simp)
theorem valV_in {kvs : List (κ × V)} {k : κ} {v : V} (h : valV kvs k = some v) : k ∈ kvs.map (·.1) := by
  have q : (kvs.any fun kv => decide (kv.1 = k)) = true := by
    rw [valV_any, h]
    all_goals rfl
  obtain ⟨p, hp, e⟩ := List.any_eq_true.mp q
  exact List.mem_map.mpr ⟨p, hp, of_decide_eq_true e⟩
theorem nd_snoc : ∀ {l : List κ} {k : κ}, l.Nodup → ¬ k ∈ l → (l ++ [k]).Nodup
  | [], k, _, _ => by simp
  | a :: r, k, h, hk => by
    obtain ⟨h1, h2⟩ := List.nodup_cons.mp h
    show (a :: (r ++ [k])).Nodup
    refine List.nodup_cons.mpr ⟨fun m => ?_, nd_snoc h2 fun m => hk (List.mem_cons.mpr (Or.inr m))⟩
    rcases List.mem_append.mp m with q | q
    · exact h1 q
    · exact hk (List.mem_cons.mpr (Or.inl (List.mem_singleton.mp q).symm))
theorem nd_putK {kvs : List (κ × V)} {k : κ} (v : V) (hn : (kvs.map (·.1)).Nodup) (h : valV kvs k = none) : ((putK kvs k v).map (·.1)).Nodup := by
  rw [putK_new v h, List.map_append]
  exact nd_snoc hn (valV_not h)
theorem dropK_pos {p : κ × V} {r : List (κ × V)} {k : κ} (e : p.1 = k) : dropK (p :: r) k = dropK r k := by
  unfold dropK
  rw [List.filter_cons, if_neg (by simp [e])]
theorem dropK_neg {p : κ × V} {r : List (κ × V)} {k : κ} (e : ¬ p.1 = k) : dropK (p :: r) k = p :: dropK r k := by
  unfold dropK
  rw [List.filter_cons, if_pos (by simp [e])]
theorem dropK_no : ∀ {kvs : List (κ × V)} {k : κ}, ¬ k ∈ kvs.map (·.1) → dropK kvs k = kvs
  | [], _, _ => rfl
  | p :: r, k, h => by
    have h' : ¬ k ∈ r.map (·.1) := fun m => by
      obtain ⟨q, hq, e⟩ := List.mem_map.mp m
      exact h (List.mem_map.mpr ⟨q, List.mem_cons.mpr (Or.inr hq), e⟩)
    rw [dropK_neg fun e => h (List.mem_map.mpr ⟨p, List.mem_cons.mpr (Or.inl rfl), e⟩), dropK_no h']
theorem dropK_mem {kvs : List (κ × V)} {k : κ} {p : κ × V} (h : p ∈ dropK kvs k) : p ∈ kvs := (List.mem_filter.mp h).1
theorem nd_dropK : ∀ {kvs : List (κ × V)} {k : κ}, (kvs.map (·.1)).Nodup → ((dropK kvs k).map (·.1)).Nodup
  | [], _, _ => List.nodup_nil
  | p :: r, k, h => by
    have h : (p.1 :: r.map (·.1)).Nodup := h
    obtain ⟨h1, h2⟩ := List.nodup_cons.mp h
    by_cases e : p.1 = k
    · rw [dropK_pos e]
      exact nd_dropK h2
    · rw [dropK_neg e]
      show (p.1 :: (dropK r k).map (·.1)).Nodup
      refine List.nodup_cons.mpr ⟨fun m => h1 ?_, nd_dropK h2⟩
      obtain ⟨q, hq, eq⟩ := List.mem_map.mp m
      exact List.mem_map.mpr ⟨q, dropK_mem hq, eq⟩
theorem dropK_len : ∀ {kvs : List (κ × V)} {k : κ}, (kvs.map (·.1)).Nodup → k ∈ kvs.map (·.1) → (dropK kvs k).length + 1 = kvs.length
  | [], _, _, m => by simp at m
  | p :: r, k, h, m => by
    have h : (p.1 :: r.map (·.1)).Nodup := h
    have m : k = p.1 ∨ k ∈ r.map (·.1) := List.mem_cons.mp m
    obtain ⟨h1, h2⟩ := List.nodup_cons.mp h
    by_cases e : p.1 = k
    · subst e
      rw [dropK_pos rfl, dropK_no h1]
      all_goals rfl
    · have m' : k ∈ r.map (·.1) := m.resolve_left fun z => e z.symm
      have q := dropK_len h2 m'
      rw [dropK_neg e, List.length_cons, List.length_cons]
      omega
end
end L2


end
section
set_option Elab.async false
set_option linter.all false
set_option maxRecDepth 100000
namespace Fg
open PySem

/-- a key of a dict -/
abbrev Ky := Sum Int Str

/-- plain data; ref: an object that may change, by its place in the store -/
inductive D where
  | non
  | bl (b : Bool)
  | int (i : Int)
  | str (x : Str)
  | tup (ds : List D)
  | lst (ds : List D)
  | dct (ks : List Ky) (ds : List D)
  | ref (n : Nat)

mutual
def same : D → D → Bool
  | .non, .non => true
  | .bl a, .bl b => decide (a = b)
  | .int a, .int b => decide (a = b)
  | .str a, .str b => decide (a = b)
  | .tup a, .tup b => sames a b
  | .lst a, .lst b => sames a b
  | .dct k a, .dct l b => decide (k = l) && sames a b
  | .ref a, .ref b => decide (a = b)
  | _, _ => false
def sames : List D → List D → Bool
  | [], [] => true
  | a :: as, b :: bs => same a b && sames as bs
  | _, _ => false
end
mutual
theorem same_eq : ∀ (a b : D), same a b = true → a = b
  | .non, b, h => by cases b <;> simp [same] at h ⊢
  | .bl x, b, h => by cases b <;> simp [same] at h ⊢; exact h
  | .int x, b, h => by cases b <;> simp [same] at h ⊢; exact h
  | .str x, b, h => by cases b <;> simp [same] at h ⊢; exact h
  | .tup x, b, h => by cases b <;> simp [same] at h ⊢; exact sames_eq _ _ h
  | .lst x, b, h => by cases b <;> simp [same] at h ⊢; exact sames_eq _ _ h
  | .dct k x, b, h => by cases b <;> simp [same] at h ⊢; exact ⟨h.1, sames_eq _ _ h.2⟩
  | .ref x, b, h => by cases b <;> simp [same] at h ⊢; exact h
theorem sames_eq : ∀ (a b : List D), sames a b = true → a = b
  | [], b, h => by cases b <;> simp [sames] at h ⊢
  | x :: xs, b, h => by
    cases b with
    | nil => simp [sames] at h
    | cons y ys => simp only [sames, Bool.and_eq_true] at h; rw [same_eq x y h.1, sames_eq xs ys h.2]
end
mutual
theorem same_refl : ∀ (a : D), same a a = true
  | .non => by simp [same]
  | .bl x => by simp [same]
  | .int x => by simp [same]
  | .str x => by simp [same]
  | .tup x => by simp only [same]; exact sames_refl x
  | .lst x => by simp only [same]; exact sames_refl x
  | .dct k x => by simp only [same, sames_refl x]; simp
  | .ref x => by simp [same]
theorem sames_refl : ∀ (a : List D), sames a a = true
  | [] => by simp [sames]
  | x :: xs => by simp only [sames, same_refl x, sames_refl xs, Bool.and_self]
end
instance : DecidableEq D := fun a b => decidable_of_iff (same a b = true) ⟨same_eq a b, fun h => h ▸ same_refl a⟩

/-- what may change -/
inductive MO where
  | lst (ds : List D)
  | dct (kvs : List (Ky × D))
  /-- a dict while it is walked: read, not written -/
  | dwk (kvs : List (Ky × D))
  | ins (c : Nat) (fs : List (Str × D))
  deriving DecidableEq

abbrev MH := List MO
abbrev Sg := List (Option D)

inductive R (α : Type) where
  | ok (a : α) (M : MH)
  | exc (c : Nat) (M : MH)
  | bad

def R.bind {α β : Type} (x : R α) (f : α → MH → R β) : R β :=
  match x with
  | .ok a M => f a M
  | .exc c M => .exc c M
  | .bad => .bad

@[simp] theorem R.bind_ok {α β : Type} (a : α) (M : MH) (f : α → MH → R β) : (R.ok a M).bind f = f a M := rfl
@[simp] theorem R.bind_exc {α β : Type} (c : Nat) (M : MH) (f : α → MH → R β) : (R.exc c M : R α).bind f = .exc c M := rfl
@[simp] theorem R.bind_bad {α β : Type} (f : α → MH → R β) : (R.bad : R α).bind f = .bad := rfl

inductive Op2 where
  | add | sub | mul | fdiv | mod | pow
inductive Cmp where
  | eq | ne | lt | le | gt | ge | isin | notin | isN | notN
inductive Ty where
  | int | str | bool | list | tuple | dict
/-- built-in functions -/
inductive Bl where
  | len | sum | tuple | list | dict | str | int | abs | max | min | sorted | all | any | repr
/-- methods of built-in values -/
inductive Mt where
  | append | extend | pop | clear | get | join | startswith | replace | split | index | count

mutual
inductive E where
  | v (i : Nat)
  | k (d : D)
  | g (i : Nat)
  | tup (es : Es)
  | lst (fz : Bool) (es : Es)
  | dct0
  | op (o : Op2) (fz : Bool) (a b : E)
  | neg (a : E)
  | cmp (o : Cmp) (a b : E)
  | chain (o o' : Cmp) (a b c : E)
  | and (a b : E)
  | or (a b : E)
  | not (a : E)
  | tru (a : E)
  | ife (c a b : E)
  | idx (a b : E)
  | sl (fz : Bool) (a : E) (lo hi : O)
  | call (f : Nat) (es : Es)
  | isi (a : E) (t : Ty)
  | blt (b : Bl) (fz : Bool) (es : Es)
  | mth (m : Mt) (fz : Bool) (a : E) (es : Es)
  | comp (fz : Bool) (caps : List Nat) (tg : List Nat) (elt : E) (it : Src) (cond : O)
  | fld (a : E) (f : Str)
  /-- a method of an own class: the class, the def, its name -/
  | umt (c m : Nat) (nm : Str) (a : E) (es : Es)
  /-- a new object of an own class: the class, its __init__ -/
  | new (c i : Nat) (es : Es)
  /-- max(a, b), min(a, b) -/
  | mx (hi : Bool) (a b : E)
  /-- list(range(a, b)) -/
  | lrg (fz : Bool) (a b : E)
  /-- what is never come to -/
  | bad
inductive Es where
  | nil
  | cons (e : E) (es : Es)
inductive O where
  | none
  | some (e : E)
inductive Src where
  | e (a : E)
  | rng (a : E)
  | rng2 (a b : E)
  | enum (a : E)
  | items (a : E)
  | rev (a : E)
  | zip (a b : E)
end

mutual
inductive S where
  | set (i : Nat) (e : E)
  | seti (a b e : E)
  | setf (a : E) (f : Str) (e : E)
  | unp (tg : List Nat) (e : E)
  | ex (e : E)
  | ret (e : E)
  | ret0
  | ifs (c : E) (a b : Ss)
  | for (tg : List Nat) (it : Src) (b : Ss)
  | while (c : E) (b : Ss)
  | brk
  | cont
  | pass
  | raise (c : Nat) (es : Es)
  | try (b : Ss) (hs : Hs) (els : Ss)
  | bad
inductive Ss where
  | nil
  | cons (s : S) (ss : Ss)
inductive Hs where
  | nil
  | cons (cs : List Nat) (b : Ss) (hs : Hs)
end

inductive Out where
  | nx (σ : Sg)
  | rt (d : D)
  | bk (σ : Sg)
  | ct (σ : Sg)
  | xc (c : Nat) (σ : Sg)

/-- a value for a statement: an exception ends it -/
def R.use {α : Type} (x : R α) (σ : Sg) (f : α → MH → R Out) : R Out :=
  match x with
  | .ok a M => f a M
  | .exc c M => .ok (.xc c σ) M
  | .bad => .bad
@[simp] theorem R.use_ok {α : Type} (a : α) (M : MH) (σ : Sg) (f : α → MH → R Out) : (R.ok a M).use σ f = f a M := rfl
@[simp] theorem R.use_exc {α : Type} (c : Nat) (M : MH) (σ : Sg) (f : α → MH → R Out) : (R.exc c M : R α).use σ f = .ok (.xc c σ) M := rfl
@[simp] theorem R.use_bad {α : Type} (σ : Sg) (f : α → MH → R Out) : (R.bad : R α).use σ f = .bad := rfl

/-- how a thing looks from outside -/
inductive Vw where
  | tup (ds : List D)
  | lst (ds : List D)
  | dct (kvs : List (Ky × D))
  | none
def vw (M : MH) : D → Vw
  | .tup ds => .tup ds
  | .lst ds => .lst ds
  | .dct ks ds => .dct (ks.zip ds)
  | .ref n => match M[n]? with
    | some (.lst ds) => .lst ds
    | some (.dct kvs) => .dct kvs
    | some (.dwk kvs) => .dct kvs
    | _ => .none
  | _ => .none

def line : Nat := 1000000
def small (i : Int) : Bool := decide (i.natAbs < 18446744073709551616)
def num2 : Op2 → Int → Int → Option Int
  | .add, i, j => some (i + j)
  | .sub, i, j => some (i - j)
  | .mul, i, j => if small i || small j then some (i * j) else none
  | .fdiv, i, j => if decide (0 < j) && decide (j.natAbs < 1073741824) then some (i / j) else none
  | .mod, i, j => if decide (0 < j) then some (i % j) else none
  | .pow, i, j => if decide (0 ≤ j) && (decide (j ≤ 1000000) && decide (i.natAbs < 18446744073709551616)) then some (i ^ j.toNat) else none

def newl (fz : Bool) (ds : List D) (M : MH) : R D := if fz then .ok (.lst ds) M else .ok (.ref M.length) (M ++ [.lst ds])

def op2 (o : Op2) (fz : Bool) (M : MH) : D → D → R D
  | .int i, .int j => match num2 o i j with
    | some k => .ok (.int k) M
    | none => .bad
  | .str x, .str y => match o with
    | .add => if decide (x.length + y.length ≤ line) then .ok (.str (x ++ y)) M else .bad
    | _ => .bad
  | a, b => match o with
    | .add => match vw M a, vw M b with
      | .lst xs, .lst ys => if decide (xs.length + ys.length ≤ line) then newl fz (xs ++ ys) M else .bad
      | .tup xs, .tup ys => if !xs.isEmpty && decide (xs.length + ys.length ≤ line) then .ok (.tup (xs ++ ys)) M else .bad
      | _, _ => .bad
    | _ => .bad

mutual
/-- no truth, nothing that changes, no dict -/
def plain : D → Bool
  | .non => true
  | .bl _ => false
  | .int _ => true
  | .str _ => true
  | .tup ds => plains ds
  | .lst ds => plains ds
  | .dct _ _ => false
  | .ref _ => false
def plains : List D → Bool
  | [] => true
  | d :: ds => plain d && plains ds
end
mutual
/-- how many lie within one another -/
def dep : D → Nat
  | .tup ds => deps ds + 1
  | .lst ds => deps ds + 1
  | .dct _ ds => deps ds + 1
  | .non => 0
  | .bl _ => 0
  | .int _ => 0
  | .str _ => 0
  | .ref _ => 0
def deps : List D → Nat
  | [] => 0
  | d :: ds => max (dep d) (deps ds)
end
mutual
def eqD : D → D → Bool
  | .non, .non => true
  | .bl a, .bl b => a == b
  | .int a, .int b => decide (a = b)
  | .str a, .str b => decide (a = b)
  | .tup a, .tup b => eqDs a b
  | .lst a, .lst b => eqDs a b
  | _, _ => false
def eqDs : List D → List D → Bool
  | [], [] => true
  | a :: as, b :: bs => eqD a b && eqDs as bs
  | _, _ => false
end

def keyOf : D → Option Ky
  | .int i => some (.inl i)
  | .str x => some (.inr x)
  | _ => none
def kyD : Ky → D
  | .inl i => .int i
  | .inr x => .str x
def look (kvs : List (Ky × D)) (k : Ky) : Option D := (kvs.find? fun kv => decide (kv.1 = k)).map (·.2)
def put (kvs : List (Ky × D)) (k : Ky) (v : D) : List (Ky × D) :=
  if kvs.any (fun kv => decide (kv.1 = k)) then kvs.map fun kv => if kv.1 = k then (kv.1, v) else kv else kvs ++ [(k, v)]

/-- one thing in the place of a live list -/
def top (M : MH) : D → D
  | .ref n => match M[n]? with
    | some (.lst ds) => .lst ds
    | _ => .ref n
  | d => d

def flat : D → Bool
  | .non => true
  | .int _ => true
  | .str _ => true
  | _ => false

def cmpOk (a b : D) : Bool := (plain a && plain b) && (decide (dep a ≤ 100) || decide (dep b ≤ 100))
def cmp2 (o : Cmp) (M : MH) (a b : D) : R D :=
  match o, a, b with
  | .lt, .int i, .int j => .ok (.bl (decide (i < j))) M
  | .le, .int i, .int j => .ok (.bl (decide (i ≤ j))) M
  | .gt, .int i, .int j => .ok (.bl (decide (j < i))) M
  | .ge, .int i, .int j => .ok (.bl (decide (j ≤ i))) M
  | .eq, .bl x, .bl y => .ok (.bl (x == y)) M
  | .ne, .bl x, .bl y => .ok (.bl (!(x == y))) M
  | .eq, a, b => if cmpOk (top M a) (top M b) then .ok (.bl (eqD (top M a) (top M b))) M else .bad
  | .ne, a, b => if cmpOk (top M a) (top M b) then .ok (.bl (!eqD (top M a) (top M b))) M else .bad
  | .isN, .non, .non => .ok (.bl true) M
  | .isN, _, .non => .ok (.bl false) M
  | .notN, .non, .non => .ok (.bl false) M
  | .notN, _, .non => .ok (.bl true) M
  | .isin, a, b => match vw M b, keyOf a with
    | .dct kvs, some k => .ok (.bl (look kvs k).isSome) M
    | .lst ds, _ => if flat a && ds.all flat then .ok (.bl (ds.any fun d => eqD d a)) M else .bad
    | .tup ds, _ => if flat a && ds.all flat then .ok (.bl (ds.any fun d => eqD d a)) M else .bad
    | _, _ => .bad
  | .notin, a, b => match vw M b, keyOf a with
    | .dct kvs, some k => .ok (.bl (!(look kvs k).isSome)) M
    | .lst ds, _ => if flat a && ds.all flat then .ok (.bl (!ds.any fun d => eqD d a)) M else .bad
    | .tup ds, _ => if flat a && ds.all flat then .ok (.bl (!ds.any fun d => eqD d a)) M else .bad
    | _, _ => .bad
  | _, _, _ => .bad

def ixn (n : Nat) (i : Int) : Option Nat := if 0 ≤ i then (if i < n then some i.toNat else none) else if -(n : Int) ≤ i then some (i + n).toNat else none
def ati {α : Type} (xs : List α) (i : Int) : Option α := (ixn xs.length i).bind fun j => xs[j]?
def six (n d : Nat) : Option Int → Nat
  | none => d
  | some v => if v < 0 then (v + (n : Int)).toNat else min v.toNat n
def cutl {α : Type} (xs : List α) (lo hi : Option Int) : List α := (xs.drop (six xs.length 0 lo)).take (six xs.length xs.length hi - six xs.length 0 lo)
def cuts (x : Str) (lo hi : Option Int) : Str := ⟨(cutl x.cps.toList lo hi).toArray⟩

def idx2 (M : MH) (a b : D) : R D :=
  match a, b with
  | .str x, .int i => if decide (x.length ≤ line) then (match ati x.cps.toList i with
    | some c => .ok (.str ⟨#[c]⟩) M
    | none => .bad) else .bad
  | a, b => match vw M a, b with
    | .tup ds, .int i => match ati ds i with
      | some d => .ok d M
      | none => .bad
    | .lst ds, .int i => match ati ds i with
      | some d => .ok d M
      | none => .bad
    | .dct kvs, b => match keyOf b with
      | some k => match look kvs k with
        | some d => .ok d M
        | none => .bad
      | none => .bad
    | _, _ => .bad
/-- the whole of a tuple is that tuple itself: not asked here -/
def fullS (n : Nat) (lo hi : Option Int) : Bool := decide (six n 0 lo = 0) && decide (six n n hi = n)
def sl2 (fz : Bool) (M : MH) (a : D) (lo hi : Option Int) : R D :=
  match a with
  | .str x => if decide (x.length ≤ line) then .ok (.str (cuts x lo hi)) M else .bad
  | a => match vw M a with
    | .tup ds => if fullS ds.length lo hi then .bad else .ok (.tup (cutl ds lo hi)) M
    | .lst ds => newl fz (cutl ds lo hi) M
    | _ => .bad

def isT (M : MH) (t : Ty) : D → Bool
  | .int _ => match t with | .int => true | _ => false
  | .bl _ => match t with | .int => true | .bool => true | _ => false
  | .str _ => match t with | .str => true | _ => false
  | .tup _ => match t with | .tuple => true | _ => false
  | .lst _ => match t with | .list => true | _ => false
  | .dct _ _ => match t with | .dict => true | _ => false
  | .non => false
  | .ref n => match M[n]? with
    | some (.lst _) => (match t with | .list => true | _ => false)
    | some (.dct _) => (match t with | .dict => true | _ => false)
    | some (.dwk _) => (match t with | .dict => true | _ => false)
    | _ => false

/-- a thing of Python's own kinds -/
def okT (M : MH) : D → Bool
  | .ref n => match M[n]? with
    | some (.lst _) => true
    | some (.dct _) => true
    | some (.dwk _) => true
    | _ => false
  | _ => true

def intsOf : List D → Option (List Int)
  | [] => some []
  | .int i :: ds => (intsOf ds).map (i :: ·)
  | _ => none

/-- what a loop walks -/
def itemsOf (M : MH) (d : D) : Option (List D) :=
  match d with
  | .str _ => none
  | .dct _ _ => none
  | d => match vw M d with
    | .tup ds => some ds
    | .lst ds => some ds
    | .dct kvs => some (kvs.map fun kv => kyD kv.1)
    | .none => none
/-- a live dict is marked while it is walked -/
def wk (M : MH) : D → Bool
  | .ref n => match M[n]? with
    | some (.dct _) => true
    | _ => false
  | _ => false
def walk (M : MH) : D → MH
  | .ref n => match M[n]? with
    | some (.dct kvs) => M.set n (.dwk kvs)
    | _ => M
  | _ => M
def unwk (b : Bool) (d : D) (M : MH) : MH := match b, d with
  | true, .ref n => match M[n]? with
    | some (.dwk kvs) => M.set n (.dct kvs)
    | _ => M
  | _, _ => M
def R.fin {α : Type} (x : R α) (f : MH → MH) : R α := match x with
  | .ok a M => .ok a (f M)
  | .exc c M => .exc c (f M)
  | .bad => .bad

def blt1 (b : Bl) (fz : Bool) (M : MH) : List D → R D
  | [.str x] => match b with
    | .len => if decide (x.length ≤ line) then .ok (.int x.length) M else .bad
    | _ => .bad
  | [d] => match b, vw M d with
    | .len, .tup ds => .ok (.int ds.length) M
    | .len, .lst ds => .ok (.int ds.length) M
    | .len, .dct kvs => .ok (.int kvs.length) M
    | .sum, .lst ds => match intsOf ds with
      | some ns => .ok (.int ns.sum) M
      | none => .bad
    | .tuple, .lst ds => .ok (.tup ds) M
    | .tuple, .tup ds => .ok (.tup ds) M
    | .list, .lst ds => newl fz ds M
    | .list, .tup ds => newl fz ds M
    | .dict, .dct kvs => .ok (.ref M.length) (M ++ [.dct kvs])
    | _, _ => .bad
  | _ => .bad

def mth1 (m : Mt) (fz : Bool) (M : MH) (a : D) (ds : List D) : R D :=
  match m, a, ds with
  | .append, .ref n, [d] => match M[n]? with
    | some (.lst xs) => if decide (xs.length < line) then .ok .non (M.set n (.lst (xs ++ [d]))) else .bad
    | _ => .bad
  | _, _, _ => .bad

/-- what a method is asked of -/
def mtOk (m : Mt) (M : MH) : D → Bool
  | .ref n => match m, M[n]? with
    | .append, some (.lst _) => true
    | _, _ => false
  | _ => false

def setI (M : MH) (a b d : D) : R Unit :=
  match a with
  | .ref n => match M[n]?, b with
    | some (.lst xs), .int i => match ixn xs.length i with
      | some j => .ok () (M.set n (.lst (xs.set j d)))
      | none => .bad
    | some (.dct kvs), b => match keyOf b with
      | some k => if decide (kvs.length < line) then .ok () (M.set n (.dct (put kvs k d))) else .bad
      | none => .bad
    | _, _ => .bad
  | _ => .bad

def sets (tg : List Nat) (M : MH) (d : D) (σ : Sg) : Option Sg :=
  match tg with
  | [i] => some (σ.set i (some d))
  | [i, j] => match d with
    | .tup [x, y] => some ((σ.set i (some x)).set j (some y))
    | _ => none
  | _ => none

/-- the walked thing is as it was -/
def still (M : MH) (d : D) (M' : MH) : Bool := match d with
  | .ref n => decide (M'[n]? = M[n]?)
  | _ => true

def loopF (body : Sg → MH → R Out) (tg : List Nat) (chk : MH → Bool) : List D → Sg → MH → R Out
  | [], σ, M => .ok (.nx σ) M
  | d :: ds, σ, M => match sets tg M d σ with
    | none => .bad
    | some σ1 => (body σ1 M).bind fun o M1 => match o with
      | .nx σ2 => if chk M1 then loopF body tg chk ds σ2 M1 else .bad
      | .ct σ2 => if chk M1 then loopF body tg chk ds σ2 M1 else .bad
      | .bk σ2 => .ok (.nx σ2) M1
      | .rt r => .ok (.rt r) M1
      | .xc c σ2 => .ok (.xc c σ2) M1
def loopW (c : Sg → MH → R D) (body : Sg → MH → R Out) : Nat → Sg → MH → R Out
  | 0, _, _ => .bad
  | n + 1, σ, M => (c σ M).use σ fun t M0 => match t with
    | .bl false => .ok (.nx σ) M0
    | .bl true => (body σ M0).bind fun o M1 => match o with
      | .nx σ2 => loopW c body n σ2 M1
      | .ct σ2 => loopW c body n σ2 M1
      | .bk σ2 => .ok (.nx σ2) M1
      | .rt r => .ok (.rt r) M1
      | .xc c σ2 => .ok (.xc c σ2) M1
    | _ => .bad
def loopC (cond : Sg → MH → R D) (elt : Sg → MH → R D) (tg : List Nat) (chk : MH → Bool) : List D → Sg → MH → List D → R (List D)
  | [], _, M, acc => .ok acc M
  | d :: ds, σ, M, acc => match sets tg M d σ with
    | none => .bad
    | some σ1 => (cond σ1 M).bind fun t M1 => match t with
      | .bl true => (elt σ1 M1).bind fun x M2 => if chk M2 then (if decide (acc.length < line) then loopC cond elt tg chk ds σ1 M2 (acc ++ [x]) else .bad) else .bad
      | .bl false => if chk M1 then loopC cond elt tg chk ds σ1 M1 acc else .bad
      | _ => .bad

/-- a field is set -/
def putM (f : Str) (v : D) : List (Str × D) → List (Str × D)
  | [] => [(f, v)]
  | (g, x) :: r => if g = f then (g, v) :: r else (g, x) :: putM f v r

structure Fns where
  call : Nat → List D → MH → R D
  /-- __init__, with one less of depth -/
  ini : Nat → List D → MH → R D
  glob : Nat → Option D
  turns : Nat
  sub : Nat → Nat → Bool

def capt (σ : Sg) (caps : List Nat) : Sg := caps.map fun i => (σ[i]?).join

def asInt : D → Option Int
  | .int i => some i
  | _ => none
def okR (j : Int) : Bool := decide (j.natAbs ≤ 1000000)
def rngs (a b : Int) : List D := (List.range (b - a).toNat).map fun (i : Nat) => D.int (a + (i : Int))
def enums (ds : List D) : List D := ds.zipIdx.map fun p => .tup [.int (p.2 : Int), p.1]

mutual
def ev (Φ : Fns) : E → Sg → MH → R D
  | .v i, σ, M => match σ[i]? with
    | some (some d) => .ok d M
    | _ => .bad
  | .k d, _, M => .ok d M
  | .g i, _, M => match Φ.glob i with
    | some d => .ok d M
    | none => .bad
  | .tup es, σ, M => (evs Φ es σ M).bind fun ds M1 => .ok (.tup ds) M1
  | .lst fz es, σ, M => (evs Φ es σ M).bind fun ds M1 => newl fz ds M1
  | .dct0, _, M => .ok (.ref M.length) (M ++ [.dct []])
  | .op o fz a b, σ, M => (ev Φ a σ M).bind fun x M1 => (ev Φ b σ M1).bind fun y M2 => op2 o fz M2 x y
  | .neg a, σ, M => (ev Φ a σ M).bind fun x M1 => match x with
    | .int i => .ok (.int (-i)) M1
    | _ => .bad
  | .cmp o a b, σ, M => (ev Φ a σ M).bind fun x M1 => (ev Φ b σ M1).bind fun y M2 => cmp2 o M2 x y
  | .chain o o' a b c, σ, M => (ev Φ a σ M).bind fun x M1 => (ev Φ b σ M1).bind fun y M2 => (cmp2 o M2 x y).bind fun t M3 => match t with
    | .bl true => (ev Φ c σ M3).bind fun z M4 => cmp2 o' M4 y z
    | .bl false => .ok (.bl false) M3
    | _ => .bad
  | .and a b, σ, M => (ev Φ a σ M).bind fun x M1 => match x with
    | .bl true => (ev Φ b σ M1)
    | .bl false => .ok (.bl false) M1
    | _ => .bad
  | .or a b, σ, M => (ev Φ a σ M).bind fun x M1 => match x with
    | .bl true => .ok (.bl true) M1
    | .bl false => (ev Φ b σ M1)
    | _ => .bad
  | .not a, σ, M => (ev Φ a σ M).bind fun x M1 => match x with
    | .bl b => .ok (.bl (!b)) M1
    | _ => .bad
  | .tru a, σ, M => .bad
  | .ife c a b, σ, M => (ev Φ c σ M).bind fun x M1 => match x with
    | .bl true => ev Φ a σ M1
    | .bl false => ev Φ b σ M1
    | _ => .bad
  | .idx a b, σ, M => (ev Φ a σ M).bind fun x M1 => (ev Φ b σ M1).bind fun y M2 => idx2 M2 x y
  | .sl fz a lo hi, σ, M => (ev Φ a σ M).bind fun x M1 => (evo Φ lo σ M1).bind fun l M2 => (evo Φ hi σ M2).bind fun h M3 => sl2 fz M3 x l h
  | .call f es, σ, M => (evs Φ es σ M).bind fun ds M1 => Φ.call f ds M1
  | .isi a t, σ, M => (ev Φ a σ M).bind fun x M1 => if okT M1 x then .ok (.bl (isT M1 t x)) M1 else .bad
  | .blt b fz es, σ, M => (evs Φ es σ M).bind fun ds M1 => blt1 b fz M1 ds
  | .mth m fz a es, σ, M => (ev Φ a σ M).bind fun x M1 => if mtOk m M1 x then (evs Φ es σ M1).bind fun ds M2 => mth1 m fz M2 x ds else .bad
  | .comp fz caps tg elt it cond, σ, M => (evi Φ it σ M).bind fun p M1 =>
      ((loopC (evc Φ cond) (ev Φ elt) tg (still M1 p.1) p.2.1 (capt σ caps ++ List.replicate tg.length none) M1 []).fin (unwk p.2.2 p.1)).bind fun ds M2 => newl fz ds M2
  | .fld a f, σ, M => (ev Φ a σ M).bind fun x M1 => match x with
    | .ref n => match M1[n]? with
      | some (.ins _ fs) => match fs.lookup f with
        | some d => .ok d M1
        | none => .bad
      | _ => .bad
    | _ => .bad
  | .umt c m nm a es, σ, M => (ev Φ a σ M).bind fun x M1 => match x with
    | .ref n => match M1[n]? with
      | some (.ins c' fs) => if decide (c' = c) && (fs.lookup nm).isNone then (evs Φ es σ M1).bind fun ds M2 => Φ.call m (.ref n :: ds) M2 else .bad
      | _ => .bad
    | _ => .bad
  | .new c i es, σ, M => (evs Φ es σ M).bind fun ds M1 => (Φ.ini i (.ref M1.length :: ds) (M1 ++ [.ins c []])).bind fun r M2 => match r with
    | .non => .ok (.ref M1.length) M2
    | _ => .bad
  | .mx hi a b, σ, M => (ev Φ a σ M).bind fun x M1 => (ev Φ b σ M1).bind fun y M2 => match x, y with
    | .int i, .int j => .ok (.int (if hi then (if j > i then j else i) else (if j < i then j else i))) M2
    | _, _ => .bad
  | .lrg fz a b, σ, M => (ev Φ a σ M).bind fun x M1 => (ev Φ b σ M1).bind fun y M2 => match x, y with
    | .int i, .int j => if okR i && (okR j && decide ((j - i).toNat ≤ line)) then newl fz (rngs i j) M2 else .bad
    | _, _ => .bad
  | .bad, _, _ => .bad
def evs (Φ : Fns) : Es → Sg → MH → R (List D)
  | .nil, _, M => .ok [] M
  | .cons e es, σ, M => (ev Φ e σ M).bind fun x M1 => (evs Φ es σ M1).bind fun xs M2 => .ok (x :: xs) M2
def evo (Φ : Fns) : O → Sg → MH → R (Option Int)
  | .none, _, M => .ok none M
  | .some e, σ, M => (ev Φ e σ M).bind fun x M1 => match x with
    | .int i => .ok (some i) M1
    | _ => .bad
def evc (Φ : Fns) : O → Sg → MH → R D
  | .none, _, M => .ok (.bl true) M
  | .some e, σ, M => ev Φ e σ M
def evi (Φ : Fns) : Src → Sg → MH → R (D × List D × Bool)
  | .e a, σ, M => (ev Φ a σ M).bind fun x M1 => match itemsOf M1 x with
    | some ds => .ok (x, ds, wk M1 x) (walk M1 x)
    | none => .bad
  | .rng a, σ, M => (ev Φ a σ M).bind fun x M1 => match x with
    | .int j => if okR j then .ok (.non, rngs 0 j, false) M1 else .bad
    | _ => .bad
  | .rng2 a b, σ, M => (ev Φ a σ M).bind fun x M1 => (ev Φ b σ M1).bind fun y M2 => match x, y with
    | .int i, .int j => if okR i && okR j then .ok (.non, rngs i j, false) M2 else .bad
    | _, _ => .bad
  | .enum a, σ, M => .bad
  | .items a, σ, M => .bad
  | .rev a, σ, M => .bad
  | .zip a b, σ, M => .bad
end

mutual
def ex (Φ : Fns) : S → Sg → MH → R Out
  | .set i e, σ, M => (ev Φ e σ M).use σ fun x M1 => .ok (.nx (σ.set i (some x))) M1
  | .seti a b e, σ, M => (ev Φ e σ M).use σ fun x M1 => (ev Φ a σ M1).use σ fun y M2 => (ev Φ b σ M2).use σ fun z M3 => (setI M3 y z x).use σ fun _ M4 => .ok (.nx σ) M4
  | .setf a f e, σ, M => (ev Φ e σ M).use σ fun x M1 => (ev Φ a σ M1).use σ fun y M2 => match y with
    | .ref n => match M2[n]? with
      | some (.ins c fs) => if decide (fs.length < 1000) then .ok (.nx σ) (M2.set n (.ins c (putM f x fs))) else .bad
      | _ => .bad
    | _ => .bad
  | .unp tg e, σ, M => (ev Φ e σ M).use σ fun x M1 => match sets tg M1 x σ with
    | some σ1 => .ok (.nx σ1) M1
    | none => .bad
  | .ex e, σ, M => (ev Φ e σ M).use σ fun _ M1 => .ok (.nx σ) M1
  | .ret e, σ, M => (ev Φ e σ M).use σ fun x M1 => .ok (.rt x) M1
  | .ret0, _, M => .ok (.rt .non) M
  | .ifs c a b, σ, M => (ev Φ c σ M).use σ fun t M1 => match t with
    | .bl true => exs Φ a σ M1
    | .bl false => exs Φ b σ M1
    | _ => .bad
  | .for tg it b, σ, M => (evi Φ it σ M).use σ fun p M1 => (loopF (exs Φ b) tg (still M1 p.1) p.2.1 σ M1).fin (unwk p.2.2 p.1)
  | .while c b, σ, M => loopW (ev Φ c) (exs Φ b) Φ.turns σ M
  | .brk, σ, M => .ok (.bk σ) M
  | .cont, σ, M => .ok (.ct σ) M
  | .pass, σ, M => .ok (.nx σ) M
  | .raise c es, σ, M => (evs Φ es σ M).use σ fun _ M1 => .ok (.xc c σ) M1
  | .try b hs els, σ, M => (exs Φ b σ M).bind fun o M1 => match o with
    | .nx σ1 => exs Φ els σ1 M1
    | .xc c σ1 => exh Φ hs c σ1 M1
    | o => .ok o M1
  | .bad, _, _ => .bad
def exs (Φ : Fns) : Ss → Sg → MH → R Out
  | .nil, σ, M => .ok (.nx σ) M
  | .cons s ss, σ, M => (ex Φ s σ M).bind fun o M1 => match o with
    | .nx σ1 => exs Φ ss σ1 M1
    | o => .ok o M1
def exh (Φ : Fns) : Hs → Nat → Sg → MH → R Out
  | .nil, c, σ, M => .ok (.xc c σ) M
  | .cons cs b hs, c, σ, M => if cs.any (fun d => Φ.sub c d) then exs Φ b σ M else exh Φ hs c σ M
end

mutual
/-- all places within lie below m -/
def nr (m : Nat) : D → Bool
  | .ref n => decide (n < m)
  | .tup ds => nrs m ds
  | .lst ds => nrs m ds
  | .dct _ ds => nrs m ds
  | .non => true
  | .bl _ => true
  | .int _ => true
  | .str _ => true
def nrs (m : Nat) : List D → Bool
  | [] => true
  | d :: ds => nr m d && nrs m ds
end

/-- a def of the program: its parameters, its slots, the defaults that fill up, its body -/
structure Fn where
  np : Nat
  ns : Nat
  dfl : List D
  keep : Bool
  body : Ss

/-- what was made in the call is let go; a new list that is given back does not change from now on -/
def retn (keep : Bool) (M : MH) (d : D) (M' : MH) : R D :=
  if keep = false ∧ M'.take M.length = M then
    (if nr M.length d then .ok d M else match d with
      | .ref k => match M'[k]? with
        | some (.lst ds) => if nrs M.length ds then .ok (.lst ds) M else .ok d M'
        | _ => .ok d M'
      | _ => .ok d M')
  else .ok d M'
def retx (M : MH) (c : Nat) (M' : MH) : R D := if M'.take M.length = M then .exc c M else .exc c M'

structure Prg where
  fn : Nat → Option Fn
  glob : Nat → Option D
  turns : Nat
  sub : Nat → Nat → Bool

def runF (Φ : Fns) (f : Fn) (ds : List D) (M : MH) : R D :=
  if decide (ds.length ≤ f.np) && decide (f.np ≤ ds.length + f.dfl.length) then
    match exs Φ f.body ((ds ++ f.dfl.drop (ds.length + f.dfl.length - f.np)).map some ++ List.replicate (f.ns - f.np) none) M with
    | .ok (.rt d) M' => retn f.keep M d M'
    | .ok (.nx _) M' => retn f.keep M .non M'
    | .ok (.xc c _) M' => retx M c M'
    | _ => .bad
  else .bad
def callF (P : Prg) : Nat → Fns
  | 0 => ⟨fun _ _ _ => .bad, fun _ _ _ => .bad, P.glob, P.turns, P.sub⟩
  | k + 1 => ⟨fun f ds M => match P.fn f with
    | some fn => runF (callF P k) fn ds M
    | none => .bad, (callF P k).call, P.glob, P.turns, P.sub⟩
end Fg

end
section
set_option Elab.async false
set_option linter.all false
set_option maxRecDepth 100000
set_option autoImplicit false
namespace Fg
open PySem
/-! ### one turn of the mirror, as rules -/
section
variable {Φ : Fns} {σ : Sg} {M : MH}
@[simp] theorem ev_v {i : Nat} : ev Φ (.v i) σ M = match σ[i]? with | some (some d) => .ok d M | _ => .bad := by first | (simp only [ev]; done) | (simp only [ev]; rfl)
@[simp] theorem ev_k {d : D} : ev Φ (.k d) σ M = .ok d M := by first | (simp only [ev]; done) | (simp only [ev]; rfl)
@[simp] theorem ev_g {i : Nat} : ev Φ (.g i) σ M = match Φ.glob i with | some d => .ok d M | none => .bad := by first | (simp only [ev]; done) | (simp only [ev]; rfl)
@[simp] theorem ev_tup {es : Es} : ev Φ (.tup es) σ M = (evs Φ es σ M).bind fun ds M1 => .ok (.tup ds) M1 := by first | (simp only [ev]; done) | (simp only [ev]; rfl)
@[simp] theorem ev_lst {fz : Bool} {es : Es} : ev Φ (.lst fz es) σ M = (evs Φ es σ M).bind fun ds M1 => newl fz ds M1 := by first | (simp only [ev]; done) | (simp only [ev]; rfl)
@[simp] theorem ev_dct0 : ev Φ .dct0 σ M = .ok (.ref M.length) (M ++ [.dct []]) := by first | (simp only [ev]; done) | (simp only [ev]; rfl)
@[simp] theorem ev_op {o : Op2} {fz : Bool} {a b : E} : ev Φ (.op o fz a b) σ M = (ev Φ a σ M).bind fun x M1 => (ev Φ b σ M1).bind fun y M2 => op2 o fz M2 x y := by first | (simp only [ev]; done) | (simp only [ev]; rfl)
@[simp] theorem ev_neg {a : E} : ev Φ (.neg a) σ M = (ev Φ a σ M).bind fun x M1 => match x with | .int i => .ok (.int (-i)) M1 | _ => .bad := by first | (simp only [ev]; done) | (simp only [ev]; rfl)
@[simp] theorem ev_cmp {o : Cmp} {a b : E} : ev Φ (.cmp o a b) σ M = (ev Φ a σ M).bind fun x M1 => (ev Φ b σ M1).bind fun y M2 => cmp2 o M2 x y := by first | (simp only [ev]; done) | (simp only [ev]; rfl)
@[simp] theorem ev_chain {o o' : Cmp} {a b c : E} : ev Φ (.chain o o' a b c) σ M = (ev Φ a σ M).bind fun x M1 => (ev Φ b σ M1).bind fun y M2 => (cmp2 o M2 x y).bind fun t M3 => match t with
    | .bl true => (ev Φ c σ M3).bind fun z M4 => cmp2 o' M4 y z
    | .bl false => .ok (.bl false) M3
    | _ => .bad := by first | (simp only [ev]; done) | (simp only [ev]; rfl)
@[simp] theorem ev_and {a b : E} : ev Φ (.and a b) σ M = (ev Φ a σ M).bind fun x M1 => match x with | .bl true => (ev Φ b σ M1) | .bl false => .ok (.bl false) M1 | _ => .bad := by first | (simp only [ev]; done) | (simp only [ev]; rfl)
@[simp] theorem ev_or {a b : E} : ev Φ (.or a b) σ M = (ev Φ a σ M).bind fun x M1 => match x with | .bl true => .ok (.bl true) M1 | .bl false => (ev Φ b σ M1) | _ => .bad := by first | (simp only [ev]; done) | (simp only [ev]; rfl)
@[simp] theorem ev_not {a : E} : ev Φ (.not a) σ M = (ev Φ a σ M).bind fun x M1 => match x with | .bl b => .ok (.bl (!b)) M1 | _ => .bad := by first | (simp only [ev]; done) | (simp only [ev]; rfl)
@[simp] theorem ev_ife {c a b : E} : ev Φ (.ife c a b) σ M = (ev Φ c σ M).bind fun x M1 => match x with | .bl true => ev Φ a σ M1 | .bl false => ev Φ b σ M1 | _ => .bad := by first | (simp only [ev]; done) | (simp only [ev]; rfl)
@[simp] theorem ev_idx {a b : E} : ev Φ (.idx a b) σ M = (ev Φ a σ M).bind fun x M1 => (ev Φ b σ M1).bind fun y M2 => idx2 M2 x y := by first | (simp only [ev]; done) | (simp only [ev]; rfl)
@[simp] theorem ev_sl {fz : Bool} {a : E} {lo hi : O} : ev Φ (.sl fz a lo hi) σ M = (ev Φ a σ M).bind fun x M1 => (evo Φ lo σ M1).bind fun l M2 => (evo Φ hi σ M2).bind fun h M3 => sl2 fz M3 x l h := by first | (simp only [ev]; done) | (simp only [ev]; rfl)
@[simp] theorem ev_call {f : Nat} {es : Es} : ev Φ (.call f es) σ M = (evs Φ es σ M).bind fun ds M1 => Φ.call f ds M1 := by first | (simp only [ev]; done) | (simp only [ev]; rfl)
@[simp] theorem ev_isi {a : E} {t : Ty} : ev Φ (.isi a t) σ M = (ev Φ a σ M).bind fun x M1 => if okT M1 x then .ok (.bl (isT M1 t x)) M1 else .bad := by first | (simp only [ev]; done) | (simp only [ev]; rfl)
@[simp] theorem ev_blt {b : Bl} {fz : Bool} {es : Es} : ev Φ (.blt b fz es) σ M = (evs Φ es σ M).bind fun ds M1 => blt1 b fz M1 ds := by first | (simp only [ev]; done) | (simp only [ev]; rfl)
@[simp] theorem ev_mth {m : Mt} {fz : Bool} {a : E} {es : Es} : ev Φ (.mth m fz a es) σ M = (ev Φ a σ M).bind fun x M1 => if mtOk m M1 x then (evs Φ es σ M1).bind fun ds M2 => mth1 m fz M2 x ds else .bad := by first | (simp only [ev]; done) | (simp only [ev]; rfl)
@[simp] theorem ev_comp {fz : Bool} {caps tg : List Nat} {elt : E} {it : Src} {cond : O} : ev Φ (.comp fz caps tg elt it cond) σ M = (evi Φ it σ M).bind fun p M1 =>
      ((loopC (evc Φ cond) (ev Φ elt) tg (still M1 p.1) p.2.1 (capt σ caps ++ List.replicate tg.length none) M1 []).fin (unwk p.2.2 p.1)).bind fun ds M2 => newl fz ds M2 := by first | (simp only [ev]; done) | (simp only [ev]; rfl)
@[simp] theorem ev_fld {a : E} {f : Str} : ev Φ (.fld a f) σ M = (ev Φ a σ M).bind fun x M1 => match x with
    | .ref n => match M1[n]? with
      | some (.ins _ fs) => match fs.lookup f with
        | some d => .ok d M1
        | none => .bad
      | _ => .bad
    | _ => .bad := by first | (simp only [ev]; done) | (simp only [ev]; rfl)
@[simp] theorem ev_umt {c m : Nat} {nm : Str} {a : E} {es : Es} : ev Φ (.umt c m nm a es) σ M = (ev Φ a σ M).bind fun x M1 => match x with
    | .ref n => match M1[n]? with
      | some (.ins c' fs) => if decide (c' = c) && (fs.lookup nm).isNone then (evs Φ es σ M1).bind fun ds M2 => Φ.call m (.ref n :: ds) M2 else .bad
      | _ => .bad
    | _ => .bad := by first | (simp only [ev]; done) | (simp only [ev]; rfl)
@[simp] theorem ev_new {c i : Nat} {es : Es} : ev Φ (.new c i es) σ M = (evs Φ es σ M).bind fun ds M1 => (Φ.ini i (.ref M1.length :: ds) (M1 ++ [.ins c []])).bind fun r M2 => match r with
    | .non => .ok (.ref M1.length) M2
    | _ => .bad := by first | (simp only [ev]; done) | (simp only [ev]; rfl)
@[simp] theorem ev_mx {hi : Bool} {a b : E} : ev Φ (.mx hi a b) σ M = (ev Φ a σ M).bind fun x M1 => (ev Φ b σ M1).bind fun y M2 => match x, y with
    | .int i, .int j => .ok (.int (if hi then (if j > i then j else i) else (if j < i then j else i))) M2
    | _, _ => .bad := by first | (simp only [ev]; done) | (simp only [ev]; rfl)
@[simp] theorem ev_lrg {fz : Bool} {a b : E} : ev Φ (.lrg fz a b) σ M = (ev Φ a σ M).bind fun x M1 => (ev Φ b σ M1).bind fun y M2 => match x, y with
    | .int i, .int j => if okR i && (okR j && decide ((j - i).toNat ≤ line)) then newl fz (rngs i j) M2 else .bad
    | _, _ => .bad := by first | (simp only [ev]; done) | (simp only [ev]; rfl)
@[simp] theorem evs_nil : evs Φ .nil σ M = .ok [] M := by first | (simp only [evs]; done) | (simp only [evs]; rfl)
@[simp] theorem evs_cons {e : E} {es : Es} : evs Φ (.cons e es) σ M = (ev Φ e σ M).bind fun x M1 => (evs Φ es σ M1).bind fun xs M2 => .ok (x :: xs) M2 := by first | (simp only [evs]; done) | (simp only [evs]; rfl)
@[simp] theorem evo_none : evo Φ .none σ M = .ok none M := by first | (simp only [evo]; done) | (simp only [evo]; rfl)
@[simp] theorem evo_some {e : E} : evo Φ (.some e) σ M = (ev Φ e σ M).bind fun x M1 => match x with | .int i => .ok (some i) M1 | _ => .bad := by first | (simp only [evo]; done) | (simp only [evo]; rfl)
@[simp] theorem evc_none : evc Φ .none σ M = .ok (.bl true) M := by first | (simp only [evc]; done) | (simp only [evc]; rfl)
@[simp] theorem evc_some {e : E} : evc Φ (.some e) σ M = ev Φ e σ M := by first | (simp only [evc]; done) | (simp only [evc]; rfl)
@[simp] theorem evi_e {a : E} : evi Φ (.e a) σ M = (ev Φ a σ M).bind fun x M1 => match itemsOf M1 x with | some ds => .ok (x, ds, wk M1 x) (walk M1 x) | none => .bad := by first | (simp only [evi]; done) | (simp only [evi]; rfl)
@[simp] theorem evi_rng {a : E} : evi Φ (.rng a) σ M = (ev Φ a σ M).bind fun x M1 => match x with
    | .int j => if okR j then .ok (.non, rngs 0 j, false) M1 else .bad
    | _ => .bad := by first | (simp only [evi]; done) | (simp only [evi]; rfl)
@[simp] theorem evi_rng2 {a b : E} : evi Φ (.rng2 a b) σ M = (ev Φ a σ M).bind fun x M1 => (ev Φ b σ M1).bind fun y M2 => match x, y with
    | .int i, .int j => if okR i && okR j then .ok (.non, rngs i j, false) M2 else .bad
    | _, _ => .bad := by first | (simp only [evi]; done) | (simp only [evi]; rfl)
@[simp] theorem ex_set {i : Nat} {e : E} : ex Φ (.set i e) σ M = (ev Φ e σ M).use σ fun x M1 => .ok (.nx (σ.set i (some x))) M1 := by first | (simp only [ex]; done) | (simp only [ex]; rfl)
@[simp] theorem ex_seti {a b e : E} : ex Φ (.seti a b e) σ M = (ev Φ e σ M).use σ fun x M1 => (ev Φ a σ M1).use σ fun y M2 => (ev Φ b σ M2).use σ fun z M3 => (setI M3 y z x).use σ fun _ M4 => .ok (.nx σ) M4 := by first | (simp only [ex]; done) | (simp only [ex]; rfl)
@[simp] theorem ex_setf {a : E} {f : Str} {e : E} : ex Φ (.setf a f e) σ M = (ev Φ e σ M).use σ fun x M1 => (ev Φ a σ M1).use σ fun y M2 => match y with
    | .ref n => match M2[n]? with
      | some (.ins c fs) => if decide (fs.length < 1000) then .ok (.nx σ) (M2.set n (.ins c (putM f x fs))) else .bad
      | _ => .bad
    | _ => .bad := by first | (simp only [ex]; done) | (simp only [ex]; rfl)
@[simp] theorem ex_unp {tg : List Nat} {e : E} : ex Φ (.unp tg e) σ M = (ev Φ e σ M).use σ fun x M1 => match sets tg M1 x σ with | some σ1 => .ok (.nx σ1) M1 | none => .bad := by first | (simp only [ex]; done) | (simp only [ex]; rfl)
@[simp] theorem ex_ex {e : E} : ex Φ (.ex e) σ M = (ev Φ e σ M).use σ fun _ M1 => .ok (.nx σ) M1 := by first | (simp only [ex]; done) | (simp only [ex]; rfl)
@[simp] theorem ex_ret {e : E} : ex Φ (.ret e) σ M = (ev Φ e σ M).use σ fun x M1 => .ok (.rt x) M1 := by first | (simp only [ex]; done) | (simp only [ex]; rfl)
@[simp] theorem ex_ret0 : ex Φ .ret0 σ M = .ok (.rt .non) M := by first | (simp only [ex]; done) | (simp only [ex]; rfl)
@[simp] theorem ex_ifs {c : E} {a b : Ss} : ex Φ (.ifs c a b) σ M = (ev Φ c σ M).use σ fun t M1 => match t with | .bl true => exs Φ a σ M1 | .bl false => exs Φ b σ M1 | _ => .bad := by first | (simp only [ex]; done) | (simp only [ex]; rfl)
@[simp] theorem ex_for {tg : List Nat} {it : Src} {b : Ss} : ex Φ (.for tg it b) σ M = (evi Φ it σ M).use σ fun p M1 => (loopF (exs Φ b) tg (still M1 p.1) p.2.1 σ M1).fin (unwk p.2.2 p.1) := by first | (simp only [ex]; done) | (simp only [ex]; rfl)
@[simp] theorem ex_while {c : E} {b : Ss} : ex Φ (.while c b) σ M = loopW (ev Φ c) (exs Φ b) Φ.turns σ M := by first | (simp only [ex]; done) | (simp only [ex]; rfl)
@[simp] theorem ex_brk : ex Φ .brk σ M = .ok (.bk σ) M := by first | (simp only [ex]; done) | (simp only [ex]; rfl)
@[simp] theorem ex_cont : ex Φ .cont σ M = .ok (.ct σ) M := by first | (simp only [ex]; done) | (simp only [ex]; rfl)
@[simp] theorem ex_pass : ex Φ .pass σ M = .ok (.nx σ) M := by first | (simp only [ex]; done) | (simp only [ex]; rfl)
@[simp] theorem exs_nil : exs Φ .nil σ M = .ok (.nx σ) M := by first | (simp only [exs]; done) | (simp only [exs]; rfl)
@[simp] theorem exs_cons {s : S} {ss : Ss} : exs Φ (.cons s ss) σ M = (ex Φ s σ M).bind fun o M1 => match o with | .nx σ1 => exs Φ ss σ1 M1 | o => .ok o M1 := by first | (simp only [exs]; done) | (simp only [exs]; rfl)
end
@[simp] theorem fin_ok {α : Type} {a : α} {M : MH} {f : MH → MH} : (R.ok a M).fin f = .ok a (f M) := rfl
@[simp] theorem fin_exc {α : Type} {c : Nat} {M : MH} {f : MH → MH} : (R.exc c M : R α).fin f = .exc c (f M) := rfl
@[simp] theorem fin_bad {α : Type} {f : MH → MH} : (R.bad : R α).fin f = .bad := rfl
@[simp] theorem unwk_f {d : D} {M : MH} : unwk false d M = M := by cases d <;> rfl
@[simp] theorem fin_f {α : Type} {x : R α} {d : D} : x.fin (unwk false d) = x := by cases x <;> simp
@[simp] theorem wk_tup {M : MH} {ds : List D} : wk M (.tup ds) = false := rfl
@[simp] theorem wk_lst {M : MH} {ds : List D} : wk M (.lst ds) = false := rfl
@[simp] theorem wk_str {M : MH} {x : Str} : wk M (.str x) = false := rfl
@[simp] theorem walk_tup {M : MH} {ds : List D} : walk M (.tup ds) = M := rfl
@[simp] theorem walk_lst {M : MH} {ds : List D} : walk M (.lst ds) = M := rfl
@[simp] theorem walk_str {M : MH} {x : Str} : walk M (.str x) = M := rfl
theorem wk_l {M : MH} {n : Nat} {ds : List D} (h : M[n]? = some (.lst ds)) : wk M (.ref n) = false := by simp only [wk, h]
theorem walk_l {M : MH} {n : Nat} {ds : List D} (h : M[n]? = some (.lst ds)) : walk M (.ref n) = M := by simp only [walk, h]
theorem wk_d {M : MH} {n : Nat} {kvs : List (Ky × D)} (h : M[n]? = some (.dct kvs)) : wk M (.ref n) = true := by simp only [wk, h]
theorem walk_d {M : MH} {n : Nat} {kvs : List (Ky × D)} (h : M[n]? = some (.dct kvs)) : walk M (.ref n) = M.set n (.dwk kvs) := by simp only [walk, h]
theorem set_get {α : Type} {l : List α} {n : Nat} {a b : α} (h : l[n]? = some a) : (l.set n b)[n]? = some b := by
  obtain ⟨q, _⟩ := List.getElem?_eq_some_iff.mp h
  exact List.getElem?_set_self q
theorem set_back {α : Type} {l : List α} {n : Nat} {a b : α} (h : l[n]? = some a) : (l.set n b).set n a = l := by
  obtain ⟨q, e⟩ := List.getElem?_eq_some_iff.mp h
  rw [List.set_set]
  apply List.ext_getElem?
  intro i
  by_cases hi : n = i
  · subst hi; rw [List.getElem?_set_self q, h]
  · rw [List.getElem?_set_ne hi]
theorem unwk_d {M : MH} {n : Nat} {kvs : List (Ky × D)} (h : M[n]? = some (.dct kvs)) : unwk true (.ref n) (M.set n (.dwk kvs)) = M := by
  simp only [unwk, set_get h]
  exact set_back h
theorem call_step {P : Prg} {k i : Nat} {ds : List D} {M : MH} {fn : Fn} (h : P.fn i = some fn) : (callF P (k + 1)).call i ds M = runF (callF P k) fn ds M := by simp only [callF, h]
@[simp] theorem callF_glob {P : Prg} {k : Nat} : (callF P k).glob = P.glob := by cases k <;> rfl
@[simp] theorem callF_turns {P : Prg} {k : Nat} : (callF P k).turns = P.turns := by cases k <;> rfl
@[simp] theorem callF_sub {P : Prg} {k : Nat} : (callF P k).sub = P.sub := by cases k <;> rfl
/-- behind a call -/
theorem retn_same {keep : Bool} {M : MH} {d : D} (h : nr M.length d = true) : retn keep M d M = .ok d M := by
  unfold retn
  by_cases hk : keep = false ∧ M.take M.length = M
  · rw [if_pos hk, if_pos h]
  · rw [if_neg hk]
end Fg
namespace Fg
open PySem
/-! ### comprehensions and loops over data -/
theorem loopC_pure {cond elt : Sg → MH → R D} {i : Nat} {chk : MH → Bool} {M : MH} {f : D → D} {p : D → Bool} (hc : chk M = true) : ∀ (ds acc : List D) (σ : Sg), (∀ d ∈ ds, cond (σ.set i (some d)) M = .ok (.bl (p d)) M ∧ (p d = true → elt (σ.set i (some d)) M = .ok (f d) M)) →
    acc.length + ds.length ≤ line → loopC cond elt [i] chk ds σ M acc = .ok (acc ++ (ds.filter p).map f) M
  | [], acc, σ, _, _ => by simp [loopC]
  | d :: ds, acc, σ, h, hl => by
    obtain ⟨h1, h2⟩ := h d List.mem_cons_self
    have ih := fun acc' => loopC_pure (cond := cond) (elt := elt) (i := i) (chk := chk) (M := M) (f := f) (p := p) hc ds acc' (σ.set i (some d)) (fun e he => by rw [List.set_set]; exact h e (List.mem_cons_of_mem _ he))
    simp only [List.length_cons] at hl
    rw [loopC]
    simp only [sets, h1, R.bind_ok]
    cases hp : p d with
    | true =>
      have hlt : acc.length < line := by omega
      simp only [h2 hp, R.bind_ok, hc, if_true, hlt, decide_true]
      rw [ih (acc ++ [f d]) (by simp; omega)]
      simp [List.filter_cons, hp]
    | false =>
      simp only [hc, if_true]
      rw [ih acc (by omega)]
      simp [List.filter_cons, hp]
/-- a loop whose turns go through, by an invariant over what is left -/
theorem loopF_inv {body : Sg → MH → R Out} {i : Nat} {chk : MH → Bool} (I : List D → Sg → MH → Prop) {Q : R Out → Prop} : ∀ (ds : List D) (σ : Sg) (M : MH), I ds σ M →
    (∀ d ds σ M, I (d :: ds) σ M → ∃ σ' M', (body (σ.set i (some d)) M = .ok (.nx σ') M' ∨ body (σ.set i (some d)) M = .ok (.ct σ') M') ∧ chk M' = true ∧ I ds σ' M') →
    (∀ σ M, I [] σ M → Q (.ok (.nx σ) M)) → Q (loopF body [i] chk ds σ M)
  | [], σ, M, h, _, fin => by simp only [loopF]; exact fin σ M h
  | d :: ds, σ, M, h, step, fin => by
    obtain ⟨σ', M', hb, hc, hI⟩ := step d ds σ M h
    rw [loopF]
    simp only [sets]
    rcases hb with hb | hb <;> (simp only [hb, R.bind_ok, hc, if_true]; exact loopF_inv I ds σ' M' hI step fin)
@[simp] theorem cutl_1 {α : Type} {a : α} {l : List α} : cutl (a :: l) (some 1) none = l := by
  simp [cutl, six]
@[simp] theorem cutl_2 {α : Type} {a b : α} {l : List α} : cutl (a :: b :: l) (some 2) none = l := by
  simp [cutl, six]
@[simp] theorem ati_0 {α : Type} {a : α} {l : List α} : ati (a :: l) 0 = some a := by
  have : (0 : Int) < ((a :: l).length : Int) := by simp only [List.length_cons]; omega
  simp only [ati, ixn, if_pos (Int.le_refl 0), if_pos this]; rfl
@[simp] theorem ati_1 {α : Type} {a b : α} {l : List α} : ati (a :: b :: l) 1 = some b := by
  have : (1 : Int) < ((a :: b :: l).length : Int) := by simp only [List.length_cons]; omega
  simp only [ati, ixn, if_pos (show (0 : Int) ≤ 1 by decide), if_pos this]; rfl
@[simp] theorem ati_2 {α : Type} {a b c : α} {l : List α} : ati (a :: b :: c :: l) 2 = some c := by
  have : (2 : Int) < ((a :: b :: c :: l).length : Int) := by simp only [List.length_cons]; omega
  simp only [ati, ixn, if_pos (show (0 : Int) ≤ 2 by decide), if_pos this]; rfl
@[simp] theorem ati_3 {α : Type} {a b c d : α} {l : List α} : ati (a :: b :: c :: d :: l) 3 = some d := by
  have : (3 : Int) < ((a :: b :: c :: d :: l).length : Int) := by simp only [List.length_cons]; omega
  simp only [ati, ixn, if_pos (show (0 : Int) ≤ 3 by decide), if_pos this]; rfl
@[simp] theorem eqD_non_non : eqD D.non D.non = true := by simp only [eqD]
@[simp] theorem eqD_non_bl {y : Bool} : eqD D.non (D.bl y) = false := by simp only [eqD]
@[simp] theorem eqD_non_int {y : Int} : eqD D.non (D.int y) = false := by simp only [eqD]
@[simp] theorem eqD_non_str {y : Str} : eqD D.non (D.str y) = false := by simp only [eqD]
@[simp] theorem eqD_non_tup {y : List D} : eqD D.non (D.tup y) = false := by simp only [eqD]
@[simp] theorem eqD_non_lst {y : List D} : eqD D.non (D.lst y) = false := by simp only [eqD]
@[simp] theorem eqD_bl_non {x : Bool} : eqD (D.bl x) D.non = false := by simp only [eqD]
@[simp] theorem eqD_bl_bl {x : Bool} {y : Bool} : eqD (D.bl x) (D.bl y) = (x == y) := by simp only [eqD]
@[simp] theorem eqD_bl_int {x : Bool} {y : Int} : eqD (D.bl x) (D.int y) = false := by simp only [eqD]
@[simp] theorem eqD_bl_str {x : Bool} {y : Str} : eqD (D.bl x) (D.str y) = false := by simp only [eqD]
@[simp] theorem eqD_bl_tup {x : Bool} {y : List D} : eqD (D.bl x) (D.tup y) = false := by simp only [eqD]
@[simp] theorem eqD_bl_lst {x : Bool} {y : List D} : eqD (D.bl x) (D.lst y) = false := by simp only [eqD]
@[simp] theorem eqD_int_non {x : Int} : eqD (D.int x) D.non = false := by simp only [eqD]
@[simp] theorem eqD_int_bl {x : Int} {y : Bool} : eqD (D.int x) (D.bl y) = false := by simp only [eqD]
@[simp] theorem eqD_int_int {x : Int} {y : Int} : eqD (D.int x) (D.int y) = decide (x = y) := by simp only [eqD]
@[simp] theorem eqD_int_str {x : Int} {y : Str} : eqD (D.int x) (D.str y) = false := by simp only [eqD]
@[simp] theorem eqD_int_tup {x : Int} {y : List D} : eqD (D.int x) (D.tup y) = false := by simp only [eqD]
@[simp] theorem eqD_int_lst {x : Int} {y : List D} : eqD (D.int x) (D.lst y) = false := by simp only [eqD]
@[simp] theorem eqD_str_non {x : Str} : eqD (D.str x) D.non = false := by simp only [eqD]
@[simp] theorem eqD_str_bl {x : Str} {y : Bool} : eqD (D.str x) (D.bl y) = false := by simp only [eqD]
@[simp] theorem eqD_str_int {x : Str} {y : Int} : eqD (D.str x) (D.int y) = false := by simp only [eqD]
@[simp] theorem eqD_str_str {x : Str} {y : Str} : eqD (D.str x) (D.str y) = decide (x = y) := by simp only [eqD]
@[simp] theorem eqD_str_tup {x : Str} {y : List D} : eqD (D.str x) (D.tup y) = false := by simp only [eqD]
@[simp] theorem eqD_str_lst {x : Str} {y : List D} : eqD (D.str x) (D.lst y) = false := by simp only [eqD]
@[simp] theorem eqD_tup_non {x : List D} : eqD (D.tup x) D.non = false := by simp only [eqD]
@[simp] theorem eqD_tup_bl {x : List D} {y : Bool} : eqD (D.tup x) (D.bl y) = false := by simp only [eqD]
@[simp] theorem eqD_tup_int {x : List D} {y : Int} : eqD (D.tup x) (D.int y) = false := by simp only [eqD]
@[simp] theorem eqD_tup_str {x : List D} {y : Str} : eqD (D.tup x) (D.str y) = false := by simp only [eqD]
@[simp] theorem eqD_tup_tup {x : List D} {y : List D} : eqD (D.tup x) (D.tup y) = eqDs x y := by simp only [eqD]
@[simp] theorem eqD_tup_lst {x : List D} {y : List D} : eqD (D.tup x) (D.lst y) = false := by simp only [eqD]
@[simp] theorem eqD_lst_non {x : List D} : eqD (D.lst x) D.non = false := by simp only [eqD]
@[simp] theorem eqD_lst_bl {x : List D} {y : Bool} : eqD (D.lst x) (D.bl y) = false := by simp only [eqD]
@[simp] theorem eqD_lst_int {x : List D} {y : Int} : eqD (D.lst x) (D.int y) = false := by simp only [eqD]
@[simp] theorem eqD_lst_str {x : List D} {y : Str} : eqD (D.lst x) (D.str y) = false := by simp only [eqD]
@[simp] theorem eqD_lst_tup {x : List D} {y : List D} : eqD (D.lst x) (D.tup y) = false := by simp only [eqD]
@[simp] theorem eqD_lst_lst {x : List D} {y : List D} : eqD (D.lst x) (D.lst y) = eqDs x y := by simp only [eqD]
@[simp] theorem eqDs_nn : eqDs [] [] = true := by simp only [eqDs]
@[simp] theorem eqDs_cn {a : D} {l : List D} : eqDs (a :: l) [] = false := by simp only [eqDs]
@[simp] theorem eqDs_nc {a : D} {l : List D} : eqDs [] (a :: l) = false := by simp only [eqDs]
@[simp] theorem eqDs_cc {a b : D} {l m : List D} : eqDs (a :: l) (b :: m) = (eqD a b && eqDs l m) := by simp only [eqDs]
/-! ### a statement at a time -/
section
variable {Φ : Fns} {σ σ' : Sg} {M M1 M2 : MH} {e c : E} {x : D} {ss a b : Ss} {i : Nat}
theorem s_set (h : ev Φ e σ M = .ok x M1) : exs Φ (.cons (.set i e) ss) σ M = exs Φ ss (σ.set i (some x)) M1 := by simp [h]
theorem s_ex (h : ev Φ e σ M = .ok x M1) : exs Φ (.cons (.ex e) ss) σ M = exs Φ ss σ M1 := by simp [h]
theorem s_ret (h : ev Φ e σ M = .ok x M1) : exs Φ (.cons (.ret e) ss) σ M = .ok (.rt x) M1 := by simp [h]
theorem s_retx {k : Nat} (h : ev Φ e σ M = .exc k M1) : exs Φ (.cons (.ret e) ss) σ M = .ok (.xc k σ) M1 := by simp [h]
theorem s_ifF (h : ev Φ c σ M = .ok (.bl false) M1) : exs Φ (.cons (.ifs c a .nil) ss) σ M = exs Φ ss σ M1 := by simp [h]
theorem s_ifF' (h : ev Φ c σ M = .ok (.bl false) M1) (hb : exs Φ b σ M1 = .ok (.nx σ') M2) : exs Φ (.cons (.ifs c a b) ss) σ M = exs Φ ss σ' M2 := by simp [h, hb]
theorem s_ifT (h : ev Φ c σ M = .ok (.bl true) M1) (ha : exs Φ a σ M1 = .ok (.nx σ') M2) : exs Φ (.cons (.ifs c a b) ss) σ M = exs Φ ss σ' M2 := by simp [h, ha]
theorem s_ifR (h : ev Φ c σ M = .ok (.bl true) M1) (ha : exs Φ a σ M1 = .ok (.rt x) M2) : exs Φ (.cons (.ifs c a b) ss) σ M = .ok (.rt x) M2 := by simp [h, ha]
theorem s_for {tg : List Nat} {it : Src} {d : D} {ds : List D} (h : evi Φ it σ M = .ok (d, ds, false) M1) (hl : loopF (exs Φ b) tg (still M1 d) ds σ M1 = .ok (.nx σ') M2) : exs Φ (.cons (.for tg it b) ss) σ M = exs Φ ss σ' M2 := by simp [h, hl]
theorem s_forR {tg : List Nat} {it : Src} {d : D} {ds : List D} (h : evi Φ it σ M = .ok (d, ds, false) M1) (hl : loopF (exs Φ b) tg (still M1 d) ds σ M1 = .ok (.rt x) M2) : exs Φ (.cons (.for tg it b) ss) σ M = .ok (.rt x) M2 := by simp [h, hl]
/-- a call by its body -/
theorem c_run {P : Prg} {k f : Nat} {fn : Fn} {ds : List D} {d : D} {M' : MH} {r : R D} (hf : P.fn f = some fn) (hn : ds.length = fn.np) (hb : exs (callF P k) fn.body (ds.map some ++ List.replicate (fn.ns - fn.np) none) M = .ok (.rt d) M') (hr : retn fn.keep M d M' = r) : (callF P (k + 1)).call f ds M = r := by
  rw [call_step hf]
  have h1 : ds.length + fn.dfl.length - fn.np = fn.dfl.length := by omega
  simp only [runF, h1, List.drop_length, List.append_nil, hb]
  rw [if_pos (by simp; omega)]
  exact hr
theorem retn_let {M : MH} {d : D} {M' : MH} (h : nr M.length d = true) (ht : M'.take M.length = M) : retn false M d M' = .ok d M := by
  unfold retn; rw [if_pos ⟨rfl, ht⟩, if_pos h]
end
theorem okR_nat {n : Nat} (h : n ≤ 1000000) : okR (n : Int) = true := by simp only [okR, decide_eq_true_eq]; omega
theorem okR_int {n : Int} (h0 : -1000000 ≤ n) (h : n ≤ 1000000) : okR n = true := by simp only [okR, decide_eq_true_eq]; omega
@[simp] theorem okT_tup {M : MH} {ds : List D} : okT M (.tup ds) = true := rfl
@[simp] theorem okT_lst {M : MH} {ds : List D} : okT M (.lst ds) = true := rfl
@[simp] theorem okT_int {M : MH} {i : Int} : okT M (.int i) = true := rfl
@[simp] theorem okT_str {M : MH} {x : Str} : okT M (.str x) = true := rfl
@[simp] theorem okT_bl {M : MH} {b : Bool} : okT M (.bl b) = true := rfl
@[simp] theorem okT_non {M : MH} : okT M .non = true := rfl
@[simp] theorem fullS_1 {n : Nat} : fullS (n + 1) (some 1) none = false := by simp [fullS, six]
@[simp] theorem fullS_2 {n : Nat} : fullS (n + 1 + 1) (some 2) none = false := by simp [fullS, six]
theorem take_ge {α : Type} {l : List α} {n : Nat} (h : l.length ≤ n) : l.take n = l := List.take_of_length_le h
end Fg

end
section
set_option Elab.async false
set_option linter.all false
set_option maxRecDepth 100000
namespace Fg
open PySem L2

/-- what stands fast: the module's own objects; which dicts of the module hold what; the classes; the error classes -/
structure Bd where
  K : W.Frag
  dk : Addr → List (Key × V) → Prop
  cls : Nat → Option Addr
  exc : Nat → Value → Prop

def KTup (K : W.Frag) (a : Addr) (xs : List V) : Prop :=
  ∃ (o : Obj) (its : Array Value) (n : Nat), K.lookup a = some o ∧ o.cls = .type "tuple" ∧ o.data = .seq its n ∧ its.size ≤ sizeLine ∧ Vals xs its.toList
def KLst (K : W.Frag) (a : Addr) (xs : List V) : Prop :=
  ∃ (o : Obj) (its : Array Value) (n : Nat), K.lookup a = some o ∧ o.cls = .type "list" ∧ o.dict = none ∧ o.data = .seq its n ∧ its.size ≤ sizeLine ∧ Vals xs its.toList
def FzT (B : Bd) (F : Addr → Prop) (H : Hp) (a : Addr) (xs : List V) : Prop := (F a ∧ Rd H a (.tup xs)) ∨ KTup B.K a xs
def FzL (B : Bd) (F : Addr → Prop) (H : Hp) (a : Addr) (xs : List V) : Prop := (F a ∧ Rd H a (.lst xs)) ∨ KLst B.K a xs
def FzD (B : Bd) (F : Addr → Prop) (H : Hp) (a : Addr) (kvs : List (Key × V)) : Prop := (F a ∧ Rd H a (.dK kvs)) ∨ B.dk a kvs
theorem FzT.sq {B : Bd} {F : Addr → Prop} {H : Hp} {a : Addr} {xs : List V} (h : FzT B F H a xs) : SqT B.K H a xs := by
  rcases h with ⟨_, h⟩ | h
  · exact .inl h
  · exact .inr h
theorem FzL.sq {B : Bd} {F : Addr → Prop} {H : Hp} {a : Addr} {xs : List V} (h : FzL B F H a xs) : SqL B.K H a xs := by
  rcases h with ⟨_, h⟩ | h
  · exact .inl h
  · exact .inr h

mutual
/-- a value stands for a datum -/
def RD (B : Bd) (F : Addr → Prop) (ρ : List Addr) (H : Hp) : D → V → Prop
  | .non, v => v = .non
  | .bl b, v => v = .bl b
  | .int i, v => v = .int i
  | .str x, v => v = .str x
  | .tup ds, v => ∃ a vs, v = .ref a ∧ FzT B F H a vs ∧ RDs B F ρ H ds vs
  | .lst ds, v => ∃ a vs, v = .ref a ∧ FzL B F H a vs ∧ RDs B F ρ H ds vs
  | .dct ks ds, v => ∃ a kvs, v = .ref a ∧ FzD B F H a kvs ∧ kvs.map (·.1) = ks ∧ RDs B F ρ H ds (kvs.map (·.2))
  | .ref n, v => ∃ a, ρ[n]? = some a ∧ v = .ref a
def RDs (B : Bd) (F : Addr → Prop) (ρ : List Addr) (H : Hp) : List D → List V → Prop
  | [], vs => vs = []
  | d :: ds, vs => ∃ v ws, vs = v :: ws ∧ RD B F ρ H d v ∧ RDs B F ρ H ds ws
end

structure Ext0 (F : Addr → Prop) (ρ : List Addr) (H : Hp) (F' : Addr → Prop) (ρ' : List Addr) (H' : Hp) : Prop where
  s : ∀ a ∈ ρ, ¬ F a
  f : ∀ a, F a → F' a
  h : ∀ a, H a ≠ none → a ∉ ρ → H' a = H a
  r : ρ <+: ρ'
  n : ∀ a ∈ ρ', a ∈ ρ ∨ H a = none
  g : ∀ a, F' a → F a ∨ (H a = none ∨ a ∈ ρ)
/-- as far as data need it -/
structure Ex1 (F : Addr → Prop) (ρ : List Addr) (H : Hp) (F' : Addr → Prop) (ρ' : List Addr) (H' : Hp) : Prop where
  f : ∀ a, F a → F' a
  k : ∀ a, F a → H a ≠ none → H' a = H a
  r : ρ <+: ρ'
theorem Ext0.ex1 {F F' : Addr → Prop} {ρ ρ' : List Addr} {H H' : Hp} (e : Ext0 F ρ H F' ρ' H') : Ex1 F ρ H F' ρ' H' := ⟨e.f, fun a fa h => e.h a h fun z => e.s a z fa, e.r⟩

section
variable {B : Bd} {F F' F1 : Addr → Prop} {ρ ρ' ρ1 : List Addr} {H H' H1 : Hp}
theorem rd_ne {a : Addr} {u : HO} (h : Rd H a u) : H a ≠ none := by
  rcases h with h | ⟨o, h⟩ <;> rw [h] <;> simp
theorem Ex1.rd (e : Ex1 F ρ H F' ρ' H') {a : Addr} {u : HO} (f : F a) (h : Rd H a u) : Rd H' a u := by
  have q := e.k a f (rd_ne h)
  rcases h with h | ⟨o, h⟩
  · exact .inl (q.trans h)
  · exact .inr ⟨o, q.trans h⟩
theorem Ex1.at (e : Ex1 F ρ H F' ρ' H') {n : Nat} {a : Addr} (h : ρ[n]? = some a) : ρ'[n]? = some a := by
  obtain ⟨t, rfl⟩ := e.r
  have hn : n < ρ.length := by
    rcases Nat.lt_or_ge n ρ.length with q | q
    · exact q
    · rw [List.getElem?_eq_none_iff.mpr q] at h; cases h
  rw [List.getElem?_append_left hn]; exact h
mutual
theorem RD.mono1 (e : Ex1 F ρ H F' ρ' H') : ∀ (d : D) (v : V), RD B F ρ H d v → RD B F' ρ' H' d v
  | .non, v, h => h
  | .bl _, v, h => h
  | .int _, v, h => h
  | .str _, v, h => h
  | .tup ds, v, h => by
    simp only [RD] at h ⊢
    obtain ⟨a, vs, h1, h2, h3⟩ := h
    refine ⟨a, vs, h1, ?_, RDs.mono1 e ds vs h3⟩
    rcases h2 with ⟨f, r⟩ | h2
    · exact .inl ⟨e.f a f, e.rd f r⟩
    · exact .inr h2
  | .lst ds, v, h => by
    simp only [RD] at h ⊢
    obtain ⟨a, vs, h1, h2, h3⟩ := h
    refine ⟨a, vs, h1, ?_, RDs.mono1 e ds vs h3⟩
    rcases h2 with ⟨f, r⟩ | h2
    · exact .inl ⟨e.f a f, e.rd f r⟩
    · exact .inr h2
  | .dct ks ds, v, h => by
    simp only [RD] at h ⊢
    obtain ⟨a, kvs, h1, h2, h4, h3⟩ := h
    refine ⟨a, kvs, h1, ?_, h4, RDs.mono1 e ds _ h3⟩
    rcases h2 with ⟨f, r⟩ | h2
    · exact .inl ⟨e.f a f, e.rd f r⟩
    · exact .inr h2
  | .ref n, v, h => by
    simp only [RD] at h ⊢
    obtain ⟨a, h1, h2⟩ := h
    exact ⟨a, e.at h1, h2⟩
theorem RDs.mono1 (e : Ex1 F ρ H F' ρ' H') : ∀ (ds : List D) (vs : List V), RDs B F ρ H ds vs → RDs B F' ρ' H' ds vs
  | [], vs, h => h
  | d :: ds, vs, h => by
    simp only [RDs] at h ⊢
    obtain ⟨v, ws, h1, h2, h3⟩ := h
    exact ⟨v, ws, h1, RD.mono1 e d v h2, RDs.mono1 e ds ws h3⟩
end
theorem Ext0.at (e : Ext0 F ρ H F' ρ' H') {n : Nat} {a : Addr} (h : ρ[n]? = some a) : ρ'[n]? = some a := e.ex1.at h
theorem RD.mono0 (e : Ext0 F ρ H F' ρ' H') (d : D) (v : V) (h : RD B F ρ H d v) : RD B F' ρ' H' d v := RD.mono1 e.ex1 d v h
theorem RDs.mono0 (e : Ext0 F ρ H F' ρ' H') (ds : List D) (vs : List V) (h : RDs B F ρ H ds vs) : RDs B F' ρ' H' ds vs := RDs.mono1 e.ex1 ds vs h
/-- what stood fast (a dict that is walked) stands fast -/
structure Ext (F : Addr → Prop) (ρ : List Addr) (H : Hp) (F' : Addr → Prop) (ρ' : List Addr) (H' : Hp) : Prop extends Ext0 F ρ H F' ρ' H' where
  z : ∀ a o u, H a = some (.frz o u) → H' a = some (.frz o u)
theorem RD.mono (e : Ext F ρ H F' ρ' H') (d : D) (v : V) (h : RD B F ρ H d v) : RD B F' ρ' H' d v := RD.mono0 e.toExt0 d v h
theorem RDs.mono (e : Ext F ρ H F' ρ' H') (ds : List D) (vs : List V) (h : RDs B F ρ H ds vs) : RDs B F' ρ' H' ds vs := RDs.mono0 e.toExt0 ds vs h
theorem Ext.trans (a : Ext F ρ H F1 ρ1 H1) (b : Ext F1 ρ1 H1 F' ρ' H') : Ext F ρ H F' ρ' H' where
  s := a.s
  f := fun x h => b.f x (a.f x h)
  h := fun x h1 h2 => by
    have q := a.h x h1 h2
    have n1 : x ∉ ρ1 := fun z => (a.n x z).elim h2 h1
    exact (b.h x (by rw [q]; exact h1) n1).trans q
  r := List.IsPrefix.trans a.r b.r
  n := fun x hx => by
    rcases b.n x hx with q | q
    · exact a.n x q
    · by_cases hr : x ∈ ρ
      · exact .inl hr
      · refine .inr ?_
        cases hh : H x with
        | none => rfl
        | some u =>
          have := a.h x (by rw [hh]; simp) hr
          rw [q, hh] at this; cases this
  g := fun x hx => by
    rcases b.g x hx with q | q | q
    · exact a.g x q
    · by_cases hr : x ∈ ρ
      · exact .inr (.inr hr)
      · refine .inr (.inl ?_)
        cases hh : H x with
        | none => rfl
        | some u =>
          have := a.h x (by rw [hh]; simp) hr
          rw [q, hh] at this; cases this
    · rcases a.n x q with z | z
      · exact .inr (.inr z)
      · exact .inr (.inl z)
  z := fun x o u h => b.z x o u (a.z x o u h)
theorem Ext.refl (s : ∀ a ∈ ρ, ¬ F a) : Ext F ρ H F ρ H := ⟨⟨s, fun _ h => h, fun _ _ _ => rfl, List.prefix_refl _, fun _ h => .inl h, fun _ h => .inl h⟩, fun _ _ _ h => h⟩
end

/-- a thing that may change -/
def MR (B : Bd) (F : Addr → Prop) (ρ : List Addr) (H : Hp) : MO → Addr → Prop
  | .lst ds, a => ∃ vs, H a = some (.lst vs) ∧ RDs B F ρ H ds vs
  | .dct kvs, a => ∃ kws, H a = some (.dK kws) ∧ kws.map (·.1) = kvs.map (·.1) ∧ RDs B F ρ H (kvs.map (·.2)) (kws.map (·.2))
  | .dwk kvs, a => ∃ o kws, H a = some (.frz o (.dK kws)) ∧ kws.map (·.1) = kvs.map (·.1) ∧ RDs B F ρ H (kvs.map (·.2)) (kws.map (·.2))
  | .ins c fs, a => ∃ C dx fws, B.cls c = some C ∧ H a = some (.ins C dx fws) ∧ fws.map (·.1) = fs.map (·.1) ∧ RDs B F ρ H (fs.map (·.2)) (fws.map (·.2))
theorem MR.mono1 {B : Bd} {F F' : Addr → Prop} {ρ ρ' : List Addr} {H H' : Hp} (e : Ex1 F ρ H F' ρ' H') {a : Addr} (ha : H' a = H a) : ∀ {o : MO}, MR B F ρ H o a → MR B F' ρ' H' o a
  | .lst ds, ⟨vs, h1, h2⟩ => ⟨vs, ha.trans h1, RDs.mono1 e _ _ h2⟩
  | .dct kvs, ⟨kws, h1, h2, h3⟩ => ⟨kws, ha.trans h1, h2, RDs.mono1 e _ _ h3⟩
  | .dwk kvs, ⟨o, kws, h1, h2, h3⟩ => ⟨o, kws, ha.trans h1, h2, RDs.mono1 e _ _ h3⟩
  | .ins c fs, ⟨C, dx, fws, h0, h1, h2, h3⟩ => ⟨C, dx, fws, h0, ha.trans h1, h2, RDs.mono1 e _ _ h3⟩
theorem MR.mono0 {B : Bd} {F F' : Addr → Prop} {ρ ρ' : List Addr} {H H' : Hp} (e : Ext0 F ρ H F' ρ' H') {a : Addr} (ha : H' a = H a) {o : MO} (h : MR B F ρ H o a) : MR B F' ρ' H' o a := h.mono1 e.ex1 ha
theorem MR.mono {B : Bd} {F F' : Addr → Prop} {ρ ρ' : List Addr} {H H' : Hp} (e : Ext F ρ H F' ρ' H') {a : Addr} (ha : H' a = H a) {o : MO} (h : MR B F ρ H o a) : MR B F' ρ' H' o a := h.mono0 e.toExt0 ha
theorem MR.ne {B : Bd} {F : Addr → Prop} {ρ : List Addr} {H : Hp} {a : Addr} : ∀ {o : MO}, MR B F ρ H o a → H a ≠ none
  | .lst ds, ⟨vs, h1, h2⟩ => by rw [h1]; simp
  | .dct kvs, ⟨kws, h1, _⟩ => by rw [h1]; simp
  | .dwk kvs, ⟨o, kws, h1, _⟩ => by rw [h1]; simp
  | .ins c fs, ⟨C, dx, fws, _, h1, _⟩ => by rw [h1]; simp

structure SR (B : Bd) (F : Addr → Prop) (ρ : List Addr) (M : MH) (H : Hp) : Prop where
  len : ρ.length = M.length
  nd : ρ.Nodup
  sep : ∀ a ∈ ρ, ¬ F a
  fok : ∀ a, F a → H a ≠ none
  obj : ∀ (n : Nat) (a : Addr) (o : MO), ρ[n]? = some a → M[n]? = some o → MR B F ρ H o a

section
variable {B : Bd} {F F' F1 : Addr → Prop} {ρ ρ' ρ1 : List Addr} {H H' H1 : Hp} {M M' : MH}
theorem SR.ex (S : SR B F ρ M H) {n : Nat} {o : MO} (h : M[n]? = some o) : ∃ a, ρ[n]? = some a ∧ MR B F ρ H o a := by
  have hn : n < M.length := by
    rcases Nat.lt_or_ge n M.length with q | q
    · exact q
    · rw [List.getElem?_eq_none_iff.mpr q] at h; cases h
  have hr : ρ[n]? = some (ρ[n]'(by rw [S.len]; exact hn)) := List.getElem?_eq_getElem _
  exact ⟨_, hr, S.obj n _ o hr h⟩
theorem SR.ne (S : SR B F ρ M H) {a : Addr} (h : a ∈ ρ) : H a ≠ none := by
  obtain ⟨n, hn, e⟩ := List.mem_iff_getElem.mp h
  have hm : n < M.length := by rw [← S.len]; exact hn
  exact (S.obj n a M[n] (by rw [List.getElem?_eq_getElem hn, e]) (List.getElem?_eq_getElem hm)).ne
theorem SR.new (S : SR B F ρ M H) {p : Addr} (h : H p = none) : p ∉ ρ ∧ ¬ F p := ⟨fun z => S.ne z h, fun z => S.fok p z h⟩
theorem SR.refl (S : SR B F ρ M H) : Ext F ρ H F ρ H := Ext.refl S.sep
/-- a new thing that never changes -/
theorem SR.fz (S : SR B F ρ M H) {p : Addr} (h : H p = none) (o : HO) : SR B (fun a => F a ∨ a = p) ρ M (upd H p o) ∧ Ext F ρ H (fun a => F a ∨ a = p) ρ (upd H p o) := by
  obtain ⟨np, nf⟩ := S.new h
  have e : Ext F ρ H (fun a => F a ∨ a = p) ρ (upd H p o) := ⟨⟨S.sep, fun a q => .inl q, fun a q _ => upd_ne (by rintro rfl; exact q h), List.prefix_refl _, fun a q => .inl q, fun a q => q.elim .inl fun z => .inr (.inl (z ▸ h))⟩, fun b w u q => by rw [upd_ne (by rintro rfl; rw [h] at q; cases q)]; exact q⟩
  refine ⟨⟨S.len, S.nd, fun a ha z => ?_, fun a z => ?_, fun n a u h1 h2 => ?_⟩, e⟩
  · rcases z with z | z
    · exact S.sep a ha z
    · subst z; exact np ha
  · by_cases q : a = p
    · subst q; rw [upd_same]; simp
    · rw [upd_ne q]
      rcases z with z | z
      · exact S.fok a z
      · exact absurd z q
  · have m := S.obj n a u h1 h2
    exact m.mono e (upd_ne (by rintro rfl; exact m.ne h))
/-- a new thing that may change -/
theorem SR.lv (S : SR B F ρ M H) {p : Addr} (h : H p = none) {o : HO} {u : MO} (hu : MR B F (ρ ++ [p]) (upd H p o) u p) : SR B F (ρ ++ [p]) (M ++ [u]) (upd H p o) ∧ Ext F ρ H F (ρ ++ [p]) (upd H p o) := by
  obtain ⟨np, nf⟩ := S.new h
  have e : Ext F ρ H F (ρ ++ [p]) (upd H p o) := ⟨⟨S.sep, fun a q => q, fun a q _ => upd_ne (by rintro rfl; exact q h), List.prefix_append _ _, fun a q => by
    rcases List.mem_append.mp q with q | q
    · exact .inl q
    · rw [List.mem_singleton.mp q]; exact .inr h, fun _ q => .inl q⟩, fun b w u q => by rw [upd_ne (by rintro rfl; rw [h] at q; cases q)]; exact q⟩
  refine ⟨⟨by simp [S.len], ?_, fun a ha z => ?_, fun a z => ?_, fun n a w h1 h2 => ?_⟩, e⟩
  · rw [List.nodup_append]
    refine ⟨S.nd, by simp, fun a ha b hb => ?_⟩
    rw [List.mem_singleton.mp hb]
    rintro rfl
    exact np ha
  · rcases List.mem_append.mp ha with q | q
    · exact S.sep a q z
    · rw [List.mem_singleton.mp q] at z; exact nf z
  · have q : a ≠ p := by rintro rfl; exact nf z
    rw [upd_ne q]; exact S.fok a z
  · by_cases hn : n < ρ.length
    · rw [List.getElem?_append_left hn] at h1
      rw [List.getElem?_append_left (by rw [← S.len]; exact hn)] at h2
      have m := S.obj n a w h1 h2
      exact m.mono e (upd_ne (by rintro rfl; exact m.ne h))
    · have hn' : ρ.length ≤ n := Nat.le_of_not_lt hn
      rw [List.getElem?_append_right hn'] at h1
      rw [List.getElem?_append_right (by rw [← S.len]; exact hn'), ← S.len] at h2
      cases k : n - ρ.length with
      | zero =>
        rw [k] at h1 h2
        cases h1; cases h2
        exact hu
      | succ j => rw [k] at h1; simp at h1
/-- a thing is changed -/
theorem SR.st0 (S : SR B F ρ M H) {n : Nat} {a : Addr} {o : HO} {u : MO} (hn : ρ[n]? = some a) (hu : MR B F ρ (upd H a o) u a) : SR B F ρ (M.set n u) (upd H a o) ∧ Ext0 F ρ H F ρ (upd H a o) := by
  have ha : a ∈ ρ := List.mem_of_getElem? hn
  have e : Ext0 F ρ H F ρ (upd H a o) := ⟨S.sep, fun _ q => q, fun b q nb => upd_ne (by rintro rfl; exact nb ha), List.prefix_refl _, fun _ q => .inl q, fun _ q => .inl q⟩
  refine ⟨⟨by simp [S.len], S.nd, S.sep, fun b z => ?_, fun m b w h1 h2 => ?_⟩, e⟩
  · have q : b ≠ a := by rintro rfl; exact S.sep b ha z
    rw [upd_ne q]; exact S.fok b z
  · by_cases q : m = n
    · subst q
      rw [hn] at h1; cases h1
      rw [List.getElem?_set] at h2
      split at h2
      · split at h2
        · cases h2; exact hu
        · cases h2
      · rename_i z; exact absurd rfl z
    · rw [List.getElem?_set_ne (Ne.symm q)] at h2
      have ne : b ≠ a := by
        rintro rfl
        obtain ⟨m1, e1⟩ := List.getElem?_eq_some_iff.mp h1
        obtain ⟨m2, e2⟩ := List.getElem?_eq_some_iff.mp hn
        exact q ((List.getElem_inj S.nd).mp (e1.trans e2.symm))
      exact (S.obj m b w h1 h2).mono0 e (upd_ne ne)

theorem SR.st (S : SR B F ρ M H) {n : Nat} {a : Addr} {o : HO} {u : MO} (hn : ρ[n]? = some a) (hz : ∀ w v, H a ≠ some (.frz w v)) (hu : MR B F ρ (upd H a o) u a) : SR B F ρ (M.set n u) (upd H a o) ∧ Ext F ρ H F ρ (upd H a o) :=
  ⟨(S.st0 hn hu).1, ⟨(S.st0 hn hu).2, fun b w v q => by rw [upd_ne (by rintro rfl; exact hz w v q)]; exact q⟩⟩
theorem Ext0.at_ (S : SR B F ρ M H) {n : Nat} {a : Addr} {o : HO} (hn : ρ[n]? = some a) : Ext0 F ρ H F ρ (upd H a o) :=
  ⟨S.sep, fun _ q => q, fun b q nb => upd_ne (by rintro rfl; exact nb (List.mem_of_getElem? hn)), List.prefix_refl _, fun _ q => .inl q, fun _ q => .inl q⟩
/-- something that nobody holds is changed -/
theorem Ex1.side {D : Addr} (hF : ¬ F D) (o : HO) : Ex1 F ρ H F ρ (upd H D o) := ⟨fun _ h => h, fun a fa _ => upd_ne (by rintro rfl; exact hF fa), List.prefix_refl _⟩
theorem SR.side (S : SR B F ρ M H) {D : Addr} (hD : D ∉ ρ) (hF : ¬ F D) (o : HO) : SR B F ρ M (upd H D o) :=
  ⟨S.len, S.nd, S.sep, fun a fa => by rw [upd_ne (by rintro rfl; exact hF fa)]; exact S.fok a fa, fun n a w h1 h2 => (S.obj n a w h1 h2).mono1 (Ex1.side hF o) (upd_ne (by rintro rfl; exact hD (List.mem_of_getElem? h1)))⟩
/-- .. becomes something that never changes -/
theorem SR.take (S : SR B F ρ M H) {D : Addr} (hD : D ∉ ρ) (hn : H D ≠ none) : SR B (fun a => F a ∨ a = D) ρ M H :=
  ⟨S.len, S.nd, fun a ha z => z.elim (S.sep a ha) fun e => hD (e ▸ ha), fun a z => z.elim (S.fok a) fun e => e ▸ hn, fun n a w h1 h2 => (S.obj n a w h1 h2).mono1 ⟨fun _ h => .inl h, fun _ _ _ => rfl, List.prefix_refl _⟩ rfl⟩
/-- .. or something that may change -/
theorem SR.hold (S : SR B F ρ M H) {D : Addr} {u : MO} (hD : D ∉ ρ) (hF : ¬ F D) (hu : MR B F (ρ ++ [D]) H u D) : SR B F (ρ ++ [D]) (M ++ [u]) H := by
  refine ⟨by simp [S.len], ?_, fun a ha z => ?_, S.fok, fun n a w h1 h2 => ?_⟩
  · rw [List.nodup_append]
    refine ⟨S.nd, by simp, fun a ha b hb => ?_⟩
    rw [List.mem_singleton.mp hb]
    rintro rfl
    exact hD ha
  · rcases List.mem_append.mp ha with q | q
    · exact S.sep a q z
    · rw [List.mem_singleton.mp q] at z; exact hF z
  · by_cases hn : n < ρ.length
    · rw [List.getElem?_append_left hn] at h1
      rw [List.getElem?_append_left (by rw [← S.len]; exact hn)] at h2
      exact (S.obj n a w h1 h2).mono1 ⟨fun _ h => h, fun _ _ _ => rfl, List.prefix_append _ _⟩ rfl
    · have hn' : ρ.length ≤ n := Nat.le_of_not_lt hn
      rw [List.getElem?_append_right hn'] at h1
      rw [List.getElem?_append_right (by rw [← S.len]; exact hn'), ← S.len] at h2
      cases k : n - ρ.length with
      | zero =>
        rw [k] at h1 h2
        cases h1; cases h2
        exact hu
      | succ j => rw [k] at h1; simp at h1
/-- a dict is walked from now on -/
theorem SR.wk (S : SR B F ρ M H) {n : Nat} {a : Addr} {kvs : List (Ky × D)} {kws : List (Key × V)} (o : Obj) (hn : ρ[n]? = some a) (hM : M[n]? = some (.dct kvs)) (hH : H a = some (.dK kws)) :
    SR B F ρ (M.set n (.dwk kvs)) (upd H a (.frz o (.dK kws))) ∧ Ext F ρ H F ρ (upd H a (.frz o (.dK kws))) := by
  obtain ⟨kws', h1, h2, h3⟩ := S.obj n a _ hn hM
  rw [hH] at h1; cases h1
  exact S.st (o := .frz o (.dK kws)) (u := .dwk kvs) hn (fun w v q => by rw [hH] at q; cases q) ⟨o, kws, upd_same, h2, RDs.mono0 (Ext0.at_ S hn) _ _ h3⟩
/-- .. and no more -/
theorem SR.uw (S : SR B F ρ M H) {n : Nat} {a : Addr} {kvs : List (Ky × D)} (hn : ρ[n]? = some a) (hM : M[n]? = some (.dwk kvs)) : ∃ o kws, H a = some (.frz o (.dK kws)) ∧
    SR B F ρ (M.set n (.dct kvs)) (upd H a (.dK kws)) := by
  obtain ⟨o, kws, h1, h2, h3⟩ := S.obj n a _ hn hM
  exact ⟨o, kws, h1, (S.st0 (o := .dK kws) (u := .dct kvs) hn ⟨kws, upd_same, h2, RDs.mono0 (Ext0.at_ S hn) _ _ h3⟩).1⟩
theorem Ext.thaw (e : Ext F ρ H F' ρ' H') {a : Addr} {o : HO} (ha : a ∈ ρ') (hn : ∀ w v, H a ≠ some (.frz w v)) (hF : ∀ b ∈ ρ', ¬ F' b) : Ext F ρ H F' ρ' (upd H' a o) :=
  ⟨⟨e.s, e.f, fun b q nb => by
    by_cases hb : b = a
    · subst hb
      rcases e.n b ha with z | z
      · exact absurd z nb
      · exact absurd z q
    · rw [upd_ne hb]; exact e.h b q nb, e.r, e.n, e.g⟩, fun b w v q => by rw [upd_ne (by rintro rfl; exact hn w v q)]; exact e.z b w v q⟩
end
/-! ### lists of data -/
section
variable {B : Bd} {F F' F1 : Addr → Prop} {ρ ρ' ρ1 : List Addr} {H H' H1 : Hp} {M M' : MH}
theorem RDs.length : ∀ {ds : List D} {vs : List V}, RDs B F ρ H ds vs → ds.length = vs.length
  | [], vs, h => by simp only [RDs] at h; subst h; rfl
  | d :: ds, vs, h => by
    simp only [RDs] at h
    obtain ⟨v, ws, rfl, _, h3⟩ := h
    simp [RDs.length h3]
theorem RDs.cons {d : D} {v : V} {ds : List D} {vs : List V} (h : RD B F ρ H d v) (t : RDs B F ρ H ds vs) : RDs B F ρ H (d :: ds) (v :: vs) := by
  simp only [RDs]; exact ⟨v, vs, rfl, h, t⟩
theorem RDs.nil : RDs B F ρ H [] [] := by simp only [RDs]
theorem RDs.append : ∀ {ds es : List D} {vs ws : List V}, RDs B F ρ H ds vs → RDs B F ρ H es ws → RDs B F ρ H (ds ++ es) (vs ++ ws)
  | [], es, vs, ws, h, t => by simp only [RDs] at h; subst h; exact t
  | d :: ds, es, vs, ws, h, t => by
    simp only [RDs] at h
    obtain ⟨v, us, rfl, h2, h3⟩ := h
    exact RDs.cons h2 (RDs.append h3 t)
theorem RDs.get : ∀ {ds : List D} {vs : List V} {i : Nat} {d : D}, RDs B F ρ H ds vs → ds[i]? = some d → ∃ v, vs[i]? = some v ∧ RD B F ρ H d v
  | [], vs, i, d, h, e => by simp at e
  | d :: ds, vs, i, d', h, e => by
    simp only [RDs] at h
    obtain ⟨v, ws, rfl, h2, h3⟩ := h
    cases i with
    | zero => simp at e; subst e; exact ⟨v, rfl, h2⟩
    | succ i => simp at e; simpa using RDs.get (i := i) h3 e
theorem RDs.take : ∀ {ds : List D} {vs : List V} (n : Nat), RDs B F ρ H ds vs → RDs B F ρ H (ds.take n) (vs.take n)
  | [], vs, n, h => by simp only [RDs] at h; subst h; simp [RDs]
  | d :: ds, vs, n, h => by
    simp only [RDs] at h
    obtain ⟨v, ws, rfl, h2, h3⟩ := h
    cases n with
    | zero => simp [RDs]
    | succ n => simp only [List.take_succ_cons]; exact RDs.cons h2 (RDs.take n h3)
theorem RDs.drop : ∀ {ds : List D} {vs : List V} (n : Nat), RDs B F ρ H ds vs → RDs B F ρ H (ds.drop n) (vs.drop n)
  | [], vs, n, h => by simp only [RDs] at h; subst h; simp [RDs]
  | d :: ds, vs, n, h => by
    cases n with
    | zero => exact h
    | succ n =>
      simp only [RDs] at h
      obtain ⟨v, ws, rfl, h2, h3⟩ := h
      simp only [List.drop_succ_cons]; exact RDs.drop n h3
theorem RDs.set : ∀ {ds : List D} {vs : List V} {d : D} {v : V} (i : Nat), RDs B F ρ H ds vs → RD B F ρ H d v → RDs B F ρ H (ds.set i d) (vs.set i v)
  | [], vs, d, v, i, h, q => by simp only [RDs] at h; subst h; simp [RDs]
  | e :: ds, vs, d, v, i, h, q => by
    simp only [RDs] at h
    obtain ⟨u, ws, rfl, h2, h3⟩ := h
    cases i with
    | zero => simp only [List.set_cons_zero]; exact RDs.cons q h3
    | succ i => simp only [List.set_cons_succ]; exact RDs.cons h2 (RDs.set i h3 q)
mutual
theorem RD.nr : ∀ {d : D} {v : V}, RD B F ρ H d v → nr ρ.length d = true
  | .non, v, h => by simp [Fg.nr]
  | .bl _, v, h => by simp [Fg.nr]
  | .int _, v, h => by simp [Fg.nr]
  | .str _, v, h => by simp [Fg.nr]
  | .tup ds, v, h => by simp only [RD] at h; obtain ⟨a, vs, h1, h2, h3⟩ := h; simp only [Fg.nr]; exact RDs.nr h3
  | .lst ds, v, h => by simp only [RD] at h; obtain ⟨a, vs, h1, h2, h3⟩ := h; simp only [Fg.nr]; exact RDs.nr h3
  | .dct ks ds, v, h => by simp only [RD] at h; obtain ⟨a, vs, h1, h2, _, h3⟩ := h; simp only [Fg.nr]; exact RDs.nr h3
  | .ref n, v, h => by
    simp only [RD] at h; obtain ⟨a, h1, h2⟩ := h; simp only [Fg.nr]
    obtain ⟨q, _⟩ := List.getElem?_eq_some_iff.mp h1
    exact decide_eq_true q
theorem RDs.nr : ∀ {ds : List D} {vs : List V}, RDs B F ρ H ds vs → nrs ρ.length ds = true
  | [], vs, h => by simp [nrs]
  | d :: ds, vs, h => by
    simp only [RDs] at h
    obtain ⟨v, ws, rfl, h2, h3⟩ := h
    simp only [nrs, RD.nr h2, RDs.nr h3, Bool.and_self]
end
mutual
theorem RD.cut (hp : ρ <+: ρ') : ∀ {d : D} {v : V}, Fg.nr ρ.length d = true → RD B F ρ' H d v → RD B F ρ H d v
  | .non, v, _, h => h
  | .bl _, v, _, h => h
  | .int _, v, _, h => h
  | .str _, v, _, h => h
  | .tup ds, v, q, h => by
    simp only [Fg.nr] at q; simp only [RD] at h ⊢
    obtain ⟨a, vs, h1, h2, h3⟩ := h
    exact ⟨a, vs, h1, h2, RDs.cut hp q h3⟩
  | .lst ds, v, q, h => by
    simp only [Fg.nr] at q; simp only [RD] at h ⊢
    obtain ⟨a, vs, h1, h2, h3⟩ := h
    exact ⟨a, vs, h1, h2, RDs.cut hp q h3⟩
  | .dct ks ds, v, q, h => by
    simp only [Fg.nr] at q; simp only [RD] at h ⊢
    obtain ⟨a, vs, h1, h2, h4, h3⟩ := h
    exact ⟨a, vs, h1, h2, h4, RDs.cut hp q h3⟩
  | .ref n, v, q, h => by
    simp only [Fg.nr] at q; simp only [RD] at h ⊢
    obtain ⟨a, h1, h2⟩ := h
    obtain ⟨t, rfl⟩ := hp
    rw [List.getElem?_append_left (of_decide_eq_true q)] at h1
    exact ⟨a, h1, h2⟩
theorem RDs.cut (hp : ρ <+: ρ') : ∀ {ds : List D} {vs : List V}, nrs ρ.length ds = true → RDs B F ρ' H ds vs → RDs B F ρ H ds vs
  | [], vs, _, h => h
  | d :: ds, vs, q, h => by
    simp only [nrs, Bool.and_eq_true] at q; simp only [RDs] at h ⊢
    obtain ⟨v, ws, rfl, h2, h3⟩ := h
    exact ⟨v, ws, rfl, RD.cut hp q.1 h2, RDs.cut hp q.2 h3⟩
end
theorem MR.cut (hp : ρ <+: ρ') {a : Addr} {F0 : Addr → Prop} {H0 : Hp} {a0 : Addr} : ∀ {o : MO}, MR B F0 ρ H0 o a0 → MR B F ρ' H o a → MR B F ρ H o a
  | .lst ds, ⟨_, _, k⟩, ⟨vs, h1, h2⟩ => ⟨vs, h1, RDs.cut hp (RDs.nr k) h2⟩
  | .dct kvs, ⟨_, _, _, k⟩, ⟨kws, h1, h2, h3⟩ => ⟨kws, h1, h2, RDs.cut hp (RDs.nr k) h3⟩
  | .dwk kvs, ⟨_, _, _, _, k⟩, ⟨o, kws, h1, h2, h3⟩ => ⟨o, kws, h1, h2, RDs.cut hp (RDs.nr k) h3⟩
  | .ins c fs, ⟨_, _, _, _, _, _, k⟩, ⟨C, dx, fws, h0, h1, h2, h3⟩ => ⟨C, dx, fws, h0, h1, h2, RDs.cut hp (RDs.nr k) h3⟩
/-- behind a call: what was made in it is let go -/
theorem SR.cut (S : SR B F ρ M H) (S' : SR B F' ρ' M' H') (e : Ext F ρ H F' ρ' H') (hm : M'.take M.length = M) : SR B F' ρ M H' where
  len := S.len
  nd := S.nd
  sep := fun a ha => S'.sep a (e.r.subset ha)
  fok := S'.fok
  obj := fun n a o h1 h2 => by
    have m' : M'[n]? = some o := by
      rw [← hm] at h2
      rw [List.getElem?_take] at h2
      split at h2
      · exact h2
      · cases h2
    exact MR.cut e.r (S.obj n a o h1 h2) (S'.obj n a o (e.at h1) m')
theorem Ext.cut (e : Ext F ρ H F' ρ' H') : Ext F ρ H F' ρ H' := ⟨⟨e.s, e.f, e.h, List.prefix_refl _, fun _ h => .inl h, e.g⟩, e.z⟩
end
end Fg

end
section
set_option Elab.async false
set_option linter.all false
set_option maxRecDepth 100000
set_option autoImplicit false
namespace Fg
open PySem L2

/-! ### what is wanted behind a run -/
def Thw (th : Addr → Prop) (H H' : Hp) : Prop := H' = H ∨ ∃ a o kvs, th a ∧ H a = some (.frz o (.dK kvs)) ∧ H' = upd H a (.dK kvs)
abbrev XS := Value → Option Addr → St → Hp → Prop
/-- what is wanted of an exception; what may be written again behind a walk -/
structure Gx where
  e : XS
  th : Addr → Prop
  cl : ∀ cv x σ H H', Thw th H H' → e cv x σ H' → e cv x σ H
def PostG {α β : Type} (rel : (Addr → Prop) → List Addr → Hp → α → β → Prop) (B : Bd) (r : R α) (F : Addr → Prop) (ρ : List Addr) (H : Hp) (Q : β → Hp → Prop) (E : XK) : Prop :=
  match r with
  | .ok d M' => ∀ F' ρ' H' v, Ext F ρ H F' ρ' H' → SR B F' ρ' M' H' → rel F' ρ' H' d v → Q v H'
  | .exc c M' => ∀ F' ρ' H' cv x, Ext F ρ H F' ρ' H' → SR B F' ρ' M' H' → B.exc c cv → E cv x H'
  | .bad => False
abbrev Post (B : Bd) := PostG (RD B) B
abbrev PostL (B : Bd) := PostG (RDs B) B
section
variable {B : Bd} {F F' F1 : Addr → Prop} {ρ ρ' ρ1 : List Addr} {H H' H1 : Hp} {M M' : MH} {E : XK}
theorem PostG.weak {α β : Type} {rel : (Addr → Prop) → List Addr → Hp → α → β → Prop} {r : R α} {Q : β → Hp → Prop} (e : Ext F ρ H F1 ρ1 H1) (h : PostG rel B r F ρ H Q E) : PostG rel B r F1 ρ1 H1 Q E := by
  cases r with
  | ok d M' => exact fun F' ρ' H' v e' S r => h F' ρ' H' v (e.trans e') S r
  | exc c M' => exact fun F' ρ' H' cv x e' S r => h F' ρ' H' cv x (e.trans e') S r
  | bad => exact h
theorem PostG.imp {α β : Type} {rel : (Addr → Prop) → List Addr → Hp → α → β → Prop} {r : R α} {Q Q' : β → Hp → Prop} (h : PostG rel B r F ρ H Q E) (k : ∀ v H', Q v H' → Q' v H') : PostG rel B r F ρ H Q' E := by
  cases r with
  | ok d M' => exact fun F' ρ' H' v e' S r => k _ _ (h F' ρ' H' v e' S r)
  | exc c M' => exact h
  | bad => exact h
theorem PostG.bind {α β α' β' : Type} {rel : (Addr → Prop) → List Addr → Hp → α → β → Prop} {rel' : (Addr → Prop) → List Addr → Hp → α' → β' → Prop} {x : R α} {f : α → MH → R α'} {Q : β' → Hp → Prop} (h : PostG rel' B (x.bind f) F ρ H Q E) :
    PostG rel B x F ρ H (fun v H' => ∃ d M' F' ρ', Ext F ρ H F' ρ' H' ∧ SR B F' ρ' M' H' ∧ rel F' ρ' H' d v ∧ PostG rel' B (f d M') F' ρ' H' Q E) E := by
  cases x with
  | ok d M' => exact fun F' ρ' H' v e S r => ⟨d, M', F', ρ', e, S, r, PostG.weak e h⟩
  | exc c M' => exact h
  | bad => exact h
theorem PostG.run {α β : Type} {rel : (Addr → Prop) → List Addr → Hp → α → β → Prop} {d : α} {Q : β → Hp → Prop} {v : β} (h : PostG rel B (.ok d M) F ρ H Q E) (S : SR B F ρ M H) (r : rel F ρ H d v) : Q v H :=
  h F ρ H v S.refl S r
end

/-! ### the names' values -/
structure RS (B : Bd) (F : Addr → Prop) (ρ : List Addr) (H : Hp) (σD : Sg) (σ : St) : Prop where
  len : σ.length = σD.length
  get : ∀ (i : Nat) (d : D), σD[i]? = some (some d) → ∃ v, σ[i]? = some (some v) ∧ RD B F ρ H d v
section
variable {B : Bd} {F F' F1 : Addr → Prop} {ρ ρ' ρ1 : List Addr} {H H' H1 : Hp} {M M' : MH} {σD : Sg} {σ : St}
theorem RS.mono (e : Ext F ρ H F' ρ' H') (h : RS B F ρ H σD σ) : RS B F' ρ' H' σD σ :=
  ⟨h.len, fun i d q => let ⟨v, h1, h2⟩ := h.get i d q; ⟨v, h1, RD.mono e d v h2⟩⟩
theorem RS.set (h : RS B F ρ H σD σ) {d : D} {v : V} (r : RD B F ρ H d v) (i : Nat) : RS B F ρ H (σD.set i (some d)) (σ.set i (some v)) := by
  refine ⟨by simp [h.len], fun j d' q => ?_⟩
  rw [List.getElem?_set] at q ⊢
  split at q
  · rename_i e
    split at q
    · rename_i l
      cases q
      refine ⟨v, ?_, r⟩
      rw [if_pos e, if_pos (by rw [h.len]; exact l)]
    · cases q
  · rename_i e
    rw [if_neg e]
    exact h.get j d' q
end

/-! ### the readings -/
def T (B : Bd) (Φ : Fns) (E : Gx) (c : Fg.E) : TE := fun σ H Q => ∃ (σD : Sg) (M : MH) (F : Addr → Prop) (ρ : List Addr),
  SR B F ρ M H ∧ RS B F ρ H σD σ ∧ Post B (ev Φ c σD M) F ρ H Q (fun cv x H' => E.e cv x σ H')
def TB (B : Bd) (Φ : Fns) (E : Gx) (c : Fg.E) : TT := fun σ H Q => T B Φ E c σ H fun v H' => ∃ b, v = .bl b ∧ Q b H'
def TL (B : Bd) (Φ : Fns) (E : Gx) (c : Es) : TA := fun σ H Q => ∃ (σD : Sg) (M : MH) (F : Addr → Prop) (ρ : List Addr),
  SR B F ρ M H ∧ RS B F ρ H σD σ ∧ PostL B (evs Φ c σD M) F ρ H Q (fun cv x H' => E.e cv x σ H')
def TP (B : Bd) (Φ : Fns) (E : Gx) (c : O) : TO := fun σ H Q => ∃ (σD : Sg) (M : MH) (F : Addr → Prop) (ρ : List Addr),
  SR B F ρ M H ∧ RS B F ρ H σD σ ∧ PostG (fun _ _ _ (a b : Option Int) => a = b) B (evo Φ c σD M) F ρ H Q (fun cv x H' => E.e cv x σ H')

section
variable {B : Bd} {Φ : Fns} {E : Gx} {F F' F1 : Addr → Prop} {ρ ρ' ρ1 : List Addr} {H H' H1 : Hp} {M M' : MH} {σD : Sg} {σ : St} {Q : VK}

theorem T.one {a : Fg.E} {g : D → MH → R D} {W : V → Hp → Prop} {X : XK} (S : SR B F ρ M H) (r : RS B F ρ H σD σ) (hX : X = fun cv x H' => E.e cv x σ H') (h : Post B ((ev Φ a σD M).bind g) F ρ H Q X)
    (k : ∀ x M1 F1 ρ1 H1 v, Ext F ρ H F1 ρ1 H1 → SR B F1 ρ1 M1 H1 → RS B F1 ρ1 H1 σD σ → RD B F1 ρ1 H1 x v → Post B (g x M1) F1 ρ1 H1 Q X → W v H1) : T B Φ E a σ H W := by
  subst hX
  refine ⟨σD, M, F, ρ, S, r, PostG.imp (PostG.bind (rel := RD B) h) fun v H1 ⟨x, M1, F1, ρ1, e, S1, rx, h1⟩ => ?_⟩
  exact k x M1 F1 ρ1 H1 v e S1 (r.mono e) rx h1
theorem T.two {a b : Fg.E} {g : D → D → MH → R D} {W : V → V → Hp → Prop} {X : XK} (S : SR B F ρ M H) (r : RS B F ρ H σD σ) (hX : X = fun cv x H' => E.e cv x σ H')
    (h : Post B ((ev Φ a σD M).bind fun x M1 => (ev Φ b σD M1).bind fun y M2 => g x y M2) F ρ H Q X)
    (k : ∀ x y M2 F2 ρ2 H2 v w, SR B F2 ρ2 M2 H2 → RS B F2 ρ2 H2 σD σ → RD B F2 ρ2 H2 x v → RD B F2 ρ2 H2 y w → Post B (g x y M2) F2 ρ2 H2 Q X → W v w H2) :
    T B Φ E a σ H fun v H1 => T B Φ E b σ H1 fun w H2 => W v w H2 := by
  refine T.one S r hX h fun x M1 F1 ρ1 H1 v e1 S1 r1 rx h1 => ?_
  refine T.one S1 r1 hX h1 fun y M2 F2 ρ2 H2 w e2 S2 r2 ry h2 => ?_
  exact k x y M2 F2 ρ2 H2 v w S2 r2 (RD.mono e2 _ _ rx) ry h2
theorem TL.one {a : Es} {g : List D → MH → R D} {W : List V → Hp → Prop} {X : XK} (S : SR B F ρ M H) (r : RS B F ρ H σD σ) (hX : X = fun cv x H' => E.e cv x σ H') (h : Post B ((evs Φ a σD M).bind g) F ρ H Q X)
    (k : ∀ x M1 F1 ρ1 H1 v, Ext F ρ H F1 ρ1 H1 → SR B F1 ρ1 M1 H1 → RS B F1 ρ1 H1 σD σ → RDs B F1 ρ1 H1 x v → Post B (g x M1) F1 ρ1 H1 Q X → W v H1) : TL B Φ E a σ H W := by
  subst hX
  refine ⟨σD, M, F, ρ, S, r, PostG.imp (PostG.bind (rel := RDs B) h) fun v H1 ⟨x, M1, F1, ρ1, e, S1, rx, h1⟩ => ?_⟩
  exact k x M1 F1 ρ1 H1 v e S1 (r.mono e) rx h1

/-! ### names, constants -/
theorem sim_v {i : Nat} (h : T B Φ E (.v i) σ H Q) : tVar i σ H Q := by
  obtain ⟨σD, M, F, ρ, S, r, h⟩ := h
  simp only [ev] at h
  split at h
  · rename_i d hd
    obtain ⟨v, h1, h2⟩ := r.get _ _ hd
    exact ⟨v, h1, PostG.run h S h2⟩
  · exact h.elim
/-- a datum that is a value by itself -/
def scl : D → Option V
  | .non => some .non
  | .bl b => some (.bl b)
  | .int i => some (.int i)
  | .str x => some (.str x)
  | _ => none
theorem scl_rd {d : D} {v : V} (h : scl d = some v) : RD B F ρ H d v := by
  cases d <;> simp only [scl] at h <;> first | (cases h; simp only [RD]) | cases h
theorem sim_k {d : D} {v : V} (hv : scl d = some v) (h : T B Φ E (.k d) σ H Q) : tC v σ H Q := by
  obtain ⟨σD, M, F, ρ, S, r, h⟩ := h
  simp only [ev] at h
  exact PostG.run h S (scl_rd hv)

/-! ### displays -/
theorem newl_sim {fz : Bool} {ds : List D} {vs : List V} {X : XK} (S : SR B F ρ M H) (h : Post B (newl fz ds M) F ρ H Q X) (r : RDs B F ρ H ds vs) : ∀ p, H p = none → Q (.ref p) (upd H p (.lst vs)) := by
  intro p hp
  cases fz with
  | true =>
    simp only [newl, if_true] at h
    obtain ⟨S', e⟩ := S.fz hp (.lst vs)
    refine h _ _ _ _ e S' ?_
    simp only [RD]
    exact ⟨p, vs, rfl, .inl ⟨.inr rfl, .inl upd_same⟩, RDs.mono e _ _ r⟩
  | false =>
    simp only [newl, Bool.false_eq_true, if_false] at h
    have e0 : Ext F ρ H F (ρ ++ [p]) (upd H p (.lst vs)) := ⟨⟨S.sep, fun _ q => q, fun a q _ => upd_ne (by rintro rfl; exact q hp), List.prefix_append _ _, fun a q => by
      rcases List.mem_append.mp q with q | q
      · exact .inl q
      · rw [List.mem_singleton.mp q]; exact .inr hp, fun _ q => .inl q⟩, fun b w u q => by rw [upd_ne (by rintro rfl; rw [hp] at q; cases q)]; exact q⟩
    obtain ⟨S', e⟩ := S.lv (o := .lst vs) (u := .lst ds) hp ⟨vs, upd_same, RDs.mono e0 _ _ r⟩
    refine h _ _ _ _ e S' ?_
    simp only [RD]
    refine ⟨p, ?_, rfl⟩
    rw [← S.len, List.getElem?_append_right (Nat.le_refl _), Nat.sub_self]; rfl
theorem tup_sim {ds : List D} {vs : List V} {X : XK} (S : SR B F ρ M H) (h : Post B (.ok (.tup ds) M) F ρ H Q X) (r : RDs B F ρ H ds vs) : ∀ p, H p = none → Q (.ref p) (upd H p (.tup vs)) := by
  intro p hp
  obtain ⟨S', e⟩ := S.fz hp (.tup vs)
  refine h _ _ _ _ e S' ?_
  simp only [RD]
  exact ⟨p, vs, rfl, .inl ⟨.inr rfl, .inl upd_same⟩, RDs.mono e _ _ r⟩
theorem sim_tup {es : Es} (hz : ∀ {σ : Sg} {M : MH} {ds M'}, evs Φ es σ M = .ok ds M' → ds.length ≤ sizeLine) (h : T B Φ E (.tup es) σ H Q) : tTup (TL B Φ E es) σ H Q := by
  obtain ⟨σD, M, F, ρ, S, r, h⟩ := h
  simp only [ev] at h
  refine ⟨σD, M, F, ρ, S, r, ?_⟩
  cases hx : evs Φ es σD M with
  | ok ds M1 =>
    rw [hx] at h
    intro F1 ρ1 H1 vs e S1 rv
    refine ⟨by rw [← RDs.length rv]; exact hz hx, tup_sim (X := fun cv x H' => E.e cv x σ H') S1 (PostG.weak e h) rv⟩
  | exc c M1 => rw [hx] at h; exact h
  | bad => rw [hx] at h; exact h
theorem sim_lst {fz : Bool} {es : Es} (hz : ∀ {σ : Sg} {M : MH} {ds M'}, evs Φ es σ M = .ok ds M' → ds.length ≤ sizeLine) (h : T B Φ E (.lst fz es) σ H Q) : tLst (TL B Φ E es) σ H Q := by
  obtain ⟨σD, M, F, ρ, S, r, h⟩ := h
  simp only [ev] at h
  refine ⟨σD, M, F, ρ, S, r, ?_⟩
  cases hx : evs Φ es σD M with
  | ok ds M1 =>
    rw [hx] at h
    intro F1 ρ1 H1 vs e S1 rv
    refine ⟨by rw [← RDs.length rv]; exact hz hx, newl_sim (X := fun cv x H' => E.e cv x σ H') S1 (PostG.weak e h) rv⟩
  | exc c M1 => rw [hx] at h; exact h
  | bad => rw [hx] at h; exact h
theorem sim_dct0 (h : T B Φ E .dct0 σ H Q) : tDNewK σ H Q := by
  obtain ⟨σD, M, F, ρ, S, r, h⟩ := h
  simp only [ev] at h
  intro p hp
  obtain ⟨S', e⟩ := S.lv (o := .dK []) (u := .dct []) hp ⟨[], upd_same, rfl, by simp [RDs]⟩
  refine h _ _ _ _ e S' ?_
  simp only [RD]
  refine ⟨p, ?_, rfl⟩
  rw [← S.len, List.getElem?_append_right (Nat.le_refl _), Nat.sub_self]; rfl
theorem sim_nil {Q : List V → Hp → Prop} (h : TL B Φ E .nil σ H Q) : tNil σ H Q := by
  obtain ⟨σD, M, F, ρ, S, r, h⟩ := h
  simp only [evs] at h
  exact PostG.run h S RDs.nil
theorem sim_cons {e : Fg.E} {es : Es} {Q : List V → Hp → Prop} (h : TL B Φ E (.cons e es) σ H Q) : tCons (T B Φ E e) (TL B Φ E es) σ H Q := by
  obtain ⟨σD, M, F, ρ, S, r, h⟩ := h
  simp only [evs] at h
  refine ⟨σD, M, F, ρ, S, r, PostG.imp (PostG.bind (rel := RD B) h) fun v H1 ⟨x, M1, F1, ρ1, e1, S1, rx, h1⟩ => ?_⟩
  refine ⟨σD, M1, F1, ρ1, S1, r.mono e1, PostG.imp (PostG.bind (rel := RDs B) h1) fun vs H2 ⟨xs, M2, F2, ρ2, e2, S2, rxs, h2⟩ => ?_⟩
  exact PostG.run h2 S2 (RDs.cons (RD.mono e2 _ _ rx) rxs)
theorem evs_len {es : Es} : ∃ n : Nat, ∀ {σ : Sg} {M : MH} {ds : List D} {M' : MH}, evs Φ es σ M = .ok ds M' → ds.length = n := by
  cases es with
  | nil => exact ⟨0, fun h => by simp only [evs] at h; cases h; rfl⟩
  | cons e es =>
    obtain ⟨n, hn⟩ := evs_len (es := es)
    refine ⟨n + 1, fun {σ M ds M'} h => ?_⟩
    simp only [evs] at h
    cases h1 : ev Φ e σ M with
    | ok x M1 =>
      rw [h1] at h
      simp only [R.bind_ok] at h
      cases h2 : evs Φ es σ M1 with
      | ok xs M2 =>
        rw [h2] at h
        simp only [R.bind_ok] at h
        cases h
        simp [hn h2]
      | exc c M2 => rw [h2] at h; cases h
      | bad => rw [h2] at h; cases h
    | exc c M1 => rw [h1] at h; cases h
    | bad => rw [h1] at h; cases h

/-! ### and, or, not, if -/
theorem sim_and {a b : Fg.E} (h : T B Φ E (.and a b) σ H Q) : tAndV (T B Φ E a) (T B Φ E b) σ H Q := by
  obtain ⟨σD, M, F, ρ, S, r, h⟩ := h
  simp only [ev] at h
  refine T.one S r rfl h fun x M1 F1 ρ1 H1 v e1 S1 r1 rx h1 => ?_
  split at h1
  · simp only [RD] at rx; subst rx
    exact ⟨true, rfl, by rw [if_pos rfl]; exact ⟨σD, M1, F1, ρ1, S1, r1, h1⟩⟩
  · simp only [RD] at rx; subst rx
    exact ⟨false, rfl, by rw [if_neg Bool.false_ne_true]; exact PostG.run h1 S1 (by simp only [RD])⟩
  · exact h1.elim
theorem sim_or {a b : Fg.E} (h : T B Φ E (.or a b) σ H Q) : tOrV (T B Φ E a) (T B Φ E b) σ H Q := by
  obtain ⟨σD, M, F, ρ, S, r, h⟩ := h
  simp only [ev] at h
  refine T.one S r rfl h fun x M1 F1 ρ1 H1 v e1 S1 r1 rx h1 => ?_
  split at h1
  · simp only [RD] at rx; subst rx
    exact ⟨true, rfl, by rw [if_pos rfl]; exact PostG.run h1 S1 (by simp only [RD])⟩
  · simp only [RD] at rx; subst rx
    exact ⟨false, rfl, by rw [if_neg Bool.false_ne_true]; exact ⟨σD, M1, F1, ρ1, S1, r1, h1⟩⟩
  · exact h1.elim
theorem sim_not {a : Fg.E} (h : T B Φ E (.not a) σ H Q) : tNotV (T B Φ E a) σ H Q := by
  obtain ⟨σD, M, F, ρ, S, r, h⟩ := h
  simp only [ev] at h
  refine T.one S r rfl h fun x M1 F1 ρ1 H1 v e1 S1 r1 rx h1 => ?_
  split at h1
  · simp only [RD] at rx; subst rx
    exact ⟨_, rfl, PostG.run h1 S1 (by simp only [RD])⟩
  · exact h1.elim
theorem TB.imp {c : Fg.E} {Q Q' : Bool → Hp → Prop} (h : TB B Φ E c σ H Q) (k : ∀ b H', Q b H' → Q' b H') : TB B Φ E c σ H Q' := by
  obtain ⟨σD, M, F, ρ, S, r, h⟩ := h
  exact ⟨σD, M, F, ρ, S, r, PostG.imp h fun v H' ⟨b, e, q⟩ => ⟨b, e, k b H' q⟩⟩
theorem simB_and {a b : Fg.E} {Q : Bool → Hp → Prop} (h : TB B Φ E (.and a b) σ H Q) : tAnd (TB B Φ E a) (TB B Φ E b) σ H Q := by
  have h' := sim_and h
  obtain ⟨σD, M, F, ρ, S, r, h⟩ := h'
  refine ⟨σD, M, F, ρ, S, r, PostG.imp h fun v H' ⟨c, e, q⟩ => ⟨c, e, ?_⟩⟩
  cases c with
  | true => rw [if_pos rfl] at q ⊢; exact q
  | false => rw [if_neg Bool.false_ne_true] at q ⊢; obtain ⟨b, e, q⟩ := q; cases e; exact q
theorem simB_or {a b : Fg.E} {Q : Bool → Hp → Prop} (h : TB B Φ E (.or a b) σ H Q) : tOr (TB B Φ E a) (TB B Φ E b) σ H Q := by
  have h' := sim_or h
  obtain ⟨σD, M, F, ρ, S, r, h⟩ := h'
  refine ⟨σD, M, F, ρ, S, r, PostG.imp h fun v H' ⟨c, e, q⟩ => ⟨c, e, ?_⟩⟩
  cases c with
  | true => rw [if_pos rfl] at q ⊢; obtain ⟨b, e, q⟩ := q; cases e; exact q
  | false => rw [if_neg Bool.false_ne_true] at q ⊢; exact q
theorem simB_not {a : Fg.E} {Q : Bool → Hp → Prop} (h : TB B Φ E (.not a) σ H Q) : tNot (TB B Φ E a) σ H Q := by
  have h' := sim_not h
  obtain ⟨σD, M, F, ρ, S, r, h⟩ := h'
  refine ⟨σD, M, F, ρ, S, r, PostG.imp h fun v H' ⟨c, e, q⟩ => ⟨c, e, ?_⟩⟩
  obtain ⟨b, e, q⟩ := q; cases e; exact q
theorem sim_ife {c a b : Fg.E} (h : T B Φ E (.ife c a b) σ H Q) : tIf (TB B Φ E c) (T B Φ E a) (T B Φ E b) σ H Q := by
  obtain ⟨σD, M, F, ρ, S, r, h⟩ := h
  simp only [ev] at h
  refine T.one S r rfl h fun x M1 F1 ρ1 H1 v e1 S1 r1 rx h1 => ?_
  split at h1
  · simp only [RD] at rx; subst rx
    exact ⟨true, rfl, by dsimp only; rw [if_pos rfl]; exact ⟨σD, M1, F1, ρ1, S1, r1, h1⟩⟩
  · simp only [RD] at rx; subst rx
    exact ⟨false, rfl, by dsimp only; rw [if_neg Bool.false_ne_true]; exact ⟨σD, M1, F1, ρ1, S1, r1, h1⟩⟩
  · exact h1.elim

/-! ### how a thing looks -/
theorem vw_lst {d : D} {v : V} {ds : List D} (S : SR B F ρ M H) (r : RD B F ρ H d v) (h : vw M d = .lst ds) : ∃ a vs, v = .ref a ∧ SqL B.K H a vs ∧ RDs B F ρ H ds vs := by
  cases d with
  | lst xs => simp only [vw] at h; cases h; simp only [RD] at r; obtain ⟨a, vs, e, z, q⟩ := r; exact ⟨a, vs, e, z.sq, q⟩
  | ref n =>
    simp only [vw] at h
    split at h
    · rename_i xs hx
      cases h
      simp only [RD] at r
      obtain ⟨a, h1, h2⟩ := r
      obtain ⟨vs, h3, h4⟩ := S.obj n a _ h1 hx
      exact ⟨a, vs, h2, .inl (.inl h3), h4⟩
    · cases h
    · cases h
    · cases h
  | tup _ => simp only [vw] at h; cases h
  | dct _ _ => simp only [vw] at h; cases h
  | non => simp only [vw] at h; cases h
  | bl _ => simp only [vw] at h; cases h
  | int _ => simp only [vw] at h; cases h
  | str _ => simp only [vw] at h; cases h
theorem vw_tup {d : D} {v : V} {ds : List D} (S : SR B F ρ M H) (r : RD B F ρ H d v) (h : vw M d = .tup ds) : ∃ a vs, v = .ref a ∧ SqT B.K H a vs ∧ RDs B F ρ H ds vs := by
  cases d with
  | tup xs => simp only [vw] at h; cases h; simp only [RD] at r; obtain ⟨a, vs, e, z, q⟩ := r; exact ⟨a, vs, e, z.sq, q⟩
  | ref n =>
    simp only [vw] at h
    split at h <;> cases h
  | lst _ => simp only [vw] at h; cases h
  | dct _ _ => simp only [vw] at h; cases h
  | non => simp only [vw] at h; cases h
  | bl _ => simp only [vw] at h; cases h
  | int _ => simp only [vw] at h; cases h
  | str _ => simp only [vw] at h; cases h
/-- a dict that is read -/
def SqD (B : Bd) (H : Hp) (a : Addr) (kvs : List (Key × V)) : Prop := Rd H a (.dK kvs) ∨ B.dk a kvs
theorem zip_keys {α β : Type} : ∀ (ks : List α) (ds : List β), ks.length = ds.length → (ks.zip ds).map (·.1) = ks ∧ (ks.zip ds).map (·.2) = ds
  | [], [], _ => ⟨rfl, rfl⟩
  | k :: ks, d :: ds, h => by
    obtain ⟨a, b⟩ := zip_keys ks ds (by simpa using h)
    simp only [List.zip_cons_cons, List.map_cons, a, b, and_self]
  | [], _ :: _, h => by simp at h
  | _ :: _, [], h => by simp at h
theorem vw_dct {d : D} {v : V} {kds : List (Ky × D)} (S : SR B F ρ M H) (r : RD B F ρ H d v) (h : vw M d = .dct kds) : ∃ a kvs, v = .ref a ∧ SqD B H a kvs ∧ kvs.map (·.1) = kds.map (·.1) ∧ RDs B F ρ H (kds.map (·.2)) (kvs.map (·.2)) := by
  cases d with
  | dct ks ds =>
    simp only [vw] at h; cases h; simp only [RD] at r
    obtain ⟨a, kvs, e, z, q1, q2⟩ := r
    have hl : ks.length = ds.length := by rw [← q1, List.length_map, RDs.length q2, List.length_map]
    obtain ⟨z1, z2⟩ := zip_keys ks ds hl
    refine ⟨a, kvs, e, ?_, by rw [q1, z1], by rw [z2]; exact q2⟩
    rcases z with ⟨_, z⟩ | z
    · exact .inl z
    · exact .inr z
  | ref n =>
    simp only [vw] at h
    split at h
    · cases h
    · rename_i xs hx
      cases h
      simp only [RD] at r
      obtain ⟨a, h1, h2⟩ := r
      obtain ⟨kws, h3, h4, h5⟩ := S.obj n a _ h1 hx
      exact ⟨a, kws, h2, .inl (.inl h3), h4, h5⟩
    · rename_i xs hx
      cases h
      simp only [RD] at r
      obtain ⟨a, h1, h2⟩ := r
      obtain ⟨o, kws, h3, h4, h5⟩ := S.obj n a _ h1 hx
      exact ⟨a, kws, h2, .inl (.inr ⟨o, h3⟩), h4, h5⟩
    · cases h
  | tup _ => simp only [vw] at h; cases h
  | lst _ => simp only [vw] at h; cases h
  | non => simp only [vw] at h; cases h
  | bl _ => simp only [vw] at h; cases h
  | int _ => simp only [vw] at h; cases h
  | str _ => simp only [vw] at h; cases h
theorem look_val {k : Key} : ∀ {kds : List (Ky × D)} {kvs : List (Key × V)}, kvs.map (·.1) = kds.map (·.1) → RDs B F ρ H (kds.map (·.2)) (kvs.map (·.2)) →
    (∀ d, look kds k = some d → ∃ v, valV kvs k = some v ∧ RD B F ρ H d v) ∧ (look kds k = none → valV kvs k = none) ∧ ((look kds k).isSome = (valV kvs k).isSome)
  | [], kvs, h1, h2 => by
    have : kvs = [] := by cases kvs with | nil => rfl | cons _ _ => simp at h1
    subst this
    exact ⟨fun d h => by simp [look] at h, fun _ => by simp [valV], by simp [look, valV]⟩
  | (k', d') :: kds, kvs, h1, h2 => by
    cases kvs with
    | nil => simp at h1
    | cons p kvs =>
      obtain ⟨pk, pv⟩ := p
      simp only [List.map_cons, List.cons.injEq] at h1
      simp only [List.map_cons, RDs] at h2
      obtain ⟨v, ws, e, r1, r2⟩ := h2
      cases e
      obtain ⟨e1, e2⟩ := h1
      subst e1
      have ih := look_val (k := k) e2 r2
      by_cases hk : pk = k
      · subst hk
        simp only [look, valV, List.find?_cons, decide_true]
        exact ⟨fun d h => by cases h; exact ⟨_, rfl, r1⟩, fun h => by simp at h, rfl⟩
      · have hkd : decide (pk = k) = false := decide_eq_false hk
        simp only [look, valV, List.find?_cons, hkd] at ih ⊢
        exact ih

/-! ### operators -/
theorem small_ok {i : Int} (h : small i = true) : -(2 ^ 64) < i ∧ i < 2 ^ 64 := by
  simp only [small, decide_eq_true_eq] at h
  omega
def rStr : R2 := fun x y H Q => ∃ i j, x = .str i ∧ y = .str j ∧ i.length + j.length ≤ sizeLine ∧ Q (.str (i ++ j)) H
def rCatQ (K : W.Frag) : R2 := fun x y H Q => ∃ l b xs zs, x = .ref l ∧ y = .ref b ∧ SqL K H l xs ∧ SqL K H b zs ∧ xs.length + zs.length ≤ sizeLine ∧ ∀ p, H p = none → Q (.ref p) (upd H p (.lst (xs ++ zs)))
def rOp (K : W.Frag) : Op2 → R2
  | .add => fun x y H Q => rI0 (fun i j => .int (i + j)) x y H Q ∨ (rStr x y H Q ∨ (rCatQ K x y H Q ∨ rCatT K x y H Q))
  | .sub => rI0 fun i j => .int (i - j)
  | .mul => rI CMul fun i j => .int (i * j)
  | .fdiv => rI CDiv fun i j => .int (i / j)
  | .mod => rI (fun _ j => 0 < j) fun i j => .int (i % j)
  | .pow => rI CPow fun i j => .int (i ^ j.toNat)
theorem line_le : line ≤ sizeLine := by decide
theorem op2_sim {o : Op2} {fz : Bool} {x y : D} {v w : V} {X : XK} (S : SR B F ρ M H) (rx : RD B F ρ H x v) (ry : RD B F ρ H y w) (h : Post B (op2 o fz M x y) F ρ H Q X) : rOp B.K o v w H Q := by
  unfold op2 at h
  split at h
  · rename_i i j
    simp only [RD] at rx ry
    subst rx ry
    cases o with
    | add => simp only [num2] at h; exact .inl ⟨i, j, rfl, rfl, PostG.run h S (by simp only [RD])⟩
    | sub => simp only [num2] at h; exact ⟨i, j, rfl, rfl, PostG.run h S (by simp only [RD])⟩
    | mul =>
      simp only [num2] at h
      split at h
      · rename_i k hk
        split at hk
        · rename_i hs
          cases hk
          refine ⟨i, j, rfl, rfl, ?_, PostG.run h S (by simp only [RD])⟩
          simp only [Bool.or_eq_true] at hs
          rcases hs with hs | hs
          · exact .inl (small_ok hs)
          · exact .inr (small_ok hs)
        · cases hk
      · exact h.elim
    | fdiv =>
      simp only [num2] at h
      split at h
      · rename_i k hk
        split at hk
        · rename_i hs
          cases hk
          simp only [Bool.and_eq_true, decide_eq_true_eq] at hs
          exact ⟨i, j, rfl, rfl, ⟨hs.1, by have := hs.2; omega⟩, PostG.run h S (by simp only [RD])⟩
        · cases hk
      · exact h.elim
    | mod =>
      simp only [num2] at h
      split at h
      · rename_i k hk
        split at hk
        · rename_i hs
          cases hk
          exact ⟨i, j, rfl, rfl, of_decide_eq_true hs, PostG.run h S (by simp only [RD])⟩
        · cases hk
      · exact h.elim
    | pow =>
      simp only [num2] at h
      split at h
      · rename_i k hk
        split at hk
        · rename_i hs
          cases hk
          simp only [Bool.and_eq_true, decide_eq_true_eq] at hs
          exact ⟨i, j, rfl, rfl, ⟨hs.1, hs.2.1, hs.2.2⟩, PostG.run h S (by simp only [RD])⟩
        · cases hk
      · exact h.elim
  · rename_i a b
    simp only [RD] at rx ry
    subst rx ry
    cases o with
    | add =>
      simp only at h
      split at h
      · rename_i hl
        exact .inr (.inl ⟨a, b, rfl, rfl, Nat.le_trans (of_decide_eq_true hl) line_le, PostG.run h S (by simp only [RD])⟩)
      · exact h.elim
    | sub => exact h.elim
    | mul => exact h.elim
    | fdiv => exact h.elim
    | mod => exact h.elim
    | pow => exact h.elim
  · cases o with
    | add =>
      simp only at h
      split at h
      · rename_i xs ys hx hy
        split at h
        · rename_i hl
          obtain ⟨a, vs, rfl, q1, r1⟩ := vw_lst S rx hx
          obtain ⟨b, ws, rfl, q2, r2⟩ := vw_lst S ry hy
          refine .inr (.inr (.inl ⟨a, b, vs, ws, rfl, rfl, q1, q2, ?_, newl_sim S h (r1.append r2)⟩))
          rw [← RDs.length r1, ← RDs.length r2]
          exact Nat.le_trans (of_decide_eq_true hl) line_le
        · exact h.elim
      · rename_i xs ys hx hy
        split at h
        · rename_i hl
          simp only [Bool.and_eq_true, Bool.not_eq_true', decide_eq_true_eq] at hl
          cases x with
          | tup xs' =>
            simp only [vw] at hx; cases hx
            simp only [RD] at rx
            obtain ⟨a, vs, rfl, z1, r1⟩ := rx
            obtain ⟨b, ws, rfl, q2, r2⟩ := vw_tup S ry hy
            refine .inr (.inr (.inr ⟨a, b, vs, ws, rfl, rfl, z1.sq, q2, ?_, ?_, fun e => ?_, fun _ => tup_sim S h (r1.append r2)⟩))
            · rintro rfl
              have := RDs.length r1
              cases xs with
              | nil => simp at hl
              | cons _ _ => simp at this
            · rw [← RDs.length r1, ← RDs.length r2]
              exact Nat.le_trans hl.2 line_le
            · refine PostG.run h S ?_
              simp only [RD]
              refine ⟨a, vs, rfl, z1, ?_⟩
              have := r1.append r2
              rw [e, List.append_nil] at this
              exact this
          | ref n => simp only [vw] at hx; split at hx <;> cases hx
          | lst _ => simp only [vw] at hx; cases hx
          | dct _ _ => simp only [vw] at hx; cases hx
          | non => simp only [vw] at hx; cases hx
          | bl _ => simp only [vw] at hx; cases hx
          | int _ => simp only [vw] at hx; cases hx
          | str _ => simp only [vw] at hx; cases hx
        · exact h.elim
      · exact h.elim
    | sub => exact h.elim
    | mul => exact h.elim
    | fdiv => exact h.elim
    | mod => exact h.elim
    | pow => exact h.elim
theorem sim_op {o : Op2} {fz : Bool} {a b : Fg.E} (h : T B Φ E (.op o fz a b) σ H Q) : tOp (rOp B.K o) (T B Φ E a) (T B Φ E b) σ H Q := by
  obtain ⟨σD, M, F, ρ, S, r, h⟩ := h
  simp only [ev] at h
  exact T.two S r rfl h fun x y M2 F2 ρ2 H2 v w S2 _ rx ry h2 => op2_sim S2 rx ry h2
theorem sim_neg {a : Fg.E} (h : T B Φ E (.neg a) σ H Q) : tUn (rU fun i => .int (-i)) (T B Φ E a) σ H Q := by
  obtain ⟨σD, M, F, ρ, S, r, h⟩ := h
  simp only [ev] at h
  refine T.one S r rfl h fun x M1 F1 ρ1 H1 v e1 S1 r1 rx h1 => ?_
  split at h1
  · simp only [RD] at rx; subst rx
    exact ⟨_, rfl, PostG.run h1 S1 (by simp only [RD])⟩
  · exact h1.elim
end
end Fg

end
section
set_option Elab.async false
set_option linter.all false
set_option maxRecDepth 100000
set_option autoImplicit false
namespace Fg
open PySem PySem.Spec L2
/-! ### an exception under way, whatever its flight mark is -/
def Up (B : Heap) (l : List Env) (a : Addr) (C a0 : Value) (h : Heap) : Prop := B.StaysIn h ∧ B.get? a = none ∧ h.FunFrames B l ∧ ∃ fl, h.TracedAtW B a C a0 fl
theorem Up.of_fly {B h : Heap} {l : List Env} {a : Addr} {C a0 : Value} (x : Heap.FlyingW B l a C a0 h) : Up B l a C a0 h := ⟨x.1, x.2.1, x.2.2.1, _, x.2.2.2.at⟩
theorem Up.of_held {B h : Heap} {l : List Env} {a L : Addr} {C a0 : Value} (x : Heap.HeldW B l a C a0 L h) : Up B l a C a0 h := ⟨x.1, x.2.1, x.2.2.1, _, x.2.2.2⟩
theorem note_at {e : Value} {env env' : Env} (h : env.frame = env'.frame) : noteFrame e env = noteFrame e env' := by
  unfold noteFrame frameOf
  rw [h]
section
variable {M : Model} {A : Around} {E : Value → Shared → Prop} {s : Shared} {B : Heap} {env : Env} {outer : List Env} {L a : Addr} {C a0 : Value}
theorem Up.note {Q : Unit → Shared → Prop} (hfr : A.frames = some (env :: outer)) (hf : env.frame = some L) (up : Up B (env :: outer) a C a0 s.heap) (k : ∀ h', Heap.HeldW B (env :: outer) a C a0 L h' → s.heap.UpToSlots h' → Q () { s with heap := h' }) :
    wpAny M A (noteFrame (.ref a) env) Q E s := by
  obtain ⟨st, ne, hl, fl, oe, vs, T, oT, ts, q1, ⟨q2, q2'⟩, q3, q4, q5, q6, q7, q8, q9⟩ := up
  by_cases same : (fl == rawInt L) = true
  · have e : fl = rawInt L := by simpa using same
    subst e
    exact wpAny_noteFrame_againW hf ⟨oe, vs, T, oT, ts, q1, ⟨q2, q2'⟩, q3, q4, q5, q6, q7, q8, q9⟩ (k s.heap ⟨st, ne, hl, oe, vs, T, oT, ts, q1, ⟨q2, q2'⟩, q3, q4, q5, q6, q7, q8, q9⟩ (Heap.UpToSlots.refl _))
  · subst q2
    unfold noteFrame
    simp only [hf]
    refine wpAny_bind (wpAny_field q1 q3 q4 ?_)
    rw [if_pos (by simp)]
    refine wpAny_bind (wpAny_field q7 q8 q9 ?_)
    rw [if_neg same]
    refine wpAny_bind (wpAny_setField q7 q8 (Array.getElem?_eq_some_iff.mp q9).1 ?_)
    have oth : ∀ b, b ≠ T → (s.heap.update T (Obj.mapFields (·.setIfInBounds 3 Value.none))).get? b = s.heap.get? b := fun b hb => Heap.get?_update_other _ _ fun z => hb z.symm
    have rec_ : ∀ b o, s.heap.get? b = some o → (∀ vs, o.data ≠ .fields vs) → b ≠ T := fun b o hb hn z => by
      subst z; rw [q7] at hb; cases hb; exact hn ts q8
    refine wpAny_entryW (base := B) (a0 := a0) hfr ?_ hf ?_ ?_ ne q3 (Array.getElem?_eq_some_iff.mp q4).1 q2' fun h' nw => ?_
    · exact hl.of_keeps fun b o hb hn => ⟨o, by rw [oth b (rec_ b o hb hn), hb], rfl⟩
    · rw [oth a fun z => q6 z.symm]; exact q1
    · intro b o e
      rw [oth b (by rintro rfl; rw [q5] at e; cases e)]
      exact st b o e
    · obtain ⟨x1, x2, x3, x4⟩ := nw
      exact k h' ⟨x1, ne, x2, x3⟩ fun b o hb hn => x4 b o (by rw [oth b (rec_ b o hb hn), hb]) hn
theorem Up.leave {Q : Unit → Shared → Prop} (hfr : A.frames = some (env :: outer)) (hf : env.frame = some L) (up : Up B (env :: outer) a C a0 s.heap) (k : ∀ h', Heap.FlyingW B outer a C a0 h' → s.heap.UpToSlots h' → Q () { s with heap := h' }) :
    wpAny M A (leaving env (.ref a)) Q E s :=
  wpAny_bind (up.note hfr hf fun h4 held sm4 => wpAny_landsW held fun h5 fl sm5 => k h5 ⟨fl.1, fl.2.1, fl.2.2.1.2.2, fl.2.2.2⟩ (sm4.trans sm5))
end
end Fg

end
section
set_option Elab.async false
set_option linter.all false
set_option maxRecDepth 100000
set_option autoImplicit false
namespace Fg
open PySem PySem.Spec L2
open PyProof.Rows (AllBare envOfC)

theorem obj_there {P : Program} {w : World} {H : Hp} {h : Heap} {a : Addr} {o : HO} (x : ObjOk P w H h a o) : ∃ ob, h.get? a = some ob := by
  cases o with
  | lst xs => obtain ⟨_, _, _, _, e⟩ := x; exact ⟨_, e⟩
  | tup xs => obtain ⟨_, _, _, _, e, _⟩ := x; exact ⟨_, e⟩
  | dK kvs => obtain ⟨_, _, _, _, o, _, _, e, _⟩ := x; exact ⟨_, e⟩
  | dT kvs => obtain ⟨_, _, _, _, o, _, _, e, _⟩ := x; exact ⟨_, e⟩
  | set S n => obtain ⟨o, _, _, _, e, _⟩ := x; exact ⟨_, e⟩
  | ins C dx fs => obtain ⟨_, _, _, e, _⟩ := x; exact ⟨_, e⟩
  | own y => obtain ⟨_, e⟩ := x; exact ⟨_, e⟩
  | xd fs => obtain ⟨_, ⟨_, _, _, e, _⟩, _⟩ := x; exact ⟨_, e⟩
  | rng lo hi => obtain ⟨_, _, _, e⟩ := x; exact ⟨_, e⟩
  | frz ob u => obtain ⟨e, _⟩ := x; exact ⟨_, e⟩
  | tbl ps => exact ⟨_, (show h.get? a = some _ from x)⟩
  | met f y => exact ⟨_, (show h.get? a = some _ from x)⟩
  | ext φ => obtain ⟨_, ⟨_, e⟩, _⟩ := x; exact ⟨_, e⟩

/-! ### an exception under way -/
/-- all that is tracked, and all that stood in h₀ but at ex, lies in B; the frames aside -/
def Calm (B : Heap) (fr ex : List Addr) (H : Hp) (h₀ : Heap) : Prop := ∀ b, (H b ≠ none ∨ (∃ o, h₀.get? b = some o) ∧ b ∉ ex) → b ∉ fr → ∃ o, B.get? b = some o
theorem Calm.at {B h : Heap} {fr ex : List Addr} {H : Hp} {h₀ : Heap} (c : Calm B fr ex H h₀) (st : B.StaysIn h) {b : Addr} {o : Obj} (e : h.get? b = some o) (q : H b ≠ none ∨ (∃ o, h₀.get? b = some o) ∧ b ∉ ex) (hf : b ∉ fr) : B.get? b = some o := by
  obtain ⟨o', e'⟩ := c b q hf
  have := st _ _ e'
  rw [e] at this; cases this
  exact e'
/-- at a call's end -/
def CXE (P : Program) (w : World) : CXT := fun outer H s E e s' => ∃ (H' : Hp) (a : Addr) (a0 C : Value) (B : Heap), e = .ref a ∧ s'.os = s.os ∧ AllBare s'.gens ∧ Un (frs outer) [] H H' s.heap s'.heap ∧ HOk P w H' s'.heap ∧
  Heap.FlyingW B outer a C a0 s'.heap ∧ Calm B (frs outer) [] H' s.heap ∧ E C none H'
/-- within a body: it came out of a call -/
def Fly (X : Cx) (E : XS) (e : Value) (s : Shared) : Prop := ∃ (pins : List (Addr × Obj)) (σ : St) (H : Hp) (a : Addr) (a0 C : Value) (B : Heap), e = .ref a ∧ Inv X pins σ H s ∧
  Up B X.stack a C a0 s.heap ∧ Calm B (frs X.stack) X.ex H X.s₀.heap ∧ (∀ p ∈ X.pn, B.get? p.1 = some p.2) ∧ E C none σ H
/-- within a body: it has just been made -/
def New (X : Cx) (E : XS) (e : Value) (s : Shared) : Prop := ∃ (pins : List (Addr × Obj)) (σ : St) (H : Hp) (a : Addr) (C : Value) (vs : List Value) (h : Heap), e = .ref a ∧ Inv X pins σ H { s with heap := h } ∧ Heap.MadeExcOf h s.heap a C vs ∧ E C none σ H

theorem fly_un {fs fr ex : List Addr} {H₀ H H₁ : Hp} {h₀ h h' B : Heap} (u : Un fs ex H₀ H h₀ h) (cal : Calm B fr ex H₁ h₀) (st0 : B.StaysIn h) (st : B.StaysIn h') (sm : ∀ b ∈ fr, ∀ o, h.get? b = some o → ∃ sl, h'.get? b = some { o with slots := sl })
    (frd : ∀ b ∈ fr, b < h₀.objs.size → b ∈ fs) : Un fs ex H₀ H h₀ h' where
  keep := fun b o e n0 hb hx => st _ _ (cal.at st0 (u.keep b o e n0 hb hx) (.inr ⟨⟨_, e⟩, hx⟩) fun z => hb (frd b z (Heap.lt_size e)))
  slot := fun b o e n0 hb hx => by
    obtain ⟨sl, e1⟩ := u.slot b o e n0 hb hx
    by_cases z : b ∈ fr
    · obtain ⟨sl', e2⟩ := sm b z _ e1
      exact ⟨sl', e2⟩
    · exact ⟨sl, st _ _ (cal.at st0 e1 (.inr ⟨⟨_, e⟩, hx⟩) z)⟩
  free := u.free
  there := fun b o e hx => by
    obtain ⟨o', e1⟩ := u.there b o e hx
    by_cases z : b ∈ fr
    · obtain ⟨sl', e2⟩ := sm b z _ e1
      exact ⟨_, e2⟩
    · exact ⟨_, st _ _ (cal.at st0 e1 (.inr ⟨⟨_, e⟩, hx⟩) z)⟩
  tups := u.tups
  frzs := u.frzs
  tbls := u.tbls
theorem fly_hok {P : Program} {w : World} {fr ex : List Addr} {H : Hp} {h₀ h h' B : Heap} (k : HOk P w H h) (cal : Calm B fr ex H h₀) (st0 : B.StaysIn h) (st : B.StaysIn h') (free : ∀ b ∈ fr, H b = none) : HOk P w H h' := fun a o e =>
  (k a o e).stay (fun b u hb e' => by
    have tr : H b ≠ none := by
      rcases hb with rfl | hb
      · rw [e]; simp
      · rw [hb]; simp
    exact st _ _ (cal.at st0 e' (.inl tr) fun z => tr (free b z))) (fun _ q => q) fun _ _ q => q
section
variable {X : Cx} {pins : List (Addr × Obj)} {σ : St} {H : Hp} {s : Shared}
theorem frm_data (I : Inv X pins σ H s) : ∀ b ∈ frs X.stack, ∀ o, s.heap.get? b = some o → ∀ vs, o.data ≠ .fields vs := fun b hb o e vs => by
  obtain ⟨_, o', e', d⟩ := I.stack.mem hb
  rw [e] at e'; cases e'
  exact d vs
theorem frm_up {h' : Heap} (I : Inv X pins σ H s) (sm : s.heap.UpToSlots h') : ∀ b ∈ frs X.stack, ∀ o, s.heap.get? b = some o → ∃ sl, h'.get? b = some { o with slots := sl } := fun b hb o e => sm b o e (frm_data I b hb o e)
theorem frm_old (I : Inv X pins σ H s) : ∀ b ∈ frs X.stack, b < X.s₀.heap.objs.size → b ∈ X.fs := fun b hb hl => by
  rcases List.mem_cons.mp (I.stkSub b hb) with e | z
  · subst e; exact absurd (Nat.lt_of_lt_of_le hl I.ok.above) (Nat.lt_irrefl _)
  · exact z
/-- an object that stood at the entry stands still; the walked iterators aside -/
theorem old_there (I : Inv X pins σ H s) {b : Addr} {o : Obj} (e : X.s₀.heap.get? b = some o) (hx : b ∉ X.ex) : ∃ o', s.heap.get? b = some o' := I.base.there b o e hx
/-- a callee's exception in the caller's body -/
theorem passes {E : XS} (hx : ∀ e s, Fly X E e s → X.xe e s) (pins : List (Addr × Obj)) (σ : St) (H : Hp) (s : Shared) (e : Value) (s' : Shared) (I : Inv X pins σ H s) (q : CXE X.prog X.w X.stack H s (fun cv x H' => E cv x σ H') e s') : X.xe e s' := by
  obtain ⟨H', a, a0, C, B, rfl, os, bare, un, hok, fl, cal, q⟩ := q
  have I' := I.call' (ch := []) os un hok bare (fun b z => absurd z (by simp))
  refine hx _ _ ⟨pins, σ, H', a, a0, C, B, rfl, I', .of_fly fl, fun b hb hf => cal b (hb.imp id fun ⟨⟨o, z⟩, n⟩ => ⟨old_there I z n, by simp⟩) hf, fun p hp => ?_, q⟩
  obtain ⟨p1, p2, p3, p4, _⟩ := I'.pin p (List.mem_append_left _ hp)
  refine cal.at fl.1 p1 (.inr ⟨⟨_, (I.pin p (List.mem_append_left _ hp)).1⟩, by simp⟩) fun z => ?_
  rcases List.mem_cons.mp (I.stkSub _ z) with e | z
  · exact p3 e
  · exact p4 z
end
section
variable {P : Program} {w : World} {K : W.Frag} {mg : Str → Option Value} {base : Heap} {N : List Str} {qual : Str} {scope : Scope} {f : Addr} {cd : Value} {A : Around} {outer : List Env} {s : Shared} {H : Hp} {E : XK}
theorem frs_cons (b : Addr) (h : b ∈ frs (envOfC qual scope s.heap.objs.size f cd :: outer)) : b = s.heap.objs.size ∨ b ∈ frs outer := by
  unfold frs at h
  rw [List.filterMap_cons] at h
  exact List.mem_cons.mp h
/-- what a step of leaving leaves behind -/
theorem leave_un {pins : List (Addr × Obj)} {σ : St} {H' : Hp} {s' : Shared} {a : Addr} {a0 C : Value} {B h' : Heap} (I : Inv (cxOf (CXE P w) P w K mg base N qual scope f cd A outer s H E) pins σ H' s') (st0 : B.StaysIn s'.heap) (cal : Calm B (frs (envOfC qual scope s.heap.objs.size f cd :: outer)) [] H' s.heap)
    (q : E C none H') (fl' : Heap.FlyingW B outer a C a0 h') (sm : s'.heap.UpToSlots h') : CXE P w outer H s E (.ref a) { s' with heap := h' } := by
  refine ⟨H', a, a0, C, B, rfl, I.os, I.bare, fly_un I.base cal st0 fl'.1 (frm_up I sm) (frm_old I), fly_hok I.hok cal st0 fl'.1 I.stkFree, fl', fun b hb hf => cal b hb fun z => ?_, q⟩
  rcases frs_cons b z with e | z
  · subst e
    rcases hb with hb | ⟨⟨o, hb⟩, _⟩
    · exact hb I.free
    · exact absurd (Heap.lt_size hb) (Nat.lt_irrefl _)
  · exact hf z
/-- it leaves a def's body -/
theorem leave_fly (e : Value) (s' : Shared) (q : Fly (cxOf (CXE P w) P w K mg base N qual scope f cd A outer s H E) (fun cv x _ H' => E cv x H') e s') : (cxOf (CXE P w) P w K mg base N qual scope f cd A outer s H E).xe e s' := by
  obtain ⟨pins, σ, H', a, a0, C, B, rfl, I, up, cal, _, q⟩ := q
  exact up.leave (L := s.heap.objs.size) I.ok.frames rfl fun h' fl' sm => leave_un I up.1 cal q fl' sm
/-- one that was made in the body leaves it -/
theorem leave_new (e : Value) (s' : Shared) (q : New (cxOf (CXE P w) P w K mg base N qual scope f cd A outer s H E) (fun cv x _ H' => E cv x H') e s') : (cxOf (CXE P w) P w K mg base N qual scope f cd A outer s H E).xe e s' := by
  obtain ⟨pins, σ, H', a, C, vs, h, rfl, I, made, q⟩ := q
  have hin : ∀ env ∈ (envOfC qual scope s.heap.objs.size f cd :: outer), ∀ b, env.frame = some b → b ∈ frs (envOfC qual scope s.heap.objs.size f cd :: outer) := fun env he b hb => List.mem_filterMap.mpr ⟨env, he, hb⟩
  refine wpAny_leaves_madeW (base := W.hideAll h (frs (envOfC qual scope s.heap.objs.size f cd :: outer))) I.ok.frames rfl (fun b o q => W.of_hideAll _ q) (W.funFrames_hide I.stack hin) made fun h' t fl' tup tn sm => ?_
  have st0 : (W.hideAll h (frs (envOfC qual scope s.heap.objs.size f cd :: outer))).StaysIn h := fun b o q => W.of_hideAll _ q
  have cal : Calm (W.hideAll h (frs (envOfC qual scope s.heap.objs.size f cd :: outer))) (frs (envOfC qual scope s.heap.objs.size f cd :: outer)) [] H' s.heap := fun b hb hf => by
    have : ∃ o, h.get? b = some o := by
      rcases hb with hb | ⟨⟨o, hb⟩, _⟩
      · cases e : H' b with
        | none => exact absurd e hb
        | some o => exact obj_there (I.hok b o e)
      · exact old_there I hb (by simp [cxOf])
    obtain ⟨o, e⟩ := this
    exact ⟨o, W.hideAll_get _ e hf⟩
  have sm' : h.UpToSlots h' := (Heap.UpToSlots.of_keeps made.keeps).trans sm
  refine ⟨H', a, _, C, _, rfl, I.os, I.bare, fly_un I.base cal st0 fl'.1 (frm_up I sm') (frm_old I), fly_hok I.hok cal st0 fl'.1 I.stkFree, fl', fun b hb hf => cal b hb fun z => ?_, q⟩
  rcases frs_cons b z with e | z
  · subst e
    rcases hb with hb | ⟨⟨o, hb⟩, _⟩
    · exact hb I.free
    · exact absurd (Heap.lt_size hb) (Nat.lt_irrefl _)
  · exact hf z
end
end Fg

end
section
set_option Elab.async false
set_option linter.all false
set_option maxRecDepth 100000
set_option autoImplicit false
namespace Fg
open PySem PySem.Spec L2
open PyProof.Rows (AllBare envOfC)
/-- an own class of exceptions, by the module's text -/
def ExcC (K : W.Frag) (C : Addr) (bmB : List Value) (newId : String) (bm : List Value) : Prop :=
  ∃ nm q N bs hdct sn sub ab col dd k0 k1 k2 k3 k5, K.lookup C = some (excClassObj nm q C N bs bm hdct sn sub ab col dd k0 k1 k2 k3 k5 newId) ∧ W.nsOkIn K N = true ∧ W.nsIn K N "__init__" = some none ∧ W.tailIn K bmB bm = true
variable {X : Cx} {E : XS}
/-- raise C(a) -/
theorem ps_raise {x : Str} {C : Addr} {B newId initId : String} {bmB bm : List Value} {a : Expr} {t : TA} {np cpos pos : Pos} (hm : X.mg x = some (.ref C)) (hk : X.env.kindOf x = some .globalImplicit) (hd : (x == ("__debug__" : Str)) = false)
    (EC : ExcC X.K C bmB newId bm) (FB : ExcBaseFacts B newId initId bmB) (calm : X.calm = true) (hs : starEach [a] X.env = [(false, eval a X.env)]) (ha : PA X [a] t) (hx : ∀ e s, New X E e s → X.xe e s) :
    PS X (.Raise (some (.Call (.Name x np) [a] [] cpos)) none pos) (fun D σ H => t σ H fun vs H1 => vs.length ≤ sizeLine ∧ E (.ref C) none σ H1) := by
  obtain ⟨nm, q, N, bs, hdct, sn, sub, ab, col, dd, k0, k1, k2, k3, k5, lk, ok, ni, tl⟩ := EC
  intro pins s σ H D I ht
  have tail : ∀ {h : Heap}, X.K.In h → PySem.OwnTail h bmB bm := fun KX => W.tail_of_in KX tl
  refine wpAny_Raise_call_subT (C := C) (nm := nm) (q := q) (N := N) (bs := bs) (bm := bm) (hdct := hdct) (sn := sn) (sub := sub) (ab := ab) (col := col) (dd := dd) (k0 := k0) (k1 := k1) (k2 := k2) (k3 := k3) (k5 := k5) FB (mN := X.base.nsMap N)
    ((tail I.kIn).hasType FB.hasBase) (I.ok.hd calm) (by rw [hs]; rfl) (W.nsMap_none_of_in I.mod.kin ok ni)
    (Calls.Name_function_global I.ok.kind hk (Calls.loadGlobal_global (by rw [I.ok.glob]; exact I.mod.glob.keeps I.bk) hm ⟨rfl, ?_⟩) hd)
  have z := ha cpos pins s σ H _ I ht
  rw [hs] at z ⊢
  refine Calls.evalArgs_plain (thn z fun us s2 y => ?_)
  obtain ⟨vs, H1, I1, r, hl, q⟩ := y
  refine ⟨rfl, by rw [← r.length]; exact hl, I1.kIn _ _ lk, (Heap.Ns.of_isNs (W.isNs_of_in I.mod.kin ok)).keeps I1.bk, tail I1.kIn, fun h' e made => hx _ _ ⟨pins, σ, H1, e, .ref C, us, s2.heap, rfl, I1, made, q⟩⟩
end Fg

end
section
set_option Elab.async false
set_option linter.all false
set_option maxRecDepth 100000
set_option autoImplicit false
namespace Fg
open PySem PySem.Spec L2
/-- bear these pins -/
abbrev bear (X : Cx) (pins : List (Addr × Obj)) : Cx := { X with pn := X.pn ++ pins }
theorem Cx_ok_bear {X : Cx} {pins : List (Addr × Obj)} (ok : X.Ok) : (bear X pins).Ok :=
  ⟨ok.mod, ok.kind, ok.glob, ok.blt, ok.above, ok.inj, ok.has, ok.cab, ok.hd, ok.frames, ok.stk, ok.exf, ok.bs, ok.bsz, ok.noex, ok.exfs, ok.funs, ok.frf⟩
theorem Cx_ok_unbear {X : Cx} {pins : List (Addr × Obj)} (ok : (bear X pins).Ok) : X.Ok :=
  ⟨ok.mod, ok.kind, ok.glob, ok.blt, ok.above, ok.inj, ok.has, ok.cab, ok.hd, ok.frames, ok.stk, ok.exf, ok.bs, ok.bsz, ok.noex, ok.exfs, ok.funs, ok.frf⟩
section
variable {X : Cx} {pins pins' : List (Addr × Obj)} {σ : St} {H : Hp} {s : Shared}
theorem inv_bear (I : Inv X pins σ H s) : Inv (bear X pins) [] σ H s := ⟨Cx_ok_bear I.ok, I.os, I.bare, I.base, I.loc, I.cell, I.free, I.freeC, fun p hp => I.pin p (by simpa using hp), I.hok, I.len⟩
theorem inv_unbear (I : Inv (bear X pins) pins' σ H s) : Inv X pins σ H s := ⟨Cx_ok_unbear I.ok, I.os, I.bare, I.base, I.loc, I.cell, I.free, I.freeC, fun p hp => I.pin p (List.mem_append_left _ hp), I.hok, I.len⟩
theorem inv_unpin (I : Inv X pins σ H s) : Inv X [] σ H s := ⟨I.ok, I.os, I.bare, I.base, I.loc, I.cell, I.free, I.freeC, fun p hp => I.pin p (List.mem_append_left _ (by simpa using hp)), I.hok, I.len⟩
theorem sp_unbear {D : Ends} {f : Flow} {s' : Shared} (h : SP (bear X pins) pins' D f s') : SP X pins D f s' := by
  cases f with
  | next => obtain ⟨σ', H', I, q⟩ := h; exact ⟨σ', H', inv_unbear I, q⟩
  | brk => obtain ⟨σ', H', I, q⟩ := h; exact ⟨σ', H', inv_unbear I, q⟩
  | cont => obtain ⟨σ', H', I, q⟩ := h; exact ⟨σ', H', inv_unbear I, q⟩
  | ret u => obtain ⟨v, σ', H', I, r, q⟩ := h; exact ⟨v, σ', H', inv_unbear I, r, q⟩
/-- the state behind a step of the flight -/
theorem fly_inv {B h' : Heap} (I : Inv X pins σ H s) (cal : Calm B (frs X.stack) X.ex H X.s₀.heap) (hp : ∀ p ∈ X.pn, B.get? p.1 = some p.2) (st0 : B.StaysIn s.heap) (st : B.StaysIn h') (sm : s.heap.UpToSlots h') : Inv X [] σ H { s with heap := h' } := by
  have cel : ∀ c v, s.heap.IsCell c v → h'.IsCell c v := fun c v ⟨o, e, d⟩ => by
    obtain ⟨sl, e'⟩ := sm c o e (fun vs z => by rw [d] at z; cases z)
    exact ⟨_, e', d⟩
  refine ⟨I.ok, I.os, I.bare, fly_un I.base cal st0 st (frm_up I sm) (frm_old I), ?_, fun x c e => ?_, I.free, I.freeC, fun p q => ?_, fly_hok I.hok cal st0 st I.stkFree, I.len⟩
  · obtain ⟨m, hn, hv⟩ := I.loc
    refine ⟨m, sm.ns hn, fun i x v h1 h2 h3 => ?_⟩
    obtain ⟨u, r, lk⟩ := hv i x v h1 h2 h3
    refine ⟨u, r, lk.imp id fun ⟨z, c, h4, h5⟩ => ⟨z, c, h4, cel _ _ h5⟩⟩
  · obtain ⟨v, h5⟩ := I.cell x c e
    exact ⟨v, cel _ _ h5⟩
  · have q' : p ∈ X.pn := by simpa using q
    obtain ⟨_, p2⟩ := I.pin p (List.mem_append_left _ q')
    exact ⟨st _ _ (hp p q'), p2⟩
end
/-- the context of an except suite -/
abbrev suite (X : Cx) (e : Value) : Cx := { X with A := X.A.mark (some e), calm := false, xe := fun _ _ => False }
section
variable {X : Cx} {pins pins' : List (Addr × Obj)} {σ : St} {H : Hp} {s : Shared} {e : Value}
theorem suite_ok (ok : X.Ok) : (suite X e).Ok :=
  ⟨ok.mod, ok.kind, ok.glob, ok.blt, ok.above, ok.inj, ok.has, ok.cab, (fun z => by cases z), ok.frames, ok.stk, ok.exf, ok.bs, ok.bsz, ok.noex, ok.exfs, ok.funs, ok.frf⟩
theorem inv_suite (I : Inv X pins σ H s) : Inv (suite X e) pins σ H s := ⟨suite_ok I.ok, I.os, I.bare, I.base, I.loc, I.cell, I.free, I.freeC, I.pin, I.hok, I.len⟩
theorem inv_unsuite (ok : X.Ok) (I : Inv (suite X e) pins σ H s) : Inv X pins σ H s := ⟨ok, I.os, I.bare, I.base, I.loc, I.cell, I.free, I.freeC, I.pin, I.hok, I.len⟩
theorem sp_unsuite (ok : X.Ok) {D : Ends} {f : Flow} {s' : Shared} (h : SP (suite X e) pins D f s') : SP X pins D f s' := by
  cases f with
  | next => obtain ⟨σ', H', I, q⟩ := h; exact ⟨σ', H', inv_unsuite ok I, q⟩
  | brk => obtain ⟨σ', H', I, q⟩ := h; exact ⟨σ', H', inv_unsuite ok I, q⟩
  | cont => obtain ⟨σ', H', I, q⟩ := h; exact ⟨σ', H', inv_unsuite ok I, q⟩
  | ret u => obtain ⟨v, σ', H', I, r, q⟩ := h; exact ⟨v, σ', H', inv_unsuite ok I, r, q⟩
end
section
variable {M : Model} {A : Around} {E : Value → Shared → Prop} {nm q : Str} {C N : Addr} {bs bm : List Value} {hdct : Bool} {sn : List Str} {sub : List Value} {ab : Bool} {col : Option Bool} {dd : Option Addr} {k0 k1 k2 k3 k5 : Option Value} {newId : String}
  {nm' q' : Str} {C' N' : Addr} {bs' bm' : List Value} {hdct' : Bool} {sn' : List Str} {sub' : List Value} {ab' : Bool} {col' : Option Bool} {dd' : Option Addr} {l0 l1 l2 l3 l5 : Option Value} {newId' : String}
theorem exc_matches {h : Heap} {g : Array GenState} {d : Drawn} {t : Nat} {os : OsState} {e : Addr} {oe : Obj} {b : Bool} {Q : Bool → Shared → Prop}
    (hC : h.get? C = some (excClassObj nm q C N bs bm hdct sn sub ab col dd k0 k1 k2 k3 k5 newId)) (hD : h.get? C' = some (excClassObj nm' q' C' N' bs' bm' hdct' sn' sub' ab' col' dd' l0 l1 l2 l3 l5 newId')) (he : h.get? e = some oe) (hcls : oe.cls = .ref C)
    (hb' : (Value.ref C' :: bm').contains (.type "BaseException") = true) (hb : (Value.ref C :: bm).contains (.ref C') = b) (hq : Q b ⟨h, g, d, t, os⟩) : wpAny M A (excMatches (.ref e) (.ref C')) Q E ⟨h, g, d, t, os⟩ := by
  have f := tc_notTuple
  unfold excMatches
  repeat (first | (with_reducible refine wpAny_loadPart_at he ?_; rw [hcls]) | with_reducible refine wpAny_loadPart_at hD ?_ | (with_reducible refine wpAny_isSubtype_exc hD ?_; rw [hb']) | (with_reducible refine wpAny_isSubtype_exc hC ?_; rw [hb]) | wp_step)
  cases b <;> (wp_walk; exact hq)
end
/-! ### try -/
def pick (mro : List Value) : List (Addr × TS) → Option TS
  | [] => none
  | (C', t) :: r => if mro.contains (.ref C') then some t else pick mro r
/-- what is wanted of an exception in a try's body -/
def EH (K : W.Frag) (rs : List (Addr × TS)) (D : Ends) : XS := fun cv x σ H => ∃ C bmB newId bm t, cv = .ref C ∧ ExcC K C bmB newId bm ∧ pick (.ref C :: bm) rs = some t ∧ t D σ H
inductive PH (X : Cx) : List ExceptHandler → List (Addr × TS) → Prop
  | nil : PH X [] []
  | cons {x : Str} {C' : Addr} {bmB : List Value} {newId : String} {bm : List Value} {b₀ : Stmt} {b : List Stmt} {t : TS} {np pos : Pos} {hs : List ExceptHandler} {rs : List (Addr × TS)} :
      X.mg x = some (.ref C') → Gl X x → (x == ("__debug__" : Str)) = false → ExcC X.K C' bmB newId bm → bm.contains (.type "BaseException") = true → (∀ e, PSs (suite X e) (b₀ :: b) t) → PH X hs rs →
      PH X (.ExceptHandler (some (.Name x np)) none (b₀ :: b) pos :: hs) ((C', t) :: rs)
theorem handle {X : Cx} {hs : List ExceptHandler} {rs : List (Addr × TS)} (ph : PH X hs rs) {C a : Addr} {a0 : Value} {B : Heap} {bmB : List Value} {newId : String} {bm : List Value} {t : TS} {D : Ends} {σ : St} {H : Hp} {s : Shared} (EC : ExcC X.K C bmB newId bm) (pk : pick (.ref C :: bm) rs = some t)
    (I : Inv X [] σ H s) (fl : Heap.FlyingW B X.stack a (.ref C) a0 s.heap) (cal : Calm B (frs X.stack) X.ex H X.s₀.heap) (hp : ∀ p ∈ X.pn, B.get? p.1 = some p.2) (ht : t D σ H) :
    wpAny (model X.prog X.w) X.A (handleBy (.ref a) X.env hs) (SP X [] D) X.xe s := by
  induction ph with
  | nil => cases pk
  | cons hm hg hd EC' hb' hsu ph ih =>
    obtain ⟨hp', g, d, tk, os⟩ := s
    obtain ⟨oe, heo, hcl⟩ := fl.there
    obtain ⟨nm, q, N, bs, hdct, sn, sub, ab, col, dd, k0, k1, k2, k3, k5, lk, _⟩ := EC
    obtain ⟨nm', q', N', bs', hdct', sn', sub', ab', col', dd', l0, l1, l2, l3, l5, lk', _⟩ := EC'
    refine wpAny_handleBy_cons (codeAny_handlers_test (Calls.Name_function_global I.ok.kind hg (Calls.loadGlobal_global (by rw [I.ok.glob]; exact I.mod.glob.keeps I.bk) hm ?_) hd)) (by intro q; cases q)
    refine exc_matches (I.kIn _ _ lk) (I.kIn _ _ lk') heo hcl (by rw [List.contains_cons, hb', Bool.or_true]) rfl ?_
    simp only [pick] at pk
    cases hc : (Value.ref C :: bm).contains (.ref _) with
    | true =>
      rw [hc] at pk
      simp only [if_true, Option.some.injEq] at pk
      subst pk
      refine codeAny_handlers_suite (PyProof.Rows.lands_againW fl fun h6 fl6 sm6 => ?_)
      have I6 := fly_inv I cal hp fl.1 fl6.1 sm6
      exact wpAny_mono (hsu (.ref a) [] _ σ H D (inv_suite I6) ht) (fun f s2 z => sp_unsuite I.ok z) fun _ _ z => z.elim
    | false =>
      rw [hc] at pk
      exact ih pk
/-- try: body, except C: suite .. -/
theorem ps_try {X : Cx} {body : List Stmt} {h₀ : ExceptHandler} {hs : List ExceptHandler} {pos : Pos} {rs : List (Addr × TS)} {t : Ends → TS} (stk : X.stack = X.env :: X.outer) (hf : X.env.frame = some X.env.locals)
    (hb : ∀ pins D, PSs ((bear X pins).wish (Fly (bear X pins) (EH X.K rs D))) body (t D)) (ph : ∀ pins, PH (bear X pins) (h₀ :: hs) rs) : PS X (.Try body (h₀ :: hs) [] [] pos) (fun D σ H => t D D σ H) := by
  intro pins s σ H D I ht
  refine wpAny_Try_except (wpAny_mono (hb pins D [] s σ H D ((inv_bear I).wish _) ht) (fun f s1 z => ?_) fun e s1 z => ?_)
  · have z' := sp_unbear (SP.unwish z)
    cases f with
    | next => exact wpAny_execs_nil z'
    | brk => exact z'
    | cont => exact z'
    | ret u => exact z'
  · obtain ⟨pins', σ1, H1, a, a0, cv, B, rfl, I1, fl, cal, hp, C, bmB, newId, bm, tt, rfl, EC, pk, hts⟩ := z
    have go : ∀ h5, Heap.FlyingW B (X.env :: X.outer) a (.ref C) a0 h5 → s1.heap.UpToSlots h5 → wpAny (model X.prog X.w) X.A (handleBy (.ref a) X.env (h₀ :: hs)) (SP X pins D) X.xe { s1 with heap := h5 } := fun h5 fl5 sm5 => by
      have I5 := fly_inv I1 cal hp fl.1 fl5.1 sm5
      exact wpAny_mono (handle (ph pins) EC pk I5 (by show Heap.FlyingW B X.stack _ _ _ _; rw [stk]; exact fl5) cal hp hts) (fun f s2 z => sp_unbear z) fun _ _ z => z
    exact Up.note (L := X.env.locals) (env := X.env) (outer := X.outer) (by rw [I.ok.frames, stk]) hf (by rw [← stk]; exact fl) fun h4 held sm4 => wpAny_landsW held fun h5 fl5 sm5 => go h5 fl5 (sm4.trans sm5)
end Fg

end
section
set_option Elab.async false
set_option linter.all false
set_option maxRecDepth 100000
set_option autoImplicit false
namespace Fg
open PySem PySem.Spec L2
/-- it is handed on -/
theorem Up.pass {M : Model} {A : Around} {E : Value → Shared → Prop} {s : Shared} {α : Type} {Q : α → Shared → Prop} {B : Heap} {l : List Env} {a : Addr} {C a0 : Value} {env : Env} {what : String} (up : Up B l a C a0 s.heap)
    (k : ∀ h', Up B l a C a0 h' → s.heap.UpToSlots h' → E (.ref a) { s with heap := h' }) : wpAny M A (passOn what (.ref a) env : Sem α) Q E s := by
  obtain ⟨st, ne, hl, fl, oe, vs, T, oT, ts, q1, q2, q3, q4, q5, q6, q7, q8, q9⟩ := up
  have q0 : 3 < ts.size := (Array.getElem?_eq_some_iff.mp q9).1
  have oth : ∀ x b, b ≠ T → (s.heap.update T (Obj.mapFields (·.setIfInBounds 3 x))).get? b = s.heap.get? b := fun x b hb => Heap.get?_update_other _ _ (Ne.symm hb)
  have rec_ : ∀ b o, s.heap.get? b = some o → (∀ vs, o.data ≠ .fields vs) → b ≠ T := fun b o hb hn z => by
    rw [z, q7] at hb
    cases hb
    exact hn ts q8
  unfold passOn
  refine wpAny_bind (wpAny_field q1 q3 q4 ?_)
  rw [if_neg (by simp)]
  refine wpAny_bind ?_
  unfold setFlight
  refine wpAny_bind (wpAny_field q1 q3 q4 ?_)
  rw [if_pos (by simp)]
  refine wpAny_setField q7 q8 q0 ?_
  refine wpAny_throw (k _ ⟨fun b o e => ?_, ne, hl.of_keeps fun b o hb hn => ⟨o, (oth _ b (rec_ b o hb hn)).trans hb, rfl⟩, ?_⟩ fun b o hb hn => ⟨o.slots, (oth _ b (rec_ b o hb hn)).trans hb⟩)
  · exact (oth _ b (by rintro rfl; rw [q5] at e; cases e)).trans (st b o e)
  · exact ⟨_, oe, vs, T, _, _, (oth _ a (Ne.symm q6)).trans q1, q2, q3, q4, q5, q6, Heap.get?_update_self _ q7 (Obj.isFreed_of_fields (Obj.data_mapFields q8 _)), Obj.data_mapFields q8 _, Array.getElem?_setIfInBounds_self_of_lt q0⟩
/-- the block's own names are let go -/
theorem Up.hide {B h h' : Heap} {l : List Env} {a c : Addr} {C a0 : Value} (up : Up B l a C a0 h) (sb : Heap.SameBut c h h') (hc : ∃ o, h.get? c = some o ∧ ∀ vs, o.data ≠ .fields vs) (hfr : c ∉ frs l) : Up (B.hide c) l a C a0 h' := by
  obtain ⟨st, ne, hl, fl, oe, vs, T, oT, ts, q1, q2, q3, q4, q5, q6, q7, q8, q9⟩ := up
  obtain ⟨oc, hoc, hd⟩ := hc
  have hn : ∀ {b : Addr}, B.get? b = none → (B.hide c).get? b = none := fun {b} e => by
    cases q : (B.hide c).get? b with
    | none => rfl
    | some o => rw [Heap.of_hide q] at e; cases e
  have hac : a ≠ c := by rintro rfl; rw [hoc] at q1; cases q1; exact hd _ q3
  have hTc : T ≠ c := by rintro rfl; rw [hoc] at q7; cases q7; exact hd _ q8
  have ff : ∀ l', (∀ b ∈ frs l', b ∈ frs l) → h.FunFrames B l' → h'.FunFrames (B.hide c) l' := by
    intro l'
    induction l' with
    | nil => intro _ _; trivial
    | cons env r ih =>
      intro hs hl'
      obtain ⟨hk, ⟨L, o, hf, hnn, ho, hdd⟩, hr⟩ := hl'
      have hL : L ∈ frs l := hs L (by unfold frs; rw [List.filterMap_cons, hf]; exact List.mem_cons_self)
      exact ⟨hk, ⟨L, o, hf, hn hnn, by rw [sb.2 L (by rintro rfl; exact hfr hL)]; exact ho, hdd⟩, ih (fun b hb => hs b (by unfold frs; rw [List.filterMap_cons, hf]; exact List.mem_cons_of_mem _ hb)) hr⟩
  refine ⟨fun b o e => ?_, hn ne, ff l (fun _ z => z) hl, fl, oe, vs, T, oT, ts, by rw [sb.2 a hac]; exact q1, q2, q3, q4, hn q5, q6, by rw [sb.2 T hTc]; exact q7, q8, q9⟩
  have hbc : b ≠ c := by rintro rfl; rw [Heap.hide_self] at e; cases e
  rw [sb.2 b hbc]
  exact st b o (Heap.of_hide e)
/-- the frame that runs is the top one -/
def HasFr (X : Cx) : Prop := ∃ env outer L, X.stack = env :: outer ∧ env.frame = some L ∧ X.env.frame = some L
end Fg

end
section
set_option Elab.async false
set_option linter.all false
set_option maxRecDepth 100000
set_option autoImplicit false
namespace Fg
open PySem PySem.Spec L2
/-- f(..), what is wanted of an exception by the names' values -/
def tCallE (sp : Sp) (Ex : XS) (t : TA) : TE := fun σ H Q => t σ H fun vs H1 => sp vs H1 Q fun cv x H' => Ex cv x σ H'
section
variable {X : Cx} {Ex : XS} {k : Nat} {f : Addr} {fd : FuncData} {ps : List Str} {sp : Sp} {x : Str} {p pos : Pos} {e : Expr} {es : List Expr} {t : TA}
theorem runE {pins : List (Addr × Obj)} {σ : St} {H : Hp} {s : Shared} {Q : VK} {us : List Value} {vs : List V} (F : FnOk X.prog X.w X.K X.mg X.base (CXE X.prog X.w) k f fd ps sp) (hr : Room k X.A) (hb : Binds X.K fd ps []) (hx : ∀ e s, Fly X Ex e s → X.xe e s)
    (I : Inv X pins σ H s) (r : Vals vs us) (h : sp vs H Q fun cv x H' => Ex cv x σ H') : wpAny (model X.prog X.w) X.A (call (.ref f) us) (EP X pins σ Q) X.xe s := by
  have hl : (us ++ []).length = ps.length := by rw [List.append_nil, ← r.length]; exact F.len _ _ _ _ h
  have bd := hb s us I.kIn hl
  rw [List.append_nil] at bd
  refine wpAny_call (codeAny_mono (F.run X.A X.stack s H ⟨us, []⟩ us vs Q _ hr I.env0 bd r h) fun z s' hq => ?_)
  match z, hq with
  | .error e, hq => exact passes hx pins σ H s e s' I hq
  | .ok (.ret u), hq => exact I.after hq
  | .ok .next, hq => exact hq.elim
  | .ok .brk, hq => exact hq.elim
  | .ok .cont, hq => exact hq.elim
theorem pe_callE (F : FnOk X.prog X.w X.K X.mg X.base (CXE X.prog X.w) k f fd ps sp) (hr : Room k X.A) (hg : Gl X x) (hm : X.mg x = some (.ref f)) (hk : W.keepIn X.K (.ref f) = true) (hb : Binds X.K fd ps []) (hx : ∀ e s, Fly X Ex e s → X.xe e s)
    (ha : PA X (e :: es) t) (hdb : (x == ("__debug__" : Str)) = false) (he : starEach (e :: es) X.env = (false, eval e X.env) :: starEach es X.env) (hpl : (backTo pos (starEach es X.env)).any (·.1) = false) :
    PE X (.Call (.Name x p) (e :: es) [] pos) (tCallE sp Ex t) := fun pins s σ H Q I h =>
  wpAny_Call_Name_kw (ld_glob I hg hm (W.callWith_K (h₀ := X.base) I.ok.mod.kin hk (thn (ha pos pins s σ H _ I h) fun us s1 ⟨vs, H1, I1, r, q⟩ => ⟨I1.kIn, runE F hr hb hx I1 r q⟩) he hpl) hdb)
theorem pe_callE0 (F : FnOk X.prog X.w X.K X.mg X.base (CXE X.prog X.w) k f fd ps sp) (hr : Room k X.A) (hg : Gl X x) (hm : X.mg x = some (.ref f)) (hk : W.keepIn X.K (.ref f) = true) (hb : Binds X.K fd ps []) (hx : ∀ e s, Fly X Ex e s → X.xe e s) (hdb : (x == ("__debug__" : Str)) = false) :
    PE X (.Call (.Name x p) [] [] pos) (tCallE sp Ex tNil) := fun pins s σ H Q I h =>
  wpAny_Call_Name_kw (ld_glob I hg hm (W.callWith_K0 I.kIn hk (runE (us := []) F hr hb hx I .nil h)) hdb)
end
end Fg

end
section
set_option Elab.async false
set_option linter.all false
set_option maxRecDepth 100000
set_option autoImplicit false
namespace Fg
open PySem PySem.Spec L2
/-- it came back from an activation of this frame's own -/
theorem Up.back {M : Model} {A : Around} {E : Value → Shared → Prop} {s : Shared} {B : Heap} {l : List Env} {a : Addr} {C a0 : Value} {env : Env} (up : Up B l a C a0 s.heap)
    (k : ∀ h', Up B l a C a0 h' → s.heap.UpToSlots h' → E (.ref a) { s with heap := h' }) : cameBackBy M A env E (.ref a) s := by
  obtain ⟨st, ne, hl, fl, oe, vs, T, oT, ts, q1, q2, q3, q4, q5, q6, q7, q8, q9⟩ := up
  have q0 : 3 < ts.size := (Array.getElem?_eq_some_iff.mp q9).1
  have oth : ∀ x b, b ≠ T → (s.heap.update T (Obj.mapFields (·.setIfInBounds 3 x))).get? b = s.heap.get? b := fun x b hb => Heap.get?_update_other _ _ (Ne.symm hb)
  have rec_ : ∀ b o, s.heap.get? b = some o → (∀ vs, o.data ≠ .fields vs) → b ≠ T := fun b o hb hn z => by
    rw [z, q7] at hb
    cases hb
    exact hn ts q8
  unfold cameBackBy
  refine wpAny_bind (wpAny_field q1 q3 q4 ?_)
  rw [if_neg (by simp)]
  unfold setFlight
  refine wpAny_bind (wpAny_field q1 q3 q4 ?_)
  rw [if_pos (by simp)]
  refine wpAny_setField q7 q8 q0 ?_
  refine k _ ⟨fun b o e => ?_, ne, hl.of_keeps fun b o hb hn => ⟨o, (oth _ b (rec_ b o hb hn)).trans hb, rfl⟩, ?_⟩ fun b o hb hn => ⟨o.slots, (oth _ b (rec_ b o hb hn)).trans hb⟩
  · exact (oth _ b (by rintro rfl; rw [q5] at e; cases e)).trans (st b o e)
  · exact ⟨_, oe, vs, T, _, _, (oth _ a (Ne.symm q6)).trans q1, q2, q3, q4, q5, q6, Heap.get?_update_self _ q7 (Obj.isFreed_of_fields (Obj.data_mapFields q8 _)), Obj.data_mapFields q8 _, Array.getElem?_setIfInBounds_self_of_lt q0⟩
theorem new_note {M : Model} {A : Around} {E : Value → Shared → Prop} {s : Shared} {h B : Heap} {env : Env} {outer : List Env} {L a : Addr} {C : Value} {vs : List Value} {Q : Unit → Shared → Prop} (hfr : A.frames = some (env :: outer)) (hf : env.frame = some L)
    (made : Heap.MadeExcOf h s.heap a C vs) (st : B.StaysIn h) (hl : h.FunFrames B (env :: outer)) (k : ∀ a0 h', Up B (env :: outer) a C a0 h' → s.heap.UpToSlots h' → Q () { s with heap := h' }) : wpAny M A (noteFrame (.ref a) env) Q E s := by
  obtain ⟨t, he, _, _⟩ := made.there
  have ne : B.get? a = none := by
    cases q : B.get? a with
    | none => rfl
    | some o => have := st _ _ q; rw [made.new] at this; cases this
  unfold noteFrame
  simp only [hf]
  refine wpAny_bind (wpAny_field he rfl (x := .none) rfl ?_)
  rw [if_neg (by simp)]
  refine wpAny_entryW (base := B) (a0 := .ref t) hfr (hl.of_keeps fun b o hb _ => ⟨o, made.keeps b o hb, rfl⟩) hf he (fun b o e => made.keeps b o (st b o e)) ne rfl (show 1 < 6 by decide) rfl fun h' nw => ?_
  obtain ⟨x1, x2, x3, x4⟩ := nw
  exact k _ h' ⟨x1, ne, x2, _, x3⟩ x4
/-- through a loop -/
theorem own_passes {X : Cx} {E : XS} (fr : HasFr X) (fo : ∀ e s, X.xe e s → Fly X E e s ∨ New X E e s) (fx : ∀ e s, Fly X E e s → X.xe e s) : PassesOwn (model X.prog X.w) X.A X.env X.xe := by
  intro e s q
  obtain ⟨env0, outer0, L, hst, hf0, hfX⟩ := fr
  rcases fo e s q with q | q
  · obtain ⟨pins, σ, H, a, a0, C, B, rfl, I, up, cal, hp, q⟩ := q
    show wpAny _ X.A (noteFrame (.ref a) X.env) _ _ s
    rw [note_at (env := X.env) (env' := env0) (hfX.trans hf0.symm)]
    refine Up.note (env := env0) (outer := outer0) (by rw [I.ok.frames, hst]) hf0 (by rw [← hst]; exact up) fun h4 held sm4 => ?_
    refine (Up.of_held held).back fun h5 up5 sm5 => fx _ _ ?_
    have J := fly_inv I cal hp up.1 up5.1 (sm4.trans sm5)
    have up' : Up B X.stack a C a0 h5 := by rw [hst]; exact up5
    exact ⟨[], σ, H, a, a0, C, B, rfl, J, up', cal, hp, q⟩
  · obtain ⟨pins, σ, H, a, C, vs, h, rfl, I, made, q⟩ := q
    show wpAny _ X.A (noteFrame (.ref a) X.env) _ _ s
    rw [note_at (env := X.env) (env' := env0) (hfX.trans hf0.symm)]
    have st0 : (W.hideAll h (frs X.stack)).StaysIn h := fun b o q => W.of_hideAll _ q
    have cal : Calm (W.hideAll h (frs X.stack)) (frs X.stack) X.ex H X.s₀.heap := fun b hb hf => by
      have : ∃ o, h.get? b = some o := by
        rcases hb with hb | ⟨⟨o, hb⟩, nx⟩
        · cases e : H b with
          | none => exact absurd e hb
          | some o => exact obj_there (I.hok b o e)
        · exact old_there I hb nx
      obtain ⟨o, e⟩ := this
      exact ⟨o, W.hideAll_get _ e hf⟩
    have hp : ∀ p ∈ X.pn, (W.hideAll h (frs X.stack)).get? p.1 = some p.2 := fun p hp => by
      obtain ⟨p1, p2, p3, p4, _⟩ := I.pin p (List.mem_append_left _ hp)
      refine W.hideAll_get _ p1 fun z => ?_
      rcases List.mem_cons.mp (I.stkSub _ z) with e | z
      · exact p3 e
      · exact p4 z
    have hl : h.FunFrames (W.hideAll h (frs X.stack)) X.stack := W.funFrames_hide I.stack fun env he b hb => List.mem_filterMap.mpr ⟨env, he, hb⟩
    refine new_note (env := env0) (outer := outer0) (by rw [show X.A.frames = some X.stack from I.ok.frames, hst]) hf0 made st0 (hst ▸ hl) fun a0 h4 up4 sm4 => ?_
    refine up4.back fun h5 up5 sm5 => fx _ _ ?_
    have sm : h.UpToSlots h5 := (Heap.UpToSlots.of_keeps made.keeps).trans (sm4.trans sm5)
    have J := fly_inv I cal hp st0 up5.1 sm
    have up' : Up (W.hideAll h (frs X.stack)) X.stack a C a0 h5 := by
      have z : ∀ l, l = X.stack → Up (W.hideAll h (frs X.stack)) l a C a0 h5 → Up (W.hideAll h (frs X.stack)) X.stack a C a0 h5 := fun l e u => e ▸ u
      exact z _ hst.symm up5
    exact ⟨[], σ, H, a, a0, C, _, rfl, J, up', cal, hp, q⟩
end Fg

end
section
set_option Elab.async false
set_option linter.all false
set_option maxRecDepth 100000
set_option autoImplicit false
namespace Fg
open PySem L2

/-! ### data as they lie in the heap -/
mutual
def DV (K : W.Frag) (H : Hp) : D → V → Prop
  | .non, v => v = .non
  | .bl b, v => v = .bl b
  | .int i, v => v = .int i
  | .str x, v => v = .str x
  | .tup ds, v => ∃ a vs, v = .ref a ∧ SqT K H a vs ∧ DVs K H ds vs
  | .lst ds, v => ∃ a vs, v = .ref a ∧ SqL K H a vs ∧ DVs K H ds vs
  | .dct _ _, _ => False
  | .ref _, _ => False
def DVs (K : W.Frag) (H : Hp) : List D → List V → Prop
  | [], vs => vs = []
  | d :: ds, vs => ∃ v ws, vs = v :: ws ∧ DV K H d v ∧ DVs K H ds ws
end
section
variable {B : Bd} {Φ : Fns} {E : Gx} {F F' F1 : Addr → Prop} {ρ ρ' ρ1 : List Addr} {H H' H1 : Hp} {M M' : MH} {σD : Sg} {σ : St} {Q : VK}
mutual
theorem RD.dv : ∀ {d : D} {v : V}, plain d = true → RD B F ρ H d v → DV B.K H d v
  | .non, v, _, h => by simp only [RD] at h; simp only [DV]; exact h
  | .bl _, v, _, h => by simp only [RD] at h; simp only [DV]; exact h
  | .int _, v, _, h => by simp only [RD] at h; simp only [DV]; exact h
  | .str _, v, _, h => by simp only [RD] at h; simp only [DV]; exact h
  | .tup ds, v, p, h => by
    simp only [RD] at h; simp only [DV]; simp only [plain] at p
    obtain ⟨a, vs, h1, h2, h3⟩ := h
    exact ⟨a, vs, h1, h2.sq, RDs.dv p h3⟩
  | .lst ds, v, p, h => by
    simp only [RD] at h; simp only [DV]; simp only [plain] at p
    obtain ⟨a, vs, h1, h2, h3⟩ := h
    exact ⟨a, vs, h1, h2.sq, RDs.dv p h3⟩
  | .dct _ _, v, p, h => by simp [plain] at p
  | .ref _, v, p, h => by simp [plain] at p
theorem RDs.dv : ∀ {ds : List D} {vs : List V}, plains ds = true → RDs B F ρ H ds vs → DVs B.K H ds vs
  | [], vs, _, h => by simp only [RDs] at h; simp only [DVs]; exact h
  | d :: ds, vs, p, h => by
    simp only [RDs] at h; simp only [DVs]; simp only [plains, Bool.and_eq_true] at p
    obtain ⟨v, ws, h1, h2, h3⟩ := h
    exact ⟨v, ws, h1, RD.dv p.1 h2, RDs.dv p.2 h3⟩
end
theorem top_dv {d : D} {v : V} (S : SR B F ρ M H) (p : plain (top M d) = true) (h : RD B F ρ H d v) : DV B.K H (top M d) v := by
  cases d with
  | ref n =>
    cases hM : M[n]? with
    | none => simp [top, hM, plain] at p
    | some o =>
      cases o with
      | lst ds =>
        obtain ⟨a, vs, e, q, r⟩ := vw_lst (ds := ds) S h (by simp only [vw, hM])
        simp only [top, hM, plain] at p
        simp only [top, hM, DV]
        exact ⟨a, vs, e, q, RDs.dv p r⟩
      | dct _ => simp [top, hM, plain] at p
      | dwk _ => simp [top, hM, plain] at p
      | ins _ _ => simp [top, hM, plain] at p
  | tup ds => exact RD.dv p h
  | lst ds => exact RD.dv p h
  | dct _ _ => exact RD.dv p h
  | non => exact RD.dv p h
  | bl _ => exact RD.dv p h
  | int _ => exact RD.dv p h
  | str _ => exact RD.dv p h

/-! ### comparisons -/
def rEqD (K : W.Frag) (neg : Bool) : R2 := fun x y H Q => ∃ d e, DV K H d x ∧ DV K H e y ∧ cmpOk d e = true ∧ Q (.bl (if neg then !eqD d e else eqD d e)) H
def rEqB (neg : Bool) : R2 := fun x y H Q => ∃ a b, x = .bl a ∧ y = .bl b ∧ Q (.bl (if neg then !(a == b) else (a == b))) H
def rDin (B : Bd) (neg : Bool) : R2 := fun x y H Q => ∃ a kvs k, y = .ref a ∧ x = kV k ∧ SqD B H a kvs ∧ Q (.bl (if neg then !(valV kvs k).isSome else (valV kvs k).isSome)) H
def rCmp (B : Bd) : Cmp → R2
  | .lt => rI0 fun i j => .bl (decide (i < j))
  | .le => rI0 fun i j => .bl (decide (i ≤ j))
  | .gt => rI0 fun i j => .bl (decide (j < i))
  | .ge => rI0 fun i j => .bl (decide (j ≤ i))
  | .eq => fun x y H Q => rEqB false x y H Q ∨ rEqD B.K false x y H Q
  | .ne => fun x y H Q => rEqB true x y H Q ∨ rEqD B.K true x y H Q
  | .isN => fun x y H Q => y = .non ∧ Q (.bl (decide (x = .non))) H
  | .notN => fun x y H Q => y = .non ∧ Q (.bl (!decide (x = .non))) H
  | .isin => fun x y H Q => rDin B false x y H Q ∨ rIn B.K false x y H Q
  | .notin => fun x y H Q => rDin B true x y H Q ∨ rIn B.K true x y H Q
theorem key_rd {d : D} {v : V} {k : Ky} (h : keyOf d = some k) (r : RD B F ρ H d v) : v = kV k := by
  cases d with
  | int i => simp only [keyOf] at h; cases h; simp only [RD] at r; exact r
  | str x => simp only [keyOf] at h; cases h; simp only [RD] at r; exact r
  | non => simp only [keyOf] at h; cases h
  | bl _ => simp only [keyOf] at h; cases h
  | tup _ => simp only [keyOf] at h; cases h
  | lst _ => simp only [keyOf] at h; cases h
  | dct _ _ => simp only [keyOf] at h; cases h
  | ref _ => simp only [keyOf] at h; cases h
theorem flat_rd {d : D} {v : V} (h : flat d = true) (r : RD B F ρ H d v) : flatV v = true := by
  cases d <;> first | (simp only [RD] at r; subst r; rfl) | (simp only [flat] at h; cases h)
theorem flat_all {ds : List D} : ∀ {vs : List V}, ds.all flat = true → RDs B F ρ H ds vs → vs.all flatV = true := by
  induction ds with
  | nil => intro vs _ r; simp only [RDs] at r; subst r; rfl
  | cons d ds ih =>
    intro vs h r
    simp only [RDs] at r
    obtain ⟨v, ws, rfl, r1, r2⟩ := r
    simp only [List.all_cons, Bool.and_eq_true] at h ⊢
    exact ⟨flat_rd h.1 r1, ih h.2 r2⟩
theorem eqD_eqV {d e : D} {v w : V} (h1 : flat d = true) (h2 : flat e = true) (r1 : RD B F ρ H d v) (r2 : RD B F ρ H e w) : eqD d e = eqV v w := by
  cases d <;> first | (simp only [flat] at h1; cases h1; done) | skip
  all_goals (cases e <;> first | (simp only [flat] at h2; cases h2; done) | skip)
  all_goals (simp only [RD] at r1 r2; subst r1 r2; simp only [eqD, eqV])
  all_goals first | rfl | simp [Bool.beq_eq_decide_eq]
theorem any_inV {d : D} {v : V} (h1 : flat d = true) (r1 : RD B F ρ H d v) {ds : List D} : ∀ {vs : List V}, ds.all flat = true → RDs B F ρ H ds vs → (ds.any fun e => eqD e d) = inV v vs := by
  induction ds with
  | nil => intro vs _ r; simp only [RDs] at r; subst r; rfl
  | cons e ds ih =>
    intro vs h r
    simp only [RDs] at r
    obtain ⟨w, ws, rfl, q1, q2⟩ := r
    simp only [List.all_cons, Bool.and_eq_true] at h
    simp only [List.any_cons, inV, eqD_eqV h.1 h1 q1 r1]
    have := ih h.2 q2
    simp only [inV] at this
    rw [this]
theorem in_sim {neg : Bool} {x y : D} {v w : V} {X : XK} (S : SR B F ρ M H) (rx : RD B F ρ H x v) (ry : RD B F ρ H y w)
    (h : Post B (match vw M y, keyOf x with
    | .dct kvs, some k => .ok (.bl (if neg then !(look kvs k).isSome else (look kvs k).isSome)) M
    | .lst ds, _ => if flat x && ds.all flat then .ok (.bl (if neg then !(ds.any fun d => eqD d x) else ds.any fun d => eqD d x)) M else .bad
    | .tup ds, _ => if flat x && ds.all flat then .ok (.bl (if neg then !(ds.any fun d => eqD d x) else ds.any fun d => eqD d x)) M else .bad
    | _, _ => .bad) F ρ H Q X) : rDin B neg v w H Q ∨ rIn B.K neg v w H Q := by
  split at h
  · rename_i kds k hv hk
    obtain ⟨a, kvs, rfl, q, e1, e2⟩ := vw_dct S ry hv
    have := (look_val (k := k) e1 e2).2.2
    refine .inl ⟨a, kvs, k, rfl, key_rd hk rx, q, ?_⟩
    rw [← this]
    exact PostG.run h S (by simp only [RD])
  · rename_i ds hv
    split at h
    · rename_i hf
      simp only [Bool.and_eq_true] at hf
      obtain ⟨a, vs, rfl, q, r⟩ := vw_lst S ry hv
      refine .inr ⟨a, vs, rfl, .inl q, flat_rd hf.1 rx, flat_all hf.2 r, ?_⟩
      rw [← any_inV hf.1 rx hf.2 r]
      exact PostG.run h S (by simp only [RD])
    · exact h.elim
  · rename_i ds hv
    split at h
    · rename_i hf
      simp only [Bool.and_eq_true] at hf
      obtain ⟨a, vs, rfl, q, r⟩ := vw_tup S ry hv
      refine .inr ⟨a, vs, rfl, .inr q, flat_rd hf.1 rx, flat_all hf.2 r, ?_⟩
      rw [← any_inV hf.1 rx hf.2 r]
      exact PostG.run h S (by simp only [RD])
    · exact h.elim
  · exact h.elim
theorem cmp2_sim {o : Cmp} {x y : D} {v w : V} {X : XK} (S : SR B F ρ M H) (rx : RD B F ρ H x v) (ry : RD B F ρ H y w) (h : Post B (cmp2 o M x y) F ρ H Q X) : rCmp B o v w H Q := by
  have eqv : ∀ neg : Bool, Post B (if cmpOk (top M x) (top M y) then .ok (.bl (if neg then !eqD (top M x) (top M y) else eqD (top M x) (top M y))) M else .bad) F ρ H Q X → rEqD B.K neg v w H Q := by
    intro neg h
    split at h
    · rename_i hc
      have hc' := hc
      simp only [cmpOk, Bool.and_eq_true] at hc'
      exact ⟨_, _, top_dv S hc'.1.1 rx, top_dv S hc'.1.2 ry, hc, PostG.run h S (by simp only [RD])⟩
    · exact h.elim
  unfold cmp2 at h
  split at h
  · simp only [RD] at rx ry; subst rx ry; exact ⟨_, _, rfl, rfl, PostG.run h S (by simp only [RD])⟩
  · simp only [RD] at rx ry; subst rx ry; exact ⟨_, _, rfl, rfl, PostG.run h S (by simp only [RD])⟩
  · simp only [RD] at rx ry; subst rx ry; exact ⟨_, _, rfl, rfl, PostG.run h S (by simp only [RD])⟩
  · simp only [RD] at rx ry; subst rx ry; exact ⟨_, _, rfl, rfl, PostG.run h S (by simp only [RD])⟩
  · simp only [RD] at rx ry; subst rx ry; exact .inl ⟨_, _, rfl, rfl, PostG.run h S (by simp only [RD]; rfl)⟩
  · simp only [RD] at rx ry; subst rx ry; exact .inl ⟨_, _, rfl, rfl, PostG.run h S (by simp only [RD]; rfl)⟩
  · exact .inr (eqv false h)
  · exact .inr (eqv true h)
  · simp only [RD] at rx ry; subst rx ry; exact ⟨rfl, PostG.run h S (by simp [RD])⟩
  · rename_i hn
    simp only [RD] at ry; subst ry
    refine ⟨rfl, ?_⟩
    have : v ≠ .non := by
      rintro rfl
      cases x <;> simp [RD] at rx hn
    rw [decide_eq_false this]
    exact PostG.run h S (by simp only [RD])
  · simp only [RD] at rx ry; subst rx ry; exact ⟨rfl, PostG.run h S (by simp [RD])⟩
  · rename_i hn
    simp only [RD] at ry; subst ry
    refine ⟨rfl, ?_⟩
    have : v ≠ .non := by
      rintro rfl
      cases x <;> simp [RD] at rx hn
    rw [decide_eq_false this]
    exact PostG.run h S (by simp only [RD]; rfl)
  · exact in_sim (neg := false) S rx ry h
  · exact in_sim (neg := true) S rx ry h
  · exact h.elim
theorem sim_cmp {o : Cmp} {a b : Fg.E} (h : T B Φ E (.cmp o a b) σ H Q) : tOp (rCmp B o) (T B Φ E a) (T B Φ E b) σ H Q := by
  obtain ⟨σD, M, F, ρ, S, r, h⟩ := h
  simp only [ev] at h
  exact T.two S r rfl h fun x y M2 F2 ρ2 H2 v w S2 _ rx ry h2 => cmp2_sim S2 rx ry h2

/-! ### places -/
theorem ixn_eq (n : Nat) (i : Int) : ixn n i = ixN n i := rfl
theorem ati_rd {ds : List D} {vs : List V} {i : Int} {d : D} (r : RDs B F ρ H ds vs) (h : ati ds i = some d) : ∃ v, atI vs i = some v ∧ RD B F ρ H d v := by
  unfold ati at h
  unfold atI
  rw [← RDs.length r]
  cases hx : ixn ds.length i with
  | none => rw [hx] at h; cases h
  | some j =>
    rw [hx] at h
    rw [ixn_eq] at hx
    rw [hx]
    exact RDs.get r h
def rIxD (B : Bd) : R2 := fun x y H Q => ∃ a kvs k v, x = .ref a ∧ y = kV k ∧ SqD B H a kvs ∧ valV kvs k = some v ∧ Q v H
def rIxA (B : Bd) : R2 := fun x y H Q => rIxL B.K x y H Q ∨ (rIxT B.K x y H Q ∨ (rIxS x y H Q ∨ rIxD B x y H Q))
theorem idx2_sim {x y : D} {v w : V} {X : XK} (S : SR B F ρ M H) (rx : RD B F ρ H x v) (ry : RD B F ρ H y w) (h : Post B (idx2 M x y) F ρ H Q X) : rIxA B v w H Q := by
  unfold idx2 at h
  split at h
  · simp only [RD] at rx ry; subst rx ry
    split at h
    · rename_i hl
      split at h
      · rename_i c hc
        exact .inr (.inr (.inl ⟨_, _, c, rfl, rfl, Nat.le_trans (of_decide_eq_true hl) line_le, hc, PostG.run h S (by simp only [RD])⟩))
      · exact h.elim
    · exact h.elim
  · split at h
    · rename_i ds i hv _
      split at h
      · rename_i d hd
        obtain ⟨a, vs, rfl, q, r⟩ := vw_tup S rx hv
        simp only [RD] at ry; subst ry
        obtain ⟨u, h1, h2⟩ := ati_rd r hd
        exact .inr (.inl ⟨a, vs, i, u, rfl, rfl, q, h1, PostG.run h S h2⟩)
      · exact h.elim
    · rename_i ds i hv _
      split at h
      · rename_i d hd
        obtain ⟨a, vs, rfl, q, r⟩ := vw_lst S rx hv
        simp only [RD] at ry; subst ry
        obtain ⟨u, h1, h2⟩ := ati_rd r hd
        exact .inl ⟨a, vs, i, u, rfl, rfl, q, h1, PostG.run h S h2⟩
      · exact h.elim
    · rename_i kds hv _
      split at h
      · rename_i k hk
        split at h
        · rename_i d hd
          obtain ⟨a, kvs, rfl, q, e1, e2⟩ := vw_dct S rx hv
          obtain ⟨u, h1, h2⟩ := (look_val (k := k) e1 e2).1 d hd
          exact .inr (.inr (.inr ⟨a, kvs, k, u, rfl, key_rd hk ry, q, h1, PostG.run h S h2⟩))
        · exact h.elim
      · exact h.elim
    · exact h.elim
theorem sim_idx {a b : Fg.E} (h : T B Φ E (.idx a b) σ H Q) : tOp (rIxA B) (T B Φ E a) (T B Φ E b) σ H Q := by
  obtain ⟨σD, M, F, ρ, S, r, h⟩ := h
  simp only [ev] at h
  exact T.two S r rfl h fun x y M2 F2 ρ2 H2 v w S2 _ rx ry h2 => idx2_sim S2 rx ry h2

/-! ### slices -/
theorem six_eq (n d : Nat) (o : Option Int) : six n d o = HT.sIx n d o := by cases o <;> rfl
theorem cutl_rd {ds : List D} {vs : List V} (r : RDs B F ρ H ds vs) (lo hi : Option Int) : RDs B F ρ H (cutl ds lo hi) (cutV vs lo hi) := by
  unfold cutl cutV
  rw [RDs.length r]
  simp only [six_eq]
  exact RDs.take _ (RDs.drop _ r)
def rSlS : V → Option Int → Option Int → Hp → VK → Prop := fun x lo hi H Q => ∃ z, x = .str z ∧ z.length ≤ sizeLine ∧ Q (.str (cuts z lo hi)) H
def rSlA (B : Bd) : V → Option Int → Option Int → Hp → VK → Prop := fun x lo hi H Q => rSlL B.K x lo hi H Q ∨ (rSlT B.K x lo hi H Q ∨ rSlS x lo hi H Q)
theorem sl2_sim {fz : Bool} {x : D} {v : V} {lo hi : Option Int} {X : XK} (S : SR B F ρ M H) (rx : RD B F ρ H x v) (h : Post B (sl2 fz M x lo hi) F ρ H Q X) : rSlA B v lo hi H Q := by
  unfold sl2 at h
  split at h
  · simp only [RD] at rx; subst rx
    split at h
    · rename_i hl
      exact .inr (.inr ⟨_, rfl, Nat.le_trans (of_decide_eq_true hl) line_le, PostG.run h S (by simp only [RD])⟩)
    · exact h.elim
  · split at h
    · rename_i ds hv
      cases x with
      | tup xs =>
        simp only [vw] at hv; cases hv
        simp only [RD] at rx
        obtain ⟨a, vs, rfl, z, r⟩ := rx
        split at h
        · exact h.elim
        · rename_i hf
          refine .inr (.inl ⟨a, vs, rfl, z.sq, fun q => hf ?_, tup_sim S h (cutl_rd r lo hi)⟩)
          simp only [fullS, Bool.and_eq_true, decide_eq_true_eq, six_eq, RDs.length r]
          exact q
      | ref n => simp only [vw] at hv; split at hv <;> cases hv
      | lst _ => simp only [vw] at hv; cases hv
      | dct _ _ => simp only [vw] at hv; cases hv
      | non => simp only [vw] at hv; cases hv
      | bl _ => simp only [vw] at hv; cases hv
      | int _ => simp only [vw] at hv; cases hv
      | str _ => simp only [vw] at hv; cases hv
    · rename_i ds hv
      obtain ⟨a, vs, rfl, q, r⟩ := vw_lst S rx hv
      exact .inl ⟨a, vs, rfl, q, newl_sim S h (cutl_rd r lo hi)⟩
    · exact h.elim
theorem sim_o0 {Q : Option Int → Hp → Prop} (h : TP B Φ E .none σ H Q) : tNoPart σ H Q := by
  obtain ⟨σD, M, F, ρ, S, r, h⟩ := h
  simp only [evo] at h
  exact PostG.run h S rfl
theorem sim_o1 {a : Fg.E} {Q : Option Int → Hp → Prop} (h : TP B Φ E (.some a) σ H Q) : tPart (T B Φ E a) σ H Q := by
  obtain ⟨σD, M, F, ρ, S, r, h⟩ := h
  simp only [evo] at h
  refine ⟨σD, M, F, ρ, S, r, PostG.imp (PostG.bind (rel := RD B) h) fun v H1 ⟨x, M1, F1, ρ1, e1, S1, rx, h1⟩ => ?_⟩
  split at h1
  · simp only [RD] at rx; subst rx
    exact ⟨_, rfl, PostG.run h1 S1 rfl⟩
  · exact h1.elim
theorem sim_sl {fz : Bool} {a : Fg.E} {lo hi : O} (h : T B Φ E (.sl fz a lo hi) σ H Q) : tSl (rSlA B) (T B Φ E a) (TP B Φ E lo) (TP B Φ E hi) σ H Q := by
  obtain ⟨σD, M, F, ρ, S, r, h⟩ := h
  simp only [ev] at h
  refine T.one S r rfl h fun x M1 F1 ρ1 H1 v e1 S1 r1 rx h1 => ?_
  refine ⟨σD, M1, F1, ρ1, S1, r1, PostG.imp (PostG.bind (rel := fun _ _ _ (a b : Option Int) => a = b) h1) fun l H2 ⟨l', M2, F2, ρ2, e2, S2, el, h2⟩ => ?_⟩
  refine ⟨σD, M2, F2, ρ2, S2, r1.mono e2, PostG.imp (PostG.bind (rel := fun _ _ _ (a b : Option Int) => a = b) h2) fun u H3 ⟨u', M3, F3, ρ3, e3, S3, eu, h3⟩ => ?_⟩
  subst el eu
  exact sl2_sim S3 (RD.mono e3 _ _ (RD.mono e2 _ _ rx)) h3

theorem vw_tup_eq {M : MH} {d : D} {ds : List D} (h : vw M d = .tup ds) : d = .tup ds := by
  cases d with
  | tup xs => simp only [vw] at h; cases h; rfl
  | ref n => simp only [vw] at h; split at h <;> cases h
  | lst _ => simp only [vw] at h; cases h
  | dct _ _ => simp only [vw] at h; cases h
  | non => simp only [vw] at h; cases h
  | bl _ => simp only [vw] at h; cases h
  | int _ => simp only [vw] at h; cases h
  | str _ => simp only [vw] at h; cases h
/-! ### built-in functions -/
def intsV : List V → Option (List Int)
  | [] => some []
  | .int i :: vs => (intsV vs).map (i :: ·)
  | _ => none
theorem ints_rd : ∀ {ds : List D} {vs : List V} {ns : List Int}, RDs B F ρ H ds vs → intsOf ds = some ns → vs = ns.map V.int
  | [], vs, ns, r, h => by simp only [intsOf] at h; cases h; simp only [RDs] at r; subst r; rfl
  | d :: ds, vs, ns, r, h => by
    cases d with
    | int i =>
      simp only [intsOf] at h
      cases hx : intsOf ds with
      | none => rw [hx] at h; cases h
      | some ms =>
        rw [hx] at h; cases h
        simp only [RDs] at r
        obtain ⟨v, ws, rfl, r1, r2⟩ := r
        simp only [RD] at r1; subst r1
        rw [ints_rd r2 hx]; rfl
    | _ => simp [intsOf] at h
def rLen (B : Bd) : List V → Hp → VK → Prop := fun xs H Q => (∃ z, xs = [.str z] ∧ z.length ≤ sizeLine ∧ Q (.int z.length) H) ∨ ((∃ p ys, xs = [.ref p] ∧ (SqL B.K H p ys ∨ SqT B.K H p ys) ∧ Q (.int ys.length) H) ∨ (∃ a kvs, xs = [.ref a] ∧ SqD B H a kvs ∧ Q (.int kvs.length) H))
def rSum (B : Bd) : List V → Hp → VK → Prop := fun xs H Q => ∃ (p : Addr) (ns : List Int), xs = [.ref p] ∧ SqL B.K H p (ns.map V.int) ∧ Q (.int ns.sum) H
def rTupOf (B : Bd) : List V → Hp → VK → Prop := fun xs H Q => ∃ p ys, xs = [.ref p] ∧ ((SqL B.K H p ys ∧ ∀ l, H l = none → Q (.ref l) (upd H l (.tup ys))) ∨ (SqT B.K H p ys ∧ Q (.ref p) H))
def rLstOf (B : Bd) : List V → Hp → VK → Prop := fun xs H Q => ∃ p ys, xs = [.ref p] ∧ (SqL B.K H p ys ∨ SqT B.K H p ys) ∧ ∀ l, H l = none → Q (.ref l) (upd H l (.lst ys))
def rDctOf (B : Bd) : List V → Hp → VK → Prop := fun xs H Q => ∃ p kvs, xs = [.ref p] ∧ SqD B H p kvs ∧ ∀ l, H l = none → Q (.ref l) (upd H l (.dK kvs))
def rBl (B : Bd) : Bl → List V → Hp → VK → Prop
  | .len => rLen B
  | .sum => rSum B
  | .tuple => rTupOf B
  | .list => rLstOf B
  | .dict => rDctOf B
  | _ => fun _ _ _ => False
theorem rds1 {d : D} {vs : List V} (r : RDs B F ρ H [d] vs) : ∃ v, vs = [v] ∧ RD B F ρ H d v := by
  simp only [RDs] at r
  obtain ⟨v, ws, rfl, r1, rfl⟩ := r
  exact ⟨v, rfl, r1⟩
theorem blt1_sim {b : Bl} {fz : Bool} {ds : List D} {vs : List V} {X : XK} (S : SR B F ρ M H) (r : RDs B F ρ H ds vs) (h : Post B (blt1 b fz M ds) F ρ H Q X) : rBl B b vs H Q := by
  unfold blt1 at h
  split at h
  · obtain ⟨v, rfl, r1⟩ := rds1 r
    simp only [RD] at r1; subst r1
    cases b <;> simp only at h <;> first
      | exact h.elim
      | (split at h
         · rename_i hl
           exact .inl ⟨_, rfl, Nat.le_trans (of_decide_eq_true hl) line_le, PostG.run h S (by simp only [RD])⟩
         · exact h.elim)
  · obtain ⟨v, rfl, r1⟩ := rds1 r
    split at h
    · rename_i hv
      obtain ⟨a, ws, rfl, q, rr⟩ := vw_tup S r1 hv
      exact .inr (.inl ⟨a, ws, rfl, .inr q, PostG.run h S (by simp only [RD, RDs.length rr])⟩)
    · rename_i hv
      obtain ⟨a, ws, rfl, q, rr⟩ := vw_lst S r1 hv
      exact .inr (.inl ⟨a, ws, rfl, .inl q, PostG.run h S (by simp only [RD, RDs.length rr])⟩)
    · rename_i hv
      obtain ⟨a, kvs, rfl, q, e1, e2⟩ := vw_dct S r1 hv
      refine .inr (.inr ⟨a, kvs, rfl, q, PostG.run h S ?_⟩)
      have := congrArg List.length e1
      simp only [List.length_map] at this
      simp only [RD, this]
    · rename_i hv
      split at h
      · rename_i ns hn
        obtain ⟨a, ws, rfl, q, rr⟩ := vw_lst S r1 hv
        have := ints_rd rr hn
        subst this
        exact ⟨a, ns, rfl, q, PostG.run h S (by simp only [RD])⟩
      · exact h.elim
    · rename_i hv
      obtain ⟨a, ws, rfl, q, rr⟩ := vw_lst S r1 hv
      exact ⟨a, ws, rfl, .inl ⟨q, tup_sim S h rr⟩⟩
    · rename_i hv
      have ed := vw_tup_eq hv
      subst ed
      have r1' := r1
      simp only [RD] at r1'
      obtain ⟨a, ws, rfl, q, rr⟩ := r1'
      exact ⟨a, ws, rfl, .inr ⟨q.sq, PostG.run h S r1⟩⟩
    · rename_i hv
      obtain ⟨a, ws, rfl, q, rr⟩ := vw_lst S r1 hv
      exact ⟨a, ws, rfl, .inl q, newl_sim S h rr⟩
    · rename_i hv
      obtain ⟨a, ws, rfl, q, rr⟩ := vw_tup S r1 hv
      exact ⟨a, ws, rfl, .inr q, newl_sim S h rr⟩
    · rename_i kds hv
      obtain ⟨a, kvs, rfl, q, e1, e2⟩ := vw_dct S r1 hv
      refine ⟨a, kvs, rfl, q, fun p hp => ?_⟩
      have e0 : Ext F ρ H F (ρ ++ [p]) (upd H p (.dK kvs)) := ⟨⟨S.sep, fun _ q => q, fun a q _ => upd_ne (by rintro rfl; exact q hp), List.prefix_append _ _, fun a q => by
        rcases List.mem_append.mp q with q | q
        · exact .inl q
        · rw [List.mem_singleton.mp q]; exact .inr hp, fun _ q => .inl q⟩, fun b w u q => by rw [upd_ne (by rintro rfl; rw [hp] at q; cases q)]; exact q⟩
      obtain ⟨S', e⟩ := S.lv (o := .dK kvs) (u := .dct kds) hp ⟨kvs, upd_same, e1, RDs.mono e0 _ _ e2⟩
      refine h _ _ _ _ e S' ?_
      simp only [RD]
      refine ⟨p, ?_, rfl⟩
      rw [← S.len, List.getElem?_append_right (Nat.le_refl _), Nat.sub_self]; rfl
    · exact h.elim
  · exact h.elim
theorem sim_blt {b : Bl} {fz : Bool} {es : Es} (h : T B Φ E (.blt b fz es) σ H Q) : tCB (rBl B b) (TL B Φ E es) σ H Q := by
  obtain ⟨σD, M, F, ρ, S, r, h⟩ := h
  simp only [ev] at h
  exact TL.one S r rfl h fun x M1 F1 ρ1 H1 v _ S1 _ rx h1 => blt1_sim S1 rx h1
end
end Fg

end
section
set_option Elab.async false
set_option linter.all false
set_option maxRecDepth 100000
set_option autoImplicit false
namespace Fg
open PySem L2

/-! ### what is wanted behind a statement -/
def OutP (B : Bd) (o : Out) (F : Addr → Prop) (ρ : List Addr) (H : Hp) (Dn : Ends) (E : Gx) : Prop :=
  match o with
  | .nx σD => ∀ σ, RS B F ρ H σD σ → Dn.nx σ H
  | .rt d => ∀ v, RD B F ρ H d v → Dn.rt v H
  | .bk σD => ∀ σ, RS B F ρ H σD σ → Dn.bk σ H
  | .ct σD => ∀ σ, RS B F ρ H σD σ → Dn.ct σ H
  | .xc c σD => ∀ σ cv x, RS B F ρ H σD σ → B.exc c cv → E.e cv x σ H
def PostS (B : Bd) (r : R Out) (F : Addr → Prop) (ρ : List Addr) (H : Hp) (Dn : Ends) (E : Gx) : Prop :=
  match r with
  | .ok o M' => ∀ F' ρ' H', Ext F ρ H F' ρ' H' → SR B F' ρ' M' H' → OutP B o F' ρ' H' Dn E
  | .exc _ _ => False
  | .bad => False
def TC (B : Bd) (Φ : Fns) (E : Gx) (s : S) : TS := fun Dn σ H => ∃ (σD : Sg) (M : MH) (F : Addr → Prop) (ρ : List Addr),
  SR B F ρ M H ∧ RS B F ρ H σD σ ∧ PostS B (ex Φ s σD M) F ρ H Dn E
def TCs (B : Bd) (Φ : Fns) (E : Gx) (s : Ss) : TS := fun Dn σ H => ∃ (σD : Sg) (M : MH) (F : Addr → Prop) (ρ : List Addr),
  SR B F ρ M H ∧ RS B F ρ H σD σ ∧ PostS B (exs Φ s σD M) F ρ H Dn E

section
variable {B : Bd} {Φ : Fns} {E : Gx} {F F' F1 : Addr → Prop} {ρ ρ' ρ1 : List Addr} {H H' H1 : Hp} {M M' : MH} {σD : Sg} {σ : St} {Q : VK} {Dn : Ends}
theorem PostS.weak {r : R Out} (e : Ext F ρ H F1 ρ1 H1) (h : PostS B r F ρ H Dn E) : PostS B r F1 ρ1 H1 Dn E := by
  cases r with
  | ok d M' => exact fun F' ρ' H' e' S => h F' ρ' H' (e.trans e') S
  | exc c M' => exact h
  | bad => exact h
theorem PostS.use {α β : Type} {rel : (Addr → Prop) → List Addr → Hp → α → β → Prop} {x : R α} {f : α → MH → R Out} (r : RS B F ρ H σD σ) (h : PostS B (x.use σD f) F ρ H Dn E) :
    PostG rel B x F ρ H (fun v H' => ∃ d M' F' ρ', Ext F ρ H F' ρ' H' ∧ SR B F' ρ' M' H' ∧ rel F' ρ' H' d v ∧ PostS B (f d M') F' ρ' H' Dn E) (fun cv x H' => E.e cv x σ H') := by
  cases x with
  | ok d M' => exact fun F' ρ' H' v e S q => ⟨d, M', F', ρ', e, S, q, PostS.weak e h⟩
  | exc c M' => exact fun F' ρ' H' cv x e S q => h F' ρ' H' e S σ cv x (r.mono e) q
  | bad => exact h
theorem TC.one {a : Fg.E} {f : D → MH → R Out} {W : V → Hp → Prop} (S : SR B F ρ M H) (r : RS B F ρ H σD σ) (h : PostS B ((ev Φ a σD M).use σD f) F ρ H Dn E)
    (k : ∀ x M1 F1 ρ1 H1 v, Ext F ρ H F1 ρ1 H1 → SR B F1 ρ1 M1 H1 → RS B F1 ρ1 H1 σD σ → RD B F1 ρ1 H1 x v → PostS B (f x M1) F1 ρ1 H1 Dn E → W v H1) : T B Φ E a σ H W := by
  refine ⟨σD, M, F, ρ, S, r, PostG.imp (PostS.use (rel := RD B) r h) fun v H1 ⟨x, M1, F1, ρ1, e, S1, rx, h1⟩ => ?_⟩
  exact k x M1 F1 ρ1 H1 v e S1 (r.mono e) rx h1
theorem PostS.run {o : Out} (h : PostS B (.ok o M) F ρ H Dn E) (S : SR B F ρ M H) : OutP B o F ρ H Dn E := h F ρ H S.refl S

theorem sim_set {i : Nat} {e : Fg.E} (h : TC B Φ E (.set i e) Dn σ H) : tAsg (T B Φ E e) (gName i) Dn σ H := by
  obtain ⟨σD, M, F, ρ, S, r, h⟩ := h
  simp only [ex] at h
  exact TC.one S r h fun x M1 F1 ρ1 H1 v e1 S1 r1 rx h1 => PostS.run h1 S1 _ (r1.set rx i)
theorem sim_ex {e : Fg.E} (h : TC B Φ E (.ex e) Dn σ H) : tDrop (T B Φ E e) Dn σ H := by
  obtain ⟨σD, M, F, ρ, S, r, h⟩ := h
  simp only [ex] at h
  exact TC.one S r h fun x M1 F1 ρ1 H1 v e1 S1 r1 rx h1 => PostS.run h1 S1 _ r1
theorem sim_ret {e : Fg.E} (h : TC B Φ E (.ret e) Dn σ H) : tRet (T B Φ E e) Dn σ H := by
  obtain ⟨σD, M, F, ρ, S, r, h⟩ := h
  simp only [ex] at h
  exact TC.one S r h fun x M1 F1 ρ1 H1 v e1 S1 r1 rx h1 => PostS.run h1 S1 _ rx
theorem sim_ret0 (h : TC B Φ E .ret0 Dn σ H) : tRetN Dn σ H := by
  obtain ⟨σD, M, F, ρ, S, r, h⟩ := h
  simp only [ex] at h
  exact PostS.run h S _ (by simp only [RD])
theorem sim_pass (h : TC B Φ E .pass Dn σ H) : tNext Dn σ H := by
  obtain ⟨σD, M, F, ρ, S, r, h⟩ := h
  simp only [ex] at h
  exact PostS.run h S _ r
theorem sim_brk (h : TC B Φ E .brk Dn σ H) : tBreak Dn σ H := by
  obtain ⟨σD, M, F, ρ, S, r, h⟩ := h
  simp only [ex] at h
  exact PostS.run h S _ r
theorem sim_cont (h : TC B Φ E .cont Dn σ H) : tCont Dn σ H := by
  obtain ⟨σD, M, F, ρ, S, r, h⟩ := h
  simp only [ex] at h
  exact PostS.run h S _ r
theorem sim_ifs {c : Fg.E} {a b : Ss} (h : TC B Φ E (.ifs c a b) Dn σ H) : tIfS (TB B Φ E c) (TCs B Φ E a) (TCs B Φ E b) Dn σ H := by
  obtain ⟨σD, M, F, ρ, S, r, h⟩ := h
  simp only [ex] at h
  refine TC.one S r h fun x M1 F1 ρ1 H1 v e1 S1 r1 rx h1 => ?_
  split at h1
  · simp only [RD] at rx; subst rx
    exact ⟨true, rfl, by dsimp only; rw [if_pos rfl]; exact ⟨σD, M1, F1, ρ1, S1, r1, h1⟩⟩
  · simp only [RD] at rx; subst rx
    exact ⟨false, rfl, by dsimp only; rw [if_neg Bool.false_ne_true]; exact ⟨σD, M1, F1, ρ1, S1, r1, h1⟩⟩
  · exact h1.elim
theorem sim_snil (h : TCs B Φ E .nil Dn σ H) : tNext Dn σ H := by
  obtain ⟨σD, M, F, ρ, S, r, h⟩ := h
  simp only [exs] at h
  exact PostS.run h S _ r
theorem sim_scons {s : S} {ss : Ss} (h : TCs B Φ E (.cons s ss) Dn σ H) : tSeq (TC B Φ E s) (TCs B Φ E ss) Dn σ H := by
  obtain ⟨σD, M, F, ρ, S, r, h⟩ := h
  simp only [exs] at h
  refine ⟨σD, M, F, ρ, S, r, ?_⟩
  cases hx : ex Φ s σD M with
  | ok o M1 =>
    rw [hx] at h
    simp only [R.bind_ok] at h
    intro F' ρ' H' e S'
    cases o with
    | nx σ1 => exact fun σ' r' => ⟨σ1, M1, F', ρ', S', r', PostS.weak e h⟩
    | rt d => exact fun v q => h F' ρ' H' e S' v q
    | bk σ1 => exact fun σ' q => h F' ρ' H' e S' σ' q
    | ct σ1 => exact fun σ' q => h F' ρ' H' e S' σ' q
    | xc c σ1 => exact fun σ' cv x q1 q2 => h F' ρ' H' e S' σ' cv x q1 q2
  | exc c M1 => rw [hx] at h; exact h
  | bad => rw [hx] at h; exact h

/-! ### append, d[k] = v -/
theorem append_sim {fz : Bool} {x : D} {ds : List D} {v : V} {vs : List V} {X : XK} (S : SR B F ρ M H) (rx : RD B F ρ H x v) (r : RDs B F ρ H ds vs) (h : Post B (mth1 .append fz M x ds) F ρ H Q X) : rAppend v vs H Q := by
  cases x with
  | ref n =>
    cases ds with
    | nil => exact h.elim
    | cons d t =>
      cases t with
      | cons _ _ => exact h.elim
      | nil =>
        simp only [mth1] at h
        split at h
        · rename_i xs hx
          split at h
          · rename_i hl
            obtain ⟨w, rfl, r1⟩ := rds1 r
            simp only [RD] at rx
            obtain ⟨a, h1, rfl⟩ := rx
            obtain ⟨ws, h2, h3⟩ := S.obj n a _ h1 hx
            refine ⟨a, ws, w, rfl, rfl, h2, ?_, ?_⟩
            · rw [← RDs.length h3]; exact Nat.lt_of_lt_of_le (of_decide_eq_true hl) line_le
            · obtain ⟨S', e⟩ := S.st (o := .lst (ws ++ [w])) (u := .lst (xs ++ [d])) h1 (fun _ _ q => by rw [h2] at q; cases q) ⟨_, upd_same, RDs.mono0 (Ext0.at_ S h1) _ _ (h3.append (RDs.cons r1 RDs.nil))⟩
              exact h _ _ _ _ e S' (by simp only [RD])
          · exact h.elim
        · exact h.elim
  | tup _ => exact h.elim
  | lst _ => exact h.elim
  | dct _ _ => exact h.elim
  | non => exact h.elim
  | bl _ => exact h.elim
  | int _ => exact h.elim
  | str _ => exact h.elim
theorem put_rd {k : Key} {d : D} {v : V} (rd : RD B F ρ H d v) : ∀ {kds : List (Ky × D)} {kvs : List (Key × V)}, kvs.map (·.1) = kds.map (·.1) → RDs B F ρ H (kds.map (·.2)) (kvs.map (·.2)) →
    (putK kvs k v).map (·.1) = (put kds k d).map (·.1) ∧ RDs B F ρ H ((put kds k d).map (·.2)) ((putK kvs k v).map (·.2)) := by
  have hmap : ∀ {kds : List (Ky × D)} {kvs : List (Key × V)}, kvs.map (·.1) = kds.map (·.1) → RDs B F ρ H (kds.map (·.2)) (kvs.map (·.2)) →
      (kvs.map fun kv => if kv.1 = k then (kv.1, v) else kv).map (·.1) = (kds.map fun kv => if kv.1 = k then (kv.1, d) else kv).map (·.1) ∧
      RDs B F ρ H ((kds.map fun kv => if kv.1 = k then (kv.1, d) else kv).map (·.2)) ((kvs.map fun kv => if kv.1 = k then (kv.1, v) else kv).map (·.2)) := by
    intro kds
    induction kds with
    | nil => intro kvs h1 h2; cases kvs with | nil => exact ⟨rfl, RDs.nil⟩ | cons _ _ => simp at h1
    | cons p kds ih =>
      intro kvs h1 h2
      cases kvs with
      | nil => simp at h1
      | cons q kvs =>
        obtain ⟨pk, pd⟩ := p
        obtain ⟨qk, qv⟩ := q
        simp only [List.map_cons, List.cons.injEq] at h1
        simp only [List.map_cons, RDs] at h2
        obtain ⟨u, ws, e, r1, r2⟩ := h2
        cases e
        obtain ⟨e1, e2⟩ := h1
        subst e1
        obtain ⟨i1, i2⟩ := ih e2 r2
        by_cases hk : qk = k
        · simp only [List.map_cons, if_pos hk, i1, true_and]
          exact RDs.cons rd i2
        · simp only [List.map_cons, if_neg hk, i1, true_and]
          exact RDs.cons r1 i2
  have hany : ∀ {kds : List (Ky × D)} {kvs : List (Key × V)}, kvs.map (·.1) = kds.map (·.1) → (kvs.any fun kv => decide (kv.1 = k)) = (kds.any fun kv => decide (kv.1 = k)) := by
    intro kds
    induction kds with
    | nil => intro kvs h1; cases kvs with | nil => rfl | cons _ _ => simp at h1
    | cons p kds ih =>
      intro kvs h1
      cases kvs with
      | nil => simp at h1
      | cons q kvs =>
        simp only [List.map_cons, List.cons.injEq] at h1
        simp only [List.any_cons, h1.1, ih h1.2]
  intro kds kvs h1 h2
  unfold putK put
  rw [hany h1]
  split
  · exact hmap h1 h2
  · simp only [List.map_append, List.map_cons, List.map_nil, h1, true_and]
    exact h2.append (RDs.cons rd RDs.nil)

/-! ### loops -/
/-- what it walks comes to ds -/
def Walks (B : Bd) (J : It) (src : D) (ds : List D) (F0 : Addr → Prop) (ρ0 : List Addr) (M0 : MH) (H0 : Hp) : Prop :=
  ∀ (i : Nat) F ρ M H, Ext F0 ρ0 H0 F ρ H → SR B F ρ M H → still M0 src M = true →
    (∀ d, ds[i]? = some d → J.go i H ∧ ∀ x H', J.yld i H x H' → ∃ F', Ext F ρ H F' ρ H' ∧ SR B F' ρ M H' ∧ RD B F' ρ H' d x) ∧ (ds.length ≤ i → J.stop i H)
def TIt (B : Bd) (Φ : Fns) (E : Gx) (c : Src) : TI := fun σ H R => ∃ (σD : Sg) (M : MH) (F : Addr → Prop) (ρ : List Addr),
  SR B F ρ M H ∧ RS B F ρ H σD σ ∧ PostG (fun F' ρ' H' (p : D × List D × Bool) (J : It) => ∀ M', evi Φ c σD M = .ok p M' → SR B F' ρ' M' H' → Walks B J p.1 p.2.1 F' ρ' M' H' ∧
    (p.2.2 = true → ∃ n a, p.1 = .ref n ∧ ρ'[n]? = some a ∧ E.th a ∧ ∀ w v, H a ≠ some (.frz w v))) B (evi Φ c σD M) F ρ H R (fun cv x H' => E.e cv x σ H')
def thE (th : Addr → Prop) (D : Ends) : Ends := ⟨fun σ H => ∃ H', Thw th H H' ∧ D.nx σ H', fun v H => ∃ H', Thw th H H' ∧ D.rt v H', fun σ H => ∃ H', Thw th H H' ∧ D.bk σ H', fun σ H => ∃ H', Thw th H H' ∧ D.ct σ H'⟩
theorem thaw_fin {F1 : Addr → Prop} {ρ0 ρ1 : List Addr} {H1 : Hp} {M1 : MH} {fl : Bool} {src : D} {th : Addr → Prop} (S : SR B F1 ρ1 M1 H1) (e : Ext F ρ H F1 ρ1 H1) (hp : ρ0 <+: ρ1) (wz : fl = true → ∃ n a, src = .ref n ∧ ρ0[n]? = some a ∧ th a ∧ ∀ w v, H a ≠ some (.frz w v)) :
    ∃ H', Thw th H1 H' ∧ SR B F1 ρ1 (unwk fl src M1) H' ∧ Ext F ρ H F1 ρ1 H' ∧ Ext0 F1 ρ1 H1 F1 ρ1 H' := by
  have same : SR B F1 ρ1 M1 H1 ∧ Ext F ρ H F1 ρ1 H1 ∧ Ext0 F1 ρ1 H1 F1 ρ1 H1 := ⟨S, e, S.refl.toExt0⟩
  cases fl with
  | false => exact ⟨H1, .inl rfl, by cases src <;> exact same⟩
  | true =>
    obtain ⟨n, a, rfl, hn, ht, hz⟩ := wz rfl
    have hn1 : ρ1[n]? = some a := by
      obtain ⟨t, rfl⟩ := hp
      obtain ⟨q, _⟩ := List.getElem?_eq_some_iff.mp hn
      rw [List.getElem?_append_left q]; exact hn
    cases hM : M1[n]? with
    | none => refine ⟨H1, .inl rfl, ?_⟩; simp only [unwk, hM]; exact same
    | some o =>
      cases o with
      | dwk kvs =>
        obtain ⟨o, kws, h1, S'⟩ := S.uw hn1 hM
        refine ⟨upd H1 a (.dK kws), .inr ⟨a, o, kws, ht, h1, rfl⟩, ?_, e.thaw (List.mem_of_getElem? hn1) hz S.sep, Ext0.at_ S hn1⟩
        simp only [unwk, hM]; exact S'
      | lst _ => refine ⟨H1, .inl rfl, ?_⟩; simp only [unwk, hM]; exact same
      | dct _ => refine ⟨H1, .inl rfl, ?_⟩; simp only [unwk, hM]; exact same
      | ins _ _ => refine ⟨H1, .inl rfl, ?_⟩; simp only [unwk, hM]; exact same
theorem RS.mono0 {F' : Addr → Prop} {ρ' : List Addr} {H' : Hp} (e : Ext0 F ρ H F' ρ' H') (h : RS B F ρ H σD σ) : RS B F' ρ' H' σD σ :=
  ⟨h.len, fun i d q => let ⟨v, h1, h2⟩ := h.get i d q; ⟨v, h1, RD.mono0 e d v h2⟩⟩
def gTg (tg : List Nat) (K : W.Frag) : TG := match tg with
  | [i] => gName i
  | [i, j] => fun v σ H Q => ∃ a x y, v = .ref a ∧ SqT K H a [x, y] ∧ Q ((σ.set i (some x)).set j (some y)) H
  | _ => fun _ _ _ _ => False
theorem sets_sim {tg : List Nat} {d : D} {v : V} {σ1 : Sg} {N : St → Hp → Prop} (r : RS B F ρ H σD σ) (rd : RD B F ρ H d v) (h : sets tg M d σD = some σ1) (k : ∀ σ', RS B F ρ H σ1 σ' → N σ' H) : gTg tg B.K v σ H N := by
  unfold sets at h
  split at h
  · cases h; exact k _ (r.set rd _)
  · split at h
    · cases h
      simp only [RD] at rd
      obtain ⟨a, vs, rfl, z, q⟩ := rd
      simp only [RDs] at q
      obtain ⟨x, ws, rfl, r1, y, us, rfl, r2, rfl⟩ := q
      exact ⟨a, x, y, rfl, z.sq, k _ ((r.set r1 _).set r2 _)⟩
    · cases h
  · cases h
theorem sim_for {tg : List Nat} {it : Src} {b : Ss} (h : TC B Φ E (.for tg it b) Dn σ H) : tFor (TIt B Φ E it) (gTg tg B.K) (TCs B Φ E b) (thE E.th Dn) σ H := by
  obtain ⟨σD, M, F, ρ, S, r, h⟩ := h
  simp only [ex] at h
  refine ⟨σD, M, F, ρ, S, r, ?_⟩
  cases hx : evi Φ it σD M with
  | exc c M1 => rw [hx] at h; exact fun F' ρ' H' cv x e S q => h F' ρ' H' e S σ cv x (r.mono e) q
  | bad => rw [hx] at h; exact h
  | ok p M0 =>
    rw [hx] at h
    simp only [R.use_ok] at h
    intro F0 ρ0 H0 J e0 S0 hw
    obtain ⟨W, wz⟩ := hw M0 rfl S0
    obtain ⟨src, ds, fl⟩ := p
    dsimp only at h W wz
    refine ⟨fun i m σ H1 => m + i = ds.length ∧ ∃ σD M F1 ρ1, Ext F ρ H F1 ρ1 H1 ∧ Ext F0 ρ0 H0 F1 ρ1 H1 ∧ SR B F1 ρ1 M H1 ∧ RS B F1 ρ1 H1 σD σ ∧ still M0 src M = true ∧ PostS B ((loopF (exs Φ b) tg (still M0 src) (ds.drop i) σD M).fin (unwk fl src)) F ρ H Dn E, ⟨ds.length, by simp, σD, M0, F0, ρ0, e0, S0.refl, S0, r.mono e0, ?_, h⟩, ?_⟩
    · unfold still; split <;> simp
    rintro i m σ1 H1 ⟨hm, σD1, M1, F1, ρ1, eo, e1, S1, r1, st1, p1⟩
    obtain ⟨wgo, wst⟩ := W i F1 ρ1 M1 H1 e1 S1 st1
    by_cases hi : i < ds.length
    · have hd : ds.drop i = ds[i] :: ds.drop (i + 1) := List.drop_eq_getElem_cons hi
      rw [hd] at p1
      unfold loopF at p1
      obtain ⟨go, yl⟩ := wgo ds[i] (List.getElem?_eq_getElem hi)
      refine .inr ⟨go, fun σ' H' => ∃ σD M F1 ρ1, Ext F ρ H F1 ρ1 H' ∧ Ext F0 ρ0 H0 F1 ρ1 H' ∧ SR B F1 ρ1 M H' ∧ RS B F1 ρ1 H' σD σ' ∧ still M0 src M = true ∧ PostS B ((loopF (exs Φ b) tg (still M0 src) (ds.drop (i + 1)) σD M).fin (unwk fl src)) F ρ H Dn E, fun σ' H' q => ⟨m - 1, by omega, by omega, q⟩, fun x H' hy => ?_⟩
      obtain ⟨F', e2, S2, rd⟩ := yl x H' hy
      split at p1
      · exact p1.elim
      · rename_i σ2 hs
        refine sets_sim (r1.mono e2) rd hs fun σ' r' => ⟨σ2, M1, F', ρ1, S2, r', ?_⟩
        cases hb : exs Φ b σ2 M1 with
        | exc c M3 => rw [hb] at p1; exact p1.elim
        | bad => rw [hb] at p1; exact p1.elim
        | ok o M3 =>
          rw [hb] at p1
          simp only [R.bind_ok] at p1
          intro F3 ρ3 H3 e3 S3
          have eo3 := (eo.trans e2).trans e3
          have e03 := (e1.trans e2).trans e3
          cases o with
          | nx σ3 =>
            simp only at p1
            intro σ4 r4
            split at p1
            · rename_i hst
              exact ⟨σ3, M3, F3, ρ3, eo3, e03, S3, r4, hst, p1⟩
            · exact p1.elim
          | ct σ3 =>
            simp only at p1
            intro σ4 r4
            split at p1
            · rename_i hst
              exact ⟨σ3, M3, F3, ρ3, eo3, e03, S3, r4, hst, p1⟩
            · exact p1.elim
          | bk σ3 =>
            obtain ⟨H4, t4, S4, e4, x4⟩ := thaw_fin S3 eo3 e03.r wz
            exact fun σ4 r4 => ⟨H4, t4, p1 F3 ρ3 H4 e4 S4 σ4 (r4.mono0 x4)⟩
          | rt d =>
            obtain ⟨H4, t4, S4, e4, x4⟩ := thaw_fin S3 eo3 e03.r wz
            exact fun v q => ⟨H4, t4, p1 F3 ρ3 H4 e4 S4 v (RD.mono0 x4 _ _ q)⟩
          | xc c σ3 =>
            obtain ⟨H4, t4, S4, e4, x4⟩ := thaw_fin S3 eo3 e03.r wz
            exact fun σ4 cv x q1 q2 => E.cl cv x σ4 H3 H4 t4 (p1 F3 ρ3 H4 e4 S4 σ4 cv x (q1.mono0 x4) q2)
    · have hd : ds.drop i = [] := List.drop_eq_nil_of_le (Nat.le_of_not_lt hi)
      rw [hd] at p1
      unfold loopF at p1
      obtain ⟨H4, t4, S4, e4, x4⟩ := thaw_fin S1 eo e1.r wz
      exact .inl ⟨wst (Nat.le_of_not_lt hi), H4, t4, p1 F1 ρ1 H4 e4 S4 σ1 (r1.mono0 x4)⟩
theorem sim_while {c : Fg.E} {b : Ss} (h : TC B Φ E (.while c b) Dn σ H) : tWhile (TB B Φ E c) (TCs B Φ E b) Dn σ H := by
  obtain ⟨σD, M, F, ρ, S, r, h⟩ := h
  simp only [ex] at h
  refine ⟨fun m σ H => ∃ σD M F ρ, SR B F ρ M H ∧ RS B F ρ H σD σ ∧ PostS B (loopW (ev Φ c) (exs Φ b) m σD M) F ρ H Dn E, ⟨Φ.turns, σD, M, F, ρ, S, r, h⟩, ?_⟩
  rintro m σ1 H1 ⟨σD1, M1, F1, ρ1, S1, r1, p1⟩
  cases m with
  | zero => simp only [loopW] at p1; exact p1.elim
  | succ m =>
    simp only [loopW] at p1
    refine TC.one S1 r1 p1 fun x M2 F2 ρ2 H2 v e2 S2 r2 rx h2 => ?_
    split at h2
    · simp only [RD] at rx; subst rx
      refine ⟨false, rfl, ?_⟩
      exact PostS.run h2 S2 _ r2
    · simp only [RD] at rx; subst rx
      refine ⟨true, rfl, ?_⟩
      refine ⟨fun σ' H' => ∃ σD M F ρ, SR B F ρ M H' ∧ RS B F ρ H' σD σ' ∧ PostS B (loopW (ev Φ c) (exs Φ b) m σD M) F ρ H' Dn E, fun σ' H' q => ⟨m, Nat.lt_succ_self m, q⟩, σD1, M2, F2, ρ2, S2, r2, ?_⟩
      cases hb : exs Φ b σD1 M2 with
      | exc c M3 => rw [hb] at h2; exact h2
      | bad => rw [hb] at h2; exact h2
      | ok o M3 =>
        rw [hb] at h2
        simp only [R.bind_ok] at h2
        intro F3 ρ3 H3 e3 S3
        cases o with
        | nx σ3 => exact fun σ4 r4 => ⟨σ3, M3, F3, ρ3, S3, r4, PostS.weak e3 h2⟩
        | ct σ3 => exact fun σ4 r4 => ⟨σ3, M3, F3, ρ3, S3, r4, PostS.weak e3 h2⟩
        | bk σ3 => exact fun σ4 r4 => h2 F3 ρ3 H3 e3 S3 σ4 r4
        | rt d => exact fun v q => h2 F3 ρ3 H3 e3 S3 v q
        | xc c σ3 => exact fun σ4 cv x q1 q2 => h2 F3 ρ3 H3 e3 S3 σ4 cv x q1 q2
    · exact h2.elim
end
end Fg

end
section
set_option Elab.async false
set_option linter.all false
set_option maxRecDepth 100000
set_option autoImplicit false
namespace Fg
open PySem PySem.Spec L2

/-! ### == of data -/
section
variable {X : Cx} {pins : List (Addr × Obj)} {σ : L2.St} {H : Hp} {s : Shared}
mutual
theorem DV.inj (I : Inv X pins σ H s) : ∀ {d e : D} {x : V}, DV X.K H d x → DV X.K H e x → d = e
  | .non, e, x, h, h' => by
    simp only [DV] at h; subst h
    cases e <;> simp only [DV] at h' <;> first | rfl | (cases h'; done) | (obtain ⟨_, _, q, _⟩ := h'; cases q)
  | .bl b, e, x, h, h' => by
    simp only [DV] at h; subst h
    cases e <;> simp only [DV] at h' <;> first | (cases h'; rfl) | (cases h'; done) | (obtain ⟨_, _, q, _⟩ := h'; cases q)
  | .int b, e, x, h, h' => by
    simp only [DV] at h; subst h
    cases e <;> simp only [DV] at h' <;> first | (cases h'; rfl) | (cases h'; done) | (obtain ⟨_, _, q, _⟩ := h'; cases q)
  | .str b, e, x, h, h' => by
    simp only [DV] at h; subst h
    cases e <;> simp only [DV] at h' <;> first | (cases h'; rfl) | (cases h'; done) | (obtain ⟨_, _, q, _⟩ := h'; cases q)
  | .tup ds, e, x, h, h' => by
    simp only [DV] at h
    obtain ⟨a, vs, rfl, h1, h2⟩ := h
    cases e with
    | tup es =>
      simp only [DV] at h'
      obtain ⟨b, ws, q, h3, h4⟩ := h'
      cases q
      have := I.tuple_inj h1 h3
      subst this
      rw [DVs.inj I h2 h4]
    | lst es =>
      simp only [DV] at h'
      obtain ⟨b, ws, q, h3, h4⟩ := h'
      cases q
      obtain ⟨its, _, t1, _⟩ := I.tuple h1
      obtain ⟨its', _, t2, _⟩ := I.list h3
      exact absurd rfl (SeqAt.ne_of_list_tuple t2.isList t1)
    | non => simp only [DV] at h'; cases h'
    | bl _ => simp only [DV] at h'; cases h'
    | int _ => simp only [DV] at h'; cases h'
    | str _ => simp only [DV] at h'; cases h'
    | dct _ _ => simp only [DV] at h'
    | ref _ => simp only [DV] at h'
  | .lst ds, e, x, h, h' => by
    simp only [DV] at h
    obtain ⟨a, vs, rfl, h1, h2⟩ := h
    cases e with
    | lst es =>
      simp only [DV] at h'
      obtain ⟨b, ws, q, h3, h4⟩ := h'
      cases q
      have := I.list_inj h1 h3
      subst this
      rw [DVs.inj I h2 h4]
    | tup es =>
      simp only [DV] at h'
      obtain ⟨b, ws, q, h3, h4⟩ := h'
      cases q
      obtain ⟨its, _, t1, _⟩ := I.list h1
      obtain ⟨its', _, t2, _⟩ := I.tuple h3
      exact absurd rfl (SeqAt.ne_of_list_tuple t1.isList t2)
    | non => simp only [DV] at h'; cases h'
    | bl _ => simp only [DV] at h'; cases h'
    | int _ => simp only [DV] at h'; cases h'
    | str _ => simp only [DV] at h'; cases h'
    | dct _ _ => simp only [DV] at h'
    | ref _ => simp only [DV] at h'
  | .dct _ _, e, x, h, h' => by simp only [DV] at h
  | .ref _, e, x, h, h' => by simp only [DV] at h
theorem DVs.inj (I : Inv X pins σ H s) : ∀ {ds es : List D} {xs : List V}, DVs X.K H ds xs → DVs X.K H es xs → ds = es
  | [], es, xs, h, h' => by
    simp only [DVs] at h; subst h
    cases es with
    | nil => rfl
    | cons _ _ => simp only [DVs] at h'; obtain ⟨_, _, q, _⟩ := h'; cases q
  | d :: ds, es, xs, h, h' => by
    simp only [DVs] at h
    obtain ⟨v, ws, rfl, h1, h2⟩ := h
    cases es with
    | nil => simp only [DVs] at h'; cases h'
    | cons e es =>
      simp only [DVs] at h'
      obtain ⟨v', ws', q, h3, h4⟩ := h'
      cases q
      rw [DV.inj I h1 h3, DVs.inj I h2 h4]
end
mutual
theorem eqD_refl {K : W.Frag} {H : Hp} : ∀ {d : D} {x : V}, DV K H d x → eqD d d = true
  | .non, _, _ => by simp only [eqD]
  | .bl b, _, _ => by simp only [eqD]; simp
  | .int i, _, _ => by simp only [eqD]; simp
  | .str x, _, _ => by simp only [eqD]; simp
  | .tup ds, _, h => by simp only [DV] at h; obtain ⟨_, _, _, _, q⟩ := h; simp only [eqD]; exact eqDs_refl q
  | .lst ds, _, h => by simp only [DV] at h; obtain ⟨_, _, _, _, q⟩ := h; simp only [eqD]; exact eqDs_refl q
  | .dct _ _, _, h => by simp only [DV] at h
  | .ref _, _, h => by simp only [DV] at h
theorem eqDs_refl {K : W.Frag} {H : Hp} : ∀ {ds : List D} {xs : List V}, DVs K H ds xs → eqDs ds ds = true
  | [], _, _ => by simp only [eqDs]
  | d :: ds, _, h => by
    simp only [DVs] at h
    obtain ⟨_, _, _, h1, h2⟩ := h
    simp only [eqDs, eqD_refl h1, eqDs_refl h2, Bool.and_self]
end
theorem DVs.length {K : W.Frag} {H : Hp} : ∀ {ds : List D} {xs : List V}, DVs K H ds xs → ds.length = xs.length
  | [], _, h => by simp only [DVs] at h; subst h; rfl
  | d :: ds, _, h => by
    simp only [DVs] at h
    obtain ⟨_, _, rfl, _, h2⟩ := h
    simp [DVs.length h2]
theorem DVs.get {K : W.Frag} {H : Hp} : ∀ {ds : List D} {xs : List V} {i : Nat} (h1 : i < ds.length), DVs K H ds xs → ∃ v, xs[i]? = some v ∧ DV K H ds[i] v
  | [], _, i, h1, _ => by simp at h1
  | d :: ds, _, i, h1, h => by
    simp only [DVs] at h
    obtain ⟨v, ws, rfl, q1, q2⟩ := h
    cases i with
    | zero => exact ⟨v, rfl, q1⟩
    | succ i =>
      simp only [List.length_cons] at h1
      obtain ⟨u, a, b⟩ := DVs.get (i := i) (by omega) q2
      exact ⟨u, by simpa using a, by simpa using b⟩
theorem dep_get : ∀ {ds : List D} {i : Nat} (h : i < ds.length), dep ds[i] ≤ deps ds
  | [], i, h => by simp at h
  | d :: ds, i, h => by
    cases i with
    | zero => simp only [List.getElem_cons_zero, deps]; omega
    | succ i =>
      simp only [List.length_cons] at h
      have := dep_get (ds := ds) (i := i) (by omega)
      simp only [List.getElem_cons_succ, deps]; omega
theorem all_eqDs : ∀ (ds es : List D), ((List.range (min ds.length es.length)).all (fun j => match ds[j]?, es[j]? with | some a, some b => eqD a b | _, _ => false) && ds.length == es.length) = eqDs ds es
  | [], [] => by simp [eqDs]
  | [], e :: es => by simp [eqDs]
  | d :: ds, [] => by simp [eqDs]
  | d :: ds, e :: es => by
    have ih := all_eqDs ds es
    simp only [eqDs, ← ih]
    simp only [List.length_cons, Nat.succ_min_succ, List.range_succ_eq_map, List.all_cons, List.all_map, Function.comp_def]
    simp [Bool.and_assoc]
/-- what == says of two data -/
def EqB (s : Shared) (d e : D) (u w : Value) (n : Nat) : Prop := ∀ A : Around, A.units + n < cLine → SeqAt.RcAt A s u w (eqD d e) ∧ SeqAt.EqAt A s u w (eqD d e)
theorem in1_units (A : Around) : A.in1.units = A.units + 1 := rfl
theorem plains_get : ∀ {ds : List D} {i : Nat}, plains ds = true → ∀ (h : i < ds.length), plain ds[i] = true
  | [], i, _, h => by simp at h
  | d :: ds, i, p, h => by
    simp only [plains, Bool.and_eq_true] at p
    cases i with
    | zero => exact p.1
    | succ i => simp only [List.length_cons] at h; simpa using plains_get p.2 (by omega)
theorem eq_data (I : Inv X pins σ H s) : ∀ (n : Nat) (d e : D) (x y : V) (u w : Value), dep d + dep e < n → DV X.K H d x → DV X.K H e y → plain d = true → plain e = true → RelV x u → RelV y w → EqB s d e u w (min (dep d) (dep e) + 1)
  | 0, _, _, _, _, _, _, h, _, _, _, _, _, _ => absurd h (Nat.not_lt_zero _)
  | n + 1, d, e, x, y, u, w, hn, hd, he, pd, pe, ru, rw' => by
    have ih := eq_data I n
    intro A hA
    have hu : A.units < cLine := by omega
    cases d with
    | bl _ => simp [plain] at pd
    | dct _ _ => simp [plain] at pd
    | ref _ => simp [plain] at pd
    | non =>
      simp only [DV] at hd; subst hd; cases (show u = Value.none from ru)
      cases e with
      | bl _ => simp [plain] at pe
      | dct _ _ => simp [plain] at pe
      | ref _ => simp [plain] at pe
      | non =>
        simp only [DV] at he; subst he; cases (show w = Value.none from rw')
        simp only [eqD]; exact ⟨SeqAt.RcAt.none_none, SeqAt.EqAt.same _⟩
      | int j =>
        simp only [DV] at he; subst he; obtain ⟨t', rfl⟩ := (show ∃ t, w = Value.int j t from rw')
        simp only [eqD]; exact ⟨SeqAt.RcAt.none_int j t', SeqAt.EqAt.none_int j t'⟩
      | str j =>
        simp only [DV] at he; subst he; obtain ⟨t', rfl⟩ := (show ∃ t, w = Value.str j t from rw')
        simp only [eqD]; exact ⟨SeqAt.RcAt.none_str j t', SeqAt.EqAt.none_str j t'⟩
      | tup es =>
        simp only [DV] at he
        obtain ⟨b, ws, rfl, h3, h4⟩ := he
        cases (show w = Value.ref b from rw')
        obtain ⟨its, _, t1, _⟩ := I.tuple h3
        simp only [eqD]; exact ⟨SeqAt.RcAt.none_tuple  t1 hu, SeqAt.EqAt.none_tuple  t1 hu⟩
      | lst es =>
        simp only [DV] at he
        obtain ⟨b, ws, rfl, h3, h4⟩ := he
        cases (show w = Value.ref b from rw')
        obtain ⟨its, _, t1, _⟩ := I.list h3
        simp only [eqD]; exact ⟨SeqAt.RcAt.none_list  t1.isList hu, SeqAt.EqAt.none_list  t1.isList hu⟩
    | int i =>
      simp only [DV] at hd; subst hd; obtain ⟨t, rfl⟩ := (show ∃ t, u = Value.int i t from ru)
      cases e with
      | bl _ => simp [plain] at pe
      | dct _ _ => simp [plain] at pe
      | ref _ => simp [plain] at pe
      | non =>
        simp only [DV] at he; subst he; cases (show w = Value.none from rw')
        simp only [eqD]; exact ⟨SeqAt.RcAt.int_none i t, SeqAt.EqAt.int_none i t⟩
      | int j =>
        simp only [DV] at he; subst he; obtain ⟨t', rfl⟩ := (show ∃ t, w = Value.int j t from rw')
        have z : eqD (D.int i) (D.int j) = (i == j) := by simp only [eqD]; by_cases q : i = j <;> simp [q]
        rw [z]; exact ⟨SeqAt.RcAt.int_int i t j t', SeqAt.EqAt.int_int i t j t'⟩
      | str j =>
        simp only [DV] at he; subst he; obtain ⟨t', rfl⟩ := (show ∃ t, w = Value.str j t from rw')
        simp only [eqD]; exact ⟨SeqAt.RcAt.int_str i t j t', SeqAt.EqAt.int_str i t j t'⟩
      | tup es =>
        simp only [DV] at he
        obtain ⟨b, ws, rfl, h3, h4⟩ := he
        cases (show w = Value.ref b from rw')
        obtain ⟨its, _, t1, _⟩ := I.tuple h3
        simp only [eqD]; exact ⟨SeqAt.RcAt.int_tuple i t t1 hu, SeqAt.EqAt.int_tuple i t t1 hu⟩
      | lst es =>
        simp only [DV] at he
        obtain ⟨b, ws, rfl, h3, h4⟩ := he
        cases (show w = Value.ref b from rw')
        obtain ⟨its, _, t1, _⟩ := I.list h3
        simp only [eqD]; exact ⟨SeqAt.RcAt.int_list i t t1.isList hu, SeqAt.EqAt.int_list i t t1.isList hu⟩
    | str i =>
      simp only [DV] at hd; subst hd; obtain ⟨t, rfl⟩ := (show ∃ t, u = Value.str i t from ru)
      cases e with
      | bl _ => simp [plain] at pe
      | dct _ _ => simp [plain] at pe
      | ref _ => simp [plain] at pe
      | non =>
        simp only [DV] at he; subst he; cases (show w = Value.none from rw')
        simp only [eqD]; exact ⟨SeqAt.RcAt.str_none i t, SeqAt.EqAt.str_none i t⟩
      | int j =>
        simp only [DV] at he; subst he; obtain ⟨t', rfl⟩ := (show ∃ t, w = Value.int j t from rw')
        simp only [eqD]; exact ⟨SeqAt.RcAt.str_int i t j t', SeqAt.EqAt.str_int i t j t'⟩
      | str j =>
        simp only [DV] at he; subst he; obtain ⟨t', rfl⟩ := (show ∃ t, w = Value.str j t from rw')
        have z : eqD (D.str i) (D.str j) = (i == j) := by simp only [eqD]; by_cases q : i = j <;> simp [q]
        rw [z]; exact ⟨SeqAt.RcAt.str_str i t j t', SeqAt.EqAt.str_str i t j t'⟩
      | tup es =>
        simp only [DV] at he
        obtain ⟨b, ws, rfl, h3, h4⟩ := he
        cases (show w = Value.ref b from rw')
        obtain ⟨its, _, t1, _⟩ := I.tuple h3
        simp only [eqD]; exact ⟨SeqAt.RcAt.str_tuple i t t1 hu, SeqAt.EqAt.str_tuple i t t1 hu⟩
      | lst es =>
        simp only [DV] at he
        obtain ⟨b, ws, rfl, h3, h4⟩ := he
        cases (show w = Value.ref b from rw')
        obtain ⟨its, _, t1, _⟩ := I.list h3
        simp only [eqD]; exact ⟨SeqAt.RcAt.str_list i t t1.isList hu, SeqAt.EqAt.str_list i t t1.isList hu⟩
    | tup ds =>
      simp only [DV] at hd
      obtain ⟨a, vs, rfl, h1, h2⟩ := hd
      cases (show u = Value.ref a from ru)
      obtain ⟨its, r1, t1, _⟩ := I.tuple h1
      cases e with
      | bl _ => simp [plain] at pe
      | dct _ _ => simp [plain] at pe
      | ref _ => simp [plain] at pe
      | non =>
        simp only [DV] at he; subst he; cases (show w = Value.none from rw')
        simp only [eqD]; exact ⟨SeqAt.RcAt.tuple_none  t1 hu, SeqAt.EqAt.tuple_none  t1 hu⟩
      | int j =>
        simp only [DV] at he; subst he; obtain ⟨t', rfl⟩ := (show ∃ t, w = Value.int j t from rw')
        simp only [eqD]; exact ⟨SeqAt.RcAt.tuple_int j t' t1 hu, SeqAt.EqAt.tuple_int j t' t1 hu⟩
      | str j =>
        simp only [DV] at he; subst he; obtain ⟨t', rfl⟩ := (show ∃ t, w = Value.str j t from rw')
        simp only [eqD]; exact ⟨SeqAt.RcAt.tuple_str j t' t1 hu, SeqAt.EqAt.tuple_str j t' t1 hu⟩
      | lst es =>
        simp only [DV] at he
        obtain ⟨b, ws, rfl, h3, h4⟩ := he
        cases (show w = Value.ref b from rw')
        obtain ⟨its2, r2, t2, _⟩ := I.list h3
        simp only [eqD]; exact ⟨SeqAt.RcAt.tuple_list t1 t2.isList hu, SeqAt.EqAt.of_refs (Ne.symm (SeqAt.ne_of_list_tuple t2.isList t1)) (SeqAt.RcAt.tuple_list t1 t2.isList hu)⟩
      | tup es =>
        simp only [DV] at he
        obtain ⟨b, ws, rfl, h3, h4⟩ := he
        cases (show w = Value.ref b from rw')
        obtain ⟨its2, r2, t2, _⟩ := I.tuple h3
        have pd' : plains ds = true := by simpa [plain] using pd
        have pe' : plains es = true := by simpa [plain] using pe
        have l1 : its.length = ds.length := by rw [← r1.length, h2.length]
        have l2 : its2.length = es.length := by rw [← r2.length, h4.length]
        let f : Nat → Bool := fun j => match ds[j]?, es[j]? with | some a, some b => eqD a b | _, _ => false
        have items : ∀ j (h1 : j < its.toArray.size) (h2 : j < its2.toArray.size), SeqAt.EqAt A.in1 s its.toArray[j] its2.toArray[j] (f j) := by
          intro j j1 j2
          have j1' : j < ds.length := by rw [← l1]; simpa using j1
          have j2' : j < es.length := by rw [← l2]; simpa using j2
          obtain ⟨v, e1, q1⟩ := h2.get j1'
          obtain ⟨v', e2, q2⟩ := h4.get j2'
          obtain ⟨z, e3, q3⟩ := r1.get e1
          obtain ⟨z', e4, q4⟩ := r2.get e2
          have i1 : its.toArray[j] = z := by
            have : its[j]? = some its[j] := List.getElem?_eq_getElem (by simpa using j1)
            rw [this] at e3; simpa using Option.some.inj e3
          have i2 : its2.toArray[j] = z' := by
            have : its2[j]? = some its2[j] := List.getElem?_eq_getElem (by simpa using j2)
            rw [this] at e4; simpa using Option.some.inj e4
          have g1 := dep_get j1'
          have g2 := dep_get j2'
          have hf : f j = eqD ds[j] es[j] := by simp only [f, List.getElem?_eq_getElem j1', List.getElem?_eq_getElem j2']
          rw [i1, i2, hf]
          simp only [dep] at hn hA
          exact (ih ds[j] es[j] v v' z z' (by omega) q1 q2 (plains_get pd' j1') (plains_get pe' j2') q3 q4 A.in1 (by rw [in1_units]; omega)).2
        have sz1 : its.toArray.size = ds.length := by simpa using l1
        have sz2 : its2.toArray.size = es.length := by simpa using l2
        have rc : SeqAt.RcAt A s (.ref a) (.ref b) (eqD (.tup ds) (.tup es)) := by
          have q := SeqAt.RcAt.tuples t1 t2 hu items
          rw [sz1, sz2, all_eqDs] at q
          simp only [eqD]; exact q
        refine ⟨rc, ?_⟩
        by_cases hab : a = b
        · subst hab
          have i1 : DV X.K H (.tup ds) (.ref a) := by simp only [DV]; exact ⟨a, vs, rfl, h1, h2⟩
          have i2 : DV X.K H (.tup es) (.ref a) := by simp only [DV]; exact ⟨a, ws, rfl, h3, h4⟩
          rw [DV.inj I i1 i2, eqD_refl i2]
          exact SeqAt.EqAt.same _
        · exact SeqAt.EqAt.of_refs hab rc
    | lst ds =>
      simp only [DV] at hd
      obtain ⟨a, vs, rfl, h1, h2⟩ := hd
      cases (show u = Value.ref a from ru)
      obtain ⟨its, r1, t1, _⟩ := I.list h1
      cases e with
      | bl _ => simp [plain] at pe
      | dct _ _ => simp [plain] at pe
      | ref _ => simp [plain] at pe
      | non =>
        simp only [DV] at he; subst he; cases (show w = Value.none from rw')
        simp only [eqD]; exact ⟨SeqAt.RcAt.list_none  t1.isList hu, SeqAt.EqAt.list_none  t1.isList hu⟩
      | int j =>
        simp only [DV] at he; subst he; obtain ⟨t', rfl⟩ := (show ∃ t, w = Value.int j t from rw')
        simp only [eqD]; exact ⟨SeqAt.RcAt.list_int j t' t1.isList hu, SeqAt.EqAt.list_int j t' t1.isList hu⟩
      | str j =>
        simp only [DV] at he; subst he; obtain ⟨t', rfl⟩ := (show ∃ t, w = Value.str j t from rw')
        simp only [eqD]; exact ⟨SeqAt.RcAt.list_str j t' t1.isList hu, SeqAt.EqAt.list_str j t' t1.isList hu⟩
      | tup es =>
        simp only [DV] at he
        obtain ⟨b, ws, rfl, h3, h4⟩ := he
        cases (show w = Value.ref b from rw')
        obtain ⟨its2, r2, t2, _⟩ := I.tuple h3
        simp only [eqD]; exact ⟨SeqAt.RcAt.list_tuple t1.isList t2 hu, SeqAt.EqAt.of_refs (SeqAt.ne_of_list_tuple t1.isList t2) (SeqAt.RcAt.list_tuple t1.isList t2 hu)⟩
      | lst es =>
        simp only [DV] at he
        obtain ⟨b, ws, rfl, h3, h4⟩ := he
        cases (show w = Value.ref b from rw')
        obtain ⟨its2, r2, t2, _⟩ := I.list h3
        have pd' : plains ds = true := by simpa [plain] using pd
        have pe' : plains es = true := by simpa [plain] using pe
        have l1 : its.length = ds.length := by rw [← r1.length, h2.length]
        have l2 : its2.length = es.length := by rw [← r2.length, h4.length]
        let f : Nat → Bool := fun j => match ds[j]?, es[j]? with | some a, some b => eqD a b | _, _ => false
        have items : ∀ j (h1 : j < its.toArray.size) (h2 : j < its2.toArray.size), SeqAt.EqAt A.in1 s its.toArray[j] its2.toArray[j] (f j) := by
          intro j j1 j2
          have j1' : j < ds.length := by rw [← l1]; simpa using j1
          have j2' : j < es.length := by rw [← l2]; simpa using j2
          obtain ⟨v, e1, q1⟩ := h2.get j1'
          obtain ⟨v', e2, q2⟩ := h4.get j2'
          obtain ⟨z, e3, q3⟩ := r1.get e1
          obtain ⟨z', e4, q4⟩ := r2.get e2
          have i1 : its.toArray[j] = z := by
            have : its[j]? = some its[j] := List.getElem?_eq_getElem (by simpa using j1)
            rw [this] at e3; simpa using Option.some.inj e3
          have i2 : its2.toArray[j] = z' := by
            have : its2[j]? = some its2[j] := List.getElem?_eq_getElem (by simpa using j2)
            rw [this] at e4; simpa using Option.some.inj e4
          have g1 := dep_get j1'
          have g2 := dep_get j2'
          have hf : f j = eqD ds[j] es[j] := by simp only [f, List.getElem?_eq_getElem j1', List.getElem?_eq_getElem j2']
          rw [i1, i2, hf]
          simp only [dep] at hn hA
          exact (ih ds[j] es[j] v v' z z' (by omega) q1 q2 (plains_get pd' j1') (plains_get pe' j2') q3 q4 A.in1 (by rw [in1_units]; omega)).2
        have sz1 : its.toArray.size = ds.length := by simpa using l1
        have sz2 : its2.toArray.size = es.length := by simpa using l2
        have rc : SeqAt.RcAt A s (.ref a) (.ref b) (eqD (.lst ds) (.lst es)) := by
          by_cases hz : ds.length = es.length
          · have q := SeqAt.RcAt.lists t1.isList t2.isList (by rw [sz1, sz2, hz]) hu items
            have z := all_eqDs ds es
            rw [show min ds.length es.length = ds.length by omega, show (ds.length == es.length) = true by simpa using hz, Bool.and_true] at z
            rw [sz1, z] at q
            simp only [eqD]; exact q
          · have q := SeqAt.RcAt.lists_lengths t1.isList t2.isList (by rw [sz1, sz2]; simpa using hz) hu
            have z := all_eqDs ds es
            rw [show (ds.length == es.length) = false by simpa using hz, Bool.and_false] at z
            simp only [eqD, ← z]; exact q
        refine ⟨rc, ?_⟩
        by_cases hab : a = b
        · subst hab
          have i1 : DV X.K H (.lst ds) (.ref a) := by simp only [DV]; exact ⟨a, vs, rfl, h1, h2⟩
          have i2 : DV X.K H (.lst es) (.ref a) := by simp only [DV]; exact ⟨a, ws, rfl, h3, h4⟩
          rw [DV.inj I i1 i2, eqD_refl i2]
          exact SeqAt.EqAt.same _
        · exact SeqAt.EqAt.of_refs hab rc
theorem ne_data (I : Inv X pins σ H s) : ∀ (d e : D) (x y : V) (u w : Value), DV X.K H d x → DV X.K H e y → plain d = true → plain e = true → RelV x u → RelV y w → ∀ A : Around, A.units + (min (dep d) (dep e) + 1) < cLine → SeqAt.RcNeAt A s u w (!eqD d e)
  | d, e, x, y, u, w, hd, he, pd, pe, ru, rw' => by
    have ih := eq_data I (dep d + dep e)
    intro A hA
    have hu : A.units < cLine := by omega
    cases d with
    | bl _ => simp [plain] at pd
    | dct _ _ => simp [plain] at pd
    | ref _ => simp [plain] at pd
    | non =>
      simp only [DV] at hd; subst hd; cases (show u = Value.none from ru)
      cases e with
      | bl _ => simp [plain] at pe
      | dct _ _ => simp [plain] at pe
      | ref _ => simp [plain] at pe
      | non =>
        simp only [DV] at he; subst he; cases (show w = Value.none from rw')
        simp only [eqD, Bool.not_false, Bool.not_true]; exact SeqAt.RcNeAt.none_none
      | int j =>
        simp only [DV] at he; subst he; obtain ⟨t', rfl⟩ := (show ∃ t, w = Value.int j t from rw')
        simp only [eqD, Bool.not_false, Bool.not_true]; exact SeqAt.RcNeAt.none_int j t'
      | str j =>
        simp only [DV] at he; subst he; obtain ⟨t', rfl⟩ := (show ∃ t, w = Value.str j t from rw')
        simp only [eqD, Bool.not_false, Bool.not_true]; exact SeqAt.RcNeAt.none_str j t'
      | tup es =>
        simp only [DV] at he
        obtain ⟨b, ws, rfl, h3, h4⟩ := he
        cases (show w = Value.ref b from rw')
        obtain ⟨its, _, t1, _⟩ := I.tuple h3
        simp only [eqD, Bool.not_false, Bool.not_true]; exact SeqAt.RcNeAt.none_tuple  t1 hu
      | lst es =>
        simp only [DV] at he
        obtain ⟨b, ws, rfl, h3, h4⟩ := he
        cases (show w = Value.ref b from rw')
        obtain ⟨its, _, t1, _⟩ := I.list h3
        simp only [eqD, Bool.not_false, Bool.not_true]; exact SeqAt.RcNeAt.none_list  t1.isList hu
    | int i =>
      simp only [DV] at hd; subst hd; obtain ⟨t, rfl⟩ := (show ∃ t, u = Value.int i t from ru)
      cases e with
      | bl _ => simp [plain] at pe
      | dct _ _ => simp [plain] at pe
      | ref _ => simp [plain] at pe
      | non =>
        simp only [DV] at he; subst he; cases (show w = Value.none from rw')
        simp only [eqD, Bool.not_false, Bool.not_true]; exact SeqAt.RcNeAt.int_none i t
      | int j =>
        simp only [DV] at he; subst he; obtain ⟨t', rfl⟩ := (show ∃ t, w = Value.int j t from rw')
        have z : eqD (D.int i) (D.int j) = (i == j) := by simp only [eqD]; by_cases q : i = j <;> simp [q]
        rw [z]; exact SeqAt.RcNeAt.int_int i t j t'
      | str j =>
        simp only [DV] at he; subst he; obtain ⟨t', rfl⟩ := (show ∃ t, w = Value.str j t from rw')
        simp only [eqD, Bool.not_false, Bool.not_true]; exact SeqAt.RcNeAt.int_str i t j t'
      | tup es =>
        simp only [DV] at he
        obtain ⟨b, ws, rfl, h3, h4⟩ := he
        cases (show w = Value.ref b from rw')
        obtain ⟨its, _, t1, _⟩ := I.tuple h3
        simp only [eqD, Bool.not_false, Bool.not_true]; exact SeqAt.RcNeAt.int_tuple i t t1 hu
      | lst es =>
        simp only [DV] at he
        obtain ⟨b, ws, rfl, h3, h4⟩ := he
        cases (show w = Value.ref b from rw')
        obtain ⟨its, _, t1, _⟩ := I.list h3
        simp only [eqD, Bool.not_false, Bool.not_true]; exact SeqAt.RcNeAt.int_list i t t1.isList hu
    | str i =>
      simp only [DV] at hd; subst hd; obtain ⟨t, rfl⟩ := (show ∃ t, u = Value.str i t from ru)
      cases e with
      | bl _ => simp [plain] at pe
      | dct _ _ => simp [plain] at pe
      | ref _ => simp [plain] at pe
      | non =>
        simp only [DV] at he; subst he; cases (show w = Value.none from rw')
        simp only [eqD, Bool.not_false, Bool.not_true]; exact SeqAt.RcNeAt.str_none i t
      | int j =>
        simp only [DV] at he; subst he; obtain ⟨t', rfl⟩ := (show ∃ t, w = Value.int j t from rw')
        simp only [eqD, Bool.not_false, Bool.not_true]; exact SeqAt.RcNeAt.str_int i t j t'
      | str j =>
        simp only [DV] at he; subst he; obtain ⟨t', rfl⟩ := (show ∃ t, w = Value.str j t from rw')
        have z : eqD (D.str i) (D.str j) = (i == j) := by simp only [eqD]; by_cases q : i = j <;> simp [q]
        rw [z]; exact SeqAt.RcNeAt.str_str i t j t'
      | tup es =>
        simp only [DV] at he
        obtain ⟨b, ws, rfl, h3, h4⟩ := he
        cases (show w = Value.ref b from rw')
        obtain ⟨its, _, t1, _⟩ := I.tuple h3
        simp only [eqD, Bool.not_false, Bool.not_true]; exact SeqAt.RcNeAt.str_tuple i t t1 hu
      | lst es =>
        simp only [DV] at he
        obtain ⟨b, ws, rfl, h3, h4⟩ := he
        cases (show w = Value.ref b from rw')
        obtain ⟨its, _, t1, _⟩ := I.list h3
        simp only [eqD, Bool.not_false, Bool.not_true]; exact SeqAt.RcNeAt.str_list i t t1.isList hu
    | tup ds =>
      simp only [DV] at hd
      obtain ⟨a, vs, rfl, h1, h2⟩ := hd
      cases (show u = Value.ref a from ru)
      obtain ⟨its, r1, t1, _⟩ := I.tuple h1
      cases e with
      | bl _ => simp [plain] at pe
      | dct _ _ => simp [plain] at pe
      | ref _ => simp [plain] at pe
      | non =>
        simp only [DV] at he; subst he; cases (show w = Value.none from rw')
        simp only [eqD, Bool.not_false, Bool.not_true]; exact SeqAt.RcNeAt.tuple_none  t1 hu
      | int j =>
        simp only [DV] at he; subst he; obtain ⟨t', rfl⟩ := (show ∃ t, w = Value.int j t from rw')
        simp only [eqD, Bool.not_false, Bool.not_true]; exact SeqAt.RcNeAt.tuple_int j t' t1 hu
      | str j =>
        simp only [DV] at he; subst he; obtain ⟨t', rfl⟩ := (show ∃ t, w = Value.str j t from rw')
        simp only [eqD, Bool.not_false, Bool.not_true]; exact SeqAt.RcNeAt.tuple_str j t' t1 hu
      | lst es =>
        simp only [DV] at he
        obtain ⟨b, ws, rfl, h3, h4⟩ := he
        cases (show w = Value.ref b from rw')
        obtain ⟨its2, r2, t2, _⟩ := I.list h3
        simp only [eqD, Bool.not_false, Bool.not_true]; exact SeqAt.RcNeAt.tuple_list t1 t2.isList hu
      | tup es =>
        simp only [DV] at he
        obtain ⟨b, ws, rfl, h3, h4⟩ := he
        cases (show w = Value.ref b from rw')
        obtain ⟨its2, r2, t2, _⟩ := I.tuple h3
        have pd' : plains ds = true := by simpa [plain] using pd
        have pe' : plains es = true := by simpa [plain] using pe
        have l1 : its.length = ds.length := by rw [← r1.length, h2.length]
        have l2 : its2.length = es.length := by rw [← r2.length, h4.length]
        let f : Nat → Bool := fun j => match ds[j]?, es[j]? with | some a, some b => eqD a b | _, _ => false
        have items : ∀ j (h1 : j < its.toArray.size) (h2 : j < its2.toArray.size), SeqAt.EqAt A.in1 s its.toArray[j] its2.toArray[j] (f j) := by
          intro j j1 j2
          have j1' : j < ds.length := by rw [← l1]; simpa using j1
          have j2' : j < es.length := by rw [← l2]; simpa using j2
          obtain ⟨v, e1, q1⟩ := h2.get j1'
          obtain ⟨v', e2, q2⟩ := h4.get j2'
          obtain ⟨z, e3, q3⟩ := r1.get e1
          obtain ⟨z', e4, q4⟩ := r2.get e2
          have i1 : its.toArray[j] = z := by
            have : its[j]? = some its[j] := List.getElem?_eq_getElem (by simpa using j1)
            rw [this] at e3; simpa using Option.some.inj e3
          have i2 : its2.toArray[j] = z' := by
            have : its2[j]? = some its2[j] := List.getElem?_eq_getElem (by simpa using j2)
            rw [this] at e4; simpa using Option.some.inj e4
          have g1 := dep_get j1'
          have g2 := dep_get j2'
          have hf : f j = eqD ds[j] es[j] := by simp only [f, List.getElem?_eq_getElem j1', List.getElem?_eq_getElem j2']
          rw [i1, i2, hf]
          simp only [dep] at ih hA
          exact (ih ds[j] es[j] v v' z z' (by omega) q1 q2 (plains_get pd' j1') (plains_get pe' j2') q3 q4 A.in1 (by rw [in1_units]; omega)).2
        have sz1 : its.toArray.size = ds.length := by simpa using l1
        have sz2 : its2.toArray.size = es.length := by simpa using l2
        have rc : SeqAt.RcNeAt A s (.ref a) (.ref b) (!eqD (.tup ds) (.tup es)) := by
          have q := SeqAt.RcNeAt.tuples t1 t2 hu items
          rw [sz1, sz2, all_eqDs] at q
          simp only [eqD]; exact q
        exact rc
    | lst ds =>
      simp only [DV] at hd
      obtain ⟨a, vs, rfl, h1, h2⟩ := hd
      cases (show u = Value.ref a from ru)
      obtain ⟨its, r1, t1, _⟩ := I.list h1
      cases e with
      | bl _ => simp [plain] at pe
      | dct _ _ => simp [plain] at pe
      | ref _ => simp [plain] at pe
      | non =>
        simp only [DV] at he; subst he; cases (show w = Value.none from rw')
        simp only [eqD, Bool.not_false, Bool.not_true]; exact SeqAt.RcNeAt.list_none  t1.isList hu
      | int j =>
        simp only [DV] at he; subst he; obtain ⟨t', rfl⟩ := (show ∃ t, w = Value.int j t from rw')
        simp only [eqD, Bool.not_false, Bool.not_true]; exact SeqAt.RcNeAt.list_int j t' t1.isList hu
      | str j =>
        simp only [DV] at he; subst he; obtain ⟨t', rfl⟩ := (show ∃ t, w = Value.str j t from rw')
        simp only [eqD, Bool.not_false, Bool.not_true]; exact SeqAt.RcNeAt.list_str j t' t1.isList hu
      | tup es =>
        simp only [DV] at he
        obtain ⟨b, ws, rfl, h3, h4⟩ := he
        cases (show w = Value.ref b from rw')
        obtain ⟨its2, r2, t2, _⟩ := I.tuple h3
        simp only [eqD, Bool.not_false, Bool.not_true]; exact SeqAt.RcNeAt.list_tuple t1.isList t2 hu
      | lst es =>
        simp only [DV] at he
        obtain ⟨b, ws, rfl, h3, h4⟩ := he
        cases (show w = Value.ref b from rw')
        obtain ⟨its2, r2, t2, _⟩ := I.list h3
        have pd' : plains ds = true := by simpa [plain] using pd
        have pe' : plains es = true := by simpa [plain] using pe
        have l1 : its.length = ds.length := by rw [← r1.length, h2.length]
        have l2 : its2.length = es.length := by rw [← r2.length, h4.length]
        let f : Nat → Bool := fun j => match ds[j]?, es[j]? with | some a, some b => eqD a b | _, _ => false
        have items : ∀ j (h1 : j < its.toArray.size) (h2 : j < its2.toArray.size), SeqAt.EqAt A.in1 s its.toArray[j] its2.toArray[j] (f j) := by
          intro j j1 j2
          have j1' : j < ds.length := by rw [← l1]; simpa using j1
          have j2' : j < es.length := by rw [← l2]; simpa using j2
          obtain ⟨v, e1, q1⟩ := h2.get j1'
          obtain ⟨v', e2, q2⟩ := h4.get j2'
          obtain ⟨z, e3, q3⟩ := r1.get e1
          obtain ⟨z', e4, q4⟩ := r2.get e2
          have i1 : its.toArray[j] = z := by
            have : its[j]? = some its[j] := List.getElem?_eq_getElem (by simpa using j1)
            rw [this] at e3; simpa using Option.some.inj e3
          have i2 : its2.toArray[j] = z' := by
            have : its2[j]? = some its2[j] := List.getElem?_eq_getElem (by simpa using j2)
            rw [this] at e4; simpa using Option.some.inj e4
          have g1 := dep_get j1'
          have g2 := dep_get j2'
          have hf : f j = eqD ds[j] es[j] := by simp only [f, List.getElem?_eq_getElem j1', List.getElem?_eq_getElem j2']
          rw [i1, i2, hf]
          simp only [dep] at ih hA
          exact (ih ds[j] es[j] v v' z z' (by omega) q1 q2 (plains_get pd' j1') (plains_get pe' j2') q3 q4 A.in1 (by rw [in1_units]; omega)).2
        have sz1 : its.toArray.size = ds.length := by simpa using l1
        have sz2 : its2.toArray.size = es.length := by simpa using l2
        have rc : SeqAt.RcNeAt A s (.ref a) (.ref b) (!eqD (.lst ds) (.lst es)) := by
          by_cases hz : ds.length = es.length
          · have q := SeqAt.RcNeAt.lists t1.isList t2.isList (by rw [sz1, sz2, hz]) hu items
            have z := all_eqDs ds es
            rw [show min ds.length es.length = ds.length by omega, show (ds.length == es.length) = true by simpa using hz, Bool.and_true] at z
            rw [sz1, z] at q
            simp only [eqD]; exact q
          · have q := SeqAt.RcNeAt.lists_lengths t1.isList t2.isList (by rw [sz1, sz2]; simpa using hz) hu
            have z := all_eqDs ds es
            rw [show (ds.length == es.length) = false by simpa using hz, Bool.and_false] at z
            simp only [eqD, ← z, Bool.not_false]; exact q
        exact rc
end
end Fg

end
section
set_option Elab.async false
set_option linter.all false
set_option maxRecDepth 100000
set_option autoImplicit false
namespace Fg
open PySem PySem.Spec L2

section
variable {X : Cx} {B : Bd} {pins : List (Addr × Obj)} {σ : L2.St} {H : Hp} {s : Shared}
/-- what the table of fast things says: the module's own dicts are as they were read -/
def DkOk (B : Bd) (X : Cx) : Prop := ∀ a kvs, B.dk a kvs → ∀ h : Heap, X.K.In h → kvs.length ≤ sizeLine ∧ (a == sysModules) = false ∧ ∃ vs, KV kvs vs ∧ h.DictOf (mixKind X.prog X.w) a vs
theorem sqd {a : Addr} {kvs : List (Key × V)} (hB : DkOk B X) (I : Inv X pins σ H s) (h : SqD B H a kvs) : kvs.length ≤ sizeLine ∧ (a == sysModules) = false ∧ ∃ vs, KV kvs vs ∧ s.heap.DictOf (mixKind X.prog X.w) a vs := by
  rcases h with h | h
  · exact dk_rd I.hok h
  · exact hB a kvs h s.heap I.kIn
def Rm (X : Cx) : Prop := X.A.units + 150 < cLine

/-! ### == and != -/
theorem op_eqD (hu : Rm X) : OpR X (compareOp .Eq) (rEqD X.K false) := by
  intro pins s σ H x y v u Q I rx ry h
  obtain ⟨d, e, hd, he, hc, q⟩ := h
  simp only [cmpOk, Bool.and_eq_true, Bool.or_eq_true, decide_eq_true_eq] at hc
  have := (eq_data I (dep d + dep e + 1) d e x y v u (Nat.lt_succ_self _) hd he hc.1.1 hc.1.2 rx ry X.A (by unfold Rm at hu; omega)).1
  exact this X.prog X.w X.xe _ ⟨.bl (eqD d e), H, I, rfl, q⟩
theorem op_neD (hu : Rm X) : OpR X (compareOp .NotEq) (rEqD X.K true) := by
  intro pins s σ H x y v u Q I rx ry h
  obtain ⟨d, e, hd, he, hc, q⟩ := h
  simp only [cmpOk, Bool.and_eq_true, Bool.or_eq_true, decide_eq_true_eq] at hc
  have := ne_data I d e x y v u hd he hc.1.1 hc.1.2 rx ry X.A (by unfold Rm at hu; omega)
  exact this X.prog X.w X.xe _ ⟨.bl (!eqD d e), H, I, rfl, q⟩
theorem op_eqB : OpR X (compareOp .Eq) (rEqB false) := by
  intro pins s σ H x y v u Q I rx ry h
  obtain ⟨a, b, rfl, rfl, q⟩ := h
  refine op_eq pins s σ H _ _ v u Q I rx ry ⟨rfl, ?_⟩
  have e : decide (V.bl a = V.bl b) = (a == b) := dec_bl
  rw [e]; exact q
theorem op_neB : OpR X (compareOp .NotEq) (rEqB true) := by
  intro pins s σ H x y v u Q I rx ry h
  obtain ⟨a, b, rfl, rfl, q⟩ := h
  refine op_ne pins s σ H _ _ v u Q I rx ry ⟨rfl, ?_⟩
  have e : decide (V.bl a = V.bl b) = (a == b) := dec_bl
  rw [e]; exact q
/-! ### in -/
theorem op_inD (hB : DkOk B X) : OpR X (compareOp .In) (rDin B false) := by
  intro pins s σ H x y v u Q I rx ry h
  obtain ⟨a, kvs, k, rfl, rfl, hd, q⟩ := h
  obtain rfl : u = Value.ref a := ry
  obtain ⟨z, hm, vs, rel, dd⟩ := sqd hB I hd
  refine wpAny_in_of (kV_is rx) hm dd.mapOf ?_
  rw [← (rel.val k).isSome_eq]
  exact ⟨.bl (valV kvs k).isSome, H, I.tok _, rfl, q⟩
theorem op_notinD (hB : DkOk B X) : OpR X (compareOp .NotIn) (rDin B true) := by
  intro pins s σ H x y v u Q I rx ry h
  obtain ⟨a, kvs, k, rfl, rfl, hd, q⟩ := h
  obtain rfl : u = Value.ref a := ry
  obtain ⟨z, hm, vs, rel, dd⟩ := sqd hB I hd
  refine wpAny_notIn_of (kV_is rx) hm dd.mapOf ?_
  rw [← (rel.val k).isSome_eq]
  exact ⟨.bl (!(valV kvs k).isSome), H, I.tok _, rfl, q⟩
def cmpOp : Cmp → CmpOp
  | .eq => .Eq | .ne => .NotEq | .lt => .Lt | .le => .LtE | .gt => .Gt | .ge => .GtE | .isin => .In | .notin => .NotIn | .isN => .Is | .notN => .IsNot
theorem op_cmp (hK : B.K = X.K) (hu : Rm X) (hB : DkOk B X) : ∀ o : Cmp, OpR X (compareOp (cmpOp o)) (rCmp B o)
  | .lt => op_lt
  | .le => op_le
  | .gt => op_gt
  | .ge => op_ge
  | .eq => by rw [rCmp, hK]; exact op_eqB.or (op_eqD hu)
  | .ne => by rw [rCmp, hK]; exact op_neB.or (op_neD hu)
  | .isN => op_isN
  | .notN => op_notN
  | .isin => by rw [rCmp, hK]; exact (op_inD hB).or op_in_seq
  | .notin => by rw [rCmp, hK]; exact (op_notinD hB).or op_notIn_seq
/-! ### + -/
theorem op_catQ : OpR X (binaryOp .Add) (rCatQ X.K) := by
  intro pins s σ H x y v u Q I rx ry h
  obtain ⟨l, b, xs, zs, rfl, rfl, hH, hB, hz, q⟩ := h
  cases rx
  cases ry
  obtain ⟨its, r, pl, z⟩ := I.list hH
  obtain ⟨its2, r2, pl2, z2⟩ := I.list hB
  obtain ⟨⟨cls, dd, data, sl⟩, ho, hc, n, hd⟩ := id pl.isList
  obtain ⟨⟨cls2, dd2, data2, sl2⟩, ho2, hc2, n2, hd2⟩ := id pl2.isList
  simp only at hc hd hc2 hd2
  subst hc hd hc2 hd2
  have l1 := r.length
  have l2 := r2.length
  have ea : its.toArray ++ its2.toArray = (its ++ its2).toArray := by simp
  refine PySem.concat_meets ⟨_, ho, rfl⟩ ⟨_, ho2, rfl⟩ PySem.noFill_list_add PySem.seq_list_add PySem.F.slot_list_add PySem.F.entry_list_add (PySem.F.args_list_add_2 _ _) (PyProof.Rows.list_addW l b its.toArray its2.toArray n n2 dd dd2 sl sl2 (by simp only [List.size_toArray]; omega)) ⟨ho, ho2, ?_⟩
  rw [ea]
  exact ⟨.ref _, _, I.lnew (t' := s.toks) (r.append r2) (by rw [List.length_append]; omega), rfl, q _ I.fresh⟩
def binOp : Op2 → Operator
  | .add => .Add | .sub => .Sub | .mul => .Mult | .fdiv => .FloorDiv | .mod => .Mod | .pow => .Pow
theorem op_bin (hK : B.K = X.K) : ∀ o : Op2, OpR X (binaryOp (binOp o)) (rOp B.K o)
  | .add => by rw [rOp, hK]; exact op_add.or (op_add_str.or (op_catQ.or op_catT))
  | .sub => op_sub
  | .mul => op_mul
  | .fdiv => op_fdiv
  | .mod => op_mod
  | .pow => op_pow
/-! ### xs[i] -/
theorem ix_dct (hB : DkOk B X) : IxR X (rIxD B) := by
  intro value slice pins s σ H x y v u Q I rx ry h hs
  obtain ⟨a, kvs, k, w, rfl, rfl, hd, hv, q⟩ := h
  obtain rfl : v = Value.ref a := rx
  obtain ⟨z, hm, vs, rel, dd⟩ := sqd hB I hd
  obtain ⟨w', hw, rw'⟩ := RelO.some_of (v := w) (o := valueAt vs k) (by rw [← hv]; exact rel.val k)
  exact PyProof.Rows.tail_any dd.typeIs PySem.F.slot_dict_getitem.lookup (wpAny_getItem_of (kV_is ry) dd.mapOf hw ⟨w, H, I.tok _, rw', q⟩) hs
theorem ix_all (hK : B.K = X.K) (hB : DkOk B X) : IxR X (rIxA B) := by
  unfold rIxA; rw [hK]; exact ix_list.or (ix_tup.or (ix_str.or (ix_dct hB)))
/-! ### len, sum, tuple, list, dict -/
theorem call_lenA (hK : B.K = X.K) (hB : DkOk B X) : CallR X (.builtin "len") (rLen B) := by
  unfold rLen; rw [hK]
  refine call_len_str.or (call_len_seq.or ?_)
  intro pins s σ H xs us Q I r h
  obtain ⟨a, kvs, rfl, ha, q⟩ := h
  obtain ⟨u, rfl, ru⟩ := vals1 r
  cases ru
  obtain ⟨z, hd, vs, rel, dd⟩ := sqd hB I ha
  refine call_len_dict hd dd (by rw [← rel.length]; rw [sizeLine_eq] at z; omega) ?_
  rw [← rel.length]
  exact ⟨.int kvs.length, H, I.tok _, ⟨_, rfl⟩, q⟩
theorem vals_ints : ∀ {ns : List Int} {us : List Value}, Vals (ns.map V.int) us → (∀ v ∈ us, ∃ a t, v = Value.int a t) ∧ numsOf us = ns
  | [], us, h => by cases h; exact ⟨fun v hv => by simp at hv, rfl⟩
  | n :: ns, us, h => by
    cases h with
    | cons r t =>
      obtain ⟨tk, rfl⟩ := (show ∃ t, _ = Value.int n t from r)
      obtain ⟨i1, i2⟩ := vals_ints t
      refine ⟨fun v hv => ?_, by simp only [numsOf, i2]⟩
      rcases List.mem_cons.mp hv with rfl | hv
      · exact ⟨_, _, rfl⟩
      · exact i1 v hv
theorem call_sumA (hK : B.K = X.K) (hc : X.calm = true) : CallR X (.builtin "sum") (rSum B) := by
  intro pins s σ H xs us Q I r h
  obtain ⟨p, ns, rfl, hl, q⟩ := h
  obtain ⟨u, rfl, ru⟩ := vals1 r
  cases ru
  rw [hK] at hl
  obtain ⟨its, r', pl, hz⟩ := I.list hl
  obtain ⟨i1, i2⟩ := vals_ints r'
  obtain ⟨xs, hx⟩ := AllInts.items (vs := its.toArray) (fun v hv => i1 v (by simpa using hv))
  have hsum : preSum (numAt xs) xs.size = ns.sum := by
    rw [preSum_eq, List.take_of_length_le (by simp), ← nums_intItems, ← hx, ← i2]
  refine sum_intListG (I.ok.hd hc) (by rw [← hx]; exact pl.isList) fun h' tk t' kp => ?_
  rw [hsum]
  exact ⟨.int ns.sum, H, I.kept (t' := tk) kp, ⟨_, rfl⟩, q⟩
theorem call_tupA (hK : B.K = X.K) : CallR X (.type "tuple") (rTupOf B) := by unfold rTupOf; rw [hK]; exact call_tuple_of
theorem call_lstA (hK : B.K = X.K) : CallR X (.type "list") (rLstOf B) := by unfold rLstOf; rw [hK]; exact call_list_of
theorem call_dctA (hB : DkOk B X) : CallR X (.type "dict") (rDctOf B) := by
  intro pins s σ H xs us Q I r h
  obtain ⟨p, kvs, rfl, ha, q⟩ := h
  obtain ⟨u, rfl, ru⟩ := vals1 r
  cases ru
  obtain ⟨z, hd, vs, rel, dd⟩ := sqd hB I ha
  refine kt_call_dict hd dd (by rw [← rel.length]; exact z) fun h' dd' hs => ?_
  refine ⟨.ref s.heap.objs.size, _, I.laid (a := s.heap.objs.size) (o := .dK kvs) (t' := s.toks) (fun b q hq => ?_) (Nat.le_refl _) (dk_new z (beq_eq_false_iff_ne.mpr (Ne.symm (Nat.ne_of_lt I.big))) rel dd'), rfl, q _ (I.hok.fresh (Nat.le_refl _))⟩
  exact (hs.2 b (Nat.ne_of_lt (Heap.lt_size hq))).trans (Heap.get?_push_of_some _ hq)
/-! ### isinstance -/
inductive TyN (B : Bd) (H : Hp) : V → String → Prop where
  | non : TyN B H .non "NoneType"
  | bl (b : Bool) : TyN B H (.bl b) "bool"
  | int (i : Int) : TyN B H (.int i) "int"
  | str (x : Str) : TyN B H (.str x) "str"
  | lst {a : Addr} {xs : List V} : SqL B.K H a xs → TyN B H (.ref a) "list"
  | tup {a : Addr} {xs : List V} : SqT B.K H a xs → TyN B H (.ref a) "tuple"
  | dct {a : Addr} {kvs : List (Key × V)} : SqD B H a kvs → TyN B H (.ref a) "dict"
def tyS : Ty → String
  | .int => "int" | .str => "str" | .bool => "bool" | .list => "list" | .tuple => "tuple" | .dict => "dict"
def tyB (T : String) (t : Ty) : Bool := T == tyS t || (T == "bool" && match t with | .int => true | _ => false)
def rIsi (B : Bd) : List V → Hp → VK → Prop := fun xs H Q => ∃ x T t, xs = [x, .ty (tyS t)] ∧ TyN B H x T ∧ Q (.bl (tyB T t)) H
theorem kit_all (K : W.Frag) : ∀ t : Ty, W.kitOne K (.type "NoneType") (.type (tyS t)) = some (tyB "NoneType" t) ∧ W.kitOne K (.type "bool") (.type (tyS t)) = some (tyB "bool" t) ∧ W.kitOne K (.type "int") (.type (tyS t)) = some (tyB "int" t) ∧ W.kitOne K (.type "str") (.type (tyS t)) = some (tyB "str" t) ∧
    W.kitOne K (.type "list") (.type (tyS t)) = some (tyB "list" t) ∧ W.kitOne K (.type "tuple") (.type (tyS t)) = some (tyB "tuple" t) ∧ W.kitOne K (.type "dict") (.type (tyS t)) = some (tyB "dict" t) := by
  intro t
  cases t <;> (refine ⟨?_, ?_, ?_, ?_, ?_, ?_, ?_⟩ <;> kernel_rfl)
theorem call_isi (hK : B.K = X.K) (hB : DkOk B X) : CallR X (.builtin "isinstance") (rIsi B) := by
  intro pins s σ H xs us Q I r h
  obtain ⟨x, T, t, rfl, ty, q⟩ := h
  cases r with
  | cons rx r =>
    cases r with
    | cons rt r =>
      cases r
      obtain rfl := (show _ = Value.type (tyS t) from rt)
      have fin : ∀ tk, EP X pins σ Q (.bool (tyB T t)) { s with toks := tk } := fun tk => ⟨.bl (tyB T t), H, I.tok _, rfl, q⟩
      obtain ⟨k1, k2, k3, k4, k5, k6, k7⟩ := kit_all X.K t
      cases ty with
      | non => cases (show _ = Value.none from rx); exact W.kia_one W.kitx_none I.kIn True.intro k1 (fun z => nomatch z) fin
      | bl b => cases (show _ = Value.bool b from rx); exact W.kia_one W.kitx_bool I.kIn True.intro k2 (fun z => nomatch z) fin
      | int i => obtain ⟨tk, q⟩ := (show ∃ t, _ = Value.int i t from rx); cases q; exact W.kia_one W.kitx_int I.kIn True.intro k3 (fun z => nomatch z) fin
      | str y => obtain ⟨tk, q⟩ := (show ∃ t, _ = Value.str y t from rx); cases q; exact W.kia_one W.kitx_str I.kIn True.intro k4 (fun z => nomatch z) fin
      | lst hl =>
        cases rx
        rw [hK] at hl
        obtain ⟨its, _, pl, _⟩ := I.list hl
        obtain ⟨o, ho, hc, _⟩ := pl.isList
        exact W.kia_one W.kitx_list I.kIn ⟨o, ho, hc⟩ k5 (fun z => nomatch z) fin
      | tup hl =>
        cases rx
        rw [hK] at hl
        obtain ⟨its, _, pl, _⟩ := I.tuple hl
        obtain ⟨o, ho, hc, _⟩ := pl
        exact W.kia_one W.kitx_tuple I.kIn ⟨o, ho, hc⟩ k6 (fun z => nomatch z) fin
      | dct hd =>
        cases rx
        obtain ⟨z, hm, vs, rel, dd⟩ := sqd hB I hd
        obtain ⟨o, ho, hc⟩ := dd.typeIs
        exact W.kia_one W.kitx_dict I.kIn ⟨o, ho, hc⟩ k7 (fun z => nomatch z) fin
end
end Fg

end
section
set_option Elab.async false
set_option linter.all false
set_option maxRecDepth 100000
set_option autoImplicit false
namespace Fg
open PySem PySem.Spec L2
/-! ### slices of texts -/
theorem pick_range {α : Type} (xs : List α) (a : Nat) : ∀ c : Nat, ((List.range c).map fun k => a + k).filterMap (fun i => xs[i]?) = (xs.drop a).take c
  | 0 => by simp
  | c + 1 => by
    rw [List.range_succ, List.map_append, List.filterMap_append, pick_range xs a c, List.take_add_one]
    simp [List.getElem?_drop]
    cases h : xs[a + c]? <;> simp [h]
theorem clip_six (n d : Nat) (hd : d ≤ n) (o : Option Int) : (match o with
    | none => ((d : Nat) : Int)
    | some i => max 0 (min (if i < 0 then i + (n : Int) else i) (n : Int))) = ((six n d o : Nat) : Int) := by
  cases o with
  | none => rfl
  | some i => simp only [six]; split <;> omega
theorem six_le (n d : Nat) (hd : d ≤ n) (o : Option Int) : six n d o ≤ n := by
  cases o with
  | none => exact hd
  | some i => simp only [six]; split <;> omega
theorem rng_eq (a b : Nat) : sliceRange (a : Int) (b : Int) 1 = (List.range (b - a)).map fun k => a + k := by
  unfold sliceRange
  simp only [show (1 : Int) > 0 by decide, if_true]
  have ec : (if (a : Int) < (b : Int) then ((b : Int) - (a : Int) + 1 - 1) / 1 else 0).toNat = b - a := by
    split <;> omega
  rw [ec]
  apply List.map_congr_left
  intro k _
  omega
theorem ind_eq (l u : Option Int) (n : Nat) : Builtin.Str.strSliceIndices l u 1 n = (List.range (six n n u - six n 0 l)).map fun k => six n 0 l + k := by
  rw [← rng_eq, ← clip_six n 0 (Nat.zero_le _) l, ← clip_six n n (Nat.le_refl _) u]
  unfold Builtin.Str.strSliceIndices
  cases l <;> cases u <;> rfl
theorem slice_cuts (x : Str) (l u : Option Int) : Txt.slice x l u = cuts x l u := by
  have hn : x.cps.toList.length = x.length := by simp [Str.length]
  have key : (Builtin.Str.strSliceIndices l u 1 x.length).filterMap (x.cps[·]?) = cutl x.cps.toList l u := by
    rw [ind_eq]
    have := pick_range x.cps.toList (six x.length 0 l) (six x.length x.length u - six x.length 0 l)
    unfold cutl
    rw [hn, ← this]
    congr 1
    funext i
    simp
  unfold Txt.slice
  split
  · rename_i hc
    simp only [Bool.and_eq_true, beq_iff_eq] at hc
    have hc2 := hc.2
    rw [ind_eq] at hc2
    simp only [List.length_map, List.length_range] at hc2
    have b1 := six_le x.length x.length (Nat.le_refl _) u
    unfold cuts cutl
    rw [hn]
    by_cases h0 : x.length = 0
    · obtain ⟨⟨l⟩⟩ := x
      simp [Str.length] at h0
      subst h0
      simp
    · have a0 : six x.length 0 l = 0 := by omega
      rw [a0, List.drop_zero, List.take_of_length_le (by rw [hn]; omega)]
  · show Str.mk _ = Str.mk _
    rw [key]
section
variable {X : Cx} {B : Bd}
theorem sl_str : SlR X rSlS := by
  intro pins s σ H x v vl vu lo hi sl Q I rx hs pl pu h
  obtain ⟨z, rfl, hz, q⟩ := h
  obtain ⟨t, rfl⟩ := (show ∃ t, v = Value.str z t from rx)
  refine ⟨"str", _, PySem.F.slot_str_getitem.lookup, typeIs_str _ _ _, ?_⟩
  have fin : ∀ (l u : Option Int) (t' : Tok) (k : Nat), l = lo → u = hi → EP X pins σ Q (.str (Txt.slice z l u) t') { s with toks := k } := by
    intro l u t' k e3 e4
    exact ⟨.str (cuts z lo hi), H, I.tok _, ⟨t', by rw [slice_cuts, e3, e4]⟩, q⟩
  obtain ⟨o, ho, hc, hd⟩ := hs
  cases pl with
  | none =>
    cases pu with
    | none => exact wpAny_getItem_str_slice (l := none) (u := none) (st := none) ⟨o, ho, hc, hd⟩ rfl (post_val_or_str ⟨Nat.le_trans (Txt.slice_le z none none) hz, fun t' k => fin none none t' k rfl rfl⟩)
    | int j tj => exact wpAny_getItem_str_slice (l := none) (u := some (j, tj)) (st := none) ⟨o, ho, hc, hd⟩ rfl (post_val_or_str ⟨Nat.le_trans (Txt.slice_le z none (some j)) hz, fun t' k => fin none (some j) t' k rfl rfl⟩)
  | int i ti =>
    cases pu with
    | none => exact wpAny_getItem_str_slice (l := some (i, ti)) (u := none) (st := none) ⟨o, ho, hc, hd⟩ rfl (post_val_or_str ⟨Nat.le_trans (Txt.slice_le z (some i) none) hz, fun t' k => fin (some i) none t' k rfl rfl⟩)
    | int j tj => exact wpAny_getItem_str_slice (l := some (i, ti)) (u := some (j, tj)) (st := none) ⟨o, ho, hc, hd⟩ rfl (post_val_or_str ⟨Nat.le_trans (Txt.slice_le z (some i) (some j)) hz, fun t' k => fin (some i) (some j) t' k rfl rfl⟩)
theorem sl_all (hK : B.K = X.K) : SlR X (rSlA B) := by
  unfold rSlA; rw [hK]; exact sl_list.or (sl_tup.or sl_str)
end
end Fg

end
section
set_option Elab.async false
set_option linter.all false
set_option maxRecDepth 100000
set_option autoImplicit false
namespace Fg
open PySem PySem.Spec L2

/-! ### the cells that a comprehension's block is given -/
theorem forIn_yield_fold {α β : Type} (g : β → α → β) : ∀ {l : List α} {f : α → β → Sem (ForInStep β)} (_ : ∀ x ∈ l, ∀ c, f x c = pure (.yield (g c x))) (c : β), forIn l c f = pure (l.foldl g c)
  | [], f, _, c => rfl
  | x :: l, f, h, c => by
    rw [List.forIn_cons, h x List.mem_cons_self, pure_bind]
    exact forIn_yield_fold g (fun y hy => h y (List.mem_cons_of_mem _ hy)) _
def clStep (env : Env) (cs : List (Str × Addr)) (x : Str × NameKind) : List (Str × Addr) := if x.2 == .free then (x.1, (env.cells.lookup x.1).getD 0) :: cs else cs
theorem closure_eq {scope : Scope} {env : Env} (h : ∀ x, (x, NameKind.free) ∈ scope.names → ∃ c, env.cells.lookup x = some c) : closureFor scope env = pure (scope.names.foldl (clStep env) []) := by
  unfold closureFor
  dsimp only
  rw [forIn_yield_fold (clStep env) (fun x hx c => ?_)]
  · rfl
  obtain ⟨n, k⟩ := x
  by_cases hk : k = .free
  · subst hk
    obtain ⟨a, ha⟩ := h n hx
    simp only [clStep, cellOf, ha, beq_self_eq_true, if_true, Option.getD_some]
    rfl
  · have hb : (k == NameKind.free) = false := by simpa using hk
    simp only [clStep, hb, Bool.false_eq_true, if_false]
theorem cl_mem {env : Env} : ∀ (names : List (Str × NameKind)) (cs : List (Str × Addr)) (p : Str × Addr), (∀ x, (x, NameKind.free) ∈ names → ∃ c, env.cells.lookup x = some c) → p ∈ names.foldl (clStep env) cs → p ∈ cs ∨ env.cells.lookup p.1 = some p.2
  | [], cs, p, _, h => .inl h
  | (n, k) :: r, cs, p, hc, h => by
    rw [List.foldl_cons] at h
    rcases cl_mem r _ p (fun x hx => hc x (List.mem_cons_of_mem _ hx)) h with q | q
    · unfold clStep at q
      split at q
      · rename_i hk
        have hk' : k = .free := by simpa using hk
        subst hk'
        rcases List.mem_cons.mp q with q | q
        · obtain ⟨a, ha⟩ := hc n List.mem_cons_self
          right
          rw [q]
          show env.cells.lookup n = some ((env.cells.lookup n).getD 0)
          rw [ha]; rfl
        · exact .inl q
      · exact .inl q
    · exact .inr q
theorem cl_keep {env : Env} : ∀ (names : List (Str × NameKind)) (cs : List (Str × Addr)) (x : Str), (∃ c, (x, c) ∈ cs) → ∃ c, (x, c) ∈ names.foldl (clStep env) cs
  | [], cs, x, h => h
  | (n, k) :: r, cs, x, ⟨c, h⟩ => by
    rw [List.foldl_cons]
    refine cl_keep r _ x ⟨c, ?_⟩
    unfold clStep
    split
    · exact List.mem_cons_of_mem _ h
    · exact h
theorem cl_has {env : Env} : ∀ (names : List (Str × NameKind)) (cs : List (Str × Addr)) (x : Str), (x, NameKind.free) ∈ names → ∃ c, (x, c) ∈ names.foldl (clStep env) cs
  | (n, k) :: r, cs, x, h => by
    rw [List.foldl_cons]
    rcases List.mem_cons.mp h with h | h
    · cases h
      refine cl_keep r _ n ⟨(env.cells.lookup n).getD 0, ?_⟩
      unfold clStep
      rw [if_pos (by rfl)]
      exact List.mem_cons_self
    · exact cl_has r _ x h
theorem lookup_of_mem {β : Type} : ∀ {l : List (Str × β)} {x : Str} {c : β}, (x, c) ∈ l → ∃ d, l.lookup x = some d
  | (n, k) :: r, x, c, h => by
    rw [List.lookup_cons]
    cases e : x == n with
    | true => exact ⟨k, rfl⟩
    | false =>
      rcases List.mem_cons.mp h with h | h
      · cases h; simp at e
      · exact lookup_of_mem h
theorem lookup_relabel {env : Env} : ∀ {names : List (Str × NameKind)} {x : Str}, (names.map fun (n, k) => if (k == NameKind.free && env.scope.kind == .function && env.kindOf n == some .cell) then (n, NameKind.cell) else (n, k)).lookup x =
    (names.lookup x).map fun k => if (k == NameKind.free && env.scope.kind == .function && env.kindOf x == some .cell) then NameKind.cell else k
  | [], x => rfl
  | (n, k) :: r, x => by
    have ih := @lookup_relabel env r x
    show List.lookup x ((if (k == NameKind.free && env.scope.kind == .function && env.kindOf n == some .cell) = true then (n, NameKind.cell) else (n, k)) :: _) = _
    cases hx : x == n with
    | true =>
      have e : x = n := by simpa using hx
      subst e
      by_cases hc : (k == NameKind.free && env.scope.kind == .function && env.kindOf x == some .cell) = true
      · rw [if_pos hc]; simp only [List.lookup_cons, hx, Option.map_some, if_pos hc]
      · rw [if_neg hc]
        simp only [List.lookup_cons, hx, Option.map_some, if_neg hc]
    | false =>
      by_cases hc : (k == NameKind.free && env.scope.kind == .function && env.kindOf n == some .cell) = true
      · rw [if_pos hc]; simp only [List.lookup_cons, hx]; exact ih
      · rw [if_neg hc]; simp only [List.lookup_cons, hx]; exact ih

/-! ### the block -/
def blk (X : Cx) (scope : Scope) (cl : List (Str × Addr)) (N : List Str) (fp : List Addr) (s : Shared) (H : Hp) (C : Addr) : Cx :=
  { X with N := N, s₀ := s, H₀ := H, env := compEnvC scope cl C X.env, outer := X.stack, stack := X.stack, ex := fp, fn := fun _ => false, pn := [], xe := fun _ _ => False }
abbrev blkE (X : Cx) (scope : Scope) (cl : List (Str × Addr)) (N : List Str) (fp : List Addr) (s : Shared) (H : Hp) (C : Addr) (E : XK) : Cx := (blk X scope cl N fp s H C).wish (Fly (blk X scope cl N fp s H C) fun cv x _ H' => E cv x H')
/-- the tests of a comprehension -/
def PTs (X : Cx) (ifs : List Expr) (t : TT) : Prop :=
  ∀ (pins : List (Addr × Obj)) (s : Shared) (σ : St) (H : Hp) (Q : Bool → Hp → Prop), Inv X pins σ H s → t σ H Q →
    wpAny (model X.prog X.w) X.A (forIn ifs true fun c r => if r = true then do let ok ← isTrue c X.env (eval c X.env); pure (ForInStep.yield ok) else pure (ForInStep.yield r)) (L2.TP X pins σ Q) X.xe s
theorem pts_nil {X : Cx} : PTs X [] (fun _ H Q => Q true H) := fun pins s σ H Q I h => wpAny_tests_nil ⟨H, I, h⟩
theorem pts_one {X : Cx} {c : Expr} {t : TT} (h : PT X c t) : PTs X [c] t := fun pins s σ H Q I q => wpAny_tests_one (h pins s σ H Q I q)
def capV (cp : List Nat) (n : Nat) (σ : St) : St := cp.map (fun i => (σ[i]?).join) ++ List.replicate n none
def tComp (wi : TI) (g : TG) (tc : St → TT) (te : St → TE) (cp : List Nat) (n : Nat) : TE := fun σ H Q => wi σ H fun J H1 => ∀ D, H1 D = none → ∃ W : Nat → Nat → St → Hp → Prop, (∃ m, W 0 m (capV cp n σ) (upd H1 D (.lst []))) ∧ ∀ i m σ' H', W i m σ' H' →
  (J.stop i H' ∧ Q (.ref D) H') ∨ (J.go i H' ∧ ∀ x H2, J.yld i H' x H2 → g x σ' H2 fun σ2 H3 => tc σ σ2 H3 fun b H4 =>
    if b = true then te σ σ2 H4 fun v H5 => ∃ ys, H5 D = some (.lst ys) ∧ ys.length < sizeLine ∧ ∃ m', m' < m ∧ W (i + 1) m' σ2 (upd H5 D (.lst (ys ++ [v]))) else ∃ m', m' < m ∧ W (i + 1) m' σ2 H4)

theorem codeAny_compLoop_go {prog : Program} {w : World} {A : Around} {R : Result → Shared → Prop} {s : Shared} {elt target iter : Expr} {ifs : List Expr} {scope : Scope} {pos : Pos} {it acc : Value} {env : Env} (I : Nat → Shared → Prop) (EX : Value → Shared → Prop) (hE : ∀ e s, EX e s → notedBy (model prog w) A env (fun x s' => R (.error x) s') e s)
    (turn : ∀ n s, I n s → wpAny (model prog w) A (pyNext it) (fun r s₁ => match r with
      | none => R (.ok .next) s₁
      | some v => wpAny (model prog w) A (letOwnedTupleGo target it v) (fun _ s₁' => wpAny (model prog w) A (assign target env v) (fun _ s₂ =>
          wpAny (model prog w) A (forIn ifs true fun c r => if r = true then do let ok ← isTrue c env (eval c env); pure (ForInStep.yield ok) else pure (ForInStep.yield r)) (fun ok s₃ =>
            if ok = true then wpAny (model prog w) A (eval elt env) (fun x s₄ =>
              wpAny (model prog w) A (call (.builtin "list.append") [acc, x]) (fun _ s₅ => ∃ m, m < n ∧ I m s₅) EX s₄) EX s₃
            else ∃ m, m < n ∧ I m s₃) EX s₂) EX s₁') EX s₁) EX s)
    (n : Nat) (h : I n s) : codeAny (model prog w) A (.compLoop (.ListComp elt [⟨target, iter, ifs, 0⟩] scope pos) 0 it acc env) R s := by
  refine codeAny_loop rfl I (fun n s hI => ?_) n h
  show wpAny _ A ((compTurn (.ListComp elt [⟨target, iter, ifs, 0⟩] scope pos) 0 it acc env).onRaise (fun x => do noteFrame x env; theTreesLotGoes x)) _ _ s
  refine wpAny_noted ?_
  rw [compTurn_list]
  refine wpAny_bind (wpAny_standAt (wpAny_bind (wpAny_mono (turn n s hI) (fun r s₁ h₁ => ?_) hE)))
  cases r with
  | none => exact wpAny_pure h₁
  | some v =>
    refine wpAny_bind (wpAny_mono h₁ (fun _ s₁' h₁' => ?_) hE)
    refine wpAny_bind (wpAny_mono h₁' (fun _ s₂ h₂ => wpAny_bind (wpAny_mono h₂ (fun ok s₃ h₃ => ?_) hE)) hE)
    cases ok with
    | false => exact wpAny_pure ⟨rfl, h₃⟩
    | true =>
      exact wpAny_bind (wpAny_bind (wpAny_mono h₃ (fun x s₄ h₄ => wpAny_bind (wpAny_mono h₄ (fun _ s₅ h₅ => wpAny_pure (wpAny_pure ⟨rfl, h₅⟩)) hE)) hE))

section
variable {X : Cx} {pins : List (Addr × Obj)} {σ : St} {H : Hp} {s : Shared}
/-- what a comprehension asks of its own scope, the scope around it, its names and what it captures -/
structure CompSc (X : Cx) (scope : Scope) (N : List Str) (cp : List Nat) (n : Nat) : Prop where
  free : ∀ x, (x, NameKind.free) ∈ scope.names → X.env.kindOf x = some .cell ∨ X.env.kindOf x = some .free
  cell : ∀ y ∈ scope.names, y.2 ≠ .cell
  kind : scope.kind = .function
  names : ∀ y ∈ scope.names, y.2 = .local → scope.names.lookup y.1 = some .local
  len : N.length = cp.length + n
  cap : ∀ (i j : Nat) (x : Str), N[i]? = some x → cp[i]? = some j → X.N[j]? = some x ∧ scope.names.lookup x = some .free

theorem blk_ok {scope : Scope} {N : List Str} {cp : List Nat} {n : Nat} {fp : List Addr} {C : Addr} (S : CompSc X scope N cp n) (I : Inv X pins σ H s) (hf : ∀ b ∈ fp, FpOk X pins H b) (hC : s.heap.objs.size < C) (hfC : ∀ b ∈ fp, b < s.heap.objs.size) :
    (blk X scope (scope.names.foldl (clStep X.env) []) N fp s H C).Ok := by
  have hex : ∀ x, (x, NameKind.free) ∈ scope.names → ∃ c, X.env.cells.lookup x = some c := fun x hx => I.ok.has x (S.free x hx)
  have hcl : ∀ x c, (scope.names.foldl (clStep X.env) []).lookup x = some c → X.env.cells.lookup x = some c := fun x c e => by
    rcases cl_mem scope.names [] (x, c) hex (PySem.mem_of_lookup e) with q | q
    · cases q
    · exact q
  refine ⟨I.ok.mod, S.kind, I.ok.glob, I.ok.blt, Nat.le_of_lt hC, fun x y c h1 h2 => I.ok.inj x y c (hcl x c h1) (hcl y c h2), fun x hx => ?_, fun x c h _ => (Bool.false_ne_true h).elim, I.ok.hd, I.ok.frames, .inl rfl, fun b hb => ⟨Nat.ne_of_lt (Nat.lt_trans (hfC b hb) hC), fun x c e => (hf b hb).2.2.2.2.1 x c (hcl x c e)⟩,
    fun b o e => I.bs b o e, Nat.le_trans I.ok.bsz I.sz, fun b o e hb => ?_, fun b hb hs => ?_, I.stack, I.stkFree⟩
  · have q : (x, NameKind.free) ∈ scope.names := by
      have hx : (relabel scope X.env).names.lookup x = some .cell ∨ (relabel scope X.env).names.lookup x = some .free := hx
      unfold relabel at hx
      dsimp only at hx
      rw [lookup_relabel] at hx
      cases e : scope.names.lookup x with
      | none => rw [e] at hx; simp at hx
      | some k =>
        rw [e] at hx
        have hm := PySem.mem_of_lookup e
        cases k with
        | free => exact hm
        | cell => exact (S.cell _ hm rfl).elim
        | «local» => simp at hx
        | globalImplicit => simp at hx
        | globalExplicit => simp at hx
    obtain ⟨c, hc⟩ := cl_has (env := X.env) scope.names [] x q
    exact lookup_of_mem hc
  · rcases (hf b hb).2.2.2.1 with z | z
    · exact I.ok.noex b o e z
    · exact absurd (Nat.lt_of_lt_of_le (Heap.lt_size e) (Nat.le_trans I.ok.bsz z)) (Nat.lt_irrefl _)
  · rcases List.mem_cons.mp (I.stkSub b hs) with z | z
    · exact (hf b hb).2.1 z
    · exact (hf b hb).2.2.1 z

theorem blk_start {scope : Scope} {N : List Str} {cp : List Nat} {n : Nat} {fp : List Addr} {C D : Addr} {h1 : Heap} {t1 : Nat} (S : CompSc X scope N cp n) (I : Inv X pins σ H s) (hf : ∀ b ∈ fp, FpOk X pins H b) (hfC : ∀ b ∈ fp, b < s.heap.objs.size)
    (hD : D = s.heap.objs.size) (hC : C = s.heap.objs.size + 1) {m : Str → Option Value} (hns : h1.Ns C m) (old : ∀ b o, s.heap.get? b = some o → h1.get? b = some o) (hacc : h1.get? D = some { cls := .type "list", data := .seq ([] : List Value).toArray 0 }) :
    Inv (blk X scope (scope.names.foldl (clStep X.env) []) N fp s H C) [] (capV cp n σ) (upd H D (.lst [])) { s with heap := h1, toks := t1 } := by
  have hex : ∀ x, (x, NameKind.free) ∈ scope.names → ∃ c, X.env.cells.lookup x = some c := fun x hx => I.ok.has x (S.free x hx)
  have hcl : ∀ x c, (scope.names.foldl (clStep X.env) []).lookup x = some c → X.env.cells.lookup x = some c := fun x c e => by
    rcases cl_mem scope.names [] (x, c) hex (PySem.mem_of_lookup e) with q | q
    · cases q
    · exact q
  have fD : H D = none := I.hok.fresh (by rw [hD]; exact Nat.le_refl _)
  have fC : H C = none := I.hok.fresh (by rw [hC]; exact Nat.le_succ _)
  have cellK : ∀ x c v, X.env.cells.lookup x = some c → s.heap.IsCell c v → h1.IsCell c v := fun x c v e ⟨o, ho, hd⟩ => ⟨o, old c o ho, hd⟩
  refine ⟨blk_ok S I hf (by rw [hC]; exact Nat.lt_succ_self _) hfC, rfl, I.bare, ?_, ⟨m, hns, fun i x v e1 e2 e3 => ?_⟩, fun x c e => ?_, ?_, fun x c e => ?_, fun p hp => absurd (show p ∈ ([] : List (Addr × Obj)) from hp) (by simp), ?_, ?_⟩
  · exact Un.laid (fun b u e => old b u e) (by rw [hD]; exact Nat.le_refl _) fD
  · -- a captured name
    have hi : i < cp.length := by
      by_cases hi : i < cp.length
      · exact hi
      · unfold capV at e2
        rw [List.getElem?_append_right (by simpa using hi), List.getElem?_replicate] at e2
        split at e2 <;> cases e2
    have hcp : cp[i]? = some cp[i] := List.getElem?_eq_getElem hi
    obtain ⟨hX, hfr⟩ := S.cap i cp[i] x e1 hcp
    have e2' : σ[cp[i]]? = some (some v) := by
      unfold capV at e2
      rw [List.getElem?_append_left (by simpa using hi), List.getElem?_map, hcp] at e2
      simp only [Option.map_some, Option.some.injEq] at e2
      cases q : σ[cp[i]]? with
      | none => rw [q] at e2; cases e2
      | some o => rw [q] at e2; simp only [Option.join_some] at e2; rw [e2]
    have hmem := PySem.mem_of_lookup hfr
    have hk := S.free x hmem
    obtain ⟨m0, _, hl⟩ := I.loc
    obtain ⟨u, r, lk⟩ := hl cp[i] x v hX e2' (by rcases hk with q | q; exact .inr (.inl q); exact .inr (.inr q))
    refine ⟨u, r, .inr ⟨?_, ?_⟩⟩
    · show (relabel scope X.env).names.lookup x = some .cell ∨ (relabel scope X.env).names.lookup x = some .free
      unfold relabel
      dsimp only
      rw [lookup_relabel, hfr]
      simp only [Option.map_some]
      split
      · exact .inl rfl
      · exact .inr rfl
    · obtain ⟨c, hc⟩ := cl_has (env := X.env) scope.names [] x hmem
      obtain ⟨d, hd⟩ := lookup_of_mem hc
      refine ⟨d, hd, ?_⟩
      rcases lk with ⟨k, _⟩ | ⟨_, c', hc', z⟩
      · rcases hk with q | q <;> (rw [q] at k; cases k)
      · have := hcl x d hd
        rw [hc'] at this; cases this
        exact cellK x d _ hc' z
  · obtain ⟨v, z⟩ := I.cell x c (hcl x c e)
    exact ⟨v, cellK x c v (hcl x c e) z⟩
  · show upd H D (.lst []) C = none
    rw [upd_ne (by rw [hC, hD]; exact Nat.succ_ne_self _)]; exact fC
  · show upd H D (.lst []) c = none
    rw [upd_ne (ne_of_lt' (I.cell x c (hcl x c e)) hD)]
    exact I.freeC x c (hcl x c e)
  · exact I.hok.laid old (by rw [hD]; exact Nat.le_refl _) ⟨Nat.zero_le _, [], 0, .nil, hacc⟩
  · unfold capV
    show _ = N.length
    rw [List.length_append, List.length_map, List.length_replicate, S.len]
where
  ne_of_lt' {h : Heap} {c D : Addr} (z : ∃ v, h.IsCell c v) (hD : D = h.objs.size) : c ≠ D := by
    obtain ⟨v, q⟩ := z
    rw [hD]
    exact Nat.ne_of_lt q.lt

variable {elt tg iter : Expr} {ifs : List Expr} {scope : Scope} {pos ppos : Pos} {wi : TI} {g : TG} {tc : St → TT} {te : St → TE} {Ex : XS} {cp : List Nat} {n : Nat} {N : List Str}
theorem comp_core {use : Option (Value → Sem Unit)} {Q' : Value → Shared → Prop} {Q : VK} (hc : X.calm = true) (S : CompSc X scope N cp n) (hi : PI X tg iter wi)
    (hfr : HasFr X) (hx : ∀ e s, Fly X Ex e s → X.xe e s) (hb : ∀ σ cl fp s H C, PG (blkE X scope cl N fp s H C fun cv x H' => Ex cv x σ H') tg g ∧ PTs (blkE X scope cl N fp s H C fun cv x H' => Ex cv x σ H') ifs (tc σ) ∧ PE (blkE X scope cl N fp s H C fun cv x H' => Ex cv x σ H') elt (te σ)) (hs : ∀ x, foldedSetIterable iter X.env x = pure x)
    (I : Inv X pins σ H s) (h : tComp wi g tc te cp n σ H Q)
    (fin : ∀ s' C D H' f, Inv X pins σ H' s' → FpOk X pins H' C → (∃ m, s'.heap.Ns C m) → Q (.ref D) H' → compPost (model X.prog X.w) X.A X.xe use Q' (.ref D) C (.ok f) s') :
    wpAny (model X.prog X.w) X.A (comprehension (.ListComp elt [⟨tg, iter, ifs, 0⟩] scope pos) scope X.env ppos (newList []) false (eval iter X.env) use) Q' X.xe s := by
  have hex : ∀ x, (x, NameKind.free) ∈ scope.names → ∃ c, X.env.cells.lookup x = some c := fun x hx => I.ok.has x (S.free x hx)
  refine wpAny_comprehension_free rfl hs (closure_eq hex) S.kind S.names (thn (hi pins s σ H _ I h) fun v s1 h1 => thn h1 fun itv s2 h2 => ?_)
  obtain ⟨it, fp, tn, J, H2, e, I2, T, st2, f2, hW⟩ := h2
  subst e
  refine wpAny_newObj_type (wpAny_newFunctionEnv S.cell (by intro y hy; simp at hy) (fun h₁ hns₁ hsb₁ => ?_) S.kind)
  dsimp only at hns₁ hsb₁ ⊢
  generalize hH2 : s2.heap.push { cls := .type "list", dict := none, data := .seq ([] : List Value).toArray } = G at hns₁ hsb₁ ⊢
  have hC : G.objs.size = s2.heap.objs.size + 1 := by rw [← hH2, Heap.size_push]
  have hfC : ∀ b ∈ fp, b < s2.heap.objs.size := fun b hb => by
    obtain ⟨o, e, _⟩ := T.obj _ _ st2 b hb
    exact Heap.lt_size e
  have hDC : s2.heap.objs.size ≠ G.objs.size := by rw [hC]; exact Nat.ne_of_lt (Nat.lt_succ_self _)
  have old : ∀ b o, s2.heap.get? b = some o → h₁.get? b = some o := fun b o e => hsb₁.extBut b o (by rw [hC]; exact Nat.ne_of_lt (Nat.lt_succ_of_lt (Heap.lt_size e))) (Heap.get?_push_of_some _ (hH2 ▸ Heap.get?_push_of_some _ e))
  have hacc : h₁.get? s2.heap.objs.size = some { cls := .type "list", data := .seq ([] : List Value).toArray 0 } := hsb₁.extBut _ _ hDC (Heap.get?_push_of_some _ (hH2 ▸ Heap.get?_push_size _ rfl))
  have st1 : tn 0 h₁ := T.keep _ _ _ st2 fun b hb o e => old b o e
  obtain ⟨W, ⟨m0, w0⟩, turn⟩ := hW s2.heap.objs.size (I2.hok.fresh (Nat.le_refl _))
  have I0' := blk_start (t1 := s2.toks + ([] : List (Str × Value)).length) S I2 f2 hfC rfl hC hns₁ old hacc
  have I0 := I0'.wish (Fly (blk X scope (scope.names.foldl (clStep X.env) []) N fp s2 H2 G.objs.size) fun cv x _ H' => Ex cv x σ H')
  obtain ⟨hg, ht, he⟩ := hb σ (scope.names.foldl (clStep X.env) []) fp s2 H2 G.objs.size
  have fp0 : ∀ b ∈ fp, upd H2 s2.heap.objs.size (.lst []) b = none := fun b hb => by rw [upd_ne (Nat.ne_of_lt (hfC b hb))]; exact (f2 b hb).1
  have hex' : ∀ x c, (scope.names.foldl (clStep X.env) []).lookup x = some c → X.env.cells.lookup x = some c := fun x c e => by
    rcases cl_mem scope.names [] (x, c) hex (PySem.mem_of_lookup e) with q | q
    · cases q
    · exact q
  have stat : ∀ {H' : Hp}, (∀ b ∈ fp, H' b = none) → ∀ b ∈ fp, FpOk (blkE X scope (scope.names.foldl (clStep X.env) []) N fp s2 H2 G.objs.size (fun cv x H' => Ex cv x σ H')) [] H' b := fun {H'} hn b hb =>
    ⟨hn b hb, Nat.ne_of_lt (Nat.lt_trans (hfC b hb) (by rw [hC]; exact Nat.lt_succ_self _)), fun z => (List.mem_cons.mp (I2.stkSub b z)).elim (f2 b hb).2.1 (f2 b hb).2.2.1, .inl hb, fun x c e => (f2 b hb).2.2.2.2.1 x c (hex' x c e), fun p hp => absurd (show p ∈ ([] : List (Addr × Obj)) from hp) (by simp)⟩
  have loop : ∀ s3 : Shared, s3 = { s2 with heap := h₁, toks := s2.toks + ([] : List (Str × Value)).length } → codeAny (model X.prog X.w) X.A (.compLoop (.ListComp elt [⟨tg, iter, ifs, 0⟩] scope pos) 0 (.ref it) (.ref s2.heap.objs.size) (compEnvC scope (scope.names.foldl (clStep X.env) []) G.objs.size X.env))
      (compPost (model X.prog X.w) X.A X.xe use Q' (.ref s2.heap.objs.size) G.objs.size) s3 := by
    rintro s3 rfl
    refine codeAny_compLoop_go (fun n s' => ∃ i σ' H', Inv (blkE X scope (scope.names.foldl (clStep X.env) []) N fp s2 H2 G.objs.size (fun cv x H' => Ex cv x σ H')) [] σ' H' s' ∧ tn i s'.heap ∧ (∀ b ∈ fp, H' b = none) ∧ W i n σ' H') (Fly (blk X scope (scope.names.foldl (clStep X.env) []) N fp s2 H2 G.objs.size) fun cv x _ H' => Ex cv x σ H') ?hE ?_ m0 ⟨0, _, _, I0, st1, fp0, w0⟩
    case hE =>
      rintro e s3 ⟨pins3, σ3, H3, a, a0, cv, B, rfl, I3, up, cal, _, q⟩
      obtain ⟨env0, outer0, L, hst, hf0, hfX⟩ := hfr
      show wpAny (model X.prog X.w) X.A (noteFrame (.ref a) _) _ _ s3
      rw [note_at (env := compEnvC scope (scope.names.foldl (clStep X.env) []) G.objs.size X.env) (env' := env0) (hfX.trans hf0.symm)]
      have up' : Up B (env0 :: outer0) a cv a0 s3.heap := by rw [← hst]; exact up
      refine up'.note (by rw [I.ok.frames, hst]) hf0 fun h4 held sm4 => ?_
      obtain ⟨m, hm, _⟩ := id I3.loc
      have hcC : G.objs.size ∉ frs X.stack := fun z => by
        rcases List.mem_cons.mp (I2.stkSub _ z) with e | z
        · have z := I2.lt
          rw [← e, hC] at z
          exact absurd z (Nat.not_lt.mpr (Nat.le_succ _))
        · exact I2.nofs (by rw [hC]; exact Nat.le_succ _) z
      refine ⟨m, sm4.ns hm, fun h5 sb5 cenv _ => ?_⟩
      have hm4 := sm4.ns hm
      have upH : Up B X.stack a cv a0 h4 := by rw [hst]; exact .of_held held
      have up5 := upH.hide sb5 (by
        obtain ⟨o, es, ep, ho, hd, _⟩ := hm4
        exact ⟨o, ho, fun vs z => by rw [hd] at z; cases z⟩) hcC
      refine up5.pass fun h6 up6 sm6 => hx _ _ ?_
      have st0 : (B.hide G.objs.size).StaysIn s3.heap := fun b o e => up.1 b o (Heap.of_hide e)
      have cal2 : Calm (B.hide G.objs.size) (frs X.stack) fp H3 s2.heap := fun b hb hf => by
        obtain ⟨o, e⟩ := cal b hb hf
        refine ⟨o, ?_⟩
        rw [Heap.hide_ne]
        · exact e
        · rintro rfl
          rcases hb with hb | ⟨⟨o', hb⟩, _⟩
          · exact hb I3.free
          · have z := Heap.lt_size hb
            rw [hC] at z
            exact absurd z (Nat.not_lt.mpr (Nat.le_succ _))
      have fru : ∀ b ∈ frs X.stack, ∀ o, s3.heap.get? b = some o → ∃ sl, h6.get? b = some { o with slots := sl } := fun b hb o e => by
        have hd := frm_data I3 b hb o e
        obtain ⟨sl, e4⟩ := sm4 b o e hd
        have e5 : h5.get? b = some { o with slots := sl } := by rw [sb5.2 b (by rintro rfl; exact hcC hb)]; exact e4
        obtain ⟨sl', e6⟩ := sm6 b _ e5 hd
        exact ⟨sl', e6⟩
      have un6 := fly_un I3.base cal2 st0 up6.1 fru (fun b hb _ => hb)
      have hok6 := fly_hok I3.hok cal2 st0 up6.1 I3.stkFree
      have J := I2.call' (s' := { s3 with heap := h6 }) I3.os un6 hok6 I3.bare fun b hb => ⟨(f2 b hb).2.2.2.1, (f2 b hb).2.1, (f2 b hb).2.2.2.2.1, (f2 b hb).2.2.2.2.2⟩
      have calX : Calm (B.hide G.objs.size) (frs X.stack) X.ex H3 X.s₀.heap := by
        intro b hb hf
        refine cal2 b ?_ hf
        rcases hb with hb | ⟨⟨o, z⟩, nx⟩
        · exact .inl hb
        · refine .inr ⟨old_there I2 z nx, fun zf => ?_⟩
          rcases (f2 b zf).2.2.2.1 with y | y
          · exact nx y
          · exact absurd (Nat.lt_of_lt_of_le (Heap.lt_size z) y) (Nat.lt_irrefl _)
      have pnX : ∀ p ∈ X.pn, (B.hide G.objs.size).get? p.1 = some p.2 := by
        intro p hp
        obtain ⟨p1, p2, p3, p4, _⟩ := I2.pin p (List.mem_append_left _ hp)
        have pf : p.1 ∉ fp := fun z => (f2 _ z).2.2.2.2.2 p (List.mem_append_left _ hp) rfl
        have ps : p.1 ∉ frs X.stack := fun z => by
          rcases List.mem_cons.mp (I2.stkSub _ z) with e | z
          · exact p3 e
          · exact p4 z
        exact cal2.at st0 (I3.base.keep p.1 p.2 p1 p2 ps pf) (.inr ⟨⟨_, p1⟩, pf⟩) ps
      exact ⟨pins, σ, H3, a, a0, cv, B.hide G.objs.size, rfl, J, up6, calX, pnX, q⟩
    rintro n s3 ⟨i, σ3, H3, I3, st3, fr3, w3⟩
    rcases turn i n σ3 H3 w3 with ⟨stop, qn⟩ | ⟨go, step⟩
    · refine thn (T.done (blkE X scope (scope.names.foldl (clStep X.env) []) N fp s2 H2 G.objs.size (fun cv x H' => Ex cv x σ H')) rfl rfl rfl hc i [] s3 σ3 H3 _ I3 (stat fr3) st3 stop) fun r s4 ⟨hr, I4⟩ => ?_
      subst hr
      refine fin s4 _ _ H3 _ (I2.call' I4.os I4.base I4.hok I4.bare fun b hb => ⟨(f2 b hb).2.2.2.1, (f2 b hb).2.1, (f2 b hb).2.2.2.2.1, (f2 b hb).2.2.2.2.2⟩) (I2.fpOk (by rw [hC]; exact Nat.le_succ _) I4.free) ?_ qn
      obtain ⟨m, hm, _⟩ := I4.loc
      exact ⟨m, hm⟩
    · refine thn (T.item (blkE X scope (scope.names.foldl (clStep X.env) []) N fp s2 H2 G.objs.size (fun cv x H' => Ex cv x σ H')) rfl rfl rfl hc i [] s3 σ3 H3 _ I3 (stat fr3) st3 go) fun r s4 ⟨u, hr, h4⟩ => ?_
      subst hr
      refine thn h4 fun _ s5 ⟨x, H5, I5, r5, y5, st5, fr5⟩ => ?_
      have I5' := I5.pinned (stat fr5) (T.obj _ _ st5)
      refine thn (hg _ s5 σ3 H5 x u _ I5' r5 (step x H5 y5)) fun _ s6 ⟨σ6, H6, I6, q6⟩ => ?_
      refine thn (ht _ s6 σ6 H6 _ I6 q6) fun ok s7 ⟨H7, I7, q7⟩ => ?_
      have again : ∀ {σ8 : St} {H8 : Hp} {s8 : Shared} {m' : Nat}, Inv (blkE X scope (scope.names.foldl (clStep X.env) []) N fp s2 H2 G.objs.size (fun cv x H' => Ex cv x σ H')) ([] ++ pinsAt fp s5.heap) σ8 H8 s8 → m' < n → W (i + 1) m' σ8 H8 →
          ∃ m, m < n ∧ ∃ i σ' H', Inv (blkE X scope (scope.names.foldl (clStep X.env) []) N fp s2 H2 G.objs.size (fun cv x H' => Ex cv x σ H')) [] σ' H' s8 ∧ tn i s8.heap ∧ (∀ b ∈ fp, H' b = none) ∧ W i m σ' H' := fun {σ8 H8 s8 m'} I8 hm w8 => by
        refine ⟨m', hm, i + 1, σ8, H8, I8.unpinned, T.keep _ _ _ st5 fun b hb o e => (I8.pin (b, o) (List.mem_append_right _ (List.mem_append_right _ (mem_pinsAt hb e)))).1, fun b hb => ?_, w8⟩
        obtain ⟨o, e, d⟩ := T.obj _ _ st5 b hb
        exact (I8.pin (b, o) (List.mem_append_right _ (List.mem_append_right _ (mem_pinsAt hb e)))).2.1
      cases ok with
      | false =>
        rw [if_neg Bool.false_ne_true] at q7 ⊢
        obtain ⟨m', hm, w7⟩ := q7
        exact again I7 hm w7
      | true =>
        rw [if_pos rfl] at q7 ⊢
        refine thn (he _ s7 σ6 H7 _ I7 q7) fun xv s8 ⟨v, H8, I8, r8, ys, hy, hz, m', hm, w8⟩ => ?_
        refine thn (mt_append (X := (blkE X scope (scope.names.foldl (clStep X.env) []) N fp s2 H2 G.objs.size (fun cv x H' => Ex cv x σ H'))) _ s8 σ6 H8 (.ref s2.heap.objs.size) [v] (.ref s2.heap.objs.size) [xv] (fun _ H' => H' = upd H8 s2.heap.objs.size (.lst (ys ++ [v]))) I8 rfl (.cons r8 .nil) ⟨_, ys, v, rfl, rfl, hy, hz, rfl⟩) fun a s9 ⟨_, H9, I9, _, e9⟩ => ?_
        subst e9
        exact again I9 hm w8
  exact codeAny_compStart_list (loop _ rfl) (T.self X.A 0 _ _ _ st1 (loop _ rfl))

theorem pe_comp (hc : X.calm = true) (S : CompSc X scope N cp n) (hi : PI X tg iter wi)
    (hfr : HasFr X) (hx : ∀ e s, Fly X Ex e s → X.xe e s) (hb : ∀ σ cl fp s H C, PG (blkE X scope cl N fp s H C fun cv x H' => Ex cv x σ H') tg g ∧ PTs (blkE X scope cl N fp s H C fun cv x H' => Ex cv x σ H') ifs (tc σ) ∧ PE (blkE X scope cl N fp s H C fun cv x H' => Ex cv x σ H') elt (te σ)) (hs : ∀ x, foldedSetIterable iter X.env x = pure x) :
    PE X (.ListComp elt [⟨tg, iter, ifs, 0⟩] scope pos) (tComp wi g tc te cp n) := by
  intro pins s σ H Q I h
  rw [eval_ListComp]
  refine comp_core (use := none) hc S hi hfr hx hb hs I h fun s' C D H' f I' fC ⟨m, hm⟩ q => ⟨m, hm, fun h' hs' => ?_⟩
  exact ⟨.ref D, H', I'.turned (fun b o hb e => (hs'.2 b hb).trans e) fC.1 fC.2.1 fC.2.2.2.1 fC.2.2.2.2.1 fC.2.2.2.2.2, rfl, q⟩
/-- x = [.. for ..], stored ahead of the block's names being let go -/
theorem ps_setc {i : Nat} {y : Str} {py spos : Pos} (hN : X.N.Nodup) (hy : X.N[i]? = some y) (hk : X.env.scope.names.lookup y = some .local) (hc : X.calm = true) (S : CompSc X scope N cp n) (hi : PI X tg iter wi)
    (hfr : HasFr X) (hx : ∀ e s, Fly X Ex e s → X.xe e s) (hb : ∀ σ cl fp s H C, PG (blkE X scope cl N fp s H C fun cv x H' => Ex cv x σ H') tg g ∧ PTs (blkE X scope cl N fp s H C fun cv x H' => Ex cv x σ H') ifs (tc σ) ∧ PE (blkE X scope cl N fp s H C fun cv x H' => Ex cv x σ H') elt (te σ)) (hs : ∀ x, foldedSetIterable iter X.env x = pure x)
    (hsw : swapsWith (.ListComp elt [⟨tg, iter, ifs, 0⟩] scope pos) (some (.Name y py)) spos.line X.env = pure true) :
    PS X (.Assign [.Name y py] (.ListComp elt [⟨tg, iter, ifs, 0⟩] scope pos) spos) (tAsg (tComp wi g tc te cp n) (gName i)) := by
  intro pins s σ H Dn I h
  rw [exec_Assign_Name_used _ _ _ _ hsw]
  refine wpAny_bind (wpAny_standAt (wpAny_bind ?_))
  show wpAny _ X.A (do let _ ← comprehension (.ListComp elt [⟨tg, iter, ifs, 0⟩] scope pos) scope X.env _ (newList []) false (eval iter X.env) (some (assign (.Name y py) X.env))) _ _ s
  refine wpAny_bind (wpAny_mono (comp_core (use := some (assign (.Name y py) X.env)) (Q' := fun _ s' => SP X pins Dn .next s') hc S hi hfr hx hb hs I h fun s' C D H' f I' fC ⟨m, hm⟩ q => ?_) (fun _ s' hq => wpAny_pure (wpAny_pure hq)) fun _ _ e => e)
  show wpAny _ X.A (assign (.Name y py) X.env (.ref D)) _ _ s'
  refine wpAny_assign_Name (store_ok2 I' hN hy (.inl hk) (v := .ref D) rfl (fun s2 I2 ⟨a, hsb, ha⟩ => ?_) (.inr hk))
  have hCa : C ≠ a := by
    rcases ha with rfl | ha
    · exact fC.2.1
    · exact fun z => fC.2.2.2.2.1 _ _ ha z.symm
  refine ⟨m, hm.sameBut hsb hCa, fun h' hs' => ⟨_, H', I2.turned (fun b o hb e => (hs'.2 b hb).trans e) fC.1 fC.2.1 fC.2.2.2.1 fC.2.2.2.2.1 fC.2.2.2.2.2, q⟩⟩
end
end Fg

end
section
set_option Elab.async false
set_option linter.all false
set_option maxRecDepth 100000
set_option autoImplicit false
namespace Fg
open PySem L2

/-! ### what is walked -/
def Itd (a : Addr) (o : Obj) (kvs : List (Key × V)) : It :=
  ⟨fun i H => H a = some (.frz o (.dK kvs)) ∧ i < kvs.length, fun i H x H' => H' = H ∧ ∃ kv, kvs[i]? = some kv ∧ x = kV kv.1, fun i H => H a = some (.frz o (.dK kvs)) ∧ kvs.length ≤ i⟩
def iAny (B : Bd) (th : Addr → Prop) (tl : TE) : TI := fun σ H R => tl σ H fun x H1 =>
  (∃ a, x = .ref a ∧ (∃ xs, SqL B.K H1 a xs) ∧ R (Itl B.K a) H1) ∨ (∃ a, x = .ref a ∧ (∃ xs, SqT B.K H1 a xs) ∧ R (Itt B.K a) H1) ∨
  (∃ a kvs, x = .ref a ∧ H1 a = some (.dK kvs) ∧ ∀ o, th a → R (Itd a o kvs) (upd H1 a (.frz o (.dK kvs)))) ∨
  (∃ a o kvs, x = .ref a ∧ H1 a = some (.frz o (.dK kvs)) ∧ R (Itd a o kvs) H1)
section
variable {B : Bd} {Φ : Fns} {E : Gx} {F F' F0 F1 : Addr → Prop} {ρ ρ' ρ0 ρ1 : List Addr} {H H' H0 H1 : Hp} {M M' M0 : MH} {σD : Sg} {σ : L2.St} {Q : VK} {Dn : Ends}
theorem walks_lst {a : Addr} {src : D} {ds : List D} (h : ∀ F ρ M H, Ext F0 ρ0 H0 F ρ H → SR B F ρ M H → still M0 src M = true → ∃ vs, SqL B.K H a vs ∧ RDs B F ρ H ds vs) : Walks B (Itl B.K a) src ds F0 ρ0 M0 H0 := by
  intro i F ρ M H e S st
  obtain ⟨vs, q, rd⟩ := h F ρ M H e S st
  refine ⟨fun d hd => ?_, fun hl => ⟨vs, q, by rw [← RDs.length rd]; exact hl⟩⟩
  obtain ⟨v, hv, rv⟩ := RDs.get rd hd
  refine ⟨⟨vs, v, q, hv⟩, fun x H' ⟨e', hy⟩ => ?_⟩
  subst e'
  have z := hy vs q
  rw [hv] at z; cases z
  exact ⟨F, S.refl, S, rv⟩
theorem walks_tup {a : Addr} {src : D} {ds : List D} (h : ∀ F ρ M H, Ext F0 ρ0 H0 F ρ H → SR B F ρ M H → still M0 src M = true → ∃ vs, SqT B.K H a vs ∧ RDs B F ρ H ds vs) : Walks B (Itt B.K a) src ds F0 ρ0 M0 H0 := by
  intro i F ρ M H e S st
  obtain ⟨vs, q, rd⟩ := h F ρ M H e S st
  refine ⟨fun d hd => ?_, fun hl => ⟨vs, q, by rw [← RDs.length rd]; exact hl⟩⟩
  obtain ⟨v, hv, rv⟩ := RDs.get rd hd
  refine ⟨⟨vs, v, q, hv⟩, fun x H' ⟨e', hy⟩ => ?_⟩
  subst e'
  have z := hy vs q
  rw [hv] at z; cases z
  exact ⟨F, S.refl, S, rv⟩
theorem kyD_rd {k : Key} : RD B F ρ H (kyD k) (kV k) := by cases k <;> simp only [kyD, kV, RD]
theorem walks_dct {a : Addr} {o : Obj} {src : D} {kds : List (Ky × D)} {kws : List (Key × V)} (hz : H0 a = some (.frz o (.dK kws))) (hk : kws.map (·.1) = kds.map (·.1)) : Walks B (Itd a o kws) src (kds.map fun kv => kyD kv.1) F0 ρ0 M0 H0 := by
  intro i F ρ M H e S st
  have hl : kws.length = kds.length := by have := congrArg List.length hk; simpa using this
  have hH := e.z a o _ hz
  refine ⟨fun d hd => ?_, fun hi => ⟨hH, by rw [hl]; simpa using hi⟩⟩
  rw [List.getElem?_map] at hd
  cases hx : kds[i]? with
  | none => rw [hx] at hd; cases hd
  | some kd =>
    rw [hx] at hd
    simp only [Option.map_some, Option.some.injEq] at hd
    subst hd
    obtain ⟨hi, _⟩ := List.getElem?_eq_some_iff.mp hx
    refine ⟨⟨hH, by rw [hl]; exact hi⟩, fun x H' ⟨e', kw, hkw, hx'⟩ => ?_⟩
    subst e' hx'
    have e1 : (kws.map (·.1))[i]? = some kw.1 := by rw [List.getElem?_map, hkw]; rfl
    rw [hk, List.getElem?_map, hx] at e1
    simp only [Option.map_some, Option.some.injEq] at e1
    rw [← e1]
    exact ⟨F, S.refl, S, kyD_rd⟩
theorem sim_it {a : Fg.E} {Rr : It → Hp → Prop} (h : TIt B Φ E (.e a) σ H Rr) : iAny B E.th (T B Φ E a) σ H Rr := by
  obtain ⟨σD, M, F, ρ, S, r, h⟩ := h
  refine ⟨σD, M, F, ρ, S, r, ?_⟩
  cases hx : ev Φ a σD M with
  | exc c M1 =>
    have he : evi Φ (.e a) σD M = .exc c M1 := by simp only [evi, hx, R.bind_exc]
    rw [he] at h; exact h
  | bad =>
    have he : evi Φ (.e a) σD M = .bad := by simp only [evi, hx, R.bind_bad]
    rw [he] at h; exact h
  | ok d M1 =>
    intro F1 ρ1 H1 v e1 S1 rd
    cases hi : itemsOf M1 d with
    | none =>
      have he : evi Φ (.e a) σD M = .bad := by simp only [evi, hx, R.bind_ok, hi]
      rw [he] at h; exact h.elim
    | some ds =>
      have he : evi Φ (.e a) σD M = .ok (d, ds, wk M1 d) (walk M1 d) := by simp only [evi, hx, R.bind_ok, hi]
      rw [he] at h
      cases d with
      | non => simp [itemsOf, vw] at hi
      | bl _ => simp [itemsOf, vw] at hi
      | int _ => simp [itemsOf, vw] at hi
      | str _ => simp [itemsOf] at hi
      | dct _ _ => simp [itemsOf] at hi
      | lst xs =>
        simp only [itemsOf, vw, Option.some.injEq] at hi; subst hi
        simp only [RD] at rd
        obtain ⟨b, vs, rfl, z, q⟩ := id rd
        refine .inl ⟨b, rfl, ⟨vs, z.sq⟩, h F1 ρ1 H1 _ e1 S1 fun M' eq S' => ⟨?_, fun z => by simp [wk] at z⟩⟩
        refine walks_lst fun F ρ M H e S st => ?_
        have rd' := RD.mono e (.lst xs) (.ref b) (by simp only [RD]; exact rd)
        simp only [RD] at rd'
        obtain ⟨b', vs', eb, z', q'⟩ := rd'
        cases eb
        exact ⟨vs', z'.sq, q'⟩
      | tup xs =>
        simp only [itemsOf, vw, Option.some.injEq] at hi; subst hi
        simp only [RD] at rd
        obtain ⟨b, vs, rfl, z, q⟩ := id rd
        refine .inr (.inl ⟨b, rfl, ⟨vs, z.sq⟩, h F1 ρ1 H1 _ e1 S1 fun M' eq S' => ⟨?_, fun z => by simp [wk] at z⟩⟩)
        refine walks_tup fun F ρ M H e S st => ?_
        have rd' := RD.mono e (.tup xs) (.ref b) (by simp only [RD]; exact rd)
        simp only [RD] at rd'
        obtain ⟨b', vs', eb, z', q'⟩ := rd'
        cases eb
        exact ⟨vs', z'.sq, q'⟩
      | ref n =>
        simp only [RD] at rd
        obtain ⟨b, hb, rfl⟩ := rd
        cases hM : M1[n]? with
        | none => simp [itemsOf, vw, hM] at hi
        | some o =>
          cases o with
          | ins _ _ => simp [itemsOf, vw, hM] at hi
          | lst xs =>
            simp only [itemsOf, vw, hM, Option.some.injEq] at hi; subst hi
            have hw : walk M1 (.ref n) = M1 := by simp only [walk, hM]
            have hk : wk M1 (.ref n) = false := by simp only [wk, hM]
            rw [hw, hk] at h
            obtain ⟨vs, h1, q⟩ := S1.obj n b _ hb hM
            refine .inl ⟨b, rfl, ⟨vs, .inl (.inl h1)⟩, h F1 ρ1 H1 _ e1 S1 fun M' eq S' => ⟨?_, fun z => by simp at z⟩⟩
            injection eq with eq1 eq2
            subst eq2
            refine walks_lst fun F ρ M H e S st => ?_
            simp only [still, decide_eq_true_eq] at st
            obtain ⟨vs', h1', q'⟩ := S.obj n b _ (e.at hb) (st.trans hM)
            exact ⟨vs', .inl (.inl h1'), q'⟩
          | dct kds =>
            simp only [itemsOf, vw, hM, Option.some.injEq] at hi; subst hi
            have hw : walk M1 (.ref n) = M1.set n (.dwk kds) := by simp only [walk, hM]
            have hk : wk M1 (.ref n) = true := by simp only [wk, hM]
            rw [hw, hk] at h
            obtain ⟨kws, h1, h2, q⟩ := S1.obj n b _ hb hM
            refine .inr (.inr (.inl ⟨b, kws, rfl, h1, fun ob hth => ?_⟩))
            obtain ⟨S2, e2⟩ := S1.wk ob hb hM h1
            refine h F1 ρ1 _ _ (e1.trans e2) S2 fun M' eq S' => ⟨walks_dct upd_same h2, fun _ => ⟨n, b, rfl, hb, hth, fun w v z => ?_⟩⟩
            have := e1.z b w v z
            rw [h1] at this; cases this
          | dwk kds =>
            simp only [itemsOf, vw, hM, Option.some.injEq] at hi; subst hi
            have hw : walk M1 (.ref n) = M1 := by simp only [walk, hM]
            have hk : wk M1 (.ref n) = false := by simp only [wk, hM]
            rw [hw, hk] at h
            obtain ⟨ob, kws, h1, h2, q⟩ := S1.obj n b _ hb hM
            exact .inr (.inr (.inr ⟨b, ob, kws, rfl, h1, h F1 ρ1 H1 _ e1 S1 fun M' eq S' => ⟨walks_dct h1 h2, fun z => by simp at z⟩⟩))
theorem walks_rng {lo : Int} {n : Nat} {src : D} : Walks B (Itr lo n) src ((List.range n).map fun (i : Nat) => D.int (lo + (i : Int))) F0 ρ0 M0 H0 := by
  intro i F ρ M H e S st
  refine ⟨fun d hd => ?_, fun hi => (show n ≤ i by simpa using hi)⟩
  have hi : i < n := by
    obtain ⟨q, _⟩ := List.getElem?_eq_some_iff.mp hd
    simpa using q
  refine ⟨hi, fun x H' ⟨e', hx⟩ => ?_⟩
  subst e' hx
  simp [hi] at hd
  subst hd
  exact ⟨F, S.refl, S, by simp only [RD]⟩
theorem okR_b {j : Int} (h : okR j = true) : -(2 ^ 62) ≤ j ∧ j < 2 ^ 62 := by
  simp only [okR, decide_eq_true_eq] at h; omega
theorem sim_rng {a : Fg.E} {Rr : It → Hp → Prop} (h : TIt B Φ E (.rng a) σ H Rr) : iRng1 (tCons (T B Φ E a) tNil) σ H Rr := by
  obtain ⟨σD, M, F, ρ, S, r, h⟩ := h
  refine ⟨σD, M, F, ρ, S, r, ?_⟩
  cases hx : ev Φ a σD M with
  | exc c M1 =>
    have he : evi Φ (.rng a) σD M = .exc c M1 := by simp only [evi, hx, R.bind_exc]
    rw [he] at h; exact h
  | bad =>
    have he : evi Φ (.rng a) σD M = .bad := by simp only [evi, hx, R.bind_bad]
    rw [he] at h; exact h
  | ok d M1 =>
    intro F1 ρ1 H1 v e1 S1 rd
    cases d with
    | int j =>
      simp only [RD] at rd; subst rd
      cases hr : okR j with
      | false =>
        have he : evi Φ (.rng a) σD M = .bad := by simp [evi, hx, hr]
        rw [he] at h; exact h.elim
      | true =>
        have he : evi Φ (.rng a) σD M = .ok (.non, rngs 0 j, false) M1 := by simp [evi, hx, hr]
        rw [he] at h
        obtain ⟨b1, b2⟩ := okR_b hr
        refine ⟨j, rfl, b1, b2, h F1 ρ1 H1 _ e1 S1 fun M' eq S' => ⟨?_, fun z => by simp at z⟩⟩
        have q : rngs 0 j = (List.range j.toNat).map fun (i : Nat) => D.int (0 + (i : Int)) := by simp [rngs]
        dsimp only
        rw [q]
        exact walks_rng
    | non => have he : evi Φ (.rng a) σD M = .bad := by simp [evi, hx]
             rw [he] at h; exact h.elim
    | bl _ => have he : evi Φ (.rng a) σD M = .bad := by simp [evi, hx]
              rw [he] at h; exact h.elim
    | str _ => have he : evi Φ (.rng a) σD M = .bad := by simp [evi, hx]
               rw [he] at h; exact h.elim
    | tup _ => have he : evi Φ (.rng a) σD M = .bad := by simp [evi, hx]
               rw [he] at h; exact h.elim
    | lst _ => have he : evi Φ (.rng a) σD M = .bad := by simp [evi, hx]
               rw [he] at h; exact h.elim
    | dct _ _ => have he : evi Φ (.rng a) σD M = .bad := by simp [evi, hx]
                 rw [he] at h; exact h.elim
    | ref _ => have he : evi Φ (.rng a) σD M = .bad := by simp [evi, hx]
               rw [he] at h; exact h.elim
end
end Fg

end
section
set_option Elab.async false
set_option linter.all false
set_option maxRecDepth 100000
set_option autoImplicit false
namespace Fg
open PySem L2
def E0 : Gx := ⟨fun _ _ _ _ => False, fun _ => False, fun _ _ _ _ _ _ h => h⟩
/-- in a comprehension's block: the wish of the body around it -/
def EB (E : Gx) (σ : L2.St) : Gx := ⟨fun cv x _ H => E.e cv x σ H, fun _ => False, fun cv x _ H H' t h => by
  rcases t with rfl | ⟨_, _, _, z, _⟩
  · exact h
  · exact z.elim⟩
def TBo (B : Bd) (Φ : Fns) (E : Gx) : O → TT
  | .none => fun _ H Q => Q true H
  | .some e => TB B Φ E e
section
variable {B : Bd} {Φ : Fns} {E : Gx} {F F' F0 F1 : Addr → Prop} {ρ ρ' ρ0 ρ1 : List Addr} {H H' H0 H1 : Hp} {M M' M0 : MH} {σD : Sg} {σ : L2.St} {Q : VK} {Dn : Ends}
theorem Ext.fresh (S : SR B F ρ M H) {p : Addr} (h : H p = none) (o : HO) : Ext F ρ H F ρ (upd H p o) :=
  ⟨⟨S.sep, fun _ q => q, fun a q _ => upd_ne (by rintro rfl; exact q h), List.prefix_refl _, fun _ q => .inl q, fun _ q => .inl q⟩, fun b w u q => by rw [upd_ne (by rintro rfl; rw [h] at q; cases q)]; exact q⟩
/-- only something that came later is changed -/
theorem Ext.over (e : Ext F ρ H F' ρ' H') {p : Addr} (h : H p = none) (o : HO) : Ext F ρ H F' ρ' (upd H' p o) :=
  ⟨⟨e.s, e.f, fun a q nb => by rw [upd_ne (by rintro rfl; exact q h)]; exact e.h a q nb, e.r, e.n, e.g⟩, fun b w u q => by rw [upd_ne (by rintro rfl; rw [h] at q; cases q)]; exact e.z b w u q⟩
theorem RS.cap (r : RS B F ρ H σD σ) (caps : List Nat) (n : Nat) : RS B F ρ H (capt σD caps ++ List.replicate n none) (capV caps n σ) := by
  refine ⟨by simp [capt, capV], fun i d q => ?_⟩
  by_cases hi : i < caps.length
  · have hc : caps[i]? = some caps[i] := List.getElem?_eq_getElem hi
    rw [List.getElem?_append_left (by simpa [capt] using hi)] at q
    simp only [capt, List.getElem?_map, hc, Option.map_some, Option.some.injEq] at q
    cases hs : σD[caps[i]]? with
    | none => rw [hs] at q; cases q
    | some o =>
      rw [hs] at q
      simp only [Option.join_some] at q
      subst q
      obtain ⟨v, h1, h2⟩ := r.get _ _ hs
      refine ⟨v, ?_, h2⟩
      unfold capV
      rw [List.getElem?_append_left (by simpa using hi), List.getElem?_map, hc]
      simp [h1]
  · rw [List.getElem?_append_right (by simpa [capt] using Nat.le_of_not_lt hi), List.getElem?_replicate] at q
    split at q <;> cases q
theorem RS.mono1 (e : Ex1 F ρ H F' ρ' H') (h : RS B F ρ H σD σ) : RS B F' ρ' H' σD σ :=
  ⟨h.len, fun i d q => let ⟨v, h1, h2⟩ := h.get i d q; ⟨v, h1, RD.mono1 e d v h2⟩⟩
def NoX (E : Gx) : Prop := ∀ cv x σ H, E.e cv x σ H → False
theorem sim_comp {fz : Bool} {caps tg : List Nat} {elt : Fg.E} {it : Src} {cond : O} (h : T B Φ E (.comp fz caps tg elt it cond) σ H Q) :
    tComp (TIt B Φ E it) (gTg tg B.K) (fun σ => TBo B Φ (EB E σ) cond) (fun σ => T B Φ (EB E σ) elt) caps tg.length σ H (fun v H' => ∃ H'', Thw E.th H' H'' ∧ Q v H'') := by
  obtain ⟨σD, M, F, ρ, S, r, h⟩ := h
  simp only [ev] at h
  refine ⟨σD, M, F, ρ, S, r, ?_⟩
  cases hx : evi Φ it σD M with
  | exc c M1 => rw [hx] at h; exact h
  | bad => rw [hx] at h; exact h
  | ok p M0 =>
    rw [hx] at h
    simp only [R.bind_ok] at h
    intro F0 ρ0 H0 J e0 S0 hw
    obtain ⟨W, wz⟩ := hw M0 rfl S0
    obtain ⟨src, ds, fl⟩ := p
    dsimp only at h W wz
    intro Da hDa
    obtain ⟨nD, nF⟩ := S0.new hDa
    have hDo : H Da = none := by
      cases q : H Da with
      | none => rfl
      | some u =>
        exfalso
        by_cases hr : Da ∈ ρ
        · exact nD (e0.r.subset hr)
        · have := e0.h Da (by rw [q]; simp) hr
          rw [hDa, q] at this; cases this
    let loop := fun (i : Nat) (σ' : Sg) (M' : MH) (acc : List D) => ((loopC (evc Φ cond) (ev Φ elt) tg (still M0 src) (ds.drop i) σ' M' acc).fin (unwk fl src)).bind fun ds M2 => newl fz ds M2
    let WW : Nat → Nat → L2.St → Hp → Prop := fun i m σ' H' => m + i = ds.length ∧ ∃ (σD' : Sg) (M1 : MH) (F1 : Addr → Prop) (ρ1 : List Addr) (acc : List D) (vs : List V), Ext F ρ H F1 ρ1 H' ∧ Ext F0 ρ0 H0 F1 ρ1 H' ∧ SR B F1 ρ1 M1 H' ∧ RS B F1 ρ1 H' σD' σ' ∧ still M0 src M1 = true ∧ Da ∉ ρ1 ∧ ¬ F1 Da ∧ H' Da = some (.lst vs) ∧ RDs B F1 ρ1 H' acc vs ∧
      Post B (loop i σD' M1 acc) F ρ H Q (fun cv x H' => E.e cv x σ H')
    have x0 := Ex1.side (ρ := ρ0) (H := H0) nF (.lst [])
    refine ⟨WW, ⟨ds.length, by simp, _, M0, F0, ρ0, [], [], e0.over hDo _, Ext.fresh S0 hDa _, S0.side nD nF _, ((r.mono e0).cap caps tg.length).mono1 x0, ?_, nD, nF, upd_same, RDs.nil, h⟩, ?_⟩
    · unfold still; split <;> simp
    rintro i m σ1 H1 ⟨hm, σD1, M1, F1, ρ1, acc, vs, eo, e1, S1, r1, st1, d1, f1, hD1, ra, p1⟩
    obtain ⟨wgo, wst⟩ := W i F1 ρ1 M1 H1 e1 S1 st1
    by_cases hi : i < ds.length
    · have hd : ds.drop i = ds[i] :: ds.drop (i + 1) := List.drop_eq_getElem_cons hi
      simp only [loop] at p1
      rw [hd] at p1
      unfold loopC at p1
      obtain ⟨go, yl⟩ := wgo ds[i] (List.getElem?_eq_getElem hi)
      refine .inr ⟨go, fun x H2 hy => ?_⟩
      obtain ⟨F2, e2, S2, rd⟩ := yl x H2 hy
      -- what stays of the new list
      have keep : ∀ {F3 : Addr → Prop} {ρ3 : List Addr} {H3 : Hp}, Ext F1 ρ1 H1 F3 ρ3 H3 → Da ∉ ρ3 ∧ ¬ F3 Da ∧ H3 Da = some (.lst vs) ∧ RDs B F3 ρ3 H3 acc vs := fun {F3 ρ3 H3} e => by
        have hne : H1 Da ≠ none := by rw [hD1]; simp
        refine ⟨fun z => (e.n Da z).elim d1 hne, fun z => ?_, (e.h Da hne d1).trans hD1, RDs.mono e _ _ ra⟩
        rcases e.g Da z with q | q | q
        · exact f1 q
        · exact hne q
        · exact d1 q
      split at p1
      · exact p1.elim
      · rename_i σ2 hs
        refine sets_sim (r1.mono e2) rd hs fun σ' r' => ?_
        have eltS : ∀ {F3 : Addr → Prop} {ρ3 : List Addr} {H3 : Hp} {M3 : MH}, Ext F1 ρ1 H1 F3 ρ3 H3 → SR B F3 ρ3 M3 H3 → RS B F3 ρ3 H3 σ2 σ' →
            Post B ((((ev Φ elt σ2 M3).bind fun x M2 => if still M0 src M2 = true then (if decide (acc.length < line) = true then loopC (evc Φ cond) (ev Φ elt) tg (still M0 src) (ds.drop (i + 1)) σ2 M2 (acc ++ [x]) else .bad) else .bad).fin (unwk fl src)).bind fun ds M2 => newl fz ds M2) F ρ H Q (fun cv x H' => E.e cv x σ H') →
            T B Φ (EB E σ) elt σ' H3 fun v H5 => ∃ ys, H5 Da = some (.lst ys) ∧ ys.length < sizeLine ∧ ∃ m', m' < m ∧ WW (i + 1) m' σ' (upd H5 Da (.lst (ys ++ [v]))) := by
          intro F3 ρ3 H3 M3 e3 S3 r3 p3
          refine ⟨σ2, M3, F3, ρ3, S3, r3, ?_⟩
          cases hv : ev Φ elt σ2 M3 with
          | bad => rw [hv] at p3; exact p3
          | exc c M4 =>
            rw [hv] at p3
            intro F4 ρ4 H4 cv x e4 S4 q4
            obtain ⟨H5, t5, S5, e5, x5⟩ := thaw_fin S4 ((eo.trans e3).trans e4) ((e1.trans e3).trans e4).r wz
            exact E.cl _ _ _ _ _ t5 (p3 F4 ρ4 H5 cv x e5 S5 q4)
          | ok d M4 =>
            rw [hv] at p3
            simp only [R.bind_ok] at p3
            intro F4 ρ4 H4 v e4 S4 q4
            split at p3
            · rename_i hst
              split at p3
              · rename_i hlt
                obtain ⟨k1, k2, k3, k4⟩ := keep (e3.trans e4)
                have hl4 := RDs.length k4
                have x4 := Ex1.side (ρ := ρ4) (H := H4) k2 (.lst (vs ++ [v]))
                refine ⟨vs, k3, by rw [← hl4]; exact Nat.lt_of_lt_of_le (of_decide_eq_true hlt) line_le, m - 1, by omega, by omega, σ2, M4, F4, ρ4, acc ++ [d], vs ++ [v], ((eo.trans e3).trans e4).over hDo _, ((e1.trans e3).trans e4).over hDa _, S4.side k1 k2 _, ((r3.mono e4)).mono1 x4, hst, k1, k2, upd_same, RDs.mono1 x4 _ _ (k4.append (RDs.cons q4 RDs.nil)), p3⟩
              · exact p3.elim
            · exact p3.elim
        cases cond with
        | none =>
          have hc : evc Φ .none σ2 M1 = .ok (.bl true) M1 := by simp only [evc]
          rw [hc] at p1
          simp only [R.bind_ok] at p1
          unfold TBo
          dsimp only
          rw [if_pos rfl]
          exact eltS e2 S2 r' p1
        | some c =>
          have hc0 : evc Φ (.some c) σ2 M1 = ev Φ c σ2 M1 := by simp only [evc]
          rw [hc0] at p1
          refine ⟨σ2, M1, F2, ρ1, S2, r', ?_⟩
          cases hc : ev Φ c σ2 M1 with
          | bad => rw [hc] at p1; exact p1
          | exc k M4 =>
            rw [hc] at p1
            intro F4 ρ4 H4 cv x e4 S4 q4
            obtain ⟨H5, t5, S5, e5, x5⟩ := thaw_fin S4 ((eo.trans e2).trans e4) ((e1.trans e2).trans e4).r wz
            exact E.cl _ _ _ _ _ t5 (p1 F4 ρ4 H5 cv x e5 S5 q4)
          | ok t M4 =>
            rw [hc] at p1
            simp only [R.bind_ok] at p1
            intro F4 ρ4 H4 v e4 S4 q4
            split at p1
            · simp only [RD] at q4; subst q4
              refine ⟨true, rfl, ?_⟩
              dsimp only
              rw [if_pos rfl]
              exact eltS (e2.trans e4) S4 (r'.mono e4) p1
            · simp only [RD] at q4; subst q4
              refine ⟨false, rfl, ?_⟩
              dsimp only
              rw [if_neg Bool.false_ne_true]
              split at p1
              · rename_i hst
                obtain ⟨k1, k2, k3, k4⟩ := keep (e2.trans e4)
                exact ⟨m - 1, by omega, by omega, σ2, M4, F4, ρ4, acc, vs, (eo.trans e2).trans e4, (e1.trans e2).trans e4, S4, r'.mono e4, hst, k1, k2, k3, k4, p1⟩
              · exact p1.elim
            · exact p1.elim
    · have hd : ds.drop i = [] := List.drop_eq_nil_of_le (Nat.le_of_not_lt hi)
      simp only [loop] at p1
      rw [hd] at p1
      unfold loopC at p1
      obtain ⟨H4, t4, S4, e4, x4⟩ := thaw_fin S1 eo e1.r wz
      refine .inl ⟨wst (Nat.le_of_not_lt hi), H4, t4, ?_⟩
      have p2 : Post B (newl fz acc (unwk fl src M1)) F ρ H Q (fun cv x H' => E.e cv x σ H') := p1
      have ra4 := RDs.mono0 x4 _ _ ra
      have hD4 : H4 Da = some (.lst vs) := by
        have := x4.h Da (by rw [hD1]; simp) d1
        exact this.trans hD1
      cases fz with
      | true =>
        simp only [newl, if_true] at p2
        have xt : Ex1 F1 ρ1 H4 (fun a => F1 a ∨ a = Da) ρ1 H4 := ⟨fun _ q => .inl q, fun _ _ _ => rfl, List.prefix_refl _⟩
        refine p2 (fun a => F1 a ∨ a = Da) ρ1 H4 (.ref Da) ⟨⟨e4.s, fun a q => .inl (e4.f a q), e4.h, e4.r, e4.n, fun a q => q.elim (e4.g a) fun z => .inr (.inl (z ▸ hDo))⟩, e4.z⟩ (S4.take d1 (by rw [hD4]; simp)) ?_
        simp only [RD]
        exact ⟨Da, vs, rfl, .inl ⟨.inr rfl, .inl hD4⟩, RDs.mono1 xt _ _ ra4⟩
      | false =>
        simp only [newl, Bool.false_eq_true, if_false] at p2
        have xt : Ex1 F1 ρ1 H4 F1 (ρ1 ++ [Da]) H4 := ⟨fun _ q => q, fun _ _ _ => rfl, List.prefix_append _ _⟩
        refine p2 F1 (ρ1 ++ [Da]) H4 (.ref Da) ⟨⟨e4.s, e4.f, e4.h, e4.r.trans (List.prefix_append _ _), fun a q => (List.mem_append.mp q).elim (e4.n a) fun z => .inr (by rw [List.mem_singleton.mp z]; exact hDo), e4.g⟩, e4.z⟩ (S4.hold (u := .lst acc) d1 f1 ⟨vs, hD4, RDs.mono1 xt _ _ ra4⟩) ?_
        simp only [RD]
        refine ⟨Da, ?_, rfl⟩
        rw [← S4.len, List.getElem?_append_right (Nat.le_refl _), Nat.sub_self]; rfl
end
end Fg

end
section
set_option Elab.async false
set_option linter.all false
set_option maxRecDepth 100000
set_option autoImplicit false
namespace Fg
open PySem L2
section
variable {B : Bd} {Φ : Fns} {E : Gx} {F F' F0 F1 : Addr → Prop} {ρ ρ' ρ0 ρ1 : List Addr} {H H' H0 H1 : Hp} {M M' M0 : MH} {σD : Sg} {σ : L2.St} {Q : VK} {Dn : Ends}
/-! ### the module's own values -/
theorem sim_g {i : Nat} {v : V} (hg : ∀ d, Φ.glob i = some d → ∀ F ρ H, RD B F ρ H d v) (h : T B Φ E (.g i) σ H Q) : tC v σ H Q := by
  obtain ⟨σD, M, F, ρ, S, r, h⟩ := h
  simp only [ev] at h
  split at h
  · rename_i d hd
    exact PostG.run h S (hg d hd F ρ H)
  · exact h.elim
/-! ### calls -/
def spF (B : Bd) (Φ : Fns) (f n : Nat) : Sp := fun vs H Q E => vs.length = n ∧ ∃ ds M F ρ, SR B F ρ M H ∧ RDs B F ρ H ds vs ∧ Post B (Φ.call f ds M) F ρ H Q E
theorem sim_call {f n : Nat} {es : Es} (hn : ∀ {σ : Sg} {M : MH} {ds : List D} {M' : MH}, evs Φ es σ M = .ok ds M' → ds.length = n) (h : T B Φ E (.call f es) σ H Q)   : tCallE (spF B Φ f n) E.e (TL B Φ E es) σ H Q := by
  obtain ⟨σD, M, F, ρ, S, r, h⟩ := h
  simp only [ev] at h
  refine ⟨σD, M, F, ρ, S, r, ?_⟩
  cases hx : evs Φ es σD M with
  | exc c M1 => rw [hx] at h; exact h
  | bad => rw [hx] at h; exact h
  | ok ds M1 =>
    rw [hx] at h
    simp only [R.bind_ok] at h
    intro F1 ρ1 H1 vs e1 S1 q1
    exact ⟨by rw [← RDs.length q1]; exact hn hx, ds, M1, F1, ρ1, S1, q1, PostG.weak e1 h⟩
/-! ### isinstance -/
theorem ty_sim {x : D} {v : V} {t : Ty} (S : SR B F ρ M H) (rx : RD B F ρ H x v) (ho : okT M x = true) : ∃ T, TyN B H v T ∧ tyB T t = isT M t x := by
  cases x with
  | non => simp only [RD] at rx; subst rx; exact ⟨_, .non, by cases t <;> rfl⟩
  | bl b => simp only [RD] at rx; subst rx; exact ⟨_, .bl b, by cases t <;> rfl⟩
  | int i => simp only [RD] at rx; subst rx; exact ⟨_, .int i, by cases t <;> rfl⟩
  | str x => simp only [RD] at rx; subst rx; exact ⟨_, .str x, by cases t <;> rfl⟩
  | tup ds => simp only [RD] at rx; obtain ⟨a, vs, rfl, z, _⟩ := rx; exact ⟨_, .tup z.sq, by cases t <;> rfl⟩
  | lst ds => simp only [RD] at rx; obtain ⟨a, vs, rfl, z, _⟩ := rx; exact ⟨_, .lst z.sq, by cases t <;> rfl⟩
  | dct ks ds =>
    simp only [RD] at rx; obtain ⟨a, vs, rfl, z, _⟩ := rx
    refine ⟨_, .dct (kvs := vs) ?_, by cases t <;> rfl⟩
    rcases z with ⟨_, z⟩ | z
    · exact .inl z
    · exact .inr z
  | ref n =>
    simp only [RD] at rx
    obtain ⟨a, h1, rfl⟩ := rx
    cases hM : M[n]? with
    | none => simp [okT, hM] at ho
    | some o =>
      cases o with
      | lst ds => obtain ⟨vs, h3, _⟩ := S.obj n a _ h1 hM; exact ⟨_, .lst (.inl (.inl h3)), by simp only [isT, hM]; cases t <;> rfl⟩
      | dct kvs => obtain ⟨kws, h3, _⟩ := S.obj n a _ h1 hM; exact ⟨_, .dct (.inl (.inl h3)), by simp only [isT, hM]; cases t <;> rfl⟩
      | dwk kvs => obtain ⟨o, kws, h3, _⟩ := S.obj n a _ h1 hM; exact ⟨_, .dct (.inl (.inr ⟨o, h3⟩)), by simp only [isT, hM]; cases t <;> rfl⟩
      | ins _ _ => simp [okT, hM] at ho
theorem sim_isi {a : Fg.E} {t : Ty} (h : T B Φ E (.isi a t) σ H Q) : tCB (rIsi B) (tCons (T B Φ E a) (tCons (tC (.ty (tyS t))) tNil)) σ H Q := by
  obtain ⟨σD, M, F, ρ, S, r, h⟩ := h
  simp only [ev] at h
  refine T.one S r rfl h fun x M1 F1 ρ1 H1 v e1 S1 r1 rx h1 => ?_
  split at h1
  · rename_i ho
    obtain ⟨T', ty, e⟩ := ty_sim (t := t) S1 rx ho
    refine ⟨v, T', t, rfl, ty, ?_⟩
    rw [e]
    exact PostG.run h1 S1 (by simp only [RD])
  · exact h1.elim
/-! ### xs.append(e) -/
theorem sim_append {fz : Bool} {a : Fg.E} {es : Es} (h : T B Φ E (.mth .append fz a es) σ H Q) : tBM B.K "list" rAppend (T B Φ E a) (TL B Φ E es) σ H Q := by
  obtain ⟨σD, M, F, ρ, S, r, h⟩ := h
  simp only [ev] at h
  refine T.one S r rfl h fun x M1 F1 ρ1 H1 v e1 S1 r1 rx h1 => ?_
  split at h1
  · rename_i ho
    refine ⟨?_, TL.one S1 r1 rfl h1 fun ds M2 F2 ρ2 H2 vs e2 S2 r2 rds h2 => append_sim S2 (RD.mono e2 _ _ rx) rds h2⟩
    cases x with
    | ref n =>
      simp only [RD] at rx
      obtain ⟨b, hb, rfl⟩ := rx
      cases hM : M1[n]? with
      | none => simp [mtOk, hM] at ho
      | some o =>
        cases o with
        | lst xs => obtain ⟨vs, h3, _⟩ := S1.obj n b _ hb hM; exact .inl ⟨rfl, vs, .inl (.inl h3)⟩
        | dct _ => simp [mtOk, hM] at ho
        | dwk _ => simp [mtOk, hM] at ho
        | ins _ _ => simp [mtOk, hM] at ho
    | non => simp [mtOk] at ho
    | bl _ => simp [mtOk] at ho
    | int _ => simp [mtOk] at ho
    | str _ => simp [mtOk] at ho
    | tup _ => simp [mtOk] at ho
    | lst _ => simp [mtOk] at ho
    | dct _ _ => simp [mtOk] at ho
  · exact h1.elim
/-! ### xs[i] = e -/
def rSetA (x y v : V) (H : Hp) (Q : Hp → Prop) : Prop := rSetL x y v H Q ∨ ∃ a H4, x = .ref a ∧ DPut H a y v H4 ∧ Q H4
def sSetA (to ti tv : TE) : TS := fun D σ H => tv σ H fun v H1 => to σ H1 fun x H2 => ti σ H2 fun y H3 => rSetA x y v H3 fun H4 => D.nx σ H4
theorem set_sim {x y d : D} {v w u : V} (S : SR B F ρ M H) (rx : RD B F ρ H x v) (ry : RD B F ρ H y w) (rd : RD B F ρ H d u) {K : Hp → Prop} (h : ∀ M', setI M x y d = .ok () M' → ∀ H', Ext F ρ H F ρ H' → SR B F ρ M' H' → K H') (hb : ∃ M', setI M x y d = .ok () M') : rSetA v w u H K := by
  obtain ⟨M', hb⟩ := hb
  have hK := h M' hb
  unfold setI at hb
  split at hb
  · rename_i n
    simp only [RD] at rx
    obtain ⟨a, h1, rfl⟩ := rx
    split at hb
    · rename_i xs i hM
      split at hb
      · rename_i j hj
        cases hb
        simp only [RD] at ry; subst ry
        obtain ⟨vs, h2, h3⟩ := S.obj n a _ h1 hM
        refine .inl ⟨a, vs, i, j, rfl, rfl, h2, by rw [← RDs.length h3, ← ixn_eq]; exact hj, ?_⟩
        obtain ⟨S', e⟩ := S.st (o := .lst (vs.set j u)) (u := .lst (xs.set j d)) h1 (fun _ _ q => by rw [h2] at q; cases q) ⟨_, upd_same, RDs.mono0 (Ext0.at_ S h1) _ _ (h3.set j rd)⟩
        exact hK _ e S'
      · cases hb
    · rename_i kvs hM
      split at hb
      · rename_i k hk
        split at hb
        · rename_i hl
          cases hb
          obtain ⟨kws, h2, h3, h4⟩ := S.obj n a _ h1 hM
          have hlen : kws.length = kvs.length := by have := congrArg List.length h3; simpa using this
          rw [key_rd hk ry]
          refine .inr ⟨a, _, rfl, DPut.k h2 (by rw [hlen]; exact Nat.lt_of_lt_of_le (of_decide_eq_true hl) line_le), ?_⟩
          obtain ⟨p1, p2⟩ := put_rd (k := k) rd h3 h4
          obtain ⟨S', e⟩ := S.st (o := .dK (putK kws k u)) (u := .dct (put kvs k d)) h1 (fun _ _ q => by rw [h2] at q; cases q) ⟨_, upd_same, p1, RDs.mono0 (Ext0.at_ S h1) _ _ p2⟩
          exact hK _ e S'
        · cases hb
      · cases hb
    · cases hb
  · cases hb
theorem setI_ok {x y d : D} : (∃ M', setI M x y d = .ok () M') ∨ setI M x y d = .bad := by
  unfold setI
  split
  · split
    · split
      · exact .inl ⟨_, rfl⟩
      · exact .inr rfl
    · split
      · split
        · exact .inl ⟨_, rfl⟩
        · exact .inr rfl
      · exact .inr rfl
    · exact .inr rfl
  · exact .inr rfl
theorem sim_seti {a b e : Fg.E} (h : TC B Φ E (.seti a b e) Dn σ H) : sSetA (T B Φ E a) (T B Φ E b) (T B Φ E e) Dn σ H := by
  obtain ⟨σD, M, F, ρ, S, r, h⟩ := h
  simp only [ex] at h
  refine TC.one S r h fun x M1 F1 ρ1 H1 v e1 S1 r1 rx h1 => ?_
  refine TC.one S1 r1 h1 fun y M2 F2 ρ2 H2 w e2 S2 r2 ry h2 => ?_
  refine TC.one S2 r2 h2 fun z M3 F3 ρ3 H3 u e3 S3 r3 rz h3 => ?_
  have rx3 := RD.mono e3 _ _ (RD.mono e2 _ _ rx)
  have ry3 := RD.mono e3 _ _ ry
  rcases setI_ok (M := M3) (x := y) (y := z) (d := x) with ⟨M', hb⟩ | hb
  · refine set_sim S3 ry3 rz rx3 (fun M4 hq H4 e4 S4 => ?_) ⟨M', hb⟩
    rw [hq] at h3
    exact h3 F3 ρ3 H4 e4 S4 σ (r3.mono e4)
  · rw [hb] at h3; exact h3.elim
end
end Fg

end
section
set_option Elab.async false
set_option linter.all false
set_option maxRecDepth 100000
set_option autoImplicit false
namespace Fg
open PySem PySem.Spec L2
/-! ### own classes: fields, methods, new objects -/
section
variable {B : Bd} {Φ : Fns} {E : Gx} {F F' F0 F1 : Addr → Prop} {ρ ρ' ρ0 ρ1 : List Addr} {H H' H0 H1 : Hp} {M M' M0 : MH} {σD : Sg} {σ : L2.St} {Q : VK} {Dn : Ends}
theorem fld_rel {f : Str} : ∀ {fs : List (Str × D)} {fws : List (Str × V)}, fws.map (·.1) = fs.map (·.1) → RDs B F ρ H (fs.map (·.2)) (fws.map (·.2)) →
    (∀ d, fs.lookup f = some d → ∃ v, fws.lookup f = some v ∧ RD B F ρ H d v) ∧ (fs.lookup f = none → fws.lookup f = none)
  | [], fws, h1, h2 => by
    have : fws = [] := by cases fws with | nil => rfl | cons _ _ => simp at h1
    subst this
    exact ⟨fun d h => by simp at h, fun _ => rfl⟩
  | (g, d') :: fs, fws, h1, h2 => by
    cases fws with
    | nil => simp at h1
    | cons p fws =>
      obtain ⟨pk, pv⟩ := p
      simp only [List.map_cons, List.cons.injEq] at h1
      simp only [List.map_cons, RDs] at h2
      obtain ⟨v, ws, e, r1, r2⟩ := h2
      cases e
      obtain ⟨e1, e2⟩ := h1
      subst e1
      have ih := fld_rel (f := f) e2 r2
      by_cases hk : f = pk
      · subst hk
        simp only [List.lookup, beq_self_eq_true]
        exact ⟨fun d h => by cases h; exact ⟨_, rfl, r1⟩, fun h => by cases h⟩
      · have hb : (f == pk) = false := beq_eq_false_iff_ne.mpr hk
        simp only [List.lookup, hb]
        exact ih
theorem put_rel {f : Str} {d : D} {v : V} (r : RD B F ρ H d v) : ∀ {fs : List (Str × D)} {fws : List (Str × V)}, fws.map (·.1) = fs.map (·.1) → RDs B F ρ H (fs.map (·.2)) (fws.map (·.2)) →
    (putF f v fws).map (·.1) = (putM f d fs).map (·.1) ∧ RDs B F ρ H ((putM f d fs).map (·.2)) ((putF f v fws).map (·.2))
  | [], fws, h1, h2 => by
    have : fws = [] := by cases fws with | nil => rfl | cons _ _ => simp at h1
    subst this
    exact ⟨rfl, RDs.cons r RDs.nil⟩
  | (g, d') :: fs, fws, h1, h2 => by
    cases fws with
    | nil => simp at h1
    | cons p fws =>
      obtain ⟨pk, pv⟩ := p
      simp only [List.map_cons, List.cons.injEq] at h1
      simp only [List.map_cons, RDs] at h2
      obtain ⟨w, ws, e, r1, r2⟩ := h2
      cases e
      obtain ⟨e1, e2⟩ := h1
      subst e1
      obtain ⟨i1, i2⟩ := put_rel (f := f) r e2 r2
      by_cases hk : pk = f
      · simp only [putF, putM, if_pos hk, List.map_cons]
        exact ⟨by rw [e2], RDs.cons r r2⟩
      · simp only [putF, putM, if_neg hk, List.map_cons]
        exact ⟨by rw [i1], RDs.cons r1 i2⟩
theorem sim_fld {K : W.Frag} {a : Fg.E} {f : Str} (hC : ∀ c C, B.cls c = some C → Cls K C ∧ NoAttr K C f) (h : T B Φ E (.fld a f) σ H Q) : tFld K (T B Φ E a) f σ H Q := by
  obtain ⟨σD, M, F, ρ, S, r, h⟩ := h
  simp only [ev] at h
  refine T.one S r rfl h fun x M1 F1 ρ1 H1 v e1 S1 r1 rx h1 => ?_
  split at h1
  · rename_i n
    split at h1
    · rename_i c fs hM
      split at h1
      · rename_i d hd
        simp only [RD] at rx
        obtain ⟨b, hb, rfl⟩ := rx
        obtain ⟨C, dx, fws, hc, hH, hk, hr⟩ := S1.obj n b _ hb hM
        obtain ⟨w, hw, rw⟩ := (fld_rel hk hr).1 d hd
        exact ⟨b, C, dx, fws, w, rfl, hH, (hC c C hc).1, (hC c C hc).2, hw, PostG.run h1 S1 rw⟩
      · exact h1.elim
    · exact h1.elim
  · exact h1.elim
theorem sim_setf {K : W.Frag} {a e : Fg.E} {f : Str} (hC : ∀ c C, B.cls c = some C → Cls K C ∧ NoAttr K C f) (h : TC B Φ E (.setf a f e) Dn σ H) : sFld K (T B Φ E a) (T B Φ E e) f Dn σ H := by
  obtain ⟨σD, M, F, ρ, S, r, h⟩ := h
  simp only [ex] at h
  refine TC.one S r h fun x M1 F1 ρ1 H1 v e1 S1 r1 rx h1 => ?_
  refine TC.one S1 r1 h1 fun y M2 F2 ρ2 H2 w e2 S2 r2 ry h2 => ?_
  have rx2 := RD.mono e2 _ _ rx
  split at h2
  · rename_i n
    split at h2
    · rename_i c fs hM
      split at h2
      · rename_i hl
        simp only [RD] at ry
        obtain ⟨b, hb, rfl⟩ := ry
        obtain ⟨C, dx, fws, hc, hH, hk, hr⟩ := S2.obj n b _ hb hM
        have hlen : fws.length = fs.length := by have := congrArg List.length hk; simpa using this
        obtain ⟨p1, p2⟩ := put_rel (f := f) rx2 hk hr
        obtain ⟨S', e⟩ := S2.st (o := .ins C dx (putF f v fws)) (u := .ins c (putM f x fs)) hb (fun _ _ q => by rw [hH] at q; cases q) ⟨C, dx, _, hc, upd_same, p1, RDs.mono0 (Ext0.at_ S2 hb) _ _ p2⟩
        exact ⟨b, C, dx, fws, rfl, hH, (hC c C hc).1, (hC c C hc).2, by rw [hlen]; exact of_decide_eq_true hl, h2 F2 ρ2 _ e S' σ (r2.mono e)⟩
      · exact h2.elim
    · exact h2.elim
  · exact h2.elim
/-- o.m(..), what is wanted of an exception by the names' values -/
def tMethE (C : Addr) (m : Str) (sp : Sp) (Ex : XS) (ta : TE) (t : TA) : TE := fun σ H Q => ta σ H fun x H1 => ∃ a dx fs, x = .ref a ∧ H1 a = some (.ins C dx fs) ∧ fs.lookup m = none ∧
  t σ H1 fun vs H2 => sp (x :: vs) H2 Q fun cv y H' => Ex cv y σ H'
def tMakeE (C : Addr) (sp : Sp) (Ex : XS) (t : TA) : TE := fun σ H Q => t σ H fun vs H1 => ∀ x dx, H1 x = none → H1 dx = none → dx ≠ x →
  sp (.ref x :: vs) (upd (upd H1 dx (.own x)) x (.ins C dx [])) (fun v H2 => v = .non ∧ Q (.ref x) H2) fun cv y H' => Ex cv y σ H'
theorem sim_umt {c m n : Nat} {nm : Str} {a : Fg.E} {es : Es} {C : Addr} (hC : B.cls c = some C) (hn : ∀ {σ : Sg} {M : MH} {ds : List D} {M' : MH}, evs Φ es σ M = .ok ds M' → ds.length + 1 = n) (h : T B Φ E (.umt c m nm a es) σ H Q) :
    tMethE C nm (spF B Φ m n) E.e (T B Φ E a) (TL B Φ E es) σ H Q := by
  obtain ⟨σD, M, F, ρ, S, r, h⟩ := h
  simp only [ev] at h
  refine T.one S r rfl h fun x M1 F1 ρ1 H1 v e1 S1 r1 rx h1 => ?_
  split at h1
  · rename_i i
    split at h1
    · rename_i c' fs hM
      split at h1
      · rename_i hq
        simp only [Bool.and_eq_true, decide_eq_true_eq, Option.isNone_iff_eq_none] at hq
        obtain ⟨rfl, hno⟩ := hq
        have rx0 := rx
        simp only [RD] at rx
        obtain ⟨b, hb, rfl⟩ := rx
        obtain ⟨C', dx, fws, hc, hH, hk, hr⟩ := S1.obj i b _ hb hM
        rw [hC] at hc; cases hc
        refine ⟨b, dx, fws, rfl, hH, (fld_rel hk hr).2 hno, σD, M1, F1, ρ1, S1, r1, ?_⟩
        cases hx : evs Φ es σD M1 with
        | exc c M2 => rw [hx] at h1; exact h1
        | bad => rw [hx] at h1; exact h1
        | ok ds M2 =>
          rw [hx] at h1
          simp only [R.bind_ok] at h1
          intro F2 ρ2 H2 vs e2 S2 q2
          exact ⟨by rw [List.length_cons, ← RDs.length q2]; exact hn hx, .ref i :: ds, M2, F2, ρ2, S2, RDs.cons (RD.mono e2 _ _ rx0) q2, PostG.weak e2 h1⟩
      · exact h1.elim
    · exact h1.elim
  · exact h1.elim
/-- __init__'s promise -/
def spI (B : Bd) (Φ : Fns) (f n : Nat) : Sp := fun vs H Q E => vs.length = n ∧ ∃ ds M F ρ, SR B F ρ M H ∧ RDs B F ρ H ds vs ∧ Post B (Φ.ini f ds M) F ρ H Q E
theorem SR.own (S : SR B F ρ M H) {p : Addr} (h : H p = none) (o : HO) : SR B F ρ M (upd H p o) ∧ Ext F ρ H F ρ (upd H p o) := by
  obtain ⟨np, nf⟩ := S.new h
  exact ⟨S.side np nf o, ⟨⟨S.sep, fun a q => q, fun a q _ => upd_ne (by rintro rfl; exact q h), List.prefix_refl _, fun a q => .inl q, fun a q => .inl q⟩, fun b w u q => by rw [upd_ne (by rintro rfl; rw [h] at q; cases q)]; exact q⟩⟩
theorem sim_new {c i n : Nat} {es : Es} {C : Addr} (hC : B.cls c = some C) (hn : ∀ {σ : Sg} {M : MH} {ds : List D} {M' : MH}, evs Φ es σ M = .ok ds M' → ds.length + 1 = n) (h : T B Φ E (.new c i es) σ H Q) :
    tMakeE C (spI B Φ i n) E.e (TL B Φ E es) σ H Q := by
  obtain ⟨σD, M, F, ρ, S, r, h⟩ := h
  simp only [ev] at h
  refine ⟨σD, M, F, ρ, S, r, ?_⟩
  cases hx : evs Φ es σD M with
  | exc c M1 => rw [hx] at h; exact h
  | bad => rw [hx] at h; exact h
  | ok ds M1 =>
    rw [hx] at h
    simp only [R.bind_ok] at h
    intro F1 ρ1 H1 vs e1 S1 q1 x dx hx0 hdx hne
    obtain ⟨S2, e2⟩ := S1.own hdx (.own x)
    have hx2 : upd H1 dx (.own x) x = none := by rw [upd_ne (Ne.symm hne)]; exact hx0
    obtain ⟨S3, e3⟩ := S2.lv (o := .ins C dx []) (u := .ins c []) hx2 ⟨C, dx, [], hC, upd_same, rfl, RDs.nil⟩
    have at_ : (ρ1 ++ [x])[M1.length]? = some x := by rw [← S1.len, List.getElem?_append_right (Nat.le_refl _), Nat.sub_self]; rfl
    have e23 := e2.trans e3
    refine ⟨by rw [List.length_cons, ← RDs.length q1]; exact hn hx, .ref M1.length :: ds, M1 ++ [.ins c []], F1, ρ1 ++ [x], S3, RDs.cons (by simp only [RD]; exact ⟨x, at_, rfl⟩) (RDs.mono e23 _ _ q1), ?_⟩
    refine PostG.imp (PostG.bind (rel := RD B) (PostG.weak (e1.trans e23) h)) fun v H' ⟨d, M', F', ρ', ext, S', rd, h2⟩ => ?_
    split at h2
    · simp only [RD] at rd
      exact ⟨rd, PostG.run h2 S' (by simp only [RD]; exact ⟨x, ext.at at_, rfl⟩)⟩
    · exact h2.elim
theorem sim_newN {c i : Nat} {es : Es} (hb : ∀ ds M, Φ.ini i ds M = .bad) (h : T B Φ E (.new c i es) σ H Q) : TL B Φ E es σ H fun _ _ => False := by
  obtain ⟨σD, M, F, ρ, S, r, h⟩ := h
  simp only [ev] at h
  refine ⟨σD, M, F, ρ, S, r, ?_⟩
  cases hx : evs Φ es σD M with
  | exc c M1 => rw [hx] at h; exact h
  | bad => rw [hx] at h; exact h
  | ok ds M1 =>
    rw [hx] at h
    simp only [R.bind_ok, hb, R.bind_bad] at h
    exact h.elim
/-! ### max, min -/
theorem sim_max {a b : Fg.E} (h : T B Φ E (.mx true a b) σ H Q) : tCB (fun xs H Q => ∃ i j, xs = [.int i, .int j] ∧ Q (.int (if j > i then j else i)) H) (tCons (T B Φ E a) (tCons (T B Φ E b) tNil)) σ H Q := by
  obtain ⟨σD, M, F, ρ, S, r, h⟩ := h
  simp only [ev] at h
  refine T.two S r rfl h fun x y M2 F2 ρ2 H2 v w S2 _ rx ry h2 => ?_
  split at h2
  · rename_i i j
    simp only [RD] at rx ry
    subst rx ry
    exact ⟨i, j, rfl, PostG.run h2 S2 (by simp only [RD, if_true])⟩
  · exact h2.elim
theorem sim_min {a b : Fg.E} (h : T B Φ E (.mx false a b) σ H Q) : tCB (fun xs H Q => ∃ i j, xs = [.int i, .int j] ∧ Q (.int (if j < i then j else i)) H) (tCons (T B Φ E a) (tCons (T B Φ E b) tNil)) σ H Q := by
  obtain ⟨σD, M, F, ρ, S, r, h⟩ := h
  simp only [ev] at h
  refine T.two S r rfl h fun x y M2 F2 ρ2 H2 v w S2 _ rx ry h2 => ?_
  split at h2
  · rename_i i j
    simp only [RD] at rx ry
    subst rx ry
    exact ⟨i, j, rfl, PostG.run h2 S2 (by simp only [RD, Bool.false_eq_true, if_false])⟩
  · exact h2.elim
/-! ### list(range(a, b)) -/
def lrV (i j : Int) : List V := (List.range (j - i).toNat).map fun (n : Nat) => V.int (i + (n : Int))
def tLrg (t : TA) : TE := fun σ H Q => t σ H fun vs H1 => ∃ i j : Int, vs = [.int i, .int j] ∧ (-(2 ^ 62) ≤ i ∧ i < 2 ^ 62 ∧ -(2 ^ 62) ≤ j ∧ j < 2 ^ 62) ∧ (j - i).toNat ≤ sizeLine ∧ ∀ p, H1 p = none → Q (.ref p) (upd H1 p (.lst (lrV i j)))
theorem rngs_rd {i j : Int} : RDs B F ρ H (rngs i j) (lrV i j) := by
  unfold rngs lrV
  generalize List.range (j - i).toNat = l
  induction l with
  | nil => exact RDs.nil
  | cons n l ih => exact RDs.cons (by simp only [RD]) ih
theorem sim_lrg {fz : Bool} {a b : Fg.E} (h : T B Φ E (.lrg fz a b) σ H Q) : tLrg (tCons (T B Φ E a) (tCons (T B Φ E b) tNil)) σ H Q := by
  obtain ⟨σD, M, F, ρ, S, r, h⟩ := h
  simp only [ev] at h
  refine T.two S r rfl h fun x y M2 F2 ρ2 H2 v w S2 _ rx ry h2 => ?_
  split at h2
  · rename_i i j
    split at h2
    · rename_i hq
      simp only [okR, Bool.and_eq_true, decide_eq_true_eq] at hq
      simp only [RD] at rx ry
      subst rx ry
      exact ⟨i, j, rfl, ⟨by omega, by omega, by omega, by omega⟩, Nat.le_trans hq.2.2 line_le, newl_sim S2 h2 rngs_rd⟩
    · exact h2.elim
  · exact h2.elim
end
section
variable {X : Cx} {Ex : XS} {k : Nat} {f C : Addr} {fd : FuncData} {ps : List Str} {sp : Sp} {x m : Str} {p pos apos : Pos} {e o : Expr} {es : List Expr} {ta : TE} {t : TA}
theorem pe_methE {pl : Sem Bool} (he : PE X o ta) (c : Cls X.K C) (hm : Meth X.K C m f) (F : FnOk X.prog X.w X.K X.mg X.base (CXE X.prog X.w) k f fd ps sp) (hr : Room k X.A) (hb : Binds X.K fd ps []) (hx : ∀ e s, Fly X Ex e s → X.xe e s) (ha : PA X (e :: es) t)
    (hst : starEach (e :: es) X.env = (false, eval e X.env) :: starEach es X.env) (hpl : (backTo pos (starEach es X.env)).any (·.1) = false)
    (ht : eval (.Call (.Attribute o m apos) (e :: es) [] pos) X.env = (do
      let ov ← eval o X.env
      standAt apos.atName
      let (f, first) ← holding [ov] (getMethod ov m pl)
      callWith pos f first (backTo pos (starEach (e :: es) X.env)) (backToKw pos (keywordEach [] X.env)))) :
    PE X (.Call (.Attribute o m apos) (e :: es) [] pos) (tMethE C m sp Ex ta t) := by
  intro pins s σ H Q I h
  refine PySem.W.methodCall_KW (pl := pl) (thn (he pins s σ H _ I h) fun u s1 ⟨x, H1, I1, rx, a, dx, fs, ex, ea, l, q⟩ => ?_) ht
  subst ex
  obtain rfl : u = Value.ref a := rx
  refine getmeth_ok I1 ea c hm l ?_
  refine PySem.W.callWith_K (first := [.ref a]) (h₀ := X.base) I.ok.mod.kin hm.kp (thn (ha pos pins s1 σ H1 _ I1 q) fun us s2 ⟨vs, H2, I2, r, q2⟩ => ⟨I2.kIn, ?_⟩) hst hpl
  exact runE (us := .ref a :: us) (vs := .ref a :: vs) F hr hb hx I2 (.cons rfl r) q2
theorem pe_methE0 {pl : Sem Bool} (he : PE X o ta) (c : Cls X.K C) (hm : Meth X.K C m f) (F : FnOk X.prog X.w X.K X.mg X.base (CXE X.prog X.w) k f fd ps sp) (hr : Room k X.A) (hb : Binds X.K fd ps []) (hx : ∀ e s, Fly X Ex e s → X.xe e s)
    (ht : eval (.Call (.Attribute o m apos) [] [] pos) X.env = (do
      let ov ← eval o X.env
      standAt apos.atName
      let (f, first) ← holding [ov] (getMethod ov m pl)
      callWith pos f first (backTo pos (starEach [] X.env)) (backToKw pos (keywordEach [] X.env)))) :
    PE X (.Call (.Attribute o m apos) [] [] pos) (tMethE C m sp Ex ta tNil) := by
  intro pins s σ H Q I h
  refine PySem.W.methodCall_KW (pl := pl) (thn (he pins s σ H _ I h) fun u s1 ⟨x, H1, I1, rx, a, dx, fs, ex, ea, l, q⟩ => ?_) ht
  subst ex
  obtain rfl : u = Value.ref a := rx
  refine getmeth_ok I1 ea c hm l ?_
  exact PySem.W.callWith_K0 (first := [.ref a]) I1.kIn hm.kp (runE (us := [.ref a]) (vs := [.ref a]) F hr hb hx I1 (.cons rfl .nil) q)
theorem run_makeE {pins : List (Addr × Obj)} {σ : L2.St} {H : Hp} {s : Shared} {Q : VK} {us : List Value} {vs : List V} (M : Mk X.K C f) (F : FnOk X.prog X.w X.K X.mg X.base (CXE X.prog X.w) k f fd ps sp) (hr : Room (k + 1) X.A) (hb : Binds X.K fd ps [])
    (hx : ∀ e s, Fly X Ex e s → X.xe e s) (I : Inv X pins σ H s) (r : Vals vs us)
    (h : ∀ x dx, H x = none → H dx = none → dx ≠ x → sp (.ref x :: vs) (upd (upd H dx (.own x)) x (.ins C dx [])) (fun v H2 => v = .non ∧ Q (.ref x) H2) fun cv y H' => Ex cv y σ H') :
    wpAny (model X.prog X.w) X.A (call (.ref C) us) (EP X pins σ Q) X.xe s := by
  have hq := h (s.heap.objs.size + 1) s.heap.objs.size (I.hok.fresh (Nat.le_succ _)) (I.hok.fresh (Nat.le_refl _)) (Nat.ne_of_lt (Nat.lt_succ_self _))
  have I2 := Inv.made (C := C) I
  have r2 : Vals (V.ref (s.heap.objs.size + 1) :: vs) (Value.ref (s.heap.objs.size + 1) :: us) := .cons rfl r
  have hl : ((Value.ref (s.heap.objs.size + 1) :: us) ++ []).length = ps.length := by
    rw [List.append_nil, ← r2.length]; exact F.len _ _ _ _ hq
  have bd := hb _ (Value.ref (s.heap.objs.size + 1) :: us) I2.kIn hl
  rw [List.append_nil] at bd
  refine wpAny_call (make_map (f := f) I.kIn M.makes M.init (beq_iff_eq.mp M.fn) (codeAny_mono (F.run _ X.stack _ _ ⟨Value.ref (s.heap.objs.size + 1) :: us, []⟩ (Value.ref (s.heap.objs.size + 1) :: us) _ _ _ (hr.make C us [])
    (I2.env0.make C us []) bd r2 hq) fun r s' hq' => ?_))
  match r, hq' with
  | .error e, hq' => exact passes hx pins σ _ _ e s' I2 hq'
  | .ok (.ret u), hq' =>
    obtain ⟨v, H', I3, rv, ev, q3⟩ := I2.after hq'
    subst ev
    exact ⟨rv, ⟨V.ref (s.heap.objs.size + 1), H', I3, rfl, q3⟩⟩
  | .ok .next, hq' => exact hq'.elim
  | .ok .brk, hq' => exact hq'.elim
  | .ok .cont, hq' => exact hq'.elim
theorem pe_makeE (M : Mk X.K C f) (F : FnOk X.prog X.w X.K X.mg X.base (CXE X.prog X.w) k f fd ps sp) (hr : Room (k + 1) X.A) (hg : Gl X x) (hm : X.mg x = some (.ref C)) (hb : Binds X.K fd ps []) (hx : ∀ e s, Fly X Ex e s → X.xe e s)
    (ha : PA X (e :: es) t) (hdb : (x == ("__debug__" : Str)) = false) (he : starEach (e :: es) X.env = (false, eval e X.env) :: starEach es X.env) (hpl : (backTo pos (starEach es X.env)).any (·.1) = false) :
    PE X (.Call (.Name x p) (e :: es) [] pos) (tMakeE C sp Ex t) := by
  intro pins s σ H Q I h
  refine wpAny_Call_Name_kw (ld_glob I hg hm ?_ hdb)
  refine PySem.W.callWith_K (h₀ := X.base) I.ok.mod.kin M.kp (thn (ha pos pins s σ H _ I h) fun us s1 ⟨vs, H1, I1, r, q⟩ => ⟨I1.kIn, ?_⟩) he hpl
  exact run_makeE M F hr hb hx I1 r q
theorem pe_makeE0 (M : Mk X.K C f) (F : FnOk X.prog X.w X.K X.mg X.base (CXE X.prog X.w) k f fd ps sp) (hr : Room (k + 1) X.A) (hg : Gl X x) (hm : X.mg x = some (.ref C)) (hb : Binds X.K fd ps []) (hx : ∀ e s, Fly X Ex e s → X.xe e s) (hdb : (x == ("__debug__" : Str)) = false) :
    PE X (.Call (.Name x p) [] [] pos) (tMakeE C sp Ex tNil) := by
  intro pins s σ H Q I h
  refine wpAny_Call_Name_kw (ld_glob I hg hm ?_ hdb)
  exact PySem.W.callWith_K0 I.kIn M.kp (run_makeE (us := []) M F hr hb hx I .nil h)
theorem pe_makeN {f : Addr} (M : Mk X.K C f) (hg : Gl X x) (hm : X.mg x = some (.ref C)) (ha : PA X (e :: es) t) (hdb : (x == ("__debug__" : Str)) = false) (he : starEach (e :: es) X.env = (false, eval e X.env) :: starEach es X.env) (hpl : (backTo pos (starEach es X.env)).any (·.1) = false) :
    PE X (.Call (.Name x p) (e :: es) [] pos) (fun σ H _ => t σ H fun _ _ => False) := by
  intro pins s σ H Q I h
  refine wpAny_Call_Name_kw (ld_glob I hg hm ?_ hdb)
  exact PySem.W.callWith_K (h₀ := X.base) I.ok.mod.kin M.kp (thn (ha pos pins s σ H _ I h) fun us s1 ⟨vs, H1, I1, r, q⟩ => q.elim) he hpl
theorem vals_items {i : Int} {acc : Array Value} {n : Nat} (h : ItemsOf (fun (j : Nat) v => ∃ t, v = .int (i + (j : Int) * 1) t) acc n) : Vals ((List.range n).map fun (j : Nat) => V.int (i + (j : Int))) acc.toList := by
  obtain ⟨h1, h2⟩ := h
  have gen : ∀ (l : List Value) (a : Nat), (∀ (j : Nat) v, l[j]? = some v → ∃ t, v = .int (i + ((a + j : Nat) : Int) * 1) t) → Vals ((List.range' a l.length).map fun (j : Nat) => V.int (i + (j : Int))) l := by
    intro l
    induction l with
    | nil => intro a _; exact .nil
    | cons v l ih =>
      intro a q
      obtain ⟨t, e⟩ := q 0 v rfl
      refine .cons ⟨t, ?_⟩ (ih (a + 1) fun j w hw => ?_)
      · rw [e]; simp
      · obtain ⟨t, e⟩ := q (j + 1) w (by simpa using hw)
        exact ⟨t, by rw [e]; congr 3; omega⟩
  have := gen acc.toList 0 fun j v hv => by
    have := h2 j v (by simpa using hv)
    simpa using this
  rw [← h1, List.range_eq_range']
  simpa using this
theorem pe_lrg {a b : Expr} {p1 p2 q1 q2 : Pos} (hc : X.calm = true) (hgl : Gl X "list") (hml : X.mg "list" = none) (hgr : Gl X "range") (hmr : X.mg "range" = none) (ha : PA X [a, b] t) (hs : starEach [a, b] X.env = [(false, eval a X.env), (false, eval b X.env)]) (hs2 : starEach [b] X.env = [(false, eval b X.env)]) :
    PE X (.Call (.Name "list" p1) [.Call (.Name "range" p2) [a, b] [] q2] [] q1) (tLrg t) := by
  intro pins s σ H Q I h
  refine wpAny_Call_Name_kw (ld_blt I hgl hml (show bootBuiltins ("list" : Str) = some (.type "list") by decide +kernel) ?_ (by decide) (by decide))
  refine PyProof.Rows.callWith_type1 ?_ rfl rfl
  show wpAny _ _ (spliced ((false, eval (.Call (.Name "range" p2) [a, b] [] q2) X.env) :: backTo q1 (starEach [] X.env))) _ _ s
  refine Calls.spliced_cons ?_
  refine wpAny_Call_Name_kw (ld_blt I hgr hmr PyProof.Rows.boot_range (PyProof.Rows.callWith_type1 (thn (ha q2 pins s σ H _ I h) fun us s1 ⟨vs, H1, I1, r1, q1⟩ => ?_) (by rw [hs, hs2]) (by rw [hs2]; rfl)) (by decide) (by decide))
  obtain ⟨i, j, e, ⟨b1, b2, b3, b4⟩, hz, q⟩ := q1
  subst e
  cases r1 with
  | cons r rr =>
    cases rr with
    | cons r' rr =>
      cases rr
      obtain ⟨t, rfl⟩ := r
      obtain ⟨t', rfl⟩ := r'
      refine call_range_2 ?_
      refine Calls.spliced_nil ?_
      have I2 : Inv X pins σ H1 { s1 with heap := s1.heap.push { cls := .type "range", data := .fields #[.int i t, .int j t', .int 1 s1.toks] }, toks := s1.toks + 1 } := I1.kept fun b o e => Heap.get?_push_of_some _ e
      have hn : Builtin.Range.rangeSize i j 1 = (((j - i).toNat : Nat) : Int) := by rw [rangeSize_one]; split <;> omega
      refine call_list_range (n := (j - i).toNat) (I2.ok.hd hc) (IsRange.new ..) (small_one b1 b2 b3 b4) hn hz fun h' tk acc' c' hk hS' hacc => ?_
      have va := vals_items hacc
      refine ⟨.ref _, _, I2.laid (h' := h') (t' := tk) (o := .lst (lrV i j)) hk (Nat.le_refl _) ⟨by unfold lrV; rw [List.length_map, List.length_range]; exact hz, acc'.toList, c', va, by simpa using hS'⟩, rfl, q _ (I2.hok.fresh (Nat.le_refl _))⟩
end
end Fg

end
section
set_option Elab.async false
set_option linter.all false
set_option maxRecDepth 100000
set_option autoImplicit false
namespace Fg
open PySem PySem.Spec L2
section
variable {X : Cx} {B : Bd} {pins : List (Addr × Obj)} {σ : L2.St} {H H' : Hp} {s : Shared}
def thX (X : Cx) : Addr → Prop := fun a => ∀ o u, X.H₀ a ≠ some (.frz o u)
/-- a dict is written again -/
theorem inv_thaw (I : Inv X pins σ H s) (h : Thw (thX X) H H') : Inv X pins σ H' s := by
  rcases h with rfl | ⟨a, o, kvs, th, ha, rfl⟩
  · exact I
  have ne : ∀ b, H b = none → b ≠ a := fun b q z => by subst z; rw [ha] at q; cases q
  refine ⟨I.ok, I.os, I.bare, ⟨I.base.keep, I.base.slot, fun b ob e n hx => ?_, I.base.there, fun b xs e => ?_, fun b ob u e => ?_, fun b ps e => ?_⟩, I.loc, I.cell, ?_, fun x c e => ?_, fun p hp => ?_, fun b u e => ?_, I.len⟩
  · have := I.base.free b ob e n hx
    rw [upd_ne (ne b this)]; exact this
  · have := I.base.tups b xs e
    rw [upd_ne (by rintro rfl; rw [ha] at this; cases this)]; exact this
  · have := I.base.frzs b ob u e
    rw [upd_ne (by rintro rfl; exact th ob u e)]; exact this
  · obtain ⟨more, q⟩ := I.base.tbls b ps e
    exact ⟨more, by rw [upd_ne (by rintro rfl; rw [ha] at q; cases q)]; exact q⟩
  · rw [upd_ne (ne _ I.free)]; exact I.free
  · rw [upd_ne (ne _ (I.freeC x c e))]; exact I.freeC x c e
  · obtain ⟨h1, h2, h3⟩ := I.pin p hp
    exact ⟨h1, by rw [upd_ne (ne _ h2)]; exact h2, h3⟩
  · by_cases hb : b = a
    · subst hb
      rw [upd_same] at e; cases e
      exact (I.hok b _ ha).2
    · rw [upd_ne hb] at e
      exact (I.hok b u e).stay (fun _ _ _ q => q) (fun c q => by rw [upd_ne (by rintro rfl; rw [ha] at q; cases q)]; exact q) fun c xs q => by rw [upd_ne (by rintro rfl; rw [ha] at q; cases q)]; exact q
theorem pe_thaw {e : Expr} {t : TE} (h : PE X e t) : PE X e (fun σ H Q => t σ H fun v H' => ∃ H'', Thw (thX X) H' H'' ∧ Q v H'') := by
  intro pins s σ H Q I q
  refine thn (h pins s σ H _ I q) fun u s' ⟨v, H', I', r, H'', t', q'⟩ => ⟨v, H'', inv_thaw I' t', r, q'⟩
theorem ps_thaw {st : Stmt} {t : TS} (h : PS X st t) : PS X st (fun D σ H => t (thE (thX X) D) σ H) := by
  intro pins s σ H D I q
  refine thn (h pins s σ H _ I q) fun f s' q' => ?_
  cases f with
  | next => obtain ⟨σ', H', I', H'', t', q'⟩ := q'; exact ⟨σ', H'', inv_thaw I' t', q'⟩
  | brk => obtain ⟨σ', H', I', H'', t', q'⟩ := q'; exact ⟨σ', H'', inv_thaw I' t', q'⟩
  | cont => obtain ⟨σ', H', I', H'', t', q'⟩ := q'; exact ⟨σ', H'', inv_thaw I' t', q'⟩
  | ret u => obtain ⟨v, σ', H', I', r, H'', t', q'⟩ := q'; exact ⟨v, σ', H'', inv_thaw I' t', r, q'⟩

/-! ### a dict walked -/
theorem key_rel {k : Key} {u : Value} (h : keyIs k u = true) : RelV (kV k) u := by
  rcases keyIs_shape h with ⟨i, t, rfl, rfl⟩ | ⟨x, t, rfl, rfl⟩
  · exact ⟨t, rfl⟩
  · exact ⟨t, rfl⟩
theorem kv_get {kvs : List (Key × V)} {vs : List (Key × Value)} (h : KV kvs vs) {i : Nat} {kv : Key × V} (e : kvs[i]? = some kv) : ∃ w, vs[i]? = some (kv.1, w) := by
  induction h generalizing i with
  | nil => simp at e
  | @cons p q ps qs hpq _ ih =>
    cases i with
    | zero =>
      simp only [List.getElem?_cons_zero, Option.some.injEq] at e ⊢
      subst e
      exact ⟨q.2, by rw [hpq.1]⟩
    | succ i => simpa using ih (by simpa using e)
/-- the epoch of a dict's object -/
def epO (o : Obj) (n : Nat) : Prop := ∃ es, o.data = .dict es n
theorem turn_dict {P : Program} {w : World} {K : PySem.W.Frag} {tg : Expr} (a it : Addr) (o : Obj) (kvs : List (Key × V)) (ep : Nat) (he : epO o ep) : Turn P w K tg (Itd a o kvs) [it] it (fun i h => h.IsKeyIter it a i kvs.length ep) where
  mem := by simp
  obj := fun i h st b hb => by
    have e : b = it := by simpa using hb
    subst e
    obtain ⟨o, e, c, d⟩ := st
    exact ⟨o, e, fun v z => by rw [d] at z; cases z⟩
  keep := fun i h h' st k => st.at fun o e => k it (by simp) o e
  item := by
    intro X hP hw hK hc i pins s σ H E I hf st hg
    subst hP hw hK
    obtain ⟨hH, hi⟩ := hg
    obtain ⟨ho, z, hm, vs, rel, dd⟩ := (show ObjOk X.prog X.w H s.heap a (.frz o (.dK kvs)) from I.hok a _ hH)
    obtain ⟨o', es, ep', h1, h2, h3, h4⟩ := id dd
    rw [ho] at h1; cases h1
    obtain ⟨es', hd'⟩ := he
    rw [hd'] at h3; cases h3
    have dat : s.heap.DictAt (mixKind X.prog X.w) a vs ep := ⟨o, es, ho, h2, hd', h4⟩
    have hx : kvs[i]? = some kvs[i] := List.getElem?_eq_getElem hi
    obtain ⟨wv, hv⟩ := kv_get rel hx
    obtain ⟨f0, f1, f2, f3, f4, f5⟩ := hf it (by simp)
    have hl : kvs.length = vs.length := rel.length
    rw [hl] at st
    refine wpAny_pyNext_dict_item st dat hv fun key h' hk st' sb => ?_
    have I1 : Inv X pins σ H { s with heap := h' } := I.turned (t' := s.toks) (fun b o hb e => (sb.2 b hb).trans e) f0 f1 f3 f4 f5
    obtain ⟨oi, e, c, d⟩ := id st'
    refine ⟨key, rfl, go_of (s := { s with heap := h' }) e c d (by decide) ⟨kV kvs[i].1, H, I1, key_rel hk, ⟨rfl, kvs[i], hx, rfl⟩, by rw [hl]; exact st', fun b hb => (hf b hb).1⟩⟩
  done := by
    intro X hP hw hK hc i pins s σ H E I hf st hg
    subst hP hw hK
    obtain ⟨hH, hi⟩ := hg
    obtain ⟨ho, z, hm, vs, rel, dd⟩ := (show ObjOk X.prog X.w H s.heap a (.frz o (.dK kvs)) from I.hok a _ hH)
    obtain ⟨o', es, ep', h1, h2, h3, h4⟩ := id dd
    rw [ho] at h1; cases h1
    obtain ⟨es', hd'⟩ := he
    rw [hd'] at h3; cases h3
    have dat : s.heap.DictAt (mixKind X.prog X.w) a vs ep := ⟨o, es, ho, h2, hd', h4⟩
    have hl : kvs.length = vs.length := rel.length
    rw [hl] at st
    obtain ⟨f0, f1, f2, f3, f4, f5⟩ := hf it (by simp)
    exact wpAny_pyNext_dict_end (I.ok.hd hc) st dat (List.getElem?_eq_none_iff.mpr (by omega)) fun h' eb => ⟨rfl, I.turned (t' := s.toks) (fun b o hb e => eb b o hb e) f0 f1 f3 f4 f5⟩
  self := fun _ _ _ _ _ st h => wpAny_pyIter_keyiter st h
theorem dict_it {tg : Expr} {R : It → Hp → Prop} {a : Addr} {o : Obj} {kvs : List (Key × V)} {E : Value → Shared → Prop} (I : Inv X pins σ H s) (hH : H a = some (.frz o (.dK kvs))) (q : R (Itd a o kvs) H) : wpAny (model X.prog X.w) X.A (pyIter (.ref a)) (PIE X pins σ tg R) E s := by
  obtain ⟨ho, z, hm, vs, rel, dd⟩ := (show ObjOk X.prog X.w H s.heap a (.frz o (.dK kvs)) from I.hok a _ hH)
  obtain ⟨o', es, ep, h1, h2, h3, h4⟩ := id dd
  rw [ho] at h1; cases h1
  have dat : s.heap.DictAt (mixKind X.prog X.w) a vs ep := ⟨o, es, ho, h2, h3, h4⟩
  have hl : kvs.length = vs.length := rel.length
  refine wpAny_pyIter_dict hm dat ?_
  refine ⟨s.heap.objs.size, [s.heap.objs.size], _, _, H, rfl, I.kept (t' := s.toks) fun b o e => Heap.get?_push_of_some _ e, turn_dict a _ o kvs ep ⟨es, h3⟩, ⟨_, Heap.get?_push_size _ rfl, rfl, by rw [hl]; rfl⟩, fun b hb => ?_, q⟩
  have e : b = s.heap.objs.size := by simpa using hb
  subst e
  exact I.fpOk (Nat.le_refl _) (I.hok.fresh (Nat.le_refl _))
theorem pi_any {tg l : Expr} {tl : TE} (hK : B.K = X.K) (hl : PE X l tl) : PI X tg l (iAny B (thX X) tl) := by
  intro pins s σ H R I h
  refine thn (hl pins s σ H _ I h) fun v s1 ⟨x, H1, I1, r1, q1⟩ => ?_
  rw [hK] at q1
  rcases q1 with ⟨a, e, ⟨xs, hq⟩, q⟩ | ⟨a, e, ⟨xs, hq⟩, q⟩ | ⟨a, kvs, e, hq, q⟩ | ⟨a, o, kvs, e, hq, q⟩
  · subst e
    cases r1
    obtain ⟨its, rv, p, hz⟩ := I1.list hq
    refine wpAny_pyIter_list p.isList ?_
    refine ⟨s1.heap.objs.size, [s1.heap.objs.size], _, _, H1, rfl, I1.kept (t' := s1.toks) fun b o e => Heap.get?_push_of_some _ e, turn_list a _, ⟨_, Heap.get?_push_size _ rfl, rfl, rfl⟩, fun b hb => ?_, q⟩
    have e : b = s1.heap.objs.size := by simpa using hb
    subst e
    exact I1.fpOk (Nat.le_refl _) (I1.hok.fresh (Nat.le_refl _))
  · subst e
    cases r1
    obtain ⟨its, rv, p, hz⟩ := I1.tuple hq
    refine wpAny_pyIter_tuple (show s1.heap.IsTuple a its.toArray from p) ?_
    refine ⟨s1.heap.objs.size, [s1.heap.objs.size], _, _, H1, rfl, I1.kept (t' := s1.toks) fun b o e => Heap.get?_push_of_some _ e, turn_tuple a _, ⟨_, Heap.get?_push_size _ rfl, rfl, rfl⟩, fun b hb => ?_, q⟩
    have e : b = s1.heap.objs.size := by simpa using hb
    subst e
    exact I1.fpOk (Nat.le_refl _) (I1.hok.fresh (Nat.le_refl _))
  · subst e
    cases r1
    have ob := (show ObjOk X.prog X.w H1 s1.heap a (.dK kvs) from I1.hok a _ hq)
    obtain ⟨z, hm, vs, rel, dd⟩ := id ob
    obtain ⟨o, es, ep, h1, h2, h3, h4⟩ := id dd
    have th : thX X a := fun w u hz => by
      have := I1.base.frzs a w u hz
      rw [hq] at this; cases this
    have I2 : Inv X pins σ (upd H1 a (.frz o (.dK kvs))) s1 := I1.write (x := a) (e := a) (t' := s1.toks) (h' := s1.heap) (by rw [hq]; trivial) (.inl rfl) (fun b u _ e => e) ⟨o, h1⟩ ⟨h1, ob⟩
    exact dict_it I2 upd_same (q o th)
  · subst e
    cases r1
    exact dict_it I1 hq q
/-! ### xs[i] = e -/
theorem ps_seta {o i value : Expr} {to ti tv : TE} {pos pos' : Pos} (hu : Rm X) (ho : PE X o to) (hi : PE X i ti) (hv : PE X value tv) (hs : swapsWith value (some (.Subscript o i pos')) pos.line X.env = pure false) :
    PS X (.Assign [.Subscript o i pos'] value pos) (sSetA to ti tv) := by
  intro pins s σ H D I h
  refine wpAny_Assign_Subscript (thn (hv pins s σ H _ I h) fun r s1 ⟨v, H1, I1, rv, q1⟩ => thn (ho pins s1 σ H1 _ I1 q1) fun u s2 ⟨x, H2, I2, rx, q2⟩ => thn (hi pins s2 σ H2 _ I2 q2) fun iv s3 ⟨y, H3, I3, ry, q3⟩ => ?_) hs
  rcases q3 with q3 | ⟨a, H4, ex, g, q3⟩
  · exact thn (set_list pins s3 σ H3 x y v u iv r _ I3 rx ry rv q3) fun _ s4 ⟨H4, I4, q4⟩ => ⟨σ, H4, I4, q4⟩
  · subst ex
    obtain rfl : u = Value.ref a := rx
    exact d_setItem (by unfold Rm at hu; omega) I3 g ry rv fun s4 I4 => ⟨σ, H4, I4, q3⟩
end
end Fg

end
section
set_option Elab.async false
set_option linter.all false
set_option maxRecDepth 100000
set_option autoImplicit false
namespace Fg
open PySem PySem.Spec L2

/-! ### the checker: is a term of the mirror this text? -/
structure Gm where
  fns : List (Str × Nat × Nat)
  cst : List (Str × Nat)
  blts : List Str
  /-- a class by its name: its number, its __init__ and how many that takes -/
  cls : List (Str × Nat × Nat × Nat) := []
  /-- a method by class and name: the def and how many it takes -/
  mts : List ((Nat × Str) × Nat × Nat) := []
  /-- names of fields: no class has one of its own of such a name -/
  flds : List Str := []
inductive Nd where
  | e (a : Expr) (c : E)
  | t (a : Expr) (c : E)
  | es (a : List Expr) (c : Es)
  | o (a : Option Expr) (c : O)
  | i (a : Expr) (c : Src)
  | s (a : Stmt) (c : S)
  | ss (a : List Stmt) (c : Ss)
def nD (x : Str) : Bool := !(x == ("__debug__" : Str)) && !(x == ("__classdict__" : Str))
def visB (sc : Scope) (x : Str) : Bool := match sc.names.lookup x with | some .local => true | some .cell => true | some .free => true | _ => false
def locB (sc : Scope) (x : Str) : Bool := match sc.names.lookup x with | some .local => true | some .cell => true | _ => false
def gloB (sc : Scope) (x : Str) : Bool := match sc.names.lookup x with | some .globalImplicit => true | _ => false
def nStar : Expr → Bool | .Starred _ _ => false | _ => true
def nComp : Expr → Bool | .ListComp _ _ _ _ => false | .SetComp _ _ _ _ => false | .DictComp _ _ _ _ _ => false | _ => true
def nSet : Expr → Bool | .Set _ _ _ => false | _ => true
def nSl : Expr → Bool | .Slice _ _ _ _ => false | _ => true
def nTst : Expr → Bool | .UnaryOp _ _ _ => false | .BoolOp _ _ _ => false | .IfExp _ _ _ _ => false | .Compare _ _ _ _ => false | _ => true
def nCal : Expr → Bool | .Call _ _ _ _ => false | _ => true
def cstB : Const → D → Bool
  | .int i, .int j => decide (i = j)
  | .str x, .str y => decide (x = y)
  | .bool a, .bl b => decide (a = b)
  | .none, .non => true
  | _, _ => false
def bltS : Bl → Option Str
  | .len => some "len" | .sum => some "sum" | .tuple => some "tuple" | .list => some "list" | .dict => some "dict" | _ => none
def relS (scope sc : Scope) : Scope :=
  { scope with names := scope.names.map fun (n, k) => if (k == .free && sc.kind == .function && sc.names.lookup n == some .cell) then (n, .cell) else (n, k) }
def tgB (N : List Str) (sc : Scope) : Expr → List Nat → Bool
  | .Name x _, [i] => decide (N[i]? = some x) && (match sc.names.lookup x with | some .local => true | _ => false)
  | _, _ => false
def getN (N : List Str) (x : Str) : Option Nat := N.findIdx? (fun y => decide (y = x))
/-- the names of a comprehension's block: what it captures, then its own -/
def compN (N : List Str) (caps : List Nat) (tn : List Str) : List Str := (caps.map fun i => (N[i]?).getD ("" : Str)) ++ tn
def tnames : Expr → List Str
  | .Name x _ => [x]
  | _ => []
def compB (N : List Str) (sc scope : Scope) (caps : List Nat) (tn : List Str) : Bool :=
  (scope.names.all fun y => match y.2 with
    | .free => (match sc.names.lookup y.1 with | some .cell => true | some .free => true | _ => false)
    | .cell => false
    | .local => (match scope.names.lookup y.1 with | some .local => true | _ => false)
    | _ => true) && (scope.kind == .function) &&
  (caps.all fun i => match N[i]? with
    | some x => (match scope.names.lookup x with | some .free => true | _ => false)
    | none => false) && decide ((compN N caps tn).Nodup)
def swapB (sc scope : Scope) (x : Str) (px pv : Pos) : Bool :=
  ((if sc.kind.isAnnotationScope then .function else sc.kind) == .function) && sc.names.lookup x == some .local && px.line == pv.line && !(scope.names.any fun (n, k) => n == x && (k == .local || k == .cell))
def one? : Expr → Option Expr
  | .BoolOp _ [v] _ => some v
  | _ => none
def chk (G : Gm) : Nat → Bool → List Str → Scope → Nd → Bool
  | 0, _, _, _, _ => false
  | n + 1, b, N, sc, nd => match nd with
    | .e a c => match one? a with
     | some v => chk G n b N sc (.e v c)
     | none => match c with
      | .bad => true
      | .v i => match a with
        | .Name x _ => decide (N[i]? = some x) && visB sc x && nD x
        | _ => false
      | .k d => match a with
        | .Constant k _ _ => cstB k d
        | _ => false
      | .g i => match a with
        | .Name x _ => gloB sc x && decide (G.cst.lookup x = some i) && nD x
        | _ => false
      | .tup cs => match a with
        | .Tuple as _ _ => decide (as.length ≤ 100) && chk G n b N sc (.es as cs)
        | _ => false
      | .lst _ cs => match a with
        | .List as _ => decide (as.length ≤ 100) && chk G n b N sc (.es as cs)
        | _ => false
      | .dct0 => match a with
        | .Dict [] [] _ => true
        | _ => false
      | .op o _ x y => match a with
        | .BinOp l p r _ => decide (p = binOp o) && chk G n b N sc (.e l x) && chk G n b N sc (.e r y)
        | _ => false
      | .neg x => match a with
        | .UnaryOp .USub l _ => chk G n b N sc (.e l x)
        | _ => false
      | .not x => match a with
        | .UnaryOp .Not l _ => chk G n b N sc (.e l x)
        | _ => false
      | .and x y => match a with
        | .BoolOp .And (v :: w :: r) p => chk G n b N sc (.e v x) && chk G n b N sc (.e (.BoolOp .And (w :: r) p) y)
        | _ => false
      | .or x y => match a with
        | .BoolOp .Or (v :: w :: r) p => chk G n b N sc (.e v x) && chk G n b N sc (.e (.BoolOp .Or (w :: r) p) y)
        | _ => false
      | .cmp o x y => match a with
        | .Compare l [p] [r] _ => decide (p = cmpOp o) && !(behindInMarks p r) && chk G n b N sc (.e l x) && chk G n b N sc (.e r y)
        | _ => false
      | .ife t x y => match a with
        | .IfExp u l r _ => chk G n b N sc (.t u t) && chk G n b N sc (.e l x) && chk G n b N sc (.e r y)
        | _ => false
      | .idx x y => match a with
        | .Subscript l r _ => nSl r && chk G n b N sc (.e l x) && chk G n b N sc (.e r y)
        | _ => false
      | .sl _ x lo hi => match a with
        | .Subscript l (.Slice u v none _) _ => chk G n b N sc (.e l x) && chk G n b N sc (.o u lo) && chk G n b N sc (.o v hi)
        | _ => false
      | .call f cs => match a with
        | .Call (.Name x _) as [] _ => gloB sc x && nD x && decide (G.fns.lookup x = some (f, as.length)) && as.all nStar && chk G n b N sc (.es as cs)
        | _ => false
      | .isi x t => match a with
        | .Call (.Name y _) [l, .Name z _] [] _ => decide (y = "isinstance") && decide (z = Str.ofString (tyS t)) && gloB sc y && gloB sc z && G.blts.contains y && G.blts.contains z && nStar l && chk G n b N sc (.e l x)
        | _ => false
      | .blt k _ cs => match a with
        | .Call (.Name y _) [l] [] _ => decide (bltS k = some y) && gloB sc y && G.blts.contains y && nStar l && chk G n b N sc (.es [l] cs)
        | _ => false
      | .mth .append _ x cs => match a with
        | .Call (.Attribute o y ap) [l] [] cp => decide (y = "append") && nCal o && nStar l && (ap.endLine == cp.line) && chk G n b N sc (.e o x) && chk G n b N sc (.es [l] cs)
        | _ => false
      | .comp _ caps tg elt it cond => match a with
        | .ListComp el [⟨tn, iter, ifs, 0⟩] scope _ => !b && nSet iter && compB N sc scope caps (tnames tn) && chk G n b N sc (.i iter it) &&
          tgB (compN N caps (tnames tn)) (relS scope sc) tn tg && chk G n true (compN N caps (tnames tn)) (relS scope sc) (.e el elt) &&
          (match ifs, cond with
            | [], .none => true
            | [c], .some d => chk G n true (compN N caps (tnames tn)) (relS scope sc) (.t c d)
            | _, _ => false)
        | _ => false
      | .fld x f => match a with
        | .Attribute l y _ => decide (y = f) && G.flds.contains f && nCal l && chk G n b N sc (.e l x)
        | _ => false
      | .umt c m nm x cs => match a with
        | .Call (.Attribute o y ap) as [] cp => decide (y = nm) && nCal o && (ap.endLine == cp.line) && decide (as.length < 29) && decide (G.mts.lookup (c, nm) = some (m, as.length + 1)) && as.all nStar && chk G n b N sc (.e o x) && chk G n b N sc (.es as cs)
        | _ => false
      | .new c i cs => match a with
        | .Call (.Name x _) as [] _ => gloB sc x && nD x && decide (G.cls.lookup x = some (c, i, as.length + 1)) && as.all nStar && chk G n b N sc (.es as cs)
        | _ => false
      | .mx hi x y => match a with
        | .Call (.Name z _) [l, r] [] _ => decide (z = if hi then "max" else "min") && gloB sc z && G.blts.contains z && nStar l && nStar r && chk G n b N sc (.e l x) && chk G n b N sc (.e r y)
        | _ => false
      | .lrg _ x y => match a with
        | .Call (.Name z _) [.Call (.Name u _) [l, r] [] _] [] _ => decide (z = "list") && decide (u = "range") && gloB sc z && gloB sc u && G.blts.contains z && G.blts.contains u && nStar l && nStar r && chk G n b N sc (.e l x) && chk G n b N sc (.e r y)
        | _ => false
      | _ => false
    | .t a c => match one? a with
     | some v => chk G n b N sc (.t v c)
     | none => match c with
      | .bad => true
      | .cmp o x y => match a with
        | .Compare l [p] [r] _ => decide (p = cmpOp o) && !(behindInMarks p r) && chk G n b N sc (.e l x) && chk G n b N sc (.e r y)
        | _ => false
      | .not x => match a with
        | .UnaryOp .Not l _ => chk G n b N sc (.t l x)
        | _ => false
      | .and x y => match a with
        | .BoolOp .And (v :: w :: r) p => chk G n b N sc (.t v x) && chk G n b N sc (.t (.BoolOp .And (w :: r) p) y)
        | _ => false
      | .or x y => match a with
        | .BoolOp .Or (v :: w :: r) p => chk G n b N sc (.t v x) && chk G n b N sc (.t (.BoolOp .Or (w :: r) p) y)
        | _ => false
      | c => nTst a && chk G n b N sc (.e a c)
    | .es as cs => match cs with
      | .nil => match as with
        | [] => true
        | _ => false
      | .cons c cs => match as with
        | a :: as => nStar a && chk G n b N sc (.e a c) && chk G n b N sc (.es as cs)
        | _ => false
    | .o a c => match c with
      | .none => match a with
        | none => true
        | _ => false
      | .some c => match a with
        | some a => chk G n b N sc (.e a c)
        | _ => false
    | .i a c => match c with
      | .e c => nSet a && chk G n b N sc (.e a c)
      | .rng c => match a with
        | .Call (.Name y _) [l] [] _ => decide (y = "range") && gloB sc y && G.blts.contains y && nStar l && chk G n b N sc (.e l c)
        | _ => false
      | _ => false
    | .s a c => match c with
      | .bad => true
      | .set i c => match a with
        | .Assign [.Name x px] e p => decide (N[i]? = some x) && locB sc x && !b && (match c with
          | .comp _ caps tg elt it cond => (match e with
            | .ListComp el [⟨tn, iter, ifs, 0⟩] scope lp => (if swapB sc scope x px lp then nSet iter && compB N sc scope caps (tnames tn) && chk G n b N sc (.i iter it) &&
              tgB (compN N caps (tnames tn)) (relS scope sc) tn tg && chk G n true (compN N caps (tnames tn)) (relS scope sc) (.e el elt) &&
              (match ifs, cond with
                | [], .none => true
                | [c], .some d => chk G n true (compN N caps (tnames tn)) (relS scope sc) (.t c d)
                | _, _ => false) && (match sc.names.lookup x with | some .local => true | _ => false) else chk G n b N sc (.e e c))
            | _ => false)
          | c => nComp e && chk G n b N sc (.e e c))
        | _ => false
      | .seti x y c => match a with
        | .Assign [.Subscript o i _] e _ => nComp e && chk G n b N sc (.e e c) && chk G n b N sc (.e o x) && chk G n b N sc (.e i y)
        | _ => false
      | .setf x f c => match a with
        | .Assign [.Attribute o y _] e _ => decide (y = f) && G.flds.contains f && nComp e && chk G n b N sc (.e e c) && chk G n b N sc (.e o x)
        | _ => false
      | .ex c => match a with
        | .Expr e _ => nComp e && chk G n b N sc (.e e c)
        | _ => false
      | .ret c => match a with
        | .Return (some e) _ => chk G n b N sc (.e e c)
        | _ => false
      | .ret0 => match a with
        | .Return none _ => true
        | _ => false
      | .ifs c x y => match a with
        | .If t l r _ => chk G n b N sc (.t t c) && chk G n b N sc (.ss l x) && chk G n b N sc (.ss r y)
        | _ => false
      | .for tg it x => match a with
        | .For tn iter body [] _ => !b && nSet iter && chk G n b N sc (.i iter it) && tgB N sc tn tg && chk G n b N sc (.ss body x)
        | _ => false
      | .while c x => match a with
        | .While t body [] _ => chk G n b N sc (.t t c) && chk G n b N sc (.ss body x)
        | _ => false
      | .brk => match a with
        | .Break _ => true
        | _ => false
      | .cont => match a with
        | .Continue _ => true
        | _ => false
      | .pass => match a with
        | .Pass _ => true
        | _ => false
      | _ => false
    | .ss as cs => match cs with
      | .nil => match as with
        | [] => true
        | _ => false
      | .cons c cs => match as with
        | a :: as => chk G n b N sc (.s a c) && chk G n b N sc (.ss as cs)
        | _ => false
end Fg

end
section
set_option Elab.async false
set_option linter.all false
set_option maxRecDepth 100000
set_option autoImplicit false
namespace Fg
open PySem PySem.Spec L2
section
variable {X : Cx}
theorem PE.weak {e : Expr} {t t' : TE} (h : PE X e t) (w : ∀ σ H Q, t' σ H Q → t σ H Q) : PE X e t' := fun pins s σ H Q I q => h pins s σ H Q I (w σ H Q q)
theorem PT.weak {e : Expr} {t t' : TT} (h : PT X e t) (w : ∀ σ H Q, t' σ H Q → t σ H Q) : PT X e t' := fun pins s σ H Q I q => h pins s σ H Q I (w σ H Q q)
theorem PW.weak {e : Expr} {t t' : TT} (h : PW X e t) (w : ∀ σ H Q, t' σ H Q → t σ H Q) : PW X e t' := fun wh pins s σ H Q I q => h wh pins s σ H Q I (w σ H Q q)
theorem PA.weak {e : List Expr} {t t' : TA} (h : PA X e t) (w : ∀ σ H Q, t' σ H Q → t σ H Q) : PA X e t' := fun pos pins s σ H Q I q => h pos pins s σ H Q I (w σ H Q q)
theorem PO.weak {e : Option Expr} {t t' : TO} (h : PO X e t) (w : ∀ σ H Q, t' σ H Q → t σ H Q) : PO X e t' := fun pins s σ H Q I q => h pins s σ H Q I (w σ H Q q)
theorem PI.weak {tg e : Expr} {t t' : TI} (h : PI X tg e t) (w : ∀ σ H Q, t' σ H Q → t σ H Q) : PI X tg e t' := fun pins s σ H Q I q => h pins s σ H Q I (w σ H Q q)
theorem PS.weak {e : Stmt} {t t' : TS} (h : PS X e t) (w : ∀ D σ H, t' D σ H → t D σ H) : PS X e t' := fun pins s σ H D I q => h pins s σ H D I (w D σ H q)
theorem PSs.weak {e : List Stmt} {t t' : TS} (h : PSs X e t) (w : ∀ D σ H, t' D σ H → t D σ H) : PSs X e t' := fun pins s σ H D I q => h pins s σ H D I (w D σ H q)
end
/-! ### small facts of the syntax -/
theorem star_cons {e : Expr} {es : List Expr} {env : Env} (h : nStar e = true) : starEach (e :: es) env = (false, eval e env) :: starEach es env := by
  cases e <;> first | rfl | (simp [nStar] at h)
theorem star_any {env : Env} {pos : Pos} : ∀ {es : List Expr}, es.all nStar = true → (backTo pos (starEach es env)).any (·.1) = false
  | [], _ => rfl
  | e :: es, h => by
    simp only [List.all_cons, Bool.and_eq_true] at h
    rw [star_cons h.1]
    have := star_any (env := env) (pos := pos) h.2
    simpa [backTo] using this
theorem star_all {env : Env} {pos : Pos} : ∀ {es : List Expr}, es.all nStar = true → (backTo pos (starEach es env)).all (fun x => !x.1) = true
  | [], _ => rfl
  | e :: es, h => by
    simp only [List.all_cons, Bool.and_eq_true] at h
    rw [star_cons h.1]
    have := star_all (env := env) (pos := pos) h.2
    simpa [backTo] using this
theorem meth_tree {o : Expr} {name : Str} {apos pos : Pos} {args : List Expr} {env : Env} (hbase : attributeBase o name env (eval o env) = eval o env) (hst : args.all nStar = true) (hl : args.length < 29) (hline : (apos.endLine == pos.line) = true) :
    eval (.Call (.Attribute o name apos) args [] pos) env = (do
      let ov ← eval o env
      standAt apos.atName
      let (f, first) ← holding [ov] (getMethod ov name (do return (← importBound o env).getD true))
      callWith pos f first (backTo pos (starEach args env)) (backToKw pos (keywordEach [] env))) := by
  have hform : methodCallForm (args.length + ([] : List Keyword).length) (backTo pos (starEach args env)) (backToKw pos (keywordEach [] env)) = true := by
    unfold methodCallForm
    rw [star_all hst]
    simp [backToKw, keywordEach]
    omega
  have hpos : methodCallPos true o env apos pos = pure pos := by unfold methodCallPos; simp [hline]
  rw [arm_eval_Call, hbase]
  unfold methodCall
  rw [hform]
  simp only [hpos]
  rfl
theorem set_plain {e : Expr} {env : Env} (h : nSet e = true) : ∀ x, foldedSetIterable e env x = pure x := by
  intro x; cases e <;> first | rfl | (simp [nSet] at h)
theorem sl_plain {e : Expr} (h : nSl e = true) : PlainIx e := by
  intro o i; cases e <;> first | rfl | (simp [nSl] at h)
theorem no_swap {e : Expr} {t : Option Expr} {l : Nat} {env : Env} (h : nComp e = true) : swapsWith e t l env = pure false := by
  cases e <;> first | rfl | (simp [nComp] at h)
theorem tst_plain {e : Expr} {env : Env} (h : nTst e = true) : ∀ whole, isTrue e env whole = (do let v ← whole; standAt e.pos; holding [v] (truthy v)) := by
  intro w; cases e <;> first | rfl | (simp [nTst] at h)
theorem base_plain {e : Expr} {n : Str} {env : Env} (h : nCal e = true) : attributeBase e n env (eval e env) = eval e env := by
  cases e <;> first | rfl | (simp [nCal] at h)
theorem boot_sum : bootBuiltins ("sum" : Str) = some (.builtin "sum") := by decide +kernel
theorem boot_tuple : bootBuiltins ("tuple" : Str) = some (.type "tuple") := by decide +kernel
theorem boot_list : bootBuiltins ("list" : Str) = some (.type "list") := by decide +kernel
theorem boot_dict : bootBuiltins ("dict" : Str) = some (.type "dict") := by decide +kernel
theorem boot_isinstance : bootBuiltins ("isinstance" : Str) = some (.builtin "isinstance") := by decide +kernel
theorem boot_ty : ∀ t : Ty, bootBuiltins (Str.ofString (tyS t)) = some (.type (tyS t)) := by
  intro t; cases t <;> decide +kernel
theorem ty_nn : ∀ t : Ty, Str.ofString (tyS t) ≠ ("__name__" : Str) ∧ (Str.ofString (tyS t) == ("__debug__" : Str)) = false := by
  intro t; cases t <;> decide
def esLen : Es → Nat
  | .nil => 0
  | .cons _ es => esLen es + 1
theorem evs_esLen {Φ : Fns} : ∀ {es : Es} {σ : Sg} {M : MH} {ds : List D} {M' : MH}, evs Φ es σ M = .ok ds M' → ds.length = esLen es
  | .nil, σ, M, ds, M', h => by simp only [evs] at h; cases h; rfl
  | .cons e es, σ, M, ds, M', h => by
    simp only [evs] at h
    cases h1 : ev Φ e σ M with
    | ok x M1 =>
      rw [h1] at h
      simp only [R.bind_ok] at h
      cases h2 : evs Φ es σ M1 with
      | ok xs M2 =>
        rw [h2] at h
        simp only [R.bind_ok] at h
        cases h
        simp [esLen, evs_esLen h2]
      | exc c M2 => rw [h2] at h; cases h
      | bad => rw [h2] at h; cases h
    | exc c M1 => rw [h1] at h; cases h
    | bad => rw [h1] at h; cases h
theorem chk_len {G : Gm} {b : Bool} {N : List Str} {sc : Scope} : ∀ {n : Nat} {as : List Expr} {cs : Es}, chk G n b N sc (.es as cs) = true → esLen cs = as.length ∧ as.all nStar = true
  | 0, _, _, h => by simp [chk] at h
  | n + 1, as, .nil, h => by
    cases as with
    | nil => exact ⟨rfl, rfl⟩
    | cons _ _ => simp [chk] at h
  | n + 1, as, .cons c cs, h => by
    cases as with
    | nil => simp [chk] at h
    | cons a as =>
      simp only [chk, Bool.and_eq_true] at h
      obtain ⟨h1, h2⟩ := chk_len h.2
      exact ⟨by simp [esLen, h1], by simp [h.1.1, h2]⟩

/-! ### what the context bears -/
inductive Thws (th : Addr → Prop) : Hp → Hp → Prop
  | refl (H : Hp) : Thws th H H
  | step {H H1 H2 : Hp} : Thw th H H1 → Thws th H1 H2 → Thws th H H2
def GX : Bool → Cx → XS → Gx
  | true, _, w => ⟨w, fun _ => False, fun cv x σ H H' t h => by
    rcases t with rfl | ⟨_, _, _, z, _⟩
    · exact h
    · exact z.elim⟩
  | false, X, w => ⟨fun cv x σ H => ∃ H', Thws (thX X) H H' ∧ w cv x σ H', thX X, fun cv x σ H H' t ⟨H2, h1, h2⟩ => ⟨H2, .step t h1, h2⟩⟩
structure XOk (G : Gm) (B : Bd) (Φ : Fns) (k : Nat) (X : Cx) (N : List Str) (sc : Scope) (b : Bool) (w : XS) : Prop where
  hN : X.N = N
  nd : N.Nodup
  hsc : X.env.scope = sc
  K : B.K = X.K
  calm : X.calm = true
  rm : Room k X.A
  dk : DkOk B X
  fo : ∀ e s, X.xe e s → Fly X (GX b X w).e e s ∨ New X (GX b X w).e e s
  fx : ∀ e s, Fly X (GX b X w).e e s → X.xe e s
  nx : b = false → ∀ e s, New X (GX b X w).e e s → X.xe e s
  fr : HasFr X
  fn : b = false → ∀ x, X.fn x = true
  fns : ∀ f i m, G.fns.lookup f = some (i, m) → ∃ fa fd ps, X.mg f = some (.ref fa) ∧ W.keepIn X.K (.ref fa) = true ∧ Binds X.K fd ps [] ∧ FnOk X.prog X.w X.K X.mg X.base (CXE X.prog X.w) k fa fd ps (spF B Φ i m)
  cst : ∀ x i, G.cst.lookup x = some i → ∃ v u, X.mg x = some u ∧ RelV v u ∧ ∀ d, Φ.glob i = some d → ∀ F ρ H, RD B F ρ H d v
  blt : ∀ x, G.blts.contains x = true → X.mg x = none
  cls : ∀ c C, B.cls c = some C → Cls X.K C ∧ ∀ f, G.flds.contains f = true → NoAttr X.K C f
  mts : ∀ c nm i m, G.mts.lookup (c, nm) = some (i, m) → ∃ C fa fd ps, B.cls c = some C ∧ Meth X.K C nm fa ∧ Binds X.K fd ps [] ∧ FnOk X.prog X.w X.K X.mg X.base (CXE X.prog X.w) k fa fd ps (spF B Φ i m)
  mks : ∀ x c i m, G.cls.lookup x = some (c, i, m) → ∃ C fa fd ps, X.mg x = some (.ref C) ∧ B.cls c = some C ∧ Mk X.K C fa ∧ Binds X.K fd ps [] ∧
    ((∃ j, k = j + 1 ∧ FnOk X.prog X.w X.K X.mg X.base (CXE X.prog X.w) j fa fd ps (spI B Φ i m)) ∨ ∀ ds M, Φ.ini i ds M = .bad)
section
variable {G : Gm} {B : Bd} {Φ : Fns} {k : Nat} {X : Cx} {N : List Str} {sc : Scope} {b : Bool} {w : XS}
theorem XOk.rm' (O : XOk G B Φ k X N sc b w) : Rm X := by have := O.rm.un; unfold Rm; omega
theorem XOk.glo (O : XOk G B Φ k X N sc b w) {x : Str} (h : gloB sc x = true) : Gl X x := by
  show X.env.scope.names.lookup x = some .globalImplicit
  rw [O.hsc]
  unfold gloB at h
  split at h
  · assumption
  · cases h
theorem XOk.vis (O : XOk G B Φ k X N sc b w) {x : Str} (h : visB sc x = true) : Vis X.env.scope x := by
  unfold Vis
  rw [O.hsc]
  unfold visB at h
  split at h
  · rename_i q; exact .inl q
  · rename_i q; exact .inr (.inl q)
  · rename_i q; exact .inr (.inr q)
  · cases h
theorem XOk.loc (O : XOk G B Φ k X N sc b w) {x : Str} (h : locB sc x = true) : L2.Loc X.env.scope x := by
  unfold L2.Loc
  rw [O.hsc]
  unfold locB at h
  split at h
  · rename_i q; exact .inl q
  · rename_i q; exact .inr q
  · cases h
theorem nD_of {x : Str} (h : nD x = true) : (x == ("__debug__" : Str)) = false ∧ (x == ("__classdict__" : Str)) = false := by
  simp only [nD, Bool.and_eq_true, Bool.not_eq_true'] at h; exact h
theorem XOk.blk (O : XOk G B Φ k X N sc b w) {scope : Scope} {N' : List Str} (hn : N'.Nodup) (cl : List (Str × Addr)) (fp : List Addr) (s : Shared) (H : Hp) (C : Addr) (E : XK) : XOk G B Φ k (blkE X scope cl N' fp s H C E) N' (relS scope sc) true (fun cv x _ H' => E cv x H') :=
  ⟨rfl, hn, by show relabel scope X.env = relS scope sc; rw [← O.hsc]; rfl, O.K, O.calm, O.rm, O.dk, (fun e s ⟨p, σ, H, a, a0, C, B, h1, I, h⟩ => .inl ⟨p, σ, H, a, a0, C, B, h1, I.wish _, h⟩), (fun e s ⟨p, σ, H, a, a0, C, B, h1, I, h⟩ => ⟨p, σ, H, a, a0, C, B, h1, I.unwish, h⟩), (fun h => by cases h), (by
    obtain ⟨env, outer, L, h1, h2, h3⟩ := O.fr
    exact ⟨env, outer, L, h1, h2, h3⟩), (fun h => by cases h), O.fns, O.cst, O.blt, O.cls, O.mts, O.mks⟩
theorem XOk.comp (O : XOk G B Φ k X N sc b w) {scope : Scope} {caps : List Nat} {tn : List Str} {n : Nat} (h : compB N sc scope caps tn = true) (hn : tn.length = n) : CompSc X scope (compN N caps tn) caps n ∧ (compN N caps tn).Nodup := by
  simp only [compB, Bool.and_eq_true, List.all_eq_true, decide_eq_true_eq] at h
  obtain ⟨⟨⟨h1, h2⟩, h3⟩, h4⟩ := h
  refine ⟨⟨fun x hx => ?_, fun y hy z => ?_, by simpa using h2, fun y hy z => ?_, by simp [compN, hn], fun i j x e1 e2 => ?_⟩, h4⟩
  · have := h1 _ hx
    show X.env.scope.names.lookup x = some .cell ∨ X.env.scope.names.lookup x = some .free
    rw [O.hsc]
    simp only at this
    split at this
    · rename_i q; exact .inl q
    · rename_i q; exact .inr q
    · cases this
  · have := h1 _ hy
    rw [z] at this
    simp at this
  · have := h1 _ hy
    rw [z] at this
    simp only at this
    split at this
    · assumption
    · cases this
  · have hj : j ∈ caps := List.mem_of_getElem? e2
    have := h3 j hj
    have hi : i < caps.length := (List.getElem?_eq_some_iff.mp e2).1
    unfold compN at e1
    rw [List.getElem?_append_left (by simpa using hi), List.getElem?_map, e2] at e1
    simp only [Option.map_some, Option.some.injEq] at e1
    split at this
    · rename_i y hy
      rw [hy] at e1
      simp only [Option.getD_some] at e1
      subst e1
      rw [O.hN]
      refine ⟨hy, ?_⟩
      split at this
      · assumption
      · cases this
    · cases this
theorem XOk.tg (O : XOk G B Φ k X N sc b w) {tn : Expr} {tg : List Nat} (h : tgB N sc tn tg = true) : PG X tn (gTg tg B.K) ∧ (tnames tn).length = tg.length := by
  unfold tgB at h
  split at h
  · rename_i x p i
    simp only [Bool.and_eq_true, decide_eq_true_eq] at h
    have hl : X.env.scope.names.lookup x = some .local := by
      rw [O.hsc]
      have := h.2
      split at this
      · assumption
      · cases this
    exact ⟨pg_name (by rw [O.hN]; exact O.nd) (by rw [O.hN]; exact h.1) (.inl hl) (.inr hl), rfl⟩
  · cases h
end
end Fg

end
section
set_option Elab.async false
set_option linter.all false
set_option maxRecDepth 100000
set_option autoImplicit false
namespace Fg
open PySem PySem.Spec L2
section
variable {G : Gm} {B : Bd} {Φ : Fns} {k : Nat}
structure Snd (G : Gm) (B : Bd) (Φ : Fns) (k n : Nat) (X : Cx) (N : List Str) (sc : Scope) (b : Bool) (w : XS) : Prop where
  e : ∀ a c, chk G n b N sc (.e a c) = true → PE X a (T B Φ (GX b X w) c)
  t : ∀ a c, chk G n b N sc (.t a c) = true → PT X a (TB B Φ (GX b X w) c) ∧ (∀ op v p, a = .BoolOp op v p → PW X a (TB B Φ (GX b X w) c))
  es : ∀ a c, chk G n b N sc (.es a c) = true → PA X a (TL B Φ (GX b X w) c)
  o : ∀ a c, chk G n b N sc (.o a c) = true → PO X a (TP B Φ (GX b X w) c)
  i : b = false → ∀ a c tg, chk G n b N sc (.i a c) = true → PI X tg a (TIt B Φ (GX b X w) c)
  s : ∀ a c, chk G n b N sc (.s a c) = true → PS X a (TC B Φ (GX b X w) c)
  ss : ∀ a c, chk G n b N sc (.ss a c) = true → PSs X a (TCs B Φ (GX b X w) c)
theorem T_bad {E : Gx} {σ : L2.St} {H : Hp} {Q : VK} (h : T B Φ E .bad σ H Q) : False := by
  obtain ⟨σD, M, F, ρ, S, r, h⟩ := h
  simp only [ev] at h
  exact h
theorem TC_bad {E : Gx} {Dn : Ends} {σ : L2.St} {H : Hp} (h : TC B Φ E .bad Dn σ H) : False := by
  obtain ⟨σD, M, F, ρ, S, r, h⟩ := h
  simp only [ex] at h
  exact h
variable {X : Cx} {N : List Str} {sc : Scope} {b : Bool} {n : Nat} {w : XS}
theorem snd_cst {a : Const} {d : D} {j : Nat} {p : Pos} {E : Gx} (h : cstB a d = true) : PE X (.Constant a j p) (T B Φ E (.k d)) := by
  unfold cstB at h
  split at h
  · rw [of_decide_eq_true h]; exact PE.weak pe_int fun _ _ _ => sim_k rfl
  · rw [of_decide_eq_true h]; exact PE.weak pe_str fun _ _ _ => sim_k rfl
  · rw [of_decide_eq_true h]; exact PE.weak pe_bl fun _ _ _ => sim_k rfl
  · exact PE.weak pe_non fun _ _ _ => sim_k rfl
  · cases h
theorem snd_comp (O : XOk G B Φ k X N sc false w) (ih : Snd G B Φ k n X N sc false w) (ihb : ∀ X' N' sc' w', XOk G B Φ k X' N' sc' true w' → Snd G B Φ k n X' N' sc' true w') {caps tg : List Nat} {elt : Fg.E} {it : Src} {cond : Fg.O} {el tn iter : Expr} {ifs : List Expr} {scope : Scope}
    (h1 : nSet iter = true) (h2 : compB N sc scope caps (tnames tn) = true) (h3 : chk G n false N sc (.i iter it) = true) (h4 : tgB (compN N caps (tnames tn)) (relS scope sc) tn tg = true) (h5 : chk G n true (compN N caps (tnames tn)) (relS scope sc) (.e el elt) = true)
    (h6 : (match ifs, cond with
            | [], .none => true
            | [c], .some d => chk G n true (compN N caps (tnames tn)) (relS scope sc) (.t c d)
            | _, _ => false) = true) :
    CompSc X scope (compN N caps (tnames tn)) caps tg.length ∧ PI X tn iter (TIt B Φ (GX false X w) it) ∧
      (∀ σ cl fp s H C, PG (blkE X scope cl (compN N caps (tnames tn)) fp s H C fun cv x H' => (GX false X w).e cv x σ H') tn (gTg tg B.K) ∧ PTs (blkE X scope cl (compN N caps (tnames tn)) fp s H C fun cv x H' => (GX false X w).e cv x σ H') ifs (TBo B Φ (EB (GX false X w) σ) cond) ∧ PE (blkE X scope cl (compN N caps (tnames tn)) fp s H C fun cv x H' => (GX false X w).e cv x σ H') el (T B Φ (EB (GX false X w) σ) elt)) ∧ ∀ x, foldedSetIterable iter X.env x = pure x := by
  have hlen : (tnames tn).length = tg.length := by
    unfold tgB at h4
    split at h4
    · rfl
    · cases h4
  obtain ⟨C1, C2⟩ := O.comp h2 hlen
  refine ⟨C1, ih.i rfl iter it tn h3, fun σ cl fp s H C => ?_, set_plain h1⟩
  have OB := O.blk (scope := scope) C2 cl fp s H C fun cv x H' => (GX false X w).e cv x σ H'
  have S := ihb _ _ _ _ OB
  refine ⟨(OB.tg h4).1, ?_, S.e el elt h5⟩
  split at h6
  · exact pts_nil
  · rename_i c d
    exact pts_one (S.t c d h6).1
  · cases h6
theorem snd_e (O : XOk G B Φ k X N sc b w) (ih : Snd G B Φ k n X N sc b w) (ihb : ∀ X' N' sc' w', XOk G B Φ k X' N' sc' true w' → Snd G B Φ k n X' N' sc' true w') (a : Expr) (c : Fg.E) (h : chk G (n + 1) b N sc (.e a c) = true) : PE X a (T B Φ (GX b X w) c) := by
  simp only [chk] at h
  split at h
  · rename_i v hv
    unfold one? at hv
    split at hv
    · cases hv
      exact pe_one (ih.e _ _ h)
    · cases hv
  · cases c with
    | bad => exact fun _ _ _ _ _ _ q => (T_bad q).elim
    | v i =>
      simp only at h
      split at h
      · simp only [Bool.and_eq_true, decide_eq_true_eq] at h
        exact PE.weak (pe_var (by rw [O.hN]; exact h.1.1) (O.vis h.1.2) (nD_of h.2).1 (nD_of h.2).2) fun _ _ _ => sim_v
      · cases h
    | k d =>
      simp only at h
      split at h
      · exact snd_cst h
      · cases h
    | g i =>
      simp only at h
      split at h
      · simp only [Bool.and_eq_true, decide_eq_true_eq] at h
        obtain ⟨v, u, q1, q2, q3⟩ := O.cst _ _ h.1.2
        exact PE.weak (pe_glob (O.glo h.1.1) q1 q2 (nD_of h.2).1) fun _ _ _ => sim_g q3
      · cases h
    | tup cs =>
      simp only at h
      split at h
      · simp only [Bool.and_eq_true, decide_eq_true_eq] at h
        obtain ⟨hl, _⟩ := chk_len h.2
        refine PE.weak (pe_tup (ih.es _ _ h.2)) fun _ _ _ => sim_tup fun q => ?_
        rw [evs_esLen q, hl]; exact Nat.le_trans h.1 (by decide)
      · cases h
    | lst fz cs =>
      simp only at h
      split at h
      · simp only [Bool.and_eq_true, decide_eq_true_eq] at h
        obtain ⟨hl, _⟩ := chk_len h.2
        refine PE.weak (pe_lst (ih.es _ _ h.2)) fun _ _ _ => sim_lst fun q => ?_
        rw [evs_esLen q, hl]; exact Nat.le_trans h.1 (by decide)
      · cases h
    | dct0 =>
      simp only at h
      split at h
      · exact PE.weak pe_dnewK fun _ _ _ => sim_dct0
      · cases h
    | op o fz x y =>
      simp only at h
      split at h
      · simp only [Bool.and_eq_true, decide_eq_true_eq] at h
        obtain ⟨⟨h1, h2⟩, h3⟩ := h
        subst h1
        exact PE.weak (pe_op (op_bin O.K o) (ih.e _ _ h2) (ih.e _ _ h3)) fun _ _ _ => sim_op
      · cases h
    | neg x =>
      simp only at h
      split at h
      · exact PE.weak (pe_un un_neg (ih.e _ _ h)) fun _ _ _ => sim_neg
      · cases h
    | not x =>
      simp only at h
      split at h
      · exact PE.weak (pe_not (ih.e _ _ h)) fun _ _ _ => sim_not
      · cases h
    | and x y =>
      simp only at h
      split at h
      · simp only [Bool.and_eq_true] at h
        exact PE.weak (pe_and (ih.e _ _ h.1) (ih.e _ _ h.2)) fun _ _ _ => sim_and
      · cases h
    | or x y =>
      simp only at h
      split at h
      · simp only [Bool.and_eq_true] at h
        exact PE.weak (pe_or (ih.e _ _ h.1) (ih.e _ _ h.2)) fun _ _ _ => sim_or
      · cases h
    | cmp o x y =>
      simp only at h
      split at h
      · simp only [Bool.and_eq_true, decide_eq_true_eq, Bool.not_eq_true'] at h
        obtain ⟨⟨⟨h1, h2⟩, h3⟩, h4⟩ := h
        subst h1
        exact PE.weak (pe_cmpR (op_cmp O.K O.rm' O.dk o) (ih.e _ _ h3) (ih.e _ _ h4) h2) fun _ _ _ => sim_cmp
      · cases h
    | ife t x y =>
      simp only at h
      split at h
      · simp only [Bool.and_eq_true] at h
        exact PE.weak (pe_ifExp (ih.t _ _ h.1.1).1 (ih.e _ _ h.1.2) (ih.e _ _ h.2)) fun _ _ _ => sim_ife
      · cases h
    | idx x y =>
      simp only at h
      split at h
      · simp only [Bool.and_eq_true] at h
        exact PE.weak (pe_ix (ix_all O.K O.dk) (ih.e _ _ h.1.2) (ih.e _ _ h.2) (sl_plain h.1.1)) fun _ _ _ => sim_idx
      · cases h
    | sl fz x lo hi =>
      simp only at h
      split at h
      · simp only [Bool.and_eq_true] at h
        exact PE.weak (pe_slice (sl_all O.K) (ih.e _ _ h.1.1) (ih.o _ _ h.1.2) (ih.o _ _ h.2)) fun _ _ _ => sim_sl
      · cases h
    | call f cs =>
      simp only at h
      split at h
      · rename_i x p as pos _
        simp only [Bool.and_eq_true, decide_eq_true_eq] at h
        obtain ⟨⟨⟨⟨h1, h2⟩, h3⟩, h4⟩, h5⟩ := h
        obtain ⟨fa, fd, ps, q1, q2, q3, q4⟩ := O.fns _ _ _ h3
        obtain ⟨hl, _⟩ := chk_len h5
        cases as with
        | nil =>
          refine PE.weak (pe_callE0 q4 O.rm (O.glo h1) q1 q2 q3 O.fx (nD_of h2).1) fun _ _ _ q => ?_
          have := sim_call (fun z => by rw [evs_esLen z, hl]) q
          cases cs with
          | nil => exact sim_nil this
          | cons _ _ => simp [esLen] at hl
        | cons e es =>
          simp only [List.all_cons, Bool.and_eq_true] at h4
          exact PE.weak (pe_callE q4 O.rm (O.glo h1) q1 q2 q3 O.fx (ih.es _ _ h5) (nD_of h2).1 (star_cons h4.1) (star_any h4.2)) fun _ _ _ => sim_call (fun z => by rw [evs_esLen z, hl])
      · cases h
    | isi x t =>
      simp only at h
      split at h
      · simp only [Bool.and_eq_true, decide_eq_true_eq] at h
        obtain ⟨⟨⟨⟨⟨⟨⟨h1, h2⟩, h3⟩, h4⟩, h5⟩, h6⟩, h7⟩, h8⟩ := h
        subst h1 h2
        refine PE.weak (pe_callB (call_isi O.K O.dk) (O.glo h3) (O.blt _ h5) boot_isinstance (pa_cons (ih.e _ _ h8) (pa_cons (pe_bltn (v := .ty (tyS t)) (O.glo h4) (O.blt _ h6) (boot_ty t) rfl (ty_nn t).1 (ty_nn t).2) pa_nil) (star_cons h7)) (by decide) (by decide) (star_cons h7)) fun _ _ _ => sim_isi
      · cases h
    | blt kd fz cs =>
      simp only at h
      split at h
      · simp only [Bool.and_eq_true, decide_eq_true_eq] at h
        obtain ⟨⟨⟨⟨h1, h2⟩, h3⟩, h4⟩, h5⟩ := h
        have pa := ih.es _ _ h5
        cases kd <;> simp only [bltS] at h1 <;> first | (cases h1; done) | cases h1
        · exact PE.weak (pe_callB (call_lenA O.K O.dk) (O.glo h2) (O.blt _ h3) PySem.boot_len pa (by decide) (by decide) (star_cons h4)) fun _ _ _ => sim_blt
        · exact PE.weak (pe_callB (call_sumA O.K O.calm) (O.glo h2) (O.blt _ h3) boot_sum pa (by decide) (by decide) (star_cons h4)) fun _ _ _ => sim_blt
        · exact PE.weak (pe_callTy (call_tupA O.K) (O.glo h2) (O.blt _ h3) boot_tuple pa (by decide) (by decide) (star_cons h4)) fun _ _ _ => sim_blt
        · exact PE.weak (pe_callTy (call_lstA O.K) (O.glo h2) (O.blt _ h3) boot_list pa (by decide) (by decide) (star_cons h4)) fun _ _ _ => sim_blt
        · exact PE.weak (pe_callTy (call_dctA O.dk) (O.glo h2) (O.blt _ h3) boot_dict pa (by decide) (by decide) (star_cons h4)) fun _ _ _ => sim_blt
      · cases h
    | mth m fz x cs =>
      cases m <;> simp only at h <;> first | (cases h; done) | skip
      split at h
      · simp only [Bool.and_eq_true, decide_eq_true_eq] at h
        obtain ⟨⟨⟨⟨⟨h1, h2⟩, h3⟩, h4⟩, h5⟩, h6⟩ := h
        subst h1
        refine PE.weak (pe_bm PySem.F.plainAttrs_list PySem.F.slot_list_append PySem.F.type_list_append mt_append (ih.e _ _ h5) (ih.es _ _ h6) (base_plain h2) ?_ h4 (star_cons h3)) fun _ _ _ q => ?_
        · rw [star_cons h3]; rfl
        · have := sim_append q
          rw [O.K] at this
          exact this
      · cases h
    | comp fz caps tg elt it cond =>
      simp only at h
      split at h
      · simp only [Bool.and_eq_true, Bool.not_eq_true'] at h
        obtain ⟨⟨⟨⟨⟨⟨h0, h1⟩, h2⟩, h3⟩, h4⟩, h5⟩, h6⟩ := h
        subst h0
        obtain ⟨C1, C2, C3, C4⟩ := snd_comp O ih ihb h1 h2 h3 h4 h5 h6
        exact PE.weak (pe_thaw (pe_comp O.calm C1 C2 O.fr O.fx C3 C4)) fun _ _ _ => sim_comp
      · cases h
    | chain _ _ _ _ _ => cases h
    | tru _ => cases h
    | fld x f =>
      simp only at h
      split at h
      · simp only [Bool.and_eq_true, decide_eq_true_eq] at h
        obtain ⟨⟨⟨h1, h2⟩, h3⟩, h4⟩ := h
        subst h1
        exact PE.weak (pe_fld (ih.e _ _ h4) (base_plain h3)) fun _ _ _ => sim_fld fun c C hc => ⟨(O.cls c C hc).1, (O.cls c C hc).2 _ h2⟩
      · cases h
    | umt c m nm x cs =>
      simp only at h
      split at h
      · rename_i o y ap as cp _
        simp only [Bool.and_eq_true, decide_eq_true_eq] at h
        obtain ⟨⟨⟨⟨⟨⟨⟨h1, h2⟩, h3⟩, h4⟩, h5⟩, h6⟩, h7⟩, h8⟩ := h
        subst h1
        obtain ⟨C, fa, fd, ps, q1, q2, q3, q4⟩ := O.mts _ _ _ _ h5
        obtain ⟨hl, _⟩ := chk_len h8
        cases as with
        | nil =>
          refine PE.weak (pe_methE0 (ih.e _ _ h7) (O.cls _ _ q1).1 q2 q4 O.rm q3 O.fx (meth_tree (base_plain h2) h6 h4 h3)) fun _ _ _ q => ?_
          have := sim_umt (n := 1) q1 (fun z => by rw [evs_esLen z, hl]; rfl) q
          cases cs with
          | nil =>
            obtain ⟨σD, M, F, ρ, S, r, z⟩ := this
            exact ⟨σD, M, F, ρ, S, r, PostG.imp z fun v H' ⟨a, dx, fs, z1, z2, z3, z4⟩ => ⟨a, dx, fs, z1, z2, z3, sim_nil z4⟩⟩
          | cons _ _ => simp [esLen] at hl
        | cons e es =>
          simp only [List.all_cons, Bool.and_eq_true] at h6
          exact PE.weak (pe_methE (ih.e _ _ h7) (O.cls _ _ q1).1 q2 q4 O.rm q3 O.fx (ih.es _ _ h8) (star_cons h6.1) (star_any h6.2) (meth_tree (base_plain h2) (by simp [h6.1, h6.2]) h4 h3)) fun _ _ _ => sim_umt q1 (fun z => by rw [evs_esLen z, hl])
      · cases h
    | new c i cs =>
      simp only at h
      split at h
      · rename_i x p as pos _
        simp only [Bool.and_eq_true, decide_eq_true_eq] at h
        obtain ⟨⟨⟨⟨h1, h2⟩, h3⟩, h4⟩, h5⟩ := h
        obtain ⟨C, fa, fd, ps, q1, q2, q3, q4, q5⟩ := O.mks _ _ _ _ h3
        obtain ⟨hl, _⟩ := chk_len h5
        rcases q5 with ⟨j, rfl, q5⟩ | q5
        · cases as with
          | nil =>
            refine PE.weak (pe_makeE0 q3 q5 O.rm (O.glo h1) q1 q4 O.fx (nD_of h2).1) fun _ _ _ q => ?_
            have := sim_new (n := 1) q2 (fun z => by rw [evs_esLen z, hl]; rfl) q
            cases cs with
            | nil => exact sim_nil this
            | cons _ _ => simp [esLen] at hl
          | cons e es =>
            simp only [List.all_cons, Bool.and_eq_true] at h4
            exact PE.weak (pe_makeE q3 q5 O.rm (O.glo h1) q1 q4 O.fx (ih.es _ _ h5) (nD_of h2).1 (star_cons h4.1) (star_any h4.2)) fun _ _ _ => sim_new q2 (fun z => by rw [evs_esLen z, hl])
        · cases as with
          | nil =>
            intro pins s σ H Q I q
            have := sim_newN q5 q
            cases cs with
            | nil => exact (sim_nil this).elim
            | cons _ _ => simp [esLen] at hl
          | cons e es =>
            simp only [List.all_cons, Bool.and_eq_true] at h4
            exact PE.weak (pe_makeN q3 (O.glo h1) q1 (ih.es _ _ h5) (nD_of h2).1 (star_cons h4.1) (star_any h4.2)) fun _ _ _ => sim_newN q5
      · cases h
    | mx hi x y =>
      simp only at h
      split at h
      · simp only [Bool.and_eq_true, decide_eq_true_eq] at h
        obtain ⟨⟨⟨⟨⟨⟨h1, h2⟩, h3⟩, h4⟩, h5⟩, h6⟩, h7⟩ := h
        have pa := pa_cons (ih.e _ _ h6) (pa_cons (ih.e _ _ h7) pa_nil (star_cons h5)) (star_cons h4)

        cases hi with
        | true =>
          subst h1
          exact PE.weak (pe_callB (call_max2 O.calm) (O.glo h2) (O.blt _ h3) PyProof.Rows.boot_max pa (by decide) (by decide) (star_cons h4) (star_any (es := [_]) (by simp [h5]))) fun _ _ _ => sim_max
        | false =>
          subst h1
          exact PE.weak (pe_callB (call_min2 O.calm) (O.glo h2) (O.blt _ h3) PyProof.Rows.boot_min pa (by decide) (by decide) (star_cons h4) (star_any (es := [_]) (by simp [h5]))) fun _ _ _ => sim_min
      · cases h
    | lrg fz x y =>
      simp only at h
      split at h
      · simp only [Bool.and_eq_true, decide_eq_true_eq] at h
        obtain ⟨⟨⟨⟨⟨⟨⟨⟨⟨h1, h2⟩, h3⟩, h4⟩, h5⟩, h6⟩, h7⟩, h8⟩, h9⟩, h10⟩ := h
        subst h1 h2
        have pa := pa_cons (ih.e _ _ h9) (pa_cons (ih.e _ _ h10) pa_nil (star_cons h8)) (star_cons h7)
        exact PE.weak (pe_lrg O.calm (O.glo h3) (O.blt _ h5) (O.glo h4) (O.blt _ h6) pa (by rw [star_cons h7, star_cons h8]; rfl) (by rw [star_cons h8]; rfl)) fun _ _ _ => sim_lrg
      · cases h
end
end Fg

end
section
set_option Elab.async false
set_option linter.all false
set_option maxRecDepth 100000
set_option autoImplicit false
namespace Fg
open PySem PySem.Spec L2
section
variable {G : Gm} {B : Bd} {Φ : Fns} {k : Nat} {X : Cx} {N : List Str} {sc : Scope} {b : Bool} {n : Nat} {w : XS}
theorem snd_t (O : XOk G B Φ k X N sc b w) (ih : Snd G B Φ k n X N sc b w) (a : Expr) (c : Fg.E) (h : chk G (n + 1) b N sc (.t a c) = true) :
    PT X a (TB B Φ (GX b X w) c) ∧ (∀ op v p, a = .BoolOp op v p → PW X a (TB B Φ (GX b X w) c)) := by
  simp only [chk] at h
  split at h
  · rename_i v hv
    unfold one? at hv
    split at hv
    · rename_i op w p
      cases hv
      have pt := (ih.t _ _ h).1
      have pw : PW X (.BoolOp op [v] p) (TB B Φ (GX b X w) c) := by
        cases op
        · exact pw_and1 pt
        · exact pw_or1 pt
      exact ⟨pw.pt, fun _ _ _ _ => pw⟩
    · cases hv
  · rename_i hone
    have notB : ∀ {P : Prop}, nTst a = true → (∀ op v p, a = .BoolOp op v p → P) := fun hq op v p e => by subst e; simp [nTst] at hq
    have plain : nTst a = true → chk G n b N sc (.e a c) = true → PT X a (TB B Φ (GX b X w) c) ∧ (∀ op v p, a = .BoolOp op v p → PW X a (TB B Φ (GX b X w) c)) := fun h1 h2 =>
      ⟨pt_val (ih.e _ _ h2) (tst_plain h1), notB h1⟩
    have pln : (nTst a && chk G n b N sc (.e a c)) = true → PT X a (TB B Φ (GX b X w) c) ∧ (∀ op v p, a = .BoolOp op v p → PW X a (TB B Φ (GX b X w) c)) := fun hq => by
      simp only [Bool.and_eq_true] at hq; exact plain hq.1 hq.2
    cases c with
    | bad => exact ⟨fun _ _ _ _ _ _ q => (T_bad q).elim, fun _ _ _ _ _ _ _ _ _ _ _ q => (T_bad q).elim⟩
    | cmp o x y =>
      simp only at h
      split at h
      · simp only [Bool.and_eq_true, decide_eq_true_eq, Bool.not_eq_true'] at h
        obtain ⟨⟨⟨h1, h2⟩, h3⟩, h4⟩ := h
        subst h1
        exact ⟨PT.weak (pt_cmpR (op_cmp O.K O.rm' O.dk o) (ih.e _ _ h3) (ih.e _ _ h4) h2) fun _ _ _ => sim_cmp, fun _ _ _ e => by cases e⟩
      · cases h
    | not x =>
      simp only at h
      split at h
      · exact ⟨PT.weak (pt_not (ih.t _ _ h).1) fun _ _ _ => simB_not, fun _ _ _ e => by cases e⟩
      · cases h
    | and x y =>
      simp only at h
      split at h
      · simp only [Bool.and_eq_true] at h
        have pw := PW.weak (pw_and (ih.t _ _ h.1).1 ((ih.t _ _ h.2).2 _ _ _ rfl)) fun _ _ _ => simB_and
        exact ⟨pw.pt, fun _ _ _ _ => pw⟩
      · cases h
    | or x y =>
      simp only at h
      split at h
      · simp only [Bool.and_eq_true] at h
        have pw := PW.weak (pw_or (ih.t _ _ h.1).1 ((ih.t _ _ h.2).2 _ _ _ rfl)) fun _ _ _ => simB_or
        exact ⟨pw.pt, fun _ _ _ _ => pw⟩
      · cases h
    | v i => exact pln h
    | k d => exact pln h
    | g i => exact pln h
    | tup cs => exact pln h
    | lst fz cs => exact pln h
    | dct0 => exact pln h
    | op o fz x y => exact pln h
    | neg x => exact pln h
    | chain _ _ _ _ _ => exact pln h
    | tru _ => exact pln h
    | ife _ _ _ => exact pln h
    | idx _ _ => exact pln h
    | sl _ _ _ _ => exact pln h
    | call _ _ => exact pln h
    | isi _ _ => exact pln h
    | blt _ _ _ => exact pln h
    | mth _ _ _ _ => exact pln h
    | comp _ _ _ _ _ _ => exact pln h
    | fld _ _ => exact pln h
    | umt _ _ _ _ _ => exact pln h
    | new _ _ _ => exact pln h
    | mx _ _ _ => exact pln h
    | lrg _ _ _ => exact pln h
theorem snd_i (O : XOk G B Φ k X N sc b w) (ih : Snd G B Φ k n X N sc b w) (hb : b = false) (a : Expr) (c : Src) (tg : Expr) (h : chk G (n + 1) b N sc (.i a c) = true) : PI X tg a (TIt B Φ (GX b X w) c) := by
  subst hb
  simp only [chk] at h
  cases c with
  | e c =>
    simp only [Bool.and_eq_true] at h
    exact PI.weak (pi_any O.K (ih.e _ _ h.2)) fun _ _ _ => sim_it
  | rng c =>
    simp only at h
    split at h
    · simp only [Bool.and_eq_true, decide_eq_true_eq] at h
      obtain ⟨⟨⟨⟨h1, h2⟩, h3⟩, h4⟩, h5⟩ := h
      subst h1
      exact PI.weak (pi_range1 (O.glo h2) (O.blt _ h3) (pa_cons (ih.e _ _ h5) pa_nil (star_cons h4)) (star_cons h4)) fun _ _ _ => sim_rng
    · cases h
  | rng2 _ _ => cases h
  | enum _ => cases h
  | items _ => cases h
  | rev _ => cases h
  | zip _ _ => cases h
theorem swap_eq (O : XOk G B Φ k X N sc b w) {el tn iter : Expr} {ifs : List Expr} {scope : Scope} {lp px p : Pos} {x : Str} : swapsWith (.ListComp el [⟨tn, iter, ifs, 0⟩] scope lp) (some (.Name x px)) p.line X.env = pure (swapB sc scope x px lp) := by
  rw [← O.hsc]; rfl
theorem snd_s (O : XOk G B Φ k X N sc b w) (ih : Snd G B Φ k n X N sc b w) (ihb : ∀ X' N' sc' w', XOk G B Φ k X' N' sc' true w' → Snd G B Φ k n X' N' sc' true w') (a : Stmt) (c : S) (h : chk G (n + 1) b N sc (.s a c) = true) : PS X a (TC B Φ (GX b X w) c) := by
  have hp : PassesOwn (model X.prog X.w) X.A X.env X.xe := own_passes O.fr O.fo O.fx
  simp only [chk] at h
  cases c with
  | bad => exact fun _ _ _ _ _ _ q => (TC_bad q).elim
  | set i c =>
    simp only at h
    split at h
    · rename_i x px e p
      simp only [Bool.and_eq_true, decide_eq_true_eq, Bool.not_eq_true'] at h
      obtain ⟨⟨⟨h1, h2⟩, h3⟩, h4⟩ := h
      subst h3
      have st : chk G n false N sc (.e e c) = true → swapsWith e (some (.Name x px)) p.line X.env = pure false → PS X (.Assign [.Name x px] e p) (TC B Φ (GX false X w) (.set i c)) := fun q w =>
        PS.weak (ps_set (by rw [O.hN]; exact O.nd) (by rw [O.hN]; exact h1) (O.loc h2) (ih.e _ _ q) w (.inl (O.fn rfl x))) fun _ _ _ => sim_set
      have pln : (nComp e && chk G n false N sc (.e e c)) = true → PS X (.Assign [.Name x px] e p) (TC B Φ (GX false X w) (.set i c)) := fun q => by
        simp only [Bool.and_eq_true] at q; exact st q.2 (no_swap q.1)
      cases c with
      | comp fz caps tg elt it cond =>
        simp only at h4
        split at h4
        · rename_i el tn iter ifs scope lp
          split at h4
          · rename_i hs
            simp only [Bool.and_eq_true] at h4
            obtain ⟨⟨⟨⟨⟨⟨k1, k2⟩, k3⟩, k4⟩, k5⟩, k6⟩, k7⟩ := h4
            obtain ⟨C1, C2, C3, C4⟩ := snd_comp O ih ihb k1 k2 k3 k4 k5 k6
            have hl : X.env.scope.names.lookup x = some .local := by
              rw [O.hsc]
              split at k7
              · assumption
              · cases k7
            refine PS.weak (ps_thaw (ps_setc (by rw [O.hN]; exact O.nd) (by rw [O.hN]; exact h1) hl O.calm C1 C2 O.fr O.fx C3 C4 (by rw [swap_eq O, hs]))) fun D σ H q => ?_
            exact sim_comp (sim_set q)
          · rename_i hs
            exact st h4 (by rw [swap_eq O, Bool.eq_false_iff.mpr hs])
        · cases h4
      | v _ => exact pln h4
      | k _ => exact pln h4
      | g _ => exact pln h4
      | tup _ => exact pln h4
      | lst _ _ => exact pln h4
      | dct0 => exact pln h4
      | op _ _ _ _ => exact pln h4
      | neg _ => exact pln h4
      | cmp _ _ _ => exact pln h4
      | chain _ _ _ _ _ => exact pln h4
      | and _ _ => exact pln h4
      | or _ _ => exact pln h4
      | not _ => exact pln h4
      | tru _ => exact pln h4
      | ife _ _ _ => exact pln h4
      | idx _ _ => exact pln h4
      | sl _ _ _ _ => exact pln h4
      | call _ _ => exact pln h4
      | isi _ _ => exact pln h4
      | blt _ _ _ => exact pln h4
      | mth _ _ _ _ => exact pln h4
      | fld _ _ => exact pln h4
      | umt _ _ _ _ _ => exact pln h4
      | new _ _ _ => exact pln h4
      | mx _ _ _ => exact pln h4
      | lrg _ _ _ => exact pln h4
      | bad => exact pln h4
    · cases h
  | seti x y c =>
    simp only at h
    split at h
    · simp only [Bool.and_eq_true] at h
      obtain ⟨⟨⟨h1, h2⟩, h3⟩, h4⟩ := h
      exact PS.weak (ps_seta O.rm' (ih.e _ _ h3) (ih.e _ _ h4) (ih.e _ _ h2) (no_swap h1)) fun _ _ _ => sim_seti
    · cases h
  | ex c =>
    simp only at h
    split at h
    · simp only [Bool.and_eq_true] at h
      exact PS.weak (ps_expr (ih.e _ _ h.2) (no_swap h.1)) fun _ _ _ => sim_ex
    · cases h
  | ret c =>
    simp only at h
    split at h
    · exact PS.weak (ps_ret (ih.e _ _ h)) fun _ _ _ => sim_ret
    · cases h
  | ret0 =>
    simp only at h
    split at h
    · exact PS.weak ps_retN fun _ _ _ => sim_ret0
    · cases h
  | ifs c x y =>
    simp only at h
    split at h
    · simp only [Bool.and_eq_true] at h
      exact PS.weak (ps_if (ih.t _ _ h.1.1).1 (ih.ss _ _ h.1.2) (ih.ss _ _ h.2)) fun _ _ _ => sim_ifs
    · cases h
  | «for» tg it x =>
    simp only at h
    split at h
    · simp only [Bool.and_eq_true, Bool.not_eq_true'] at h
      obtain ⟨⟨⟨⟨h0, h1⟩, h2⟩, h3⟩, h4⟩ := h
      subst h0
      exact PS.weak (ps_thaw (ps_for hp O.calm (ih.i rfl _ _ _ h2) (O.tg h3).1 (ih.ss _ _ h4) (set_plain h1))) fun _ _ _ => sim_for
    · cases h
  | «while» c x =>
    simp only at h
    split at h
    · simp only [Bool.and_eq_true] at h
      exact PS.weak (ps_while hp (ih.t _ _ h.1).1 (ih.ss _ _ h.2)) fun _ _ _ => sim_while
    · cases h
  | brk =>
    simp only at h
    split at h
    · exact PS.weak ps_break fun _ _ _ => sim_brk
    · cases h
  | cont =>
    simp only at h
    split at h
    · exact PS.weak ps_continue fun _ _ _ => sim_cont
    · cases h
  | pass =>
    simp only at h
    split at h
    · exact PS.weak ps_pass fun _ _ _ => sim_pass
    · cases h
  | setf x f c =>
    simp only at h
    split at h
    · simp only [Bool.and_eq_true, decide_eq_true_eq] at h
      obtain ⟨⟨⟨⟨h1, h2⟩, h3⟩, h4⟩, h5⟩ := h
      subst h1
      exact PS.weak (ps_fld (ih.e _ _ h5) (ih.e _ _ h4) (no_swap h3)) fun _ _ _ => sim_setf fun c C hc => ⟨(O.cls c C hc).1, (O.cls c C hc).2 _ h2⟩
    · cases h
  | unp _ _ => cases h
  | raise _ _ => cases h
  | «try» _ _ _ => cases h
theorem sound : ∀ (n : Nat) {X : Cx} {N : List Str} {sc : Scope} {b : Bool} {w : XS}, XOk G B Φ k X N sc b w → Snd G B Φ k n X N sc b w
  | 0, X, N, sc, b, w, O => ⟨fun _ _ h => by simp [chk] at h, fun _ _ h => by simp [chk] at h, fun _ _ h => by simp [chk] at h, fun _ _ h => by simp [chk] at h, fun _ _ _ _ h => by simp [chk] at h, fun _ _ h => by simp [chk] at h, fun _ _ h => by simp [chk] at h⟩
  | n + 1, X, N, sc, b, w, O => by
    have ih := sound n O
    have ihb := fun X' N' sc' w' (O' : XOk G B Φ k X' N' sc' true w') => sound n O'
    refine ⟨snd_e O ih ihb, snd_t O ih, fun a c h => ?_, fun a c h => ?_, fun hb => snd_i O ih hb, snd_s O ih ihb, fun a c h => ?_⟩
    · cases c with
      | nil =>
        cases a with
        | nil => exact PA.weak pa_nil fun _ _ _ => sim_nil
        | cons _ _ => simp [chk] at h
      | cons c cs =>
        cases a with
        | nil => simp [chk] at h
        | cons a as =>
          simp only [chk, Bool.and_eq_true] at h
          exact PA.weak (pa_cons (ih.e _ _ h.1.2) (ih.es _ _ h.2) (star_cons h.1.1)) fun _ _ _ => sim_cons
    · cases c with
      | none =>
        cases a with
        | none => exact PO.weak po_none fun _ _ _ => sim_o0
        | some _ => simp [chk] at h
      | some c =>
        cases a with
        | none => simp [chk] at h
        | some a =>
          simp only [chk] at h
          exact PO.weak (po_some (ih.e _ _ h)) fun _ _ _ => sim_o1
    · cases c with
      | nil =>
        cases a with
        | nil => exact PSs.weak pss_nil fun _ _ _ => sim_snil
        | cons _ _ => simp [chk] at h
      | cons c cs =>
        cases a with
        | nil => simp [chk] at h
        | cons a as =>
          simp only [chk, Bool.and_eq_true] at h
          exact PSs.weak (pss_cons (ih.s _ _ h.1) (ih.ss _ _ h.2)) fun _ _ _ => sim_scons
end
end Fg

end
section
set_option Elab.async false
set_option linter.all false
set_option maxRecDepth 100000
set_option autoImplicit false
namespace Fg
open PySem PySem.Spec L2

/-! ### the module's own dicts -/
inductive EnV : List DictEntry → List (Key × V) → Prop
  | nil : EnV [] []
  | cons {h : Int} {x : Str} {t : Tok} {u : Value} {v : V} {es : List DictEntry} {kvs : List (Key × V)} : RelV v u → EnV es kvs → EnV (⟨h, .str x t, u⟩ :: es) ((Sum.inr x, v) :: kvs)
def KDk (w : World) (K : W.Frag) (a : Addr) (kvs : List (Key × V)) : Prop :=
  kvs.length ≤ sizeLine ∧ (a == sysModules) = false ∧ (kvs.map (·.1)).Nodup ∧ ∃ es n, K.lookup a = some ⟨.type "dict", none, .dict es n, #[]⟩ ∧ W.KeysLit w.params es.toList ∧ EnV es.toList kvs
theorem EnV.vs {prog : Program} {w : World} : ∀ {es : List DictEntry} {kvs : List (Key × V)}, EnV es kvs → ∃ vs, KV kvs vs ∧ Pairs (mixKind prog w) es vs ∧ vs.map (·.1) = kvs.map (·.1)
  | _, _, .nil => ⟨[], .nil, .nil, rfl⟩
  | _, _, .cons (h := h) (x := x) (t := t) (u := u) r q => by
    obtain ⟨vs, h1, h2, h3⟩ := EnV.vs q
    exact ⟨(Sum.inr x, u) :: vs, .cons ⟨rfl, r⟩ h1, .cons (keyIs_str x t) rfl h2, by simp [h3]⟩
theorem KDk.ok {prog : Program} {w : World} {K : W.Frag} {a : Addr} {kvs : List (Key × V)} (d : KDk w K a kvs) (h : Heap) (X : K.In h) : kvs.length ≤ sizeLine ∧ (a == sysModules) = false ∧ ∃ vs, KV kvs vs ∧ h.DictOf (mixKind prog w) a vs := by
  obtain ⟨h1, h2, h3, es, n, h4, h5, h6⟩ := d
  obtain ⟨vs, q1, q2, q3⟩ := EnV.vs (prog := prog) (w := w) h6
  refine ⟨h1, h2, vs, q1, _, es, n, X _ _ h4, ⟨rfl, rfl, rfl⟩, rfl, fun e he => ?_, q2, by rw [q3]; exact h3⟩
  obtain ⟨x, t, e1, e2⟩ := h5.all e (Array.mem_toList_iff.mpr he)
  exact ⟨Sum.inr x, by rw [e1]; exact keyIs_str x t, e2⟩
/-- what a law's text stands on -/
def BdOf (w : World) (K : W.Frag) (cl : Nat → Option Addr) : Bd := ⟨K, KDk w K, cl, fun _ _ => False⟩
theorem bd_dk {X : Cx} {cl : Nat → Option Addr} : DkOk (BdOf X.w X.K cl) X := fun a kvs h hp KX => KDk.ok h hp KX

/-- the def i of the mirror is this one of the text -/
def FnAt (G : Gm) (P : Prg) (K : W.Frag) (i m : Nat) (fa : Addr) (fd : FuncData) (ps : List Str) : Prop := ∃ x qual st N fn, Fun K x qual st fa fd ∧ P.fn i = some fn ∧ FnScope N ps (defScope st) ∧ ps.length = m ∧ fn.np = m ∧ fn.ns = N.length ∧ fn.dfl = [] ∧ chk G 200 false N (defScope st) (.ss (defBody st) fn.body) = true
structure Md (G : Gm) (P : Prg) (w : World) (K : W.Frag) (mg : Str → Option Value) (cl : Nat → Option Addr) : Prop where
  cst : ∀ x i, G.cst.lookup x = some i → ∃ v u, mg x = some u ∧ RelV v u ∧ ∀ d, P.glob i = some d → ∀ F ρ H, RD (BdOf w K cl) F ρ H d v
  blt : ∀ x, G.blts.contains x = true → mg x = none
  fns : ∀ f i m, G.fns.lookup f = some (i, m) → ∃ fa fd ps, mg f = some (.ref fa) ∧ W.keepIn K (.ref fa) = true ∧ Binds K fd ps [] ∧ FnAt G P K i m fa fd ps
  cls : ∀ c C, cl c = some C → Cls K C ∧ ∀ f, G.flds.contains f = true → NoAttr K C f
  mts : ∀ c nm i m, G.mts.lookup (c, nm) = some (i, m) → ∃ C fa fd ps, cl c = some C ∧ Meth K C nm fa ∧ Binds K fd ps [] ∧ FnAt G P K i m fa fd ps
  mks : ∀ x c i m, G.cls.lookup x = some (c, i, m) → ∃ C fa fd ps, mg x = some (.ref C) ∧ cl c = some C ∧ Mk K C fa ∧ Binds K fd ps [] ∧ FnAt G P K i m fa fd ps
section
variable {G : Gm} {P : Prg} {w : World} {K : W.Frag} {mg : Str → Option Value} {prog : Program} {base : Heap}
theorem start_rs {B : Bd} {F : Addr → Prop} {ρ : List Addr} {H : Hp} {N : List Str} {ds : List D} {vs : List V} {n : Nat} (r : RDs B F ρ H ds vs) (hn : n = N.length - vs.length) : RS B F ρ H (ds.map some ++ List.replicate n none) (L2.start N vs) := by
  subst hn
  refine ⟨by simp [L2.start, RDs.length r], fun i d q => ?_⟩
  by_cases hi : i < ds.length
  · rw [List.getElem?_append_left (by simpa using hi), List.getElem?_map] at q
    cases hd : ds[i]? with
    | none => rw [hd] at q; cases q
    | some e =>
      rw [hd] at q
      simp only [Option.map_some, Option.some.injEq] at q
      subst q
      obtain ⟨v, h1, h2⟩ := RDs.get r hd
      refine ⟨v, ?_, h2⟩
      unfold L2.start
      rw [List.getElem?_append_left (by rw [List.length_map, ← RDs.length r]; exact hi), List.getElem?_map, h1]; rfl
  · rw [List.getElem?_append_right (by simpa using Nat.le_of_not_lt hi), List.getElem?_replicate] at q
    split at q <;> cases q
theorem retn_post {B : Bd} {F F' : Addr → Prop} {ρ ρ' : List Addr} {H H' : Hp} {M M' : MH} {d : D} {v : V} {kp : Bool} {Q : VK} {X : XK} (S : SR B F ρ M H) (h : Post B (retn kp M d M') F ρ H Q X) (e : Ext F ρ H F' ρ' H') (S' : SR B F' ρ' M' H') (rd : RD B F' ρ' H' d v) : Q v H' := by
  unfold retn at h
  split at h
  · rename_i hk
    split at h
    · rename_i hn
      exact h F' ρ H' v e.cut (S.cut S' e hk.2) (RD.cut e.r (by rw [S.len]; exact hn) rd)
    · rename_i hn
      split at h
      · rename_i n
        split at h
        · rename_i ds hM
          split at h
          · rename_i hns
            simp only [RD] at rd
            obtain ⟨a, h1, rfl⟩ := rd
            obtain ⟨vs, h2, h3⟩ := S'.obj n a _ h1 hM
            have hlt : ¬ n < M.length := by simpa [nr] using hn
            have ha : a ∉ ρ := fun z => by
              obtain ⟨j, hj, ej⟩ := List.mem_iff_getElem.mp z
              have q : ρ'[j]? = some a := e.at (by rw [List.getElem?_eq_getElem hj, ej])
              obtain ⟨j1, q1⟩ := List.getElem?_eq_some_iff.mp q
              obtain ⟨j2, q2⟩ := List.getElem?_eq_some_iff.mp h1
              have := (List.getElem_inj S'.nd).mp (q1.trans q2.symm)
              rw [S.len] at hj
              omega
            have hHa : H a = none := (e.n a (List.mem_of_getElem? h1)).resolve_left ha
            have Sc := S.cut S' e hk.2
            have r3 := RDs.cut e.r (by rw [S.len]; exact hns) h3
            have xt : Ex1 F' ρ H' (fun b => F' b ∨ b = a) ρ H' := ⟨fun _ q => .inl q, fun _ _ _ => rfl, List.prefix_refl _⟩
            have ec := e.cut
            refine h (fun b => F' b ∨ b = a) ρ H' (.ref a) ⟨⟨ec.s, fun b q => .inl (ec.f b q), ec.h, ec.r, ec.n, fun b q => q.elim (ec.g b) fun z => .inr (.inl (z ▸ hHa))⟩, ec.z⟩ (Sc.take ha (by rw [h2]; simp)) ?_
            simp only [RD]
            exact ⟨a, vs, rfl, .inl ⟨.inr rfl, .inl h2⟩, RDs.mono1 xt _ _ r3⟩
          · exact h F' ρ' H' v e S' rd
        · exact h F' ρ' H' v e S' rd
      · exact h F' ρ' H' v e S' rd
  · exact h F' ρ' H' v e S' rd
theorem retx_post {B : Bd} {F F' : Addr → Prop} {ρ ρ' : List Addr} {H H' : Hp} {M M' : MH} {c : Nat} {cv : Value} {x : Option Addr} {Q : VK} {X : XK} (S : SR B F ρ M H) (h : Post B (retx M c M') F ρ H Q X) (e : Ext F ρ H F' ρ' H') (S' : SR B F' ρ' M' H') (q : B.exc c cv) : X cv x H' := by
  unfold retx at h
  split at h
  · rename_i hk
    exact h F' ρ H' cv x e.cut (S.cut S' e hk) q
  · exact h F' ρ' H' cv x e S' q
theorem thws_inv {X : Cx} {pins : List (Addr × Obj)} {σ : L2.St} {H H' : Hp} {s : Shared} (I : Inv X pins σ H s) (t : Thws (thX X) H H') : Inv X pins σ H' s := by
  induction t with
  | refl => exact I
  | step t _ ih => exact ih (inv_thaw I t)
theorem thws_none {th : Addr → Prop} {H H' : Hp} (t : Thws th H H') {b : Addr} (h : H' b ≠ none) : H b ≠ none := by
  induction t with
  | refl => exact h
  | step t _ ih =>
    have := ih h
    rcases t with rfl | ⟨a, o, kvs, _, h1, rfl⟩
    · exact this
    · by_cases e : b = a
      · subst e; rw [h1]; simp
      · rw [upd_ne e] at this; exact this
theorem fly_thaw {X : Cx} {w : XS} {e : Value} {s : Shared} (h : Fly X (GX false X w).e e s) : Fly X w e s := by
  obtain ⟨pins, σ, H, a, a0, C, B, h1, I, up, cal, hp, H', t, q⟩ := h
  exact ⟨pins, σ, H', a, a0, C, B, h1, thws_inv I t, up, fun b hb hf => cal b (hb.imp (thws_none t) id) hf, hp, q⟩
theorem new_thaw {X : Cx} {w : XS} {e : Value} {s : Shared} (h : New X (GX false X w).e e s) : New X w e s := by
  obtain ⟨pins, σ, H, a, C, vs, hh, h1, I, made, H', t, q⟩ := h
  exact ⟨pins, σ, H', a, C, vs, hh, h1, thws_inv I t, made, q⟩
/-- a def's body, with the wish that the checker's readings want -/
abbrev bodyX (X : Cx) (w : XS) : Cx := X.wish fun e s => Fly X (GX false X w).e e s ∨ New X (GX false X w).e e s
theorem fun_okE {x qual : Str} {st : Stmt} {f : Addr} {fd : FuncData} {N ps : List Str} {k : Nat} {sp : Sp} (F : Fun K x qual st f fd) (S : FnScope N ps (defScope st)) (len : ∀ vs H Q E, sp vs H Q E → vs.length = ps.length)
    (hbody : ∀ (cdv : Value) (A : Around) (outer : List Env) (s : Shared) (H : Hp) (vs : List V) (Q : VK) (E : XK), Room k (A.deeper (PyProof.Rows.envOfC qual (defScope st) s.heap.objs.size f cdv)) → sp vs H Q E →
      ∃ t, PSs (bodyX (cxOf (CXE prog w) prog w K mg base N qual (defScope st) f cdv A outer s H E) fun cv x _ H' => E cv x H') (defBody st) t ∧ t { nx := fun _ H' => Q .non H', rt := Q } (L2.start N vs) H) : FnOk prog w K mg base (CXE prog w) (k + 1) f fd ps sp := by
  obtain ⟨oc, od, kV, doc, pm, an, cdv, ct, osl, rfl, lk, hcd⟩ := F.ex
  refine fn_of lk hcd S len fun A outer s H vs Q E hr h => ?_
  obtain ⟨t, h1, h2⟩ := hbody cdv A outer s H vs Q E hr h
  refine ⟨t, fun pins s1 σ H1 D I q => ?_, h2⟩
  exact wpAny_mono (h1 pins s1 σ H1 D (I.wish _) q) (fun _ _ z => z.unwish) fun e s2 z => z.elim (fun z => leave_fly e s2 (fly_thaw z)) fun z => leave_new e s2 (new_thaw z)
theorem step_ok {cl : Nat → Option Addr} (D : Md G P w K mg cl) {k : Nat} (ih : ∀ (i m : Nat) (fa : Addr) (fd : FuncData) (ps : List Str), FnAt G P K i m fa fd ps → FnOk prog w K mg base (CXE prog w) k fa fd ps (spF (BdOf w K cl) (callF P k) i m))
    (ih0 : ∀ j, k = j + 1 → ∀ (i m : Nat) (fa : Addr) (fd : FuncData) (ps : List Str), FnAt G P K i m fa fd ps → FnOk prog w K mg base (CXE prog w) j fa fd ps (spF (BdOf w K cl) (callF P j) i m))
    {f qual : Str} {i m : Nat} {fa : Addr} {fd : FuncData} {ps : List Str} {st : Stmt} {N : List Str} {fn : Fn} (h2 : Fun K f qual st fa fd) (h4 : P.fn i = some fn) (h5 : FnScope N ps (defScope st)) (h6 : ps.length = m) (h7 : fn.np = m) (h8 : fn.ns = N.length) (h9 : fn.dfl = []) (h10 : chk G 200 false N (defScope st) (.ss (defBody st) fn.body) = true) :
    FnOk prog w K mg base (CXE prog w) (k + 1) fa fd ps (spF (BdOf w K cl) (callF P (k + 1)) i m) := by
    refine fun_okE h2 h5 (fun vs H Q E q => by rw [q.1, h6]) fun cdv A outer s H vs Q E hr q => ?_
    let X0 := cxOf (CXE prog w) prog w K mg base N qual (defScope st) fa cdv A outer s H E
    obtain ⟨hl, ds, M, F, ρ, S, rd, post⟩ := q
    have O : XOk G (BdOf w K cl) (callF P k) k (bodyX X0 fun cv x _ H' => E cv x H') N (defScope st) false (fun cv x _ H' => E cv x H') :=
      ⟨rfl, h5.nd, rfl, rfl, rfl, hr, bd_dk (X := bodyX X0 fun cv x _ H' => E cv x H') (cl := cl), (fun e s z => z.imp (fun ⟨p, σ, H, a, a0, C, B, h1, I, h⟩ => ⟨p, σ, H, a, a0, C, B, h1, I.wish _, h⟩) fun ⟨p, σ, H, a, C, vs, hh, h1, I, h⟩ => ⟨p, σ, H, a, C, vs, hh, h1, I.wish _, h⟩),
        (fun e s ⟨p, σ, H, a, a0, C, B, h1, I, h⟩ => .inl ⟨p, σ, H, a, a0, C, B, h1, I.unwish, h⟩), (fun _ e s ⟨p, σ, H, a, C, vs, hh, h1, I, h⟩ => .inr ⟨p, σ, H, a, C, vs, hh, h1, I.unwish, h⟩), ⟨_, _, _, rfl, rfl, rfl⟩, fun _ _ => rfl, (fun g j n hg => by
        obtain ⟨fa, fd, ps, a1, a2, a3, a4⟩ := D.fns g j n hg
        exact ⟨fa, fd, ps, a1, a2, a3, ih j n fa fd ps a4⟩), fun x j hx => by
        obtain ⟨v, u, a1, a2, a3⟩ := D.cst x j hx
        refine ⟨v, u, a1, a2, fun d hd => a3 d ?_⟩
        cases k <;> exact hd, D.blt, D.cls, (fun c nm j n hg => by
        obtain ⟨C, fa, fd, ps, a1, a2, a3, a4⟩ := D.mts c nm j n hg
        exact ⟨C, fa, fd, ps, a1, a2, a3, ih j n fa fd ps a4⟩), (fun x c j n hg => by
        obtain ⟨C, fa, fd, ps, a1, a2, a3, a4, a5⟩ := D.mks x c j n hg
        refine ⟨C, fa, fd, ps, a1, a2, a3, a4, ?_⟩
        cases k with
        | zero => exact .inr fun _ _ => rfl
        | succ k' => exact .inl ⟨k', rfl, ih0 k' rfl j n fa fd ps a5⟩)⟩
    refine ⟨_, (sound 200 O).ss _ _ h10, _, M, F, ρ, S, start_rs (n := fn.ns - fn.np) rd (by rw [h8, h7, hl]), ?_⟩
    have hds : ds.length = m := by rw [RDs.length rd, hl]
    have hc : (callF P (k + 1)).call i ds M = runF (callF P k) fn ds M := by simp only [callF, h4]
    rw [hc] at post
    have hz : ds.length + fn.dfl.length - fn.np = 0 := by rw [h9, h7, hds]; simp
    unfold runF at post
    rw [if_pos (by rw [h9, h7, hds]; simp), hz, h9] at post
    simp only [List.drop_nil, List.append_nil] at post
    cases hx : exs (callF P k) fn.body (ds.map some ++ List.replicate (fn.ns - fn.np) none) M with
    | bad => rw [hx] at post; exact post
    | exc c M' => rw [hx] at post; exact post
    | ok o M' =>
      rw [hx] at post
      intro F' ρ' H' e S'
      cases o with
      | rt d => exact fun v q => retn_post S post e S' q
      | nx σ' => exact fun σ q => retn_post S post e S' (d := .non) (v := .non) (by simp only [RD])
      | bk _ => exact post.elim
      | ct _ => exact post.elim
      | xc c σ' =>
        intro σ cv x q1 q2
        exact ⟨H', .refl _, retx_post S post e S' q2⟩
theorem all_ok {cl : Nat → Option Addr} (D : Md G P w K mg cl) : ∀ (k : Nat) (i m : Nat) (fa : Addr) (fd : FuncData) (ps : List Str), FnAt G P K i m fa fd ps → FnOk prog w K mg base (CXE prog w) k fa fd ps (spF (BdOf w K cl) (callF P k) i m)
  | 0, i, m, fa, fd, ps, h => by
    have no : ∀ vs H Q E, ¬ spF (BdOf w K cl) (callF P 0) i m vs H Q E := fun vs H Q E q => by
      obtain ⟨_, ds, M, F, ρ, _, _, q⟩ := q
      exact q
    exact ⟨fun vs H Q E q => absurd q (no vs H Q E), fun A outer s H args us vs Q E _ _ _ _ q => absurd q (no vs H Q E)⟩
  | 1, i, m, fa, fd, ps, h => by
    obtain ⟨x, qual, st, N, fn, h2, h4, h5, h6, h7, h8, h9, h10⟩ := h
    exact step_ok D (all_ok D 0) (fun j e => by cases e) h2 h4 h5 h6 h7 h8 h9 h10
  | k + 2, i, m, fa, fd, ps, h => by
    obtain ⟨x, qual, st, N, fn, h2, h4, h5, h6, h7, h8, h9, h10⟩ := h
    exact step_ok D (all_ok D (k + 1)) (fun j e => by cases e; exact all_ok D k) h2 h4 h5 h6 h7 h8 h9 h10
/-- the law's own def: its one list goes in as data -/
def spLaw (K : W.Frag) : Sp := fun vs H Q _ => ∃ (a : Addr) (ns : List Int), vs = [.ref a] ∧ SqL K H a (ns.map V.int) ∧ ns.length ≤ 63 ∧ ∀ H', Q (.bl true) H'
theorem law_ok {cl : Nat → Option Addr} (D : Md G P w K mg cl) {f : Str} {i k : Nat} (hP : ∀ ns : List Int, ns.length ≤ 63 → ∃ M', (callF P (k + 1)).call i [.lst (ns.map .int)] [] = .ok (.bl true) M')
    {fa : Addr} {fd : FuncData} {ps : List Str} {st : Stmt} {N : List Str} {fn : Fn} (h2 : Fun K f f st fa fd) (h4 : P.fn i = some fn) (h5 : FnScope N ps (defScope st)) (h6 : ps.length = 1) (h7 : fn.np = 1) (h8 : fn.ns = N.length) (h9 : fn.dfl = []) (h10 : chk G 200 false N (defScope st) (.ss (defBody st) fn.body) = true) :
    FnOk prog w K mg base (CXE prog w) (k + 1) fa fd ps (spLaw K) := by
  refine (step_ok (prog := prog) (base := base) D (all_ok D k) (fun j _ => all_ok D j) h2 h4 h5 h6 h7 h8 h9 h10).imp fun vs H Q E q => ?_
  obtain ⟨a, ns, rfl, hS, hl, q⟩ := q
  obtain ⟨M', hM⟩ := hP ns hl
  have ints_ : ∀ (F : Addr → Prop) (ns : List Int), RDs (BdOf w K cl) F [] H (ns.map Fg.D.int) (ns.map V.int) := by
    intro F ns
    induction ns with
    | nil => exact RDs.nil
    | cons n ns ih => exact RDs.cons (by simp only [RD]) ih
  have fin : ∀ F : Addr → Prop, Post (BdOf w K cl) ((callF P (k + 1)).call i [.lst (ns.map .int)] []) F [] H Q E := by
    intro F
    rw [hM]
    intro F' ρ' H' v e S' rd
    simp only [RD] at rd
    subst rd
    exact q H'
  rcases hS with hS | hS
  · refine ⟨rfl, [.lst (ns.map .int)], [], fun b => b = a, [], ⟨rfl, List.nodup_nil, fun _ z => by simp at z, fun b e => by rw [e]; exact rd_ne hS, fun n b o z => by simp at z⟩, ?_, fin _⟩
    refine RDs.cons ?_ RDs.nil
    simp only [RD]
    exact ⟨a, _, rfl, .inl ⟨rfl, hS⟩, ints_ _ ns⟩
  · refine ⟨rfl, [.lst (ns.map .int)], [], fun _ => False, [], ⟨rfl, List.nodup_nil, fun _ z => by simp at z, fun b e => e.elim, fun n b o z => by simp at z⟩, ?_, fin _⟩
    refine RDs.cons ?_ RDs.nil
    simp only [RD]
    exact ⟨a, _, rfl, .inr hS, ints_ _ ns⟩
end
end Fg

end
section
set_option Elab.async false
set_option linter.all false
set_option maxRecDepth 100000
namespace K21
open Fg
def f_law_mixed_names : List PySem.Str := [PySem.Str.ofString "_law_cell"]
def f_law_mixed : Fn := ⟨1, 1, [], false,
    (Ss.cons (S.ret (E.op .mod true (E.op .mul true (E.op .mul true (E.op .add true (E.op .mod true (E.v 0) (E.k (.int 2147483647))) (E.k (.int 11))) (E.k (.int 48271))) (E.k (.int 69621))) (E.k (.int 2147483629))))
    Ss.nil)⟩
def f_law_deed_names : List PySem.Str := [PySem.Str.ofString "_law_row", PySem.Str.ofString "_law_groups", PySem.Str.ofString "_law_number", PySem.Str.ofString "_law_many", PySem.Str.ofString "_law_found", PySem.Str.ofString "_law_one", PySem.Str.ofString "_law_other", PySem.Str.ofString "_law_old", PySem.Str.ofString "_law_k"]
def f_law_deed : Fn := ⟨3, 9, [], false,
    (Ss.cons (S.set 3 (E.blt .len true (Es.cons (E.v 1) Es.nil)))
    (Ss.cons (S.ifs (E.or (E.cmp .eq (E.v 3) (E.k (.int 0))) (E.cmp .lt (E.op .mod true (E.v 2) (E.k (.int 5))) (E.k (.int 2)))) (Ss.cons (S.set 4 (E.umt 0 5 (PySem.Str.ofString "new") (E.v 0) Es.nil))
    (Ss.cons (S.ex (E.mth .append true (E.v 1) (Es.cons (E.v 3) Es.nil)))
    (Ss.cons (S.ret (E.and (E.isi (E.v 4) .int) (E.and (E.not (E.isi (E.v 4) .bool)) (E.cmp .eq (E.v 4) (E.v 3)))))
    Ss.nil))) Ss.nil)
    (Ss.cons (S.set 5 (E.op .mod true (E.op .fdiv true (E.v 2) (E.k (.int 5))) (E.v 3)))
    (Ss.cons (S.set 6 (E.op .mod true (E.op .fdiv true (E.v 2) (E.k (.int 1000))) (E.v 3)))
    (Ss.cons (S.ex (E.umt 0 7 (PySem.Str.ofString "one") (E.v 0) (Es.cons (E.v 5) (Es.cons (E.v 6) Es.nil))))
    (Ss.cons (S.set 7 (E.idx (E.v 1) (E.v 5)))
    (Ss.cons (S.for [8] (Src.rng (E.v 3)) (Ss.cons (S.ifs (E.cmp .eq (E.idx (E.v 1) (E.v 8)) (E.v 7)) (Ss.cons (S.seti (E.v 1) (E.v 8) (E.idx (E.v 1) (E.v 6)))
    Ss.nil) Ss.nil)
    Ss.nil))
    (Ss.cons (S.ret (E.k (.bl true)))
    Ss.nil))))))))⟩
def f_law_right_names : List PySem.Str := [PySem.Str.ofString "_law_row", PySem.Str.ofString "_law_groups", PySem.Str.ofString "_law_last", PySem.Str.ofString "_law_one", PySem.Str.ofString "_law_other", PySem.Str.ofString "_law_found"]
def f_law_right : Fn := ⟨2, 6, [], false,
    (Ss.cons (S.set 2 (E.lrg true (E.mx true (E.k (.int 0)) (E.op .sub true (E.blt .len true (Es.cons (E.v 1) Es.nil)) (E.k (.int 12)))) (E.blt .len true (Es.cons (E.v 1) Es.nil))))
    (Ss.cons (S.for [3] (Src.e (E.v 2)) (Ss.cons (S.for [4] (Src.e (E.v 2)) (Ss.cons (S.set 5 (E.umt 0 8 (PySem.Str.ofString "same") (E.v 0) (Es.cons (E.v 3) (Es.cons (E.v 4) Es.nil))))
    (Ss.cons (S.ifs (E.or (E.not (E.isi (E.v 5) .bool)) (E.cmp .ne (E.v 5) (E.cmp .eq (E.idx (E.v 1) (E.v 3)) (E.idx (E.v 1) (E.v 4))))) (Ss.cons (S.ret (E.k (.bl false)))
    Ss.nil) Ss.nil)
    Ss.nil)))
    Ss.nil))
    (Ss.cons (S.ret (E.k (.bl true)))
    Ss.nil)))⟩
def f_law_names : List PySem.Str := [PySem.Str.ofString "_law_script", PySem.Str.ofString "_law_rows", PySem.Str.ofString "_law_groups", PySem.Str.ofString "_law_cell", PySem.Str.ofString "_law_number", PySem.Str.ofString "_law_at"]
def f_law : Fn := ⟨1, 6, [], false,
    (Ss.cons (S.set 1 (E.lst true (Es.cons (E.new 0 4 Es.nil) (Es.cons (E.new 0 4 Es.nil) Es.nil))))
    (Ss.cons (S.set 2 (E.lst true (Es.cons (E.lst false Es.nil) (Es.cons (E.lst false Es.nil) Es.nil))))
    (Ss.cons (S.for [3] (Src.e (E.sl true (E.v 0) O.none (O.some (E.k (.int 100))))) (Ss.cons (S.set 4 (E.call 0 (Es.cons (E.v 3) Es.nil)))
    (Ss.cons (S.set 5 (E.op .mod true (E.op .fdiv true (E.v 4) (E.k (.int 7))) (E.k (.int 2))))
    (Ss.cons (S.ifs (E.not (E.call 1 (Es.cons (E.idx (E.v 1) (E.v 5)) (Es.cons (E.idx (E.v 2) (E.v 5)) (Es.cons (E.op .fdiv true (E.v 4) (E.k (.int 14))) Es.nil))))) (Ss.cons (S.ret (E.k (.bl false)))
    Ss.nil) Ss.nil)
    (Ss.cons (S.ifs (E.and (E.cmp .eq (E.op .mod true (E.op .fdiv true (E.v 4) (E.k (.int 14))) (E.k (.int 11))) (E.k (.int 0))) (E.not (E.call 2 (Es.cons (E.idx (E.v 1) (E.op .sub true (E.k (.int 1)) (E.v 5))) (Es.cons (E.idx (E.v 2) (E.op .sub true (E.k (.int 1)) (E.v 5))) Es.nil))))) (Ss.cons (S.ret (E.k (.bl false)))
    Ss.nil) Ss.nil)
    Ss.nil)))))
    (Ss.cons (S.ret (E.and (E.call 2 (Es.cons (E.idx (E.v 1) (E.k (.int 0))) (Es.cons (E.idx (E.v 2) (E.k (.int 0))) Es.nil))) (E.call 2 (Es.cons (E.idx (E.v 1) (E.k (.int 1))) (Es.cons (E.idx (E.v 2) (E.k (.int 1))) Es.nil)))))
    Ss.nil))))⟩
/-- Classes.__init__(self) -/
def f_Classes___init___names : List PySem.Str := [PySem.Str.ofString "self"]
def f_Classes___init__ : Fn := ⟨1, 1, [], false,
    (Ss.cons (S.setf (E.v 0) (PySem.Str.ofString "hangs_on") (E.lst false Es.nil))
    Ss.nil)⟩
/-- Classes.new(self) -/
def f_Classes_new_names : List PySem.Str := [PySem.Str.ofString "self", PySem.Str.ofString "place"]
def f_Classes_new : Fn := ⟨1, 2, [], false,
    (Ss.cons (S.set 1 (E.blt .len true (Es.cons (E.fld (E.v 0) (PySem.Str.ofString "hangs_on")) Es.nil)))
    (Ss.cons (S.ex (E.mth .append true (E.fld (E.v 0) (PySem.Str.ofString "hangs_on")) (Es.cons (E.v 1) Es.nil)))
    (Ss.cons (S.ret (E.v 1))
    Ss.nil)))⟩
/-- Classes.stand_in(self, place) -/
def f_Classes_stand_in_names : List PySem.Str := [PySem.Str.ofString "self", PySem.Str.ofString "place"]
def f_Classes_stand_in : Fn := ⟨2, 2, [], false,
    (Ss.cons (S.while (E.cmp .ne (E.idx (E.fld (E.v 0) (PySem.Str.ofString "hangs_on")) (E.v 1)) (E.v 1)) (Ss.cons (S.seti (E.fld (E.v 0) (PySem.Str.ofString "hangs_on")) (E.v 1) (E.idx (E.fld (E.v 0) (PySem.Str.ofString "hangs_on")) (E.idx (E.fld (E.v 0) (PySem.Str.ofString "hangs_on")) (E.v 1))))
    (Ss.cons (S.set 1 (E.idx (E.fld (E.v 0) (PySem.Str.ofString "hangs_on")) (E.v 1)))
    Ss.nil)))
    (Ss.cons (S.ret (E.v 1))
    Ss.nil))⟩
/-- Classes.one(self, place, other) -/
def f_Classes_one_names : List PySem.Str := [PySem.Str.ofString "self", PySem.Str.ofString "place", PySem.Str.ofString "other"]
def f_Classes_one : Fn := ⟨3, 3, [], false,
    (Ss.cons (S.seti (E.fld (E.v 0) (PySem.Str.ofString "hangs_on")) (E.umt 0 6 (PySem.Str.ofString "stand_in") (E.v 0) (Es.cons (E.v 1) Es.nil)) (E.umt 0 6 (PySem.Str.ofString "stand_in") (E.v 0) (Es.cons (E.v 2) Es.nil)))
    Ss.nil)⟩
/-- Classes.same(self, place, other) -/
def f_Classes_same_names : List PySem.Str := [PySem.Str.ofString "self", PySem.Str.ofString "place", PySem.Str.ofString "other"]
def f_Classes_same : Fn := ⟨3, 3, [], false,
    (Ss.cons (S.ret (E.cmp .eq (E.umt 0 6 (PySem.Str.ofString "stand_in") (E.v 0) (Es.cons (E.v 1) Es.nil)) (E.umt 0 6 (PySem.Str.ofString "stand_in") (E.v 0) (Es.cons (E.v 2) Es.nil))))
    Ss.nil)⟩
def fns : List Fn := [f_law_mixed, f_law_deed, f_law_right, f_law, f_Classes___init__, f_Classes_new, f_Classes_stand_in, f_Classes_one, f_Classes_same]
def cst : List D := []
def prg : Prg := ⟨fun i => fns[i]?, fun i => cst[i]?, 100000, fun a b => a == b⟩
-- 0 _law_mixed
-- 1 _law_deed
-- 2 _law_right
-- 3 law
-- 4 Classes.__init__
-- 5 Classes.new
-- 6 Classes.stand_in
-- 7 Classes.one
-- 8 Classes.same
end K21

end
section
set_option Elab.async false
set_option linter.all false
set_option maxRecDepth 100000
set_option autoImplicit false
namespace K21
/-! ### places that hang on one another -/
inductive Rt (p : List Nat) : Nat → Nat → Nat → Prop
  | root {x : Nat} : p[x]? = some x → Rt p x x 0
  | step {x y r d : Nat} : p[x]? = some y → y ≠ x → Rt p y r d → Rt p x r (d + 1)
theorem Rt.det {p : List Nat} {x r d : Nat} (h : Rt p x r d) : ∀ {r' d' : Nat}, Rt p x r' d' → r = r' ∧ d = d' := by
  induction h with
  | root h =>
    intro r' d' k
    cases k with
    | root _ => exact ⟨rfl, rfl⟩
    | step a b c => rw [h] at a; cases a; exact absurd rfl b
  | step h n k ih =>
    intro r' d' q
    cases q with
    | root a => rw [h] at a; cases a; exact absurd rfl n
    | step a b c =>
      rw [h] at a; cases a
      obtain ⟨e1, e2⟩ := ih c
      exact ⟨e1, by rw [e2]⟩
theorem Rt.end {p : List Nat} {x r d : Nat} (h : Rt p x r d) : p[r]? = some r := by
  induction h with
  | root h => exact h
  | step _ _ _ ih => exact ih
theorem Rt.lt {p : List Nat} {x r d : Nat} (h : Rt p x r d) : x < p.length := by
  cases h with
  | root h => exact (List.getElem?_eq_some_iff.mp h).1
  | step h _ _ => exact (List.getElem?_eq_some_iff.mp h).1
theorem Rt.rlt {p : List Nat} {x r d : Nat} (h : Rt p x r d) : r < p.length := (List.getElem?_eq_some_iff.mp h.end).1
theorem Rt.self {p : List Nat} {x r d : Nat} (h : Rt p x r d) : Rt p r r 0 := .root h.end
/-- one step further up -/
theorem Rt.half {p : List Nat} {x y z : Nat} (h1 : p[x]? = some y) (hn : y ≠ x) (h2 : p[y]? = some z) : ∀ (d u r : Nat), Rt p u r d → ∃ d', d' ≤ d ∧ (u = x → d' < d ∨ d = 1) ∧ Rt (p.set x z) u r d' := by
  have hx : x < p.length := (List.getElem?_eq_some_iff.mp h1).1
  have at_ : ∀ u, u ≠ x → (p.set x z)[u]? = p[u]? := fun u hu => List.getElem?_set_ne (Ne.symm hu)
  have atx : (p.set x z)[x]? = some z := List.getElem?_set_self hx
  intro d
  induction d using Nat.strongRecOn with
  | ind d ih =>
    intro u r h
    by_cases hu : u = x
    · subst hu
      cases h with
      | root a => rw [h1] at a; cases a; exact absurd rfl hn
      | step a b c =>
        rename_i y' d0
        rw [h1] at a; cases a
        cases c with
        | root c =>
          rw [h2] at c; cases c
          refine ⟨1, by omega, fun _ => .inr rfl, .step atx hn (.root ?_)⟩
          rw [at_ _ hn]; exact h2
        | step c1 c2 c3 =>
          rename_i z' d1
          rw [h2] at c1; cases c1
          obtain ⟨d', l, _, k⟩ := ih d1 (by omega) _ _ c3
          have nz : z ≠ u := by
            rintro rfl
            have := (c3.det (.step h1 hn (.step h2 c2 c3))).2
            omega
          exact ⟨d' + 1, by omega, fun _ => .inl (by omega), .step atx nz k⟩
    · cases h with
      | root a => exact ⟨0, Nat.le_refl _, fun e => absurd e hu, .root (by rw [at_ _ hu]; exact a)⟩
      | step a b c =>
        obtain ⟨d', l, _, k⟩ := ih _ (Nat.lt_succ_self _) _ _ c
        exact ⟨d' + 1, by omega, fun e => absurd e hu, .step (by rw [at_ _ hu]; exact a) b k⟩
/-- the same ends, no way longer -/
structure Fin (p p' : List Nat) : Prop where
  len : p'.length = p.length
  rt : ∀ u r d, Rt p u r d → ∃ d', d' ≤ d ∧ Rt p' u r d'
theorem Fin.refl (p : List Nat) : Fin p p := ⟨rfl, fun _ _ d h => ⟨d, Nat.le_refl _, h⟩⟩
theorem Fin.trans {p q r : List Nat} (a : Fin p q) (b : Fin q r) : Fin p r := ⟨b.len.trans a.len, fun u e d h => by
  obtain ⟨d1, l1, h1⟩ := a.rt u e d h
  obtain ⟨d2, l2, h2⟩ := b.rt u e d1 h1
  exact ⟨d2, by omega, h2⟩⟩
theorem Fin.half {p : List Nat} {x y z : Nat} (h1 : p[x]? = some y) (hn : y ≠ x) (h2 : p[y]? = some z) : Fin p (p.set x z) := ⟨by simp, fun u r d h => by
  obtain ⟨d', l, _, k⟩ := Rt.half h1 hn h2 d u r h
  exact ⟨d', l, k⟩⟩
/-- what holds between places and groups, c deeds done -/
structure Ok (p g : List Nat) (c : Nat) : Prop where
  len : g.length = p.length
  le : p.length ≤ c
  rt : ∀ x, x < p.length → ∃ r d, d ≤ c ∧ Rt p x r d
  lt : ∀ (x v : Nat), g[x]? = some v → v < g.length
  eq : ∀ x y rx ry dx dy, Rt p x rx dx → Rt p y ry dy → (rx = ry ↔ g[x]? = g[y]?)
theorem Ok.nil : Ok [] [] 0 := ⟨rfl, Nat.le_refl _, fun x h => by simp at h, fun x v h => by simp at h, fun x y rx ry dx dy h => by have := h.lt; simp at this⟩
theorem Ok.fin {p p' g : List Nat} {c : Nat} (h : Ok p g c) (f : Fin p p') : Ok p' g c := by
  have back : ∀ x r d, Rt p' x r d → ∃ d', Rt p x r d' := fun x r d k => by
    obtain ⟨r', d', _, q⟩ := h.rt x (by rw [← f.len]; exact k.lt)
    obtain ⟨d2, _, q2⟩ := f.rt _ _ _ q
    have := (k.det q2).1
    subst this
    exact ⟨d', q⟩
  refine ⟨h.len.trans f.len.symm, by rw [f.len]; exact h.le, fun x hx => ?_, h.lt, fun x y rx ry dx dy a b => ?_⟩
  · obtain ⟨r, d, l, k⟩ := h.rt x (by rw [← f.len]; exact hx)
    obtain ⟨d', l', k'⟩ := f.rt _ _ _ k
    exact ⟨r, d', by omega, k'⟩
  · obtain ⟨d1, q1⟩ := back _ _ _ a
    obtain ⟨d2, q2⟩ := back _ _ _ b
    exact h.eq _ _ _ _ _ _ q1 q2
theorem Ok.up {p g : List Nat} {c c' : Nat} (h : Ok p g c) (l : c ≤ c') : Ok p g c' := ⟨h.len, Nat.le_trans h.le l, fun x hx => by
  obtain ⟨r, d, q, k⟩ := h.rt x hx
  exact ⟨r, d, by omega, k⟩, h.lt, h.eq⟩
theorem Rt.app {p : List Nat} {n x r d : Nat} (h : Rt p x r d) : Rt (p ++ [n]) x r d := by
  induction h with
  | root h => exact .root (by rw [List.getElem?_append_left (List.getElem?_eq_some_iff.mp h).1]; exact h)
  | step h n _ ih => exact .step (by rw [List.getElem?_append_left (List.getElem?_eq_some_iff.mp h).1]; exact h) n ih
theorem app_last {p : List Nat} {n : Nat} : (p ++ [n])[p.length]? = some n := by simp
theorem Ok.new {p g : List Nat} {c : Nat} (h : Ok p g c) : Ok (p ++ [p.length]) (g ++ [g.length]) (c + 1) := by
  have cs : ∀ x r d, Rt (p ++ [p.length]) x r d → (x = p.length ∧ r = p.length) ∨ ∃ d', Rt p x r d' := fun x r d k => by
    have hl := k.lt
    simp only [List.length_append, List.length_cons, List.length_nil] at hl
    by_cases e : x = p.length
    · subst e
      exact .inl ⟨rfl, (k.det (.root app_last)).1⟩
    · obtain ⟨r', d', _, q⟩ := h.rt x (by omega)
      have := (k.det q.app).1
      subst this
      exact .inr ⟨d', q⟩
  have gl : ∀ x, x < p.length → (g ++ [g.length])[x]? = g[x]? := fun x hx => List.getElem?_append_left (by rw [h.len]; exact hx)
  have gn : (g ++ [g.length])[p.length]? = some g.length := by rw [← h.len]; exact app_last
  refine ⟨by simp [h.len], by have := h.le; simp; omega, fun x hx => ?_, fun x v e => ?_, fun x y rx ry dx dy a b => ?_⟩
  · simp only [List.length_append, List.length_cons, List.length_nil] at hx
    by_cases e : x = p.length
    · subst e
      exact ⟨_, 0, Nat.zero_le _, .root app_last⟩
    · obtain ⟨r, d, l, k⟩ := h.rt x (by omega)
      exact ⟨r, d, by omega, k.app⟩
  · rw [List.length_append]
    by_cases q : x < g.length
    · rw [List.getElem?_append_left q] at e
      have := h.lt x v e
      simp; omega
    · rw [List.getElem?_append_right (Nat.le_of_not_lt q)] at e
      cases k : x - g.length with
      | zero => rw [k] at e; simp at e; subst e; simp
      | succ j => rw [k] at e; simp at e
  · rcases cs _ _ _ a with ⟨rfl, rfl⟩ | ⟨d1, q1⟩ <;> rcases cs _ _ _ b with ⟨rfl, rfl⟩ | ⟨d2, q2⟩
    · simp
    · rw [gn, gl _ q2.lt]
      have hr := q2.rlt
      refine ⟨fun e => by omega, fun e => ?_⟩
      have := h.lt _ _ e.symm
      omega
    · rw [gn, gl _ q1.lt]
      have hr := q1.rlt
      refine ⟨fun e => by omega, fun e => ?_⟩
      have := h.lt _ _ e
      omega
    · rw [gl _ q1.lt, gl _ q2.lt]
      exact h.eq _ _ _ _ _ _ q1 q2
/-- one group where there were two -/
def join (g : List Nat) (o n : Nat) : List Nat := g.map fun v => if v = o then n else v
theorem Ok.one {p g : List Nat} {c x y a b dx dy o n : Nat} (h : Ok p g c) (hx : Rt p x a dx) (hy : Rt p y b dy) (ho : g[x]? = some o) (hn : g[y]? = some n) : Ok (p.set a b) (join g o n) (c + 1) := by
  have al := hx.rlt
  have ata : (p.set a b)[a]? = some b := List.getElem?_set_self al
  have atn : ∀ u, u ≠ a → (p.set a b)[u]? = p[u]? := fun u hu => List.getElem?_set_ne (Ne.symm hu)
  have main : ∀ u r d, Rt p u r d → ∃ d', d' ≤ d + 1 ∧ Rt (p.set a b) u (if r = a then b else r) d' := by
    intro u r d k
    induction k with
    | root e =>
      rename_i u
      by_cases q : u = a
      · subst q
        rw [if_pos rfl]
        by_cases z : b = u
        · subst z; exact ⟨0, by omega, .root ata⟩
        · exact ⟨1, by omega, .step ata z (.root (by rw [atn _ z]; exact hy.end))⟩
      · rw [if_neg q]; exact ⟨0, by omega, .root (by rw [atn _ q]; exact e)⟩
    | step e ne k ih =>
      rename_i u v r d
      obtain ⟨d', l, q⟩ := ih
      have nu : u ≠ a := by
        rintro rfl
        rw [hx.end] at e; cases e; exact ne rfl
      exact ⟨d' + 1, by omega, .step (by rw [atn _ nu]; exact e) ne q⟩
  have cs : ∀ u r d, Rt (p.set a b) u r d → ∃ r0 d0, Rt p u r0 d0 ∧ r = if r0 = a then b else r0 := fun u r d k => by
    obtain ⟨r0, d0, _, q⟩ := h.rt u (by have := k.lt; simpa using this)
    obtain ⟨d', _, q'⟩ := main _ _ _ q
    exact ⟨r0, d0, q, (k.det q').1⟩
  have gt : ∀ u : Nat, (join g o n)[u]? = (g[u]?).map fun v => if v = o then n else v := fun u => by simp [join]
  refine ⟨by simp [join, h.len], by have := h.le; simp; omega, fun u hu => ?_, fun u v e => ?_, fun u v ru rv du dv k1 k2 => ?_⟩
  · obtain ⟨r, d, l, k⟩ := h.rt u (by simpa using hu)
    obtain ⟨d', l', k'⟩ := main _ _ _ k
    exact ⟨_, d', by omega, k'⟩
  · rw [gt] at e
    cases q : g[u]? with
    | none => rw [q] at e; cases e
    | some w =>
      rw [q] at e
      simp only [Option.map_some, Option.some.injEq] at e
      have h1 := h.lt _ _ q
      have h2 := h.lt _ _ hn
      simp only [join, List.length_map]
      split at e <;> omega
  · obtain ⟨r1, d1, q1, e1⟩ := cs _ _ _ k1
    obtain ⟨r2, d2, q2, e2⟩ := cs _ _ _ k2
    subst e1 e2
    rw [gt, gt]
    obtain ⟨g1, hg1⟩ : ∃ w, g[u]? = some w := ⟨_, List.getElem?_eq_getElem (by rw [h.len]; exact q1.lt)⟩
    obtain ⟨g2, hg2⟩ : ∃ w, g[v]? = some w := ⟨_, List.getElem?_eq_getElem (by rw [h.len]; exact q2.lt)⟩
    have i12 := h.eq _ _ _ _ _ _ q1 q2
    have i1a := h.eq _ _ _ _ _ _ q1 hx
    have i2a := h.eq _ _ _ _ _ _ q2 hx
    have i1b := h.eq _ _ _ _ _ _ q1 hy
    have i2b := h.eq _ _ _ _ _ _ q2 hy
    rw [hg1, hg2] at i12
    rw [hg1, ho] at i1a
    rw [hg2, ho] at i2a
    rw [hg1, hn] at i1b
    rw [hg2, hn] at i2b
    rw [hg1, hg2]
    simp only [Option.map_some, Option.some.injEq] at i12 i1a i2a i1b i2b ⊢
    by_cases c1 : r1 = a <;> by_cases c2 : r2 = a
    · rw [if_pos c1, if_pos c2, if_pos (i1a.mp c1), if_pos (i2a.mp c2)]; simp
    · rw [if_pos c1, if_neg c2, if_pos (i1a.mp c1), if_neg (fun z => c2 (i2a.mpr z))]
      exact ⟨fun e => (i2b.mp e.symm).symm, fun e => (i2b.mpr e.symm).symm⟩
    · rw [if_neg c1, if_pos c2, if_neg (fun z => c1 (i1a.mpr z)), if_pos (i2a.mp c2)]
      exact i1b
    · rw [if_neg c1, if_neg c2, if_neg (fun z => c1 (i1a.mpr z)), if_neg (fun z => c2 (i2a.mpr z))]
      exact i12
end K21

end
section
set_option Elab.async false
set_option linter.all false
set_option maxRecDepth 100000
set_option autoImplicit false
namespace K21
open Fg PySem
theorem fn0 : prg.fn 0 = some f_law_mixed := rfl
theorem fn1 : prg.fn 1 = some f_law_deed := rfl
theorem fn2 : prg.fn 2 = some f_law_right := rfl
theorem fn3 : prg.fn 3 = some f_law := rfl
theorem fn4 : prg.fn 4 = some f_Classes___init__ := rfl
theorem fn5 : prg.fn 5 = some f_Classes_new := rfl
theorem fn6 : prg.fn 6 = some f_Classes_stand_in := rfl
theorem fn7 : prg.fn 7 = some f_Classes_one := rfl
theorem fn8 : prg.fn 8 = some f_Classes_same := rfl
abbrev hs : Str := Str.ofString "hangs_on"
def dInts (p : List Nat) : List D := p.map fun (n : Nat) => D.int (n : Int)
@[simp] theorem dints_len {p : List Nat} : (dInts p).length = p.length := by simp [dInts]
theorem ixn_nat {n x : Nat} (h : x < n) : ixn n (x : Int) = some x := by
  have h1 : (x : Int) < (n : Int) := by omega
  simp only [ixn, if_pos (show (0 : Int) ≤ (x : Int) by omega), if_pos h1, Int.toNat_natCast]
theorem dints_at {p : List Nat} {x y : Nat} (h : p[x]? = some y) : ati (dInts p) (x : Int) = some (.int y) := by
  have hx := (List.getElem?_eq_some_iff.mp h).1
  simp only [ati, ixn_nat (n := (dInts p).length) (by simpa using hx), Option.bind_some]
  simp [dInts, h]
theorem dints_set {p : List Nat} {x y : Nat} : (dInts p).set x (.int (y : Int)) = dInts (p.set x y) := by simp [dInts, List.map_set]
theorem dints_app {p : List Nat} {y : Nat} : dInts p ++ [.int (y : Int)] = dInts (p ++ [y]) := by simp [dInts]
theorem idx_at {M : MH} {h : Nat} {p : List Nat} {x y : Nat} (hh : M[h]? = some (.lst (dInts p))) (hx : p[x]? = some y) : idx2 M (.ref h) (.int (x : Int)) = .ok (.int y) M := by
  simp only [idx2, vw, hh, dints_at hx]
theorem set_at {M : MH} {h : Nat} {p : List Nat} {x y : Nat} (hh : M[h]? = some (.lst (dInts p))) (hx : x < p.length) : setI M (.ref h) (.int (x : Int)) (.int (y : Int)) = .ok () (M.set h (.lst (dInts (p.set x y)))) := by
  simp only [setI, hh, dints_len, ixn_nat hx, dints_set]
theorem cmp_eq {M : MH} {a b : Int} : cmp2 .eq M (.int a) (.int b) = .ok (.bl (decide (a = b))) M := by simp [cmp2, cmpOk, top, Fg.plain, dep]
theorem cmp_ne {M : MH} {a b : Int} : cmp2 .ne M (.int a) (.int b) = .ok (.bl (!decide (a = b))) M := by simp [cmp2, cmpOk, top, Fg.plain, dep]
/-- behind a call that keeps the number of things -/
theorem retn_len {kp : Bool} {M M' : MH} {d : D} (h : nr M.length d = true) (hl : M'.length = M.length) : retn kp M d M' = .ok d M' := by
  unfold retn
  by_cases hk : kp = false ∧ M'.take M.length = M
  · rw [if_pos hk, if_pos h]
    have : M' = M := by rw [← hk.2, ← hl, List.take_length]
    rw [this]
  · rw [if_neg hk]
theorem retn_int {kp : Bool} {M M' : MH} {i : Int} (hl : M'.length = M.length) : retn kp M (.int i) M' = .ok (.int i) M' := retn_len (by simp [nr]) hl
theorem retn_bl {kp : Bool} {M M' : MH} {i : Bool} (hl : M'.length = M.length) : retn kp M (.bl i) M' = .ok (.bl i) M' := retn_len (by simp [nr]) hl
theorem retn_non {kp : Bool} {M M' : MH} (hl : M'.length = M.length) : retn kp M .non M' = .ok .non M' := retn_len (by simp [nr]) hl
theorem n1 : (Str.ofString "stand_in" = hs) = False := by simp; decide
theorem n2 : (Str.ofString "new" = hs) = False := by simp; decide
theorem n3 : (Str.ofString "one" = hs) = False := by simp; decide
theorem n4 : (Str.ofString "same" = hs) = False := by simp; decide
/-- an object of the program, at n, and its list, at h -/
structure Row (M : MH) (n h : Nat) (p : List Nat) : Prop where
  at_ : M[n]? = some (.ins 0 [(hs, .ref h)])
  ls : M[h]? = some (.lst (dInts p))
theorem Row.ne {M : MH} {n h : Nat} {p : List Nat} (W : Row M n h p) : n ≠ h := by
  rintro rfl
  have := W.at_.symm.trans W.ls
  cases this
theorem Row.set {M : MH} {n h : Nat} {p p' : List Nat} (W : Row M n h p) : Row (M.set h (.lst (dInts p'))) n h p' :=
  ⟨by rw [List.getElem?_set_ne (Ne.symm W.ne)]; exact W.at_, set_get W.ls⟩
theorem fld_at {Φ : Fns} {σ : Sg} {M : MH} {n h i : Nat} {p : List Nat} (W : Row M n h p) (hi : σ[i]? = some (some (.ref n))) : ev Φ (.fld (.v i) hs) σ M = .ok (.ref h) M := by
  simp [hi, W.at_]
def wC : E := .cmp .ne (.idx (.fld (.v 0) hs) (.v 1)) (.v 1)
def wB : Ss := .cons (.seti (.fld (.v 0) hs) (.v 1) (.idx (.fld (.v 0) hs) (.idx (.fld (.v 0) hs) (.v 1)))) (.cons (.set 1 (.idx (.fld (.v 0) hs) (.v 1))) .nil)
theorem body6 : f_Classes_stand_in.body = .cons (.while wC wB) (.cons (.ret (.v 1)) .nil) := rfl
theorem stand_loop {Φ : Fns} {n h r : Nat} : ∀ (d N : Nat) (p : List Nat) (x : Nat) (M : MH), d < N → Row M n h p → Rt p x r d →
    ∃ p', Fin p p' ∧ loopW (ev Φ wC) (exs Φ wB) N [some (.ref n), some (.int (x : Int))] M = .ok (.nx [some (.ref n), some (.int (r : Int))]) (M.set h (.lst (dInts p'))) := by
  intro d
  induction d using Nat.strongRecOn with
  | ind d ih =>
    intro N p x M hN W k
    obtain ⟨N, rfl⟩ : ∃ m, N = m + 1 := ⟨N - 1, by omega⟩
    have ev0 : ∀ y : Nat, p[x]? = some y → ev Φ wC [some (.ref n), some (.int (x : Int))] M = .ok (.bl (!decide ((y : Int) = (x : Int)))) M := fun y hy => by
      unfold wC
      rw [ev_cmp, ev_idx, fld_at W rfl]
      simp [idx_at W.ls hy, cmp_ne]
    cases k with
    | root a =>
      refine ⟨p, .refl p, ?_⟩
      have e := ev0 _ a
      simp only [decide_true, Bool.not_true] at e
      rw [loopW, e]
      simp only [R.use_ok]
      congr 1
      apply List.ext_getElem?
      intro i
      by_cases hi : h = i
      · subst hi; rw [List.getElem?_set_self (List.getElem?_eq_some_iff.mp W.ls).1, W.ls]
      · rw [List.getElem?_set_ne hi]
    | step a b c =>
      rename_i y d
      obtain ⟨z, hz⟩ : ∃ z, p[y]? = some z := by
        cases c with
        | root q => exact ⟨_, q⟩
        | step q _ _ => exact ⟨_, q⟩
      have e := ev0 _ a
      have ne : ¬ ((y : Int) = (x : Int)) := by omega
      simp only [ne, decide_false, Bool.not_false] at e
      have hx := (Rt.step a b c).lt
      have W' := W.set (p' := p.set x z)
      have hb : exs Φ wB [some (.ref n), some (.int (x : Int))] M = .ok (.nx [some (.ref n), some (.int (z : Int))]) (M.set h (.lst (dInts (p.set x z)))) := by
        unfold wB
        rw [exs_cons, ex_seti, ev_idx, fld_at W rfl]
        simp only [R.bind_ok]
        rw [ev_idx, fld_at W rfl]
        simp only [R.bind_ok, ev_v, List.getElem?_cons_succ, List.getElem?_cons_zero, idx_at W.ls a, idx_at W.ls hz, R.use_ok]
        rw [fld_at W rfl]
        simp only [R.use_ok, set_at W.ls hx, R.bind_ok]
        rw [exs_cons, ex_set, ev_idx, fld_at W' rfl]
        simp [idx_at W'.ls (List.getElem?_set_self hx)]
      obtain ⟨d', l, h1, k'⟩ := Rt.half a b hz _ _ _ (Rt.step a b c)
      have kz : ∃ d2, d2 < d + 1 ∧ Rt (p.set x z) z r d2 := by
        cases k' with
        | root q =>
          rw [List.getElem?_set_self hx] at q; cases q
          exact absurd ((Rt.step a b c).end) (by
            rw [a]; intro w; cases w; exact b rfl)
        | step q1 q2 q3 =>
          rw [List.getElem?_set_self hx] at q1; cases q1
          exact ⟨_, by omega, q3⟩
      obtain ⟨d2, l2, k2⟩ := kz
      obtain ⟨p', f, hl⟩ := ih d2 l2 N _ _ _ (by omega) W' k2
      refine ⟨p', (Fin.half a b hz).trans f, ?_⟩
      rw [loopW, e]
      simp only [R.use_ok, hb, R.bind_ok, hl, List.set_set]
theorem c_stand {k n h x r d : Nat} {p : List Nat} {M : MH} (hk : 1 ≤ k) (W : Row M n h p) (q : Rt p x r d) (hd : d < 100000) : ∃ p', Fin p p' ∧ (callF prg k).call 6 [.ref n, .int (x : Int)] M = .ok (.int (r : Int)) (M.set h (.lst (dInts p'))) := by
  obtain ⟨k, rfl⟩ : ∃ j, k = j + 1 := ⟨k - 1, by omega⟩
  obtain ⟨p', f, hl⟩ := stand_loop (Φ := callF prg k) d 100000 p x M hd W q
  refine ⟨p', f, ?_⟩
  rw [call_step fn6]
  unfold runF
  rw [body6]
  have tn : (callF prg k).turns = 100000 := by rw [callF_turns]; rfl
  rw [exs_cons, ex_while, tn]
  simp only [f_Classes_stand_in, List.length_cons, List.length_nil, List.drop, List.append_nil, List.map_cons, List.map_nil, Nat.sub_self, List.replicate]
  rw [hl]
  simp [retn_int, retn_bl, retn_non, n1]
theorem Ok.get {p g : List Nat} {c x : Nat} (h : Ok p g c) (hx : x < p.length) : ∃ v, g[x]? = some v := ⟨_, List.getElem?_eq_getElem (by rw [h.len]; exact hx)⟩
theorem c_one {k n h x y a b dx dy : Nat} {p : List Nat} {M : MH} (hk : 2 ≤ k) (W : Row M n h p) (qx : Rt p x a dx) (qy : Rt p y b dy) (hx : dx < 100000) (hy : dy < 100000) :
    ∃ p', Fin p p' ∧ (callF prg k).call 7 [.ref n, .int (x : Int), .int (y : Int)] M = .ok .non (M.set h (.lst (dInts (p'.set a b)))) := by
  obtain ⟨k, rfl⟩ : ∃ j, k = j + 1 := ⟨k - 1, by omega⟩
  obtain ⟨p1, f1, e1⟩ := c_stand (k := k) (by omega) W qy hy
  have W1 := W.set (p' := p1)
  obtain ⟨d', l, qx'⟩ := f1.rt _ _ _ qx
  obtain ⟨p2, f2, e2⟩ := c_stand (k := k) (by omega) W1 qx' (by omega)
  have W2 := W.set (p' := p2)
  rw [List.set_set] at e2
  refine ⟨p2, f1.trans f2, ?_⟩
  rw [call_step fn7]
  have ha : a < p2.length := by rw [f2.len]; exact qx'.rlt
  have fl := fld_at (Φ := callF prg k) (σ := [some (D.ref n), some (D.int (x : Int)), some (D.int (y : Int))]) (i := 0) W1 rfl
  simp [runF, f_Classes_one, W.at_, W1.at_, e1, e2, set_at W2.ls ha, retn_int, retn_bl, retn_non, n1]
theorem c_same {k n h x y a b dx dy : Nat} {p : List Nat} {M : MH} (hk : 2 ≤ k) (W : Row M n h p) (qx : Rt p x a dx) (qy : Rt p y b dy) (hx : dx < 100000) (hy : dy < 100000) :
    ∃ p', Fin p p' ∧ (callF prg k).call 8 [.ref n, .int (x : Int), .int (y : Int)] M = .ok (.bl (decide (a = b))) (M.set h (.lst (dInts p'))) := by
  obtain ⟨k, rfl⟩ : ∃ j, k = j + 1 := ⟨k - 1, by omega⟩
  obtain ⟨p1, f1, e1⟩ := c_stand (k := k) (by omega) W qx hx
  have W1 := W.set (p' := p1)
  obtain ⟨d', l, qy'⟩ := f1.rt _ _ _ qy
  obtain ⟨p2, f2, e2⟩ := c_stand (k := k) (by omega) W1 qy' (by omega)
  refine ⟨p2, f1.trans f2, ?_⟩
  rw [call_step fn8]
  have hd : decide ((a : Int) = (b : Int)) = decide (a = b) := decide_eq_decide.mpr (by omega)
  rw [List.set_set] at e2
  simp [runF, f_Classes_same, W.at_, W1.at_, e1, e2, cmp_eq, hd, retn_int, retn_bl, retn_non, n1]
theorem c_new {k n h : Nat} {p : List Nat} {M : MH} (hk : 1 ≤ k) (W : Row M n h p) (hl : p.length < line) : (callF prg k).call 5 [.ref n] M = .ok (.int (p.length : Int)) (M.set h (.lst (dInts (p ++ [p.length])))) := by
  obtain ⟨k, rfl⟩ : ∃ j, k = j + 1 := ⟨k - 1, by omega⟩
  rw [call_step fn5]
  simp [runF, f_Classes_new, W.at_, W.ls, blt1, vw, mtOk, mth1, hl, dints_app, retn_int, retn_bl, retn_non, n1]
theorem c_init {k n : Nat} {M : MH} (hk : 1 ≤ k) (hn : M[n]? = some (.ins 0 [])) : (callF prg k).call 4 [.ref n] M = .ok .non (M.set n (.ins 0 [(hs, .ref M.length)]) ++ [.lst []]) := by
  obtain ⟨k, rfl⟩ : ∃ j, k = j + 1 := ⟨k - 1, by omega⟩
  have lt := (List.getElem?_eq_some_iff.mp hn).1
  have e : (M ++ [MO.lst []])[n]? = some (.ins 0 []) := by rw [List.getElem?_append_left lt]; exact hn
  have ne : M.set n (.ins 0 [(hs, .ref M.length)]) ≠ M := by
    intro z
    have := congrArg (fun l : MH => l[n]?) z
    rw [List.getElem?_set_self lt, hn] at this
    cases this
  have se : (M ++ [MO.lst []]).set n (.ins 0 [(hs, .ref M.length)]) = M.set n (.ins 0 [(hs, .ref M.length)]) ++ [.lst []] := by
    rw [List.set_append_left _ _ lt]
  rw [call_step fn4]
  simp only [runF, f_Classes___init__, List.length_cons, List.length_nil, List.drop, List.append_nil, List.map_cons, List.map_nil, Nat.sub_self, List.replicate, exs_cons, ex_setf, exs_nil]
  simp [newl, e, putM, se, retn, ne]
end K21

end
section
set_option Elab.async false
set_option linter.all false
set_option maxRecDepth 100000
set_option autoImplicit false
namespace K21
open Fg PySem
theorem run_rt {Φ : Fns} {f : Fn} {ds : List D} {M M' : MH} {d : D} {σ : Sg} (hn : ds.length = f.np) (hd : f.dfl = []) (hσ : σ = ds.map some ++ List.replicate (f.ns - f.np) none) (h : exs Φ f.body σ M = .ok (.rt d) M') : runF Φ f ds M = retn f.keep M d M' := by
  subst hσ
  unfold runF
  rw [if_pos (by rw [hd, hn]; simp), hd]
  simp only [List.length_nil, List.drop_nil, List.append_nil, h]
def mixed (c : Int) : Int := (c % 2147483647 + 11) * 48271 * 69621 % 2147483629
theorem c_mixed {k : Nat} {c : Int} {M : MH} (hk : 1 ≤ k) : (callF prg k).call 0 [.int c] M = .ok (.int (mixed c)) M := by
  obtain ⟨k, rfl⟩ : ∃ j, k = j + 1 := ⟨k - 1, by omega⟩
  rw [call_step fn0]
  simp [runF, f_law_mixed, op2, num2, small, retn, nr, mixed]
theorem mod_nat {z : Int} {n : Nat} (h : 0 < n) : ∃ x : Nat, z % (n : Int) = (x : Int) ∧ x < n := by
  have h1 := Int.emod_nonneg z (show (n : Int) ≠ 0 by omega)
  have h2 := Int.emod_lt_of_pos z (show (0 : Int) < n by omega)
  exact ⟨(z % (n : Int)).toNat, by omega, by omega⟩
theorem set_self {M : MH} {h : Nat} {o : MO} (hh : M[h]? = some o) : M.set h o = M := by
  apply List.ext_getElem?
  intro i
  by_cases hi : h = i
  · subst hi; rw [List.getElem?_set_self (List.getElem?_eq_some_iff.mp hh).1, hh]
  · rw [List.getElem?_set_ne hi]
/-- the groups are put together, one by one -/
def gB : Ss := .cons (.ifs (.cmp .eq (.idx (.v 1) (.v 8)) (.v 7)) (.cons (.seti (.v 1) (.v 8) (.idx (.v 1) (.v 6))) .nil) .nil) .nil
def part (gs : List Nat) (o n i : Nat) : List Nat := (join gs o n).take i ++ gs.drop i
theorem part_len {gs : List Nat} {o n i : Nat} : (part gs o n i).length = gs.length := by simp [part, join]; omega
theorem part_at {gs : List Nat} {o n i x v : Nat} (h : gs[x]? = some v) : (part gs o n i)[x]? = some (if x < i then (if v = o then n else v) else v) := by
  have hx := (List.getElem?_eq_some_iff.mp h).1
  unfold part
  by_cases q : x < i
  · rw [List.getElem?_append_left (by simp [join]; omega), List.getElem?_take, if_pos q, if_pos q]
    simp [join, h]
  · rw [List.getElem?_append_right (by simp [join]; omega), if_neg q, List.getElem?_drop]
    have : i + (x - ((join gs o n).take i).length) = x := by simp [join]; omega
    rw [this, h]
theorem part_succ {gs : List Nat} {o n i v : Nat} (h : gs[i]? = some v) : part gs o n (i + 1) = (part gs o n i).set i (if v = o then n else v) := by
  apply List.ext_getElem?
  intro x
  by_cases hx : x < gs.length
  · have e : gs[x]? = some gs[x] := List.getElem?_eq_getElem hx
    rw [part_at e, List.getElem?_set]
    by_cases q : i = x
    · subst q
      have l1 : i < (part gs o n i).length := by rw [part_len]; exact hx
      rw [if_pos (Nat.lt_succ_self _), if_pos rfl, if_pos l1]
      rw [h] at e
      rw [← Option.some.inj e]
    · rw [if_neg q, part_at e]
      congr 1
      by_cases z : x < i
      · rw [if_pos z, if_pos (by omega)]
      · rw [if_neg z, if_neg (by omega)]
  · rw [List.getElem?_eq_none_iff.mpr (by rw [part_len]; omega), List.getElem?_eq_none_iff.mpr (by rw [List.length_set, part_len]; omega)]
theorem part_zero {gs : List Nat} {o n : Nat} : part gs o n 0 = gs := by simp [part]
theorem part_all {gs : List Nat} {o n : Nat} : part gs o n gs.length = join gs o n := by
  have : gs.length = (join gs o n).length := by simp [join]
  unfold part
  rw [List.drop_length, List.append_nil, this, List.take_length]
theorem group_loop {Φ : Fns} {g x y o n w : Nat} {gs : List Nat} {rw_ : D} {num : D} {fnd : Option D} (hy : gs[y]? = some n) (ho : o = w) : ∀ (j i : Nat) (s8 : Option D) (M : MH), i + j = gs.length → M[g]? = some (.lst (dInts (part gs o n i))) →
    ∃ s8', loopF (exs Φ gB) [8] (still M .non) ((List.range' i j).map fun (i : Nat) => D.int (i : Int)) [some rw_, some (.ref g), some num, some (.int (gs.length : Int)), fnd, some (.int (x : Int)), some (.int (y : Int)), some (.int (w : Int)), s8] M =
      .ok (.nx [some rw_, some (.ref g), some num, some (.int (gs.length : Int)), fnd, some (.int (x : Int)), some (.int (y : Int)), some (.int (w : Int)), s8']) (M.set g (.lst (dInts (join gs o n)))) := by
  intro j
  subst ho
  induction j with
  | zero =>
    intro i s8 M hi hM
    refine ⟨s8, ?_⟩
    have : i = gs.length := by omega
    subst this
    rw [part_all] at hM
    simp only [List.range', List.map_nil, loopF, set_self hM]
  | succ j ih =>
    intro i s8 M hi hM
    have hx : i < gs.length := by omega
    have e : gs[i]? = some gs[i] := List.getElem?_eq_getElem hx
    have ei := part_at (o := o) (n := n) (i := i) e
    rw [if_neg (Nat.lt_irrefl i)] at ei
    have ey := part_at (o := o) (n := n) (i := i) hy
    have ey' : (part gs o n i)[y]? = some n := by
      rw [ey]; congr 1
      by_cases q : y < i
      · rw [if_pos q]; by_cases z : n = o
        · rw [if_pos z]
        · rw [if_neg z]
      · rw [if_neg q]
    have st : ∀ M' : MH, still M .non M' = true := fun _ => rfl
    simp only [List.range', List.map_cons, loopF, sets]
    by_cases q : gs[i] = o
    · have hb : exs Φ gB [some rw_, some (.ref g), some num, some (.int (gs.length : Int)), fnd, some (.int (x : Int)), some (.int (y : Int)), some (.int (o : Int)), some (.int (i : Int))] M =
          .ok (.nx [some rw_, some (.ref g), some num, some (.int (gs.length : Int)), fnd, some (.int (x : Int)), some (.int (y : Int)), some (.int (o : Int)), some (.int (i : Int))]) (M.set g (.lst (dInts (part gs o n (i + 1))))) := by
        rw [part_succ e, if_pos q]
        simp [gB, idx_at hM ei, cmp_eq, q, idx_at hM ey', set_at hM (show i < (part gs o n i).length by rw [part_len]; exact hx)]
      simp only [List.set_cons_succ, List.set_cons_zero, hb, R.bind_ok, st, if_true]
      obtain ⟨s8', h2⟩ := ih (i + 1) (some (.int (i : Int))) (M.set g (.lst (dInts (part gs o n (i + 1))))) (by omega) (set_get hM)
      refine ⟨s8', ?_⟩
      rw [List.set_set] at h2
      exact h2
    · have hb : exs Φ gB [some rw_, some (.ref g), some num, some (.int (gs.length : Int)), fnd, some (.int (x : Int)), some (.int (y : Int)), some (.int (o : Int)), some (.int (i : Int))] M =
          .ok (.nx [some rw_, some (.ref g), some num, some (.int (gs.length : Int)), fnd, some (.int (x : Int)), some (.int (y : Int)), some (.int (o : Int)), some (.int (i : Int))]) M := by
        have q' : ¬ ((gs[i] : Int) = (o : Int)) := by omega
        simp [gB, idx_at hM ei, cmp_eq, q']
      simp only [List.set_cons_succ, List.set_cons_zero, hb, R.bind_ok, st, if_true]
      have hM' : M[g]? = some (.lst (dInts (part gs o n (i + 1)))) := by
        rw [part_succ e, if_neg q, hM]
        congr 3
        apply List.ext_getElem?
        intro u
        by_cases hu : i = u
        · subst hu; rw [List.getElem?_set_self (by rw [part_len]; exact hx), ei]
        · rw [List.getElem?_set_ne hu]
      exact ih (i + 1) (some (.int (i : Int))) M (by omega) hM'
theorem len_at {M : MH} {h : Nat} {fz : Bool} {gs : List Nat} (hh : M[h]? = some (.lst (dInts gs))) : blt1 .len fz M [.ref h] = .ok (.int (gs.length : Int)) M := by
  simp only [blt1, vw, hh, dints_len]
def dC : E := .or (.cmp .eq (.v 3) (.k (.int 0))) (.cmp .lt (.op .mod true (.v 2) (.k (.int 5))) (.k (.int 2)))
def dA : Ss := .cons (.set 4 (.umt 0 5 (Str.ofString "new") (.v 0) .nil)) (.cons (.ex (.mth .append true (.v 1) (.cons (.v 3) .nil))) (.cons (.ret (.and (.isi (.v 4) .int) (.and (.not (.isi (.v 4) .bool)) (.cmp .eq (.v 4) (.v 3))))) .nil))
def dB : Ss := .cons (.set 5 (.op .mod true (.op .fdiv true (.v 2) (.k (.int 5))) (.v 3))) (.cons (.set 6 (.op .mod true (.op .fdiv true (.v 2) (.k (.int 1000))) (.v 3))) (.cons (.ex (.umt 0 7 (Str.ofString "one") (.v 0) (.cons (.v 5) (.cons (.v 6) .nil))))
  (.cons (.set 7 (.idx (.v 1) (.v 5))) (.cons (.for [8] (.rng (.v 3)) gB) (.cons (.ret (.k (.bl true))) .nil)))))
theorem body1 : f_law_deed.body = .cons (.set 3 (.blt .len true (.cons (.v 1) .nil))) (.cons (.ifs dC dA .nil) dB) := rfl
theorem rngs_zero {n : Nat} : rngs 0 (n : Int) = (List.range' 0 n).map fun (i : Nat) => D.int (i : Int) := by
  simp [rngs, List.range_eq_range']
theorem c_deed {k n h g c : Nat} {p gs : List Nat} {z : Int} {M : MH} (hk : 3 ≤ k) (W : Row M n h p) (hg : M[g]? = some (.lst (dInts gs))) (O : Ok p gs c) (hc : c < 100) (hne : g ≠ h) :
    ∃ p' gs', Ok p' gs' (c + 1) ∧ (callF prg k).call 1 [.ref n, .ref g, .int z] M = .ok (.bl true) ((M.set h (.lst (dInts p'))).set g (.lst (dInts gs'))) := by
  obtain ⟨k, rfl⟩ : ∃ j, k = j + 1 := ⟨k - 1, by omega⟩
  have hle := O.le
  have ln := O.len
  have hb : ∀ p', (M.set h (.lst (dInts p')))[g]? = some (.lst (dInts gs)) := fun p' => by rw [List.getElem?_set_ne (Ne.symm hne)]; exact hg
  have lz : (decide ((gs.length : Int) = 0)) = decide (gs.length = 0) := decide_eq_decide.mpr (by omega)
  by_cases cs : gs.length = 0 ∨ z % 5 < 2
  · refine ⟨p ++ [p.length], gs ++ [gs.length], O.new, ?_⟩
    have hl : p.length < line := by unfold line; omega
    have hl2 : gs.length < line := by unfold line; omega
    have en := c_new (k := k) (by omega) W hl
    have ct : (decide (gs.length = 0) = true) ∨ (decide (z % 5 < 2) = true) := cs.imp (by simp) (by simp)
    have cond : ev (callF prg k) dC [some (.ref n), some (.ref g), some (.int z), some (.int (gs.length : Int)), none, none, none, none, none] M = .ok (.bl true) M := by
      unfold dC
      simp only [ev_or, ev_cmp, ev_v, List.getElem?_cons_succ, List.getElem?_cons_zero, R.bind_ok, ev_k, cmp_eq, lz]
      by_cases q : gs.length = 0
      · simp [q]
      · have q2 : z % 5 < 2 := cs.resolve_left q
        simp [q, op2, num2, cmp2, q2]
    rw [call_step fn1, run_rt (d := .bl true) (M' := (M.set h (.lst (dInts (p ++ [p.length])))).set g (.lst (dInts (gs ++ [gs.length])))) rfl rfl rfl]
    · exact retn_bl (by simp)
    · rw [body1]
      show exs (callF prg k) _ [some (.ref n), some (.ref g), some (.int z), none, none, none, none, none, none] M = _
      rw [s_set (x := .int (gs.length : Int)) (M1 := M) (by simp [len_at hg])]
      simp only [List.set_cons_succ, List.set_cons_zero]
      rw [exs_cons, ex_ifs, cond]
      unfold dA
      simp [W.at_, n2, en, mtOk, hb, mth1, hl, okT, isT, cmp_eq, dints_app, ln]
  · have q1 : ¬ gs.length = 0 := fun e => cs (.inl e)
    have q2 : ¬ z % 5 < 2 := fun e => cs (.inr e)
    have pos : 0 < gs.length := by omega
    obtain ⟨x, ex, hx⟩ := mod_nat (z := z / 5) pos
    obtain ⟨y, ey, hy⟩ := mod_nat (z := z / 1000) pos
    obtain ⟨a, dx, lx, rx⟩ := O.rt x (by omega)
    obtain ⟨b, dy, ly, ry⟩ := O.rt y (by omega)
    obtain ⟨p', f, e1⟩ := c_one (k := k) (by omega) W rx ry (by omega) (by omega)
    obtain ⟨o, ho⟩ := O.get (x := x) (by omega)
    obtain ⟨m, hm⟩ := O.get (x := y) (by omega)
    obtain ⟨dx', _, rx'⟩ := f.rt _ _ _ rx
    obtain ⟨dy', _, ry'⟩ := f.rt _ _ _ ry
    refine ⟨p'.set a b, join gs o m, (O.fin f).one rx' ry' ho hm, ?_⟩
    have cond : ev (callF prg k) dC [some (.ref n), some (.ref g), some (.int z), some (.int (gs.length : Int)), none, none, none, none, none] M = .ok (.bl false) M := by
      unfold dC
      simp only [ev_or, ev_cmp, ev_v, List.getElem?_cons_succ, List.getElem?_cons_zero, R.bind_ok, ev_k, cmp_eq, lz]
      simp [q1, op2, num2, cmp2, q2]
    have hb' := hb (p'.set a b)
    obtain ⟨s8, gl⟩ := group_loop (Φ := callF prg k) (g := g) (x := x) (y := y) (o := o) (n := m) (w := o) (gs := gs) (rw_ := .ref n) (num := .int z) (fnd := none) hm rfl gs.length 0 none (M.set h (.lst (dInts (p'.set a b)))) (by omega) (by rw [part_zero]; exact hb')
    have sm : decide (gs.length ≤ 1000000) = true := decide_eq_true (by omega)
    rw [call_step fn1, run_rt (d := .bl true) (M' := (M.set h (.lst (dInts (p'.set a b)))).set g (.lst (dInts (join gs o m)))) rfl rfl rfl]
    · exact retn_bl (by simp)
    · rw [body1]
      show exs (callF prg k) _ [some (.ref n), some (.ref g), some (.int z), none, none, none, none, none, none] M = _
      rw [s_set (x := .int (gs.length : Int)) (M1 := M) (by simp [len_at hg])]
      simp only [List.set_cons_succ, List.set_cons_zero]
      rw [s_ifF cond]
      unfold dB
      have gp : (0 : Int) < (gs.length : Int) := by omega
      rw [s_set (x := .int (x : Int)) (M1 := M) (by simp [op2, num2, gp, pos, ex])]
      simp only [List.set_cons_succ, List.set_cons_zero]
      rw [s_set (x := .int (y : Int)) (M1 := M) (by simp [op2, num2, gp, pos, ey])]
      simp only [List.set_cons_succ, List.set_cons_zero]
      rw [s_ex (x := .non) (M1 := M.set h (.lst (dInts (p'.set a b)))) (by simp [W.at_, n3, e1])]
      rw [s_set (x := .int (o : Int)) (M1 := M.set h (.lst (dInts (p'.set a b)))) (by simp [idx_at hb' ho])]
      simp only [List.set_cons_succ, List.set_cons_zero]
      rw [exs_cons, ex_for, evi_rng]
      simp only [ev_v, List.getElem?_cons_succ, List.getElem?_cons_zero, R.bind_ok, okR, Int.natAbs_natCast, sm, if_true, R.use_ok, rngs_zero, gl, fin_f]
      simp
end K21

end
section
set_option Elab.async false
set_option linter.all false
set_option maxRecDepth 100000
set_option autoImplicit false
namespace K21
open Fg PySem
theorem cmp_nb {M : MH} {x y : Bool} : cmp2 .ne M (.bl x) (.bl y) = .ok (.bl (!(x == y))) M := by simp [cmp2]
def rI : Ss := .cons (.set 5 (.umt 0 8 (Str.ofString "same") (.v 0) (.cons (.v 3) (.cons (.v 4) .nil)))) (.cons (.ifs (.or (.not (.isi (.v 5) .bool)) (.cmp .ne (.v 5) (.cmp .eq (.idx (.v 1) (.v 3)) (.idx (.v 1) (.v 4))))) (.cons (.ret (.k (.bl false))) .nil) .nil) .nil)
def rO : Ss := .cons (.for [4] (.e (.v 2)) rI) .nil
def rL : E := .lrg true (.mx true (.k (.int 0)) (.op .sub true (.blt .len true (.cons (.v 1) .nil)) (.k (.int 12)))) (.blt .len true (.cons (.v 1) .nil))
theorem body2 : f_law_right.body = .cons (.set 2 rL) (.cons (.for [3] (.e (.v 2)) rO) (.cons (.ret (.k (.bl true))) .nil)) := rfl
section
variable {k n h g c : Nat} {gs : List Nat} {M0 : MH} {last : List D}
/-- the places as they stand in between -/
structure At (n h g c : Nat) (gs : List Nat) (M0 M : MH) : Prop where
  ex : ∃ p, M = M0.set h (.lst (dInts p)) ∧ Row M n h p ∧ Ok p gs c ∧ M[g]? = some (.lst (dInts gs))
theorem At.next {p p' : List Nat} {M : MH} (e : M = M0.set h (.lst (dInts p))) (W : Row M n h p) (O : Ok p gs c) (hg : M[g]? = some (.lst (dInts gs))) (f : Fin p p') (hne : g ≠ h) : At n h g c gs M0 (M.set h (.lst (dInts p'))) :=
  ⟨p', by rw [e, List.set_set], W.set, O.fin f, by rw [List.getElem?_set_ne (Ne.symm hne)]; exact hg⟩
theorem right_inner (hk : 2 ≤ k) (hc : c < 1000) (hne : g ≠ h) {x : Nat} (hx : x < gs.length) : ∀ (ds : List D) (σ : Sg) (M : MH), (∀ d ∈ ds, ∃ y : Nat, d = .int (y : Int) ∧ y < gs.length) → (∃ s4 s5, σ = [some (.ref n), some (.ref g), some (.lst last), some (.int (x : Int)), s4, s5]) → At n h g c gs M0 M →
    ∃ s4 s5 M', loopF (exs (callF prg k) rI) [4] (fun _ => true) ds σ M = .ok (.nx [some (.ref n), some (.ref g), some (.lst last), some (.int (x : Int)), s4, s5]) M' ∧ At n h g c gs M0 M'
  | [], σ, M, _, ⟨s4, s5, e⟩, A => ⟨s4, s5, M, by rw [e, loopF], A⟩
  | d :: ds, σ, M, hd, ⟨s4, s5, e⟩, A => by
    subst e
    obtain ⟨y, rfl, hy⟩ := hd d List.mem_cons_self
    obtain ⟨p, eM, W, O, hg⟩ := A
    obtain ⟨a, dx, lx, rx⟩ := O.rt x (by rw [← O.len]; exact hx)
    obtain ⟨b, dy, ly, ry⟩ := O.rt y (by rw [← O.len]; exact hy)
    obtain ⟨p', f, e1⟩ := c_same hk W rx ry (by omega) (by omega)
    have A' := At.next eM W O hg f hne
    obtain ⟨gx, hgx⟩ : ∃ v, gs[x]? = some v := ⟨_, List.getElem?_eq_getElem hx⟩
    obtain ⟨gy, hgy⟩ : ∃ v, gs[y]? = some v := ⟨_, List.getElem?_eq_getElem hy⟩
    have hg' : (M.set h (.lst (dInts p')))[g]? = some (.lst (dInts gs)) := by rw [List.getElem?_set_ne (Ne.symm hne)]; exact hg
    have iff := O.eq _ _ _ _ _ _ rx ry
    rw [hgx, hgy] at iff
    simp only [Option.some.injEq] at iff
    have eqb : decide ((gx : Int) = (gy : Int)) = decide (a = b) := decide_eq_decide.mpr (by rw [iff]; omega)
    have hb : exs (callF prg k) rI [some (.ref n), some (.ref g), some (.lst last), some (.int (x : Int)), some (.int (y : Int)), s5] M = .ok (.nx [some (.ref n), some (.ref g), some (.lst last), some (.int (x : Int)), some (.int (y : Int)), some (.bl (decide (a = b)))]) (M.set h (.lst (dInts p'))) := by
      unfold rI
      rw [s_set (x := .bl (decide (a = b))) (M1 := M.set h (.lst (dInts p'))) (by simp [W.at_, n4, e1])]
      simp only [List.set_cons_succ, List.set_cons_zero]
      rw [s_ifF (M1 := M.set h (.lst (dInts p')))]
      · simp
      · simp [okT, isT, idx_at hg' hgx, idx_at hg' hgy, cmp_eq, eqb, cmp_nb]
    obtain ⟨t4, t5, M', h2, A2⟩ := right_inner hk hc hne hx ds _ _ (fun d q => hd d (List.mem_cons_of_mem _ q)) ⟨_, _, rfl⟩ A'
    refine ⟨t4, t5, M', ?_, A2⟩
    rw [loopF]
    simp only [sets, List.set_cons_succ, List.set_cons_zero, hb, R.bind_ok, if_true]
    exact h2
theorem right_outer (hk : 2 ≤ k) (hc : c < 1000) (hne : g ≠ h) (hl : ∀ d ∈ last, ∃ y : Nat, d = .int (y : Int) ∧ y < gs.length) : ∀ (ds : List D) (σ : Sg) (M : MH), (∀ d ∈ ds, ∃ y : Nat, d = .int (y : Int) ∧ y < gs.length) → (∃ s3 s4 s5, σ = [some (.ref n), some (.ref g), some (.lst last), s3, s4, s5]) → At n h g c gs M0 M →
    ∃ s3 s4 s5 M', loopF (exs (callF prg k) rO) [3] (fun _ => true) ds σ M = .ok (.nx [some (.ref n), some (.ref g), some (.lst last), s3, s4, s5]) M' ∧ At n h g c gs M0 M'
  | [], σ, M, _, ⟨s3, s4, s5, e⟩, A => ⟨s3, s4, s5, M, by rw [e, loopF], A⟩
  | d :: ds, σ, M, hd, ⟨s3, s4, s5, e⟩, A => by
    subst e
    obtain ⟨x, rfl, hx⟩ := hd d List.mem_cons_self
    obtain ⟨u4, u5, M1, h1, A1⟩ := right_inner (last := last) hk hc hne hx last _ _ hl ⟨s4, s5, rfl⟩ A
    have hb : exs (callF prg k) rO [some (.ref n), some (.ref g), some (.lst last), some (.int (x : Int)), s4, s5] M = .ok (.nx [some (.ref n), some (.ref g), some (.lst last), some (.int (x : Int)), u4, u5]) M1 := by
      unfold rO
      rw [exs_cons, ex_for, evi_e]
      have st : still M (.lst last) = fun _ => true := rfl
      simp only [ev_v, List.getElem?_cons_succ, List.getElem?_cons_zero, R.bind_ok, itemsOf, vw, wk_lst, walk_lst, R.use_ok, st, h1, fin_f, exs_nil]
    obtain ⟨t3, t4, t5, M', h2, A2⟩ := right_outer hk hc hne hl ds _ _ (fun d q => hd d (List.mem_cons_of_mem _ q)) ⟨_, _, _, rfl⟩ A1
    refine ⟨t3, t4, t5, M', ?_, A2⟩
    rw [loopF]
    simp only [sets, List.set_cons_succ, List.set_cons_zero, hb, R.bind_ok, if_true]
    exact h2
end
theorem rngs_mem {a n : Nat} {d : D} (h : d ∈ rngs (a : Int) (n : Int)) : ∃ y : Nat, d = .int (y : Int) ∧ y < n := by
  unfold rngs at h
  obtain ⟨i, hi, rfl⟩ := List.mem_map.mp h
  rw [List.mem_range] at hi
  exact ⟨a + i, by simp, by omega⟩
theorem c_right {k n h g c : Nat} {p gs : List Nat} {M : MH} (hk : 3 ≤ k) (W : Row M n h p) (hg : M[g]? = some (.lst (dInts gs))) (O : Ok p gs c) (hc : c < 1000) (hne : g ≠ h) :
    ∃ p', Ok p' gs c ∧ (callF prg k).call 2 [.ref n, .ref g] M = .ok (.bl true) (M.set h (.lst (dInts p'))) := by
  obtain ⟨k, rfl⟩ : ∃ j, k = j + 1 := ⟨k - 1, by omega⟩
  have ln := O.len
  have hle := O.le
  obtain ⟨a, ea, la⟩ : ∃ a : Nat, (if ((gs.length : Int) - 12) > 0 then ((gs.length : Int) - 12) else 0) = (a : Int) ∧ a ≤ gs.length := by
    by_cases q : ((gs.length : Int) - 12) > 0
    · rw [if_pos q]; exact ⟨gs.length - 12, by omega, by omega⟩
    · rw [if_neg q]; exact ⟨0, rfl, Nat.zero_le _⟩
  have A : At n h g c gs M M := ⟨p, (set_self W.ls).symm, W, O, hg⟩
  obtain ⟨s3, s4, s5, M', h1, p', eM, W', O', hg'⟩ := right_outer (last := rngs (a : Int) (gs.length : Int)) (k := k) (by omega) hc hne (fun d q => rngs_mem q) (rngs (a : Int) (gs.length : Int)) _ M (fun d q => rngs_mem q) ⟨none, none, none, rfl⟩ A
  refine ⟨p', O', ?_⟩
  rw [call_step fn2, run_rt (d := .bl true) (M' := M') rfl rfl rfl, ← eM]
  · rw [eM]; exact retn_bl (by simp)
  · rw [body2]
    show exs (callF prg k) _ [some (.ref n), some (.ref g), none, none, none, none] M = _
    have okA : (okR (a : Int) && (okR (gs.length : Int) && decide (((gs.length : Int) - (a : Int)).toNat ≤ line))) = true := by
      simp only [okR, Int.natAbs_natCast, Bool.and_eq_true, decide_eq_true_eq]
      refine ⟨by omega, by omega, ?_⟩
      show _ ≤ 1000000
      omega
    rw [s_set (x := .lst (rngs (a : Int) (gs.length : Int))) (M1 := M)]
    · simp only [List.set_cons_succ, List.set_cons_zero]
      rw [exs_cons, ex_for, evi_e]
      have st : still M (.lst (rngs (a : Int) (gs.length : Int))) = fun _ => true := rfl
      simp only [ev_v, List.getElem?_cons_succ, List.getElem?_cons_zero, R.bind_ok, itemsOf, vw, wk_lst, walk_lst, R.use_ok, st, h1, fin_f]
      simp
    · unfold rL
      simp only [ev_lrg, ev_mx, ev_k, ev_op, ev_blt, evs_cons, evs_nil, ev_v, List.getElem?_cons_succ, List.getElem?_cons_zero, R.bind_ok, len_at hg, op2, num2, if_true, ea, okA, newl]
end K21

end
section
set_option Elab.async false
set_option linter.all false
set_option maxRecDepth 100000
set_option autoImplicit false
namespace K21
open Fg PySem
/-- the two rows and their groups, where they lie in the store -/
def st (p0 p1 g0 g1 : List Nat) : MH := [.ins 0 [(hs, .ref 1)], .lst (dInts p0), .ins 0 [(hs, .ref 3)], .lst (dInts p1), .lst (dInts g0), .lst (dInts g1)]
def lB : Ss := .cons (.set 4 (.call 0 (.cons (.v 3) .nil)))
  (.cons (.set 5 (.op .mod true (.op .fdiv true (.v 4) (.k (.int 7))) (.k (.int 2))))
  (.cons (.ifs (.not (.call 1 (.cons (.idx (.v 1) (.v 5)) (.cons (.idx (.v 2) (.v 5)) (.cons (.op .fdiv true (.v 4) (.k (.int 14))) .nil))))) (.cons (.ret (.k (.bl false))) .nil) .nil)
  (.cons (.ifs (.and (.cmp .eq (.op .mod true (.op .fdiv true (.v 4) (.k (.int 14))) (.k (.int 11))) (.k (.int 0))) (.not (.call 2 (.cons (.idx (.v 1) (.op .sub true (.k (.int 1)) (.v 5))) (.cons (.idx (.v 2) (.op .sub true (.k (.int 1)) (.v 5))) .nil))))) (.cons (.ret (.k (.bl false))) .nil) .nil) .nil)))
theorem body3 : f_law.body = .cons (.set 1 (.lst true (.cons (.new 0 4 .nil) (.cons (.new 0 4 .nil) .nil)))) (.cons (.set 2 (.lst true (.cons (.lst false .nil) (.cons (.lst false .nil) .nil))))
  (.cons (.for [3] (.e (.sl true (.v 0) .none (.some (.k (.int 100))))) lB) (.cons (.ret (.and (.call 2 (.cons (.idx (.v 1) (.k (.int 0))) (.cons (.idx (.v 2) (.k (.int 0))) .nil))) (.call 2 (.cons (.idx (.v 1) (.k (.int 1))) (.cons (.idx (.v 2) (.k (.int 1))) .nil))))) .nil))) := rfl
abbrev rows : D := .lst [.ref 0, .ref 2]
abbrev grps : D := .lst [.ref 4, .ref 5]
theorem ix2 {M : MH} {a b : D} : idx2 M (.lst [a, b]) (.int 0) = .ok a M ∧ idx2 M (.lst [a, b]) (.int 1) = .ok b M := by simp [idx2, vw]
/-- one turn -/
theorem turn {k c : Nat} {p0 p1 g0 g1 : List Nat} {s : D} {cell : Int} {s4 s5 : Option D} (hk : 3 ≤ k) (hc : c < 100) (O0 : Ok p0 g0 c) (O1 : Ok p1 g1 c) :
    ∃ t4 t5 q0 q1 h0 h1, exs (callF prg k) lB [some s, some rows, some grps, some (.int cell), s4, s5] (st p0 p1 g0 g1) = .ok (.nx [some s, some rows, some grps, some (.int cell), t4, t5]) (st q0 q1 h0 h1) ∧ Ok q0 h0 (c + 1) ∧ Ok q1 h1 (c + 1) := by
  have em := fun M : MH => c_mixed (k := k) (c := cell) (M := M) (by omega)
  unfold lB
  rw [s_set (x := .int (mixed cell)) (M1 := st p0 p1 g0 g1) (by simp [em])]
  simp only [List.set_cons_succ, List.set_cons_zero]
  have two : mixed cell / 7 % 2 = 0 ∨ mixed cell / 7 % 2 = 1 := by omega
  rcases two with e | e
  · rw [s_set (x := .int 0) (M1 := st p0 p1 g0 g1) (by simp [op2, num2, e])]
    simp only [List.set_cons_succ, List.set_cons_zero]
    obtain ⟨q0, h0, O0', ed⟩ := c_deed (k := k) (n := 0) (h := 1) (g := 4) (z := mixed cell / 14) (M := st p0 p1 g0 g1) hk ⟨rfl, rfl⟩ rfl O0 hc (by decide)
    have es : ((st p0 p1 g0 g1).set 1 (.lst (dInts q0))).set 4 (.lst (dInts h0)) = st q0 p1 h0 g1 := rfl
    rw [es] at ed
    rw [s_ifF (M1 := st q0 p1 h0 g1) (by simp [op2, num2, ed, ix2.1])]
    obtain ⟨q1, O1', er⟩ := c_right (k := k) (n := 2) (h := 3) (g := 5) (M := st q0 p1 h0 g1) hk ⟨rfl, rfl⟩ rfl O1 (by omega) (by decide)
    have es2 : (st q0 p1 h0 g1).set 3 (.lst (dInts q1)) = st q0 q1 h0 g1 := rfl
    rw [es2] at er
    by_cases c11 : mixed cell / 14 % 11 = 0
    · rw [s_ifF (M1 := st q0 q1 h0 g1) (by simp [op2, num2, c11, cmp_eq, er, ix2.2])]
      exact ⟨_, _, q0, q1, h0, g1, exs_nil, O0', O1'.up (by omega)⟩
    · rw [s_ifF (M1 := st q0 p1 h0 g1) (by simp [op2, num2, c11, cmp_eq])]
      exact ⟨_, _, q0, p1, h0, g1, exs_nil, O0', O1.up (by omega)⟩
  · rw [s_set (x := .int 1) (M1 := st p0 p1 g0 g1) (by simp [op2, num2, e])]
    simp only [List.set_cons_succ, List.set_cons_zero]
    obtain ⟨q1, h1, O1', ed⟩ := c_deed (k := k) (n := 2) (h := 3) (g := 5) (z := mixed cell / 14) (M := st p0 p1 g0 g1) hk ⟨rfl, rfl⟩ rfl O1 hc (by decide)
    have es : ((st p0 p1 g0 g1).set 3 (.lst (dInts q1))).set 5 (.lst (dInts h1)) = st p0 q1 g0 h1 := rfl
    rw [es] at ed
    rw [s_ifF (M1 := st p0 q1 g0 h1) (by simp [op2, num2, ed, ix2.2])]
    obtain ⟨q0, O0', er⟩ := c_right (k := k) (n := 0) (h := 1) (g := 4) (M := st p0 q1 g0 h1) hk ⟨rfl, rfl⟩ rfl O0 (by omega) (by decide)
    have es2 : (st p0 q1 g0 h1).set 1 (.lst (dInts q0)) = st q0 q1 g0 h1 := rfl
    rw [es2] at er
    by_cases c11 : mixed cell / 14 % 11 = 0
    · rw [s_ifF (M1 := st q0 q1 g0 h1) (by simp [op2, num2, c11, cmp_eq, er, ix2.1])]
      exact ⟨_, _, q0, q1, g0, h1, exs_nil, O0'.up (by omega), O1'⟩
    · rw [s_ifF (M1 := st p0 q1 g0 h1) (by simp [op2, num2, c11, cmp_eq])]
      exact ⟨_, _, p0, q1, g0, h1, exs_nil, O0.up (by omega), O1'⟩
theorem turns {k : Nat} {s : D} (hk : 3 ≤ k) : ∀ (ns : List Int) (c : Nat) (p0 p1 g0 g1 : List Nat) (σ : Sg), c + ns.length ≤ 100 → Ok p0 g0 c → Ok p1 g1 c → (∃ s3 s4 s5, σ = [some s, some rows, some grps, s3, s4, s5]) →
    ∃ s3 s4 s5 q0 q1 h0 h1 c', loopF (exs (callF prg k) lB) [3] (fun _ => true) (ns.map .int) σ (st p0 p1 g0 g1) = .ok (.nx [some s, some rows, some grps, s3, s4, s5]) (st q0 q1 h0 h1) ∧ Ok q0 h0 c' ∧ Ok q1 h1 c' ∧ c' ≤ 100
  | [], c, p0, p1, g0, g1, σ, hl, O0, O1, ⟨s3, s4, s5, e⟩ => ⟨s3, s4, s5, p0, p1, g0, g1, c, by rw [e, List.map_nil, loopF], O0, O1, by simpa using hl⟩
  | n :: ns, c, p0, p1, g0, g1, σ, hl, O0, O1, ⟨s3, s4, s5, e⟩ => by
    subst e
    simp only [List.length_cons] at hl
    obtain ⟨t4, t5, q0, q1, h0, h1, hb, A0, A1⟩ := turn (s := s) (cell := n) (s4 := s4) (s5 := s5) hk (by omega) O0 O1
    obtain ⟨u3, u4, u5, r0, r1, i0, i1, c', h2, B0, B1, B2⟩ := turns hk ns (c + 1) q0 q1 h0 h1 _ (by omega) A0 A1 ⟨_, t4, t5, rfl⟩
    refine ⟨u3, u4, u5, r0, r1, i0, i1, c', ?_, B0, B1, B2⟩
    rw [List.map_cons, loopF]
    simp only [sets, List.set_cons_succ, List.set_cons_zero, hb, R.bind_ok, if_true]
    exact h2
theorem ini_eq {P : Prg} {k i : Nat} {ds : List D} {M : MH} : (callF P (k + 1)).ini i ds M = (callF P k).call i ds M := rfl
theorem law_true (ns : List Int) (hl : ns.length ≤ 63) : ∃ M', (callF prg (8 + 1)).call 3 [.lst (ns.map .int)] [] = .ok (.bl true) M' := by
  obtain ⟨s3, s4, s5, q0, q1, h0, h1, c, h2, O0, O1, hc⟩ := turns (k := 8) (s := .lst (ns.map .int)) (by omega) ns 0 [] [] [] [] _ (by omega) Ok.nil Ok.nil ⟨none, none, none, rfl⟩
  obtain ⟨r0, P0, e0⟩ := c_right (k := 8) (n := 0) (h := 1) (g := 4) (M := st q0 q1 h0 h1) (by omega) ⟨rfl, rfl⟩ rfl O0 (by omega) (by decide)
  have es0 : (st q0 q1 h0 h1).set 1 (.lst (dInts r0)) = st r0 q1 h0 h1 := rfl
  rw [es0] at e0
  obtain ⟨r1, P1, e1⟩ := c_right (k := 8) (n := 2) (h := 3) (g := 5) (M := st r0 q1 h0 h1) (by omega) ⟨rfl, rfl⟩ rfl O1 (by omega) (by decide)
  have es1 : (st r0 q1 h0 h1).set 3 (.lst (dInts r1)) = st r0 r1 h0 h1 := rfl
  rw [es1] at e1
  rw [call_step fn3, run_rt (d := .bl true) (M' := st r0 r1 h0 h1) rfl rfl rfl]
  · refine ⟨[], ?_⟩
    unfold retn
    rw [if_pos ⟨rfl, rfl⟩, if_pos (by simp [nr])]
  · rw [body3]
    show exs (callF prg 8) _ [some (.lst (ns.map .int)), none, none, none, none, none] [] = _
    rw [s_set (x := rows) (M1 := [.ins 0 [(hs, .ref 1)], .lst [], .ins 0 [(hs, .ref 3)], .lst []])]
    · simp only [List.set_cons_succ, List.set_cons_zero]
      rw [s_set (x := grps) (M1 := st [] [] [] []) (by simp [newl, st, dInts])]
      simp only [List.set_cons_succ, List.set_cons_zero]
      have cut : cutl (ns.map D.int) none (some 100) = ns.map D.int := by
        simp only [cutl, six, List.length_map]
        rw [if_neg (by decide)]
        have : min (100 : Int).toNat ns.length = ns.length := by show min 100 ns.length = ns.length; omega
        rw [this, List.drop_zero, Nat.sub_zero, ← List.length_map (f := D.int), List.take_length]
      rw [exs_cons, ex_for, evi_e]
      have stl : still (st [] [] [] []) (.lst (ns.map .int)) = fun _ => true := rfl
      simp only [ev_sl, ev_v, ev_k, evo_none, evo_some, List.getElem?_cons_succ, List.getElem?_cons_zero, R.bind_ok, sl2, vw, newl, if_true, cut, itemsOf, wk_lst, walk_lst, R.use_ok, stl, h2, fin_f]
      simp [ix2.1, ix2.2, e0, e1]
    · have i1 := c_init (k := 7) (n := 0) (M := [.ins 0 []]) (by omega) rfl
      have i2 := c_init (k := 7) (n := 2) (M := [.ins 0 [(hs, .ref 1)], .lst [], .ins 0 []]) (by omega) rfl
      simp only [List.length_cons, List.length_nil, List.set_cons_succ, List.set_cons_zero, List.cons_append, List.nil_append] at i1 i2
      simp only [ev_lst, evs_cons, ev_new, evs_nil, R.bind_ok, List.length_nil, List.nil_append, ini_eq (P := prg) (k := 7), i1, List.length_cons, List.cons_append, i2, newl, if_true]
end K21

end
section
set_option Elab.async false
set_option linter.all false
set_option maxRecDepth 100000
set_option autoImplicit false
set_option maxHeartbeats 0
namespace K21
open Fg PySem PySem.Spec L2
def top_ (i : Nat) : Stmt := PySem.Challenge.pw_fieldgate_k21_classes.main.body.getD i (.Pass ⟨0, 0, 0, 0⟩)
def gm : Gm := ⟨[("_law_mixed", 0, 1), ("_law_deed", 1, 3), ("_law_right", 2, 2), ("law", 3, 1)], [], ["len", "list", "int", "max", "range", "isinstance", "bool"],
  [("Classes", 0, 4, 1)],
  [((0, "new"), 5, 1), ((0, "stand_in"), 6, 2), ((0, "one"), 7, 3), ((0, "same"), 8, 3)],
  ["hangs_on"]⟩
theorem gfn0 : prg.fn 0 = some f_law_mixed := rfl
theorem sc0 : FnScope f_law_mixed_names ["_law_cell"] (defScope (top_ 3)) := ⟨rfl, rfl, rfl, by decide +kernel, rfl, by decide +kernel, by decide +kernel⟩
theorem ck0 : chk gm 200 false f_law_mixed_names (defScope (top_ 3)) (.ss (defBody (top_ 3)) f_law_mixed.body) = true := by decide +kernel
theorem gfn1 : prg.fn 1 = some f_law_deed := rfl
theorem sc1 : FnScope f_law_deed_names ["_law_row", "_law_groups", "_law_number"] (defScope (top_ 4)) := ⟨rfl, rfl, rfl, by decide +kernel, rfl, by decide +kernel, by decide +kernel⟩
theorem ck1 : chk gm 200 false f_law_deed_names (defScope (top_ 4)) (.ss (defBody (top_ 4)) f_law_deed.body) = true := by decide +kernel
theorem gfn2 : prg.fn 2 = some f_law_right := rfl
theorem sc2 : FnScope f_law_right_names ["_law_row", "_law_groups"] (defScope (top_ 5)) := ⟨rfl, rfl, rfl, by decide +kernel, rfl, by decide +kernel, by decide +kernel⟩
theorem ck2 : chk gm 200 false f_law_right_names (defScope (top_ 5)) (.ss (defBody (top_ 5)) f_law_right.body) = true := by decide +kernel
theorem gfn3 : prg.fn 3 = some f_law := rfl
theorem sc3 : FnScope f_law_names ["_law_script"] (defScope (top_ 6)) := ⟨rfl, rfl, rfl, by decide +kernel, rfl, by decide +kernel, by decide +kernel⟩
theorem ck3 : chk gm 200 false f_law_names (defScope (top_ 6)) (.ss (defBody (top_ 6)) f_law.body) = true := by decide +kernel
theorem gfn4 : prg.fn 4 = some f_Classes___init__ := rfl
theorem sc4 : FnScope f_Classes___init___names ["self"] (defScope (inClass (top_ 1) 0)) := ⟨rfl, rfl, rfl, by decide +kernel, rfl, by decide +kernel, by decide +kernel⟩
theorem ck4 : chk gm 200 false f_Classes___init___names (defScope (inClass (top_ 1) 0)) (.ss (defBody (inClass (top_ 1) 0)) f_Classes___init__.body) = true := by decide +kernel
theorem gfn5 : prg.fn 5 = some f_Classes_new := rfl
theorem sc5 : FnScope f_Classes_new_names ["self"] (defScope (inClass (top_ 1) 1)) := ⟨rfl, rfl, rfl, by decide +kernel, rfl, by decide +kernel, by decide +kernel⟩
theorem ck5 : chk gm 200 false f_Classes_new_names (defScope (inClass (top_ 1) 1)) (.ss (defBody (inClass (top_ 1) 1)) f_Classes_new.body) = true := by decide +kernel
theorem gfn6 : prg.fn 6 = some f_Classes_stand_in := rfl
theorem sc6 : FnScope f_Classes_stand_in_names ["self", "place"] (defScope (inClass (top_ 1) 2)) := ⟨rfl, rfl, rfl, by decide +kernel, rfl, by decide +kernel, by decide +kernel⟩
theorem ck6 : chk gm 200 false f_Classes_stand_in_names (defScope (inClass (top_ 1) 2)) (.ss (defBody (inClass (top_ 1) 2)) f_Classes_stand_in.body) = true := by decide +kernel
theorem gfn7 : prg.fn 7 = some f_Classes_one := rfl
theorem sc7 : FnScope f_Classes_one_names ["self", "place", "other"] (defScope (inClass (top_ 1) 3)) := ⟨rfl, rfl, rfl, by decide +kernel, rfl, by decide +kernel, by decide +kernel⟩
theorem ck7 : chk gm 200 false f_Classes_one_names (defScope (inClass (top_ 1) 3)) (.ss (defBody (inClass (top_ 1) 3)) f_Classes_one.body) = true := by decide +kernel
theorem gfn8 : prg.fn 8 = some f_Classes_same := rfl
theorem sc8 : FnScope f_Classes_same_names ["self", "place", "other"] (defScope (inClass (top_ 1) 4)) := ⟨rfl, rfl, rfl, by decide +kernel, rfl, by decide +kernel, by decide +kernel⟩
theorem ck8 : chk gm 200 false f_Classes_same_names (defScope (inClass (top_ 1) 4)) (.ss (defBody (inClass (top_ 1) 4)) f_Classes_same.body) = true := by decide +kernel
theorem mem_of_lookup {α β : Type} [BEq α] [LawfulBEq α] {x : α} {b : β} : ∀ {l : List (α × β)}, l.lookup x = some b → (x, b) ∈ l
  | [], h => by cases h
  | (y, c) :: l, h => by
    rw [List.lookup_cons] at h
    by_cases e : x = y
    · subst e; simp at h; subst h; exact List.mem_cons_self
    · rw [show (x == y) = false from beq_eq_false_iff_ne.mpr e] at h
      exact List.mem_cons_of_mem _ (mem_of_lookup h)
theorem all_mk {l : W.OpenLaw} {w : World} {K : W.Frag} {h : Heap} {mg : Str → Option Value} {fa f0 f1 f2 f3 f4 f5 f6 f7 f8 C0 : Addr} (X : K.In h) (G : h.Ns mainGlobals mg) (hfa : mg "law" = some (.ref fa))
    {od0 an0 od1 an1 od2 an2 od3 an3 od4 an4 od5 an5 od6 an6 od7 an7 od8 an8 : Option Addr} {sl0 sl1 sl2 sl3 sl4 sl5 sl6 sl7 sl8 : Array (Option Value)} {oc0 kV0 dc0 pm0 cd0 ct0 oc1 kV1 dc1 pm1 cd1 ct1 oc2 kV2 dc2 pm2 cd2 ct2 oc3 kV3 dc3 pm3 cd3 ct3 oc4 kV4 dc4 pm4 cd4 ct4 oc5 kV5 dc5 pm5 cd5 ct5 oc6 kV6 dc6 pm6 cd6 ct6 oc7 kV7 dc7 pm7 cd7 ct7 oc8 kV8 dc8 pm8 cd8 ct8 : Value}
    (aC0 : W.nsIn K mainGlobals "Classes" = some (some (.ref C0))) (pg0 : W.plainGet K C0 Str.empty = true) (hd0 : W.hasDictIn K C0 = true) (po0 : W.plainOver K C0 = true) (sa0 : W.findIn K (.ref C0) "__setattr__" = some (some (.builtin "object.__setattr__"))) (mk0 : W.makesIn K C0 = true) (kc0 : W.keepIn K (.ref C0) = true) (nf0_0 : W.findIn K (.ref C0) "hangs_on" = some none)
    (a0 : W.nsIn K mainGlobals "_law_mixed" = some (some (.ref f0))) (l0 : K.lookup f0 = some ⟨oc0, od0, .func (W.fnOf "_law_mixed" "_law_mixed" (defArgs (top_ 3)) (defBody (top_ 3)) (defScope (top_ 3)) .none kV0 dc0 pm0 an0 cd0 ct0), sl0⟩) (c0 : W.codeIn K cd0 "_law_mixed" = true) (k0 : W.keepIn K (.ref f0) = true)
    (a1 : W.nsIn K mainGlobals "_law_deed" = some (some (.ref f1))) (l1 : K.lookup f1 = some ⟨oc1, od1, .func (W.fnOf "_law_deed" "_law_deed" (defArgs (top_ 4)) (defBody (top_ 4)) (defScope (top_ 4)) .none kV1 dc1 pm1 an1 cd1 ct1), sl1⟩) (c1 : W.codeIn K cd1 "_law_deed" = true) (k1 : W.keepIn K (.ref f1) = true)
    (a2 : W.nsIn K mainGlobals "_law_right" = some (some (.ref f2))) (l2 : K.lookup f2 = some ⟨oc2, od2, .func (W.fnOf "_law_right" "_law_right" (defArgs (top_ 5)) (defBody (top_ 5)) (defScope (top_ 5)) .none kV2 dc2 pm2 an2 cd2 ct2), sl2⟩) (c2 : W.codeIn K cd2 "_law_right" = true) (k2 : W.keepIn K (.ref f2) = true)
    (a3 : W.nsIn K mainGlobals "law" = some (some (.ref f3))) (l3 : K.lookup f3 = some ⟨oc3, od3, .func (W.fnOf "law" "law" (defArgs (top_ 6)) (defBody (top_ 6)) (defScope (top_ 6)) .none kV3 dc3 pm3 an3 cd3 ct3), sl3⟩) (c3 : W.codeIn K cd3 "law" = true) (k3 : W.keepIn K (.ref f3) = true)
    (a4 : W.findIn K (.ref C0) "__init__" = some (some (.ref f4))) (i4 : W.isFn K (.ref f4) = true) (l4 : K.lookup f4 = some ⟨oc4, od4, .func (W.fnOf "__init__" "Classes.__init__" (defArgs (inClass (top_ 1) 0)) (defBody (inClass (top_ 1) 0)) (defScope (inClass (top_ 1) 0)) .none kV4 dc4 pm4 an4 cd4 ct4), sl4⟩) (c4 : W.codeIn K cd4 "Classes.__init__" = true) (k4 : W.keepIn K (.ref f4) = true)
    (a5 : W.findIn K (.ref C0) "new" = some (some (.ref f5))) (i5 : W.isFn K (.ref f5) = true) (l5 : K.lookup f5 = some ⟨oc5, od5, .func (W.fnOf "new" "Classes.new" (defArgs (inClass (top_ 1) 1)) (defBody (inClass (top_ 1) 1)) (defScope (inClass (top_ 1) 1)) .none kV5 dc5 pm5 an5 cd5 ct5), sl5⟩) (c5 : W.codeIn K cd5 "Classes.new" = true) (k5 : W.keepIn K (.ref f5) = true)
    (a6 : W.findIn K (.ref C0) "stand_in" = some (some (.ref f6))) (i6 : W.isFn K (.ref f6) = true) (l6 : K.lookup f6 = some ⟨oc6, od6, .func (W.fnOf "stand_in" "Classes.stand_in" (defArgs (inClass (top_ 1) 2)) (defBody (inClass (top_ 1) 2)) (defScope (inClass (top_ 1) 2)) .none kV6 dc6 pm6 an6 cd6 ct6), sl6⟩) (c6 : W.codeIn K cd6 "Classes.stand_in" = true) (k6 : W.keepIn K (.ref f6) = true)
    (a7 : W.findIn K (.ref C0) "one" = some (some (.ref f7))) (i7 : W.isFn K (.ref f7) = true) (l7 : K.lookup f7 = some ⟨oc7, od7, .func (W.fnOf "one" "Classes.one" (defArgs (inClass (top_ 1) 3)) (defBody (inClass (top_ 1) 3)) (defScope (inClass (top_ 1) 3)) .none kV7 dc7 pm7 an7 cd7 ct7), sl7⟩) (c7 : W.codeIn K cd7 "Classes.one" = true) (k7 : W.keepIn K (.ref f7) = true)
    (a8 : W.findIn K (.ref C0) "same" = some (some (.ref f8))) (i8 : W.isFn K (.ref f8) = true) (l8 : K.lookup f8 = some ⟨oc8, od8, .func (W.fnOf "same" "Classes.same" (defArgs (inClass (top_ 1) 4)) (defBody (inClass (top_ 1) 4)) (defScope (inClass (top_ 1) 4)) .none kV8 dc8 pm8 an8 cd8 ct8), sl8⟩) (c8 : W.codeIn K cd8 "Classes.same" = true) (k8 : W.keepIn K (.ref f8) = true)
    (z0 : W.nsIn K mainGlobals "len" = some none) (z1 : W.nsIn K mainGlobals "list" = some none) (z2 : W.nsIn K mainGlobals "int" = some none) (z3 : W.nsIn K mainGlobals "max" = some none) (z4 : W.nsIn K mainGlobals "range" = some none) (z5 : W.nsIn K mainGlobals "isinstance" = some none) (z6 : W.nsIn K mainGlobals "bool" = some none) :
    ∃ fd : FuncData, (∀ (s : Shared) (v : Value), BindsTo s fd ⟨[v], []⟩ [("_law_script", v)]) ∧ ∀ base : Heap, K.In base → base.Ns mainGlobals mg → FnOk l.prog w K mg base (CXE l.prog w) 9 fa fd ["_law_script"] (Fg.spLaw K) := by
  have e := hfa.symm.trans (W.mg_of X G a3)
  cases e
  have F0 := fun_mk (st := (top_ 3)) l0 c0 k0
  have F1 := fun_mk (st := (top_ 4)) l1 c1 k1
  have F2 := fun_mk (st := (top_ 5)) l2 c2 k2
  have F3 := fun_mk (st := (top_ 6)) l3 c3 k3
  have F4 := fun_mk (st := (inClass (top_ 1) 0)) l4 c4 k4
  have F5 := fun_mk (st := (inClass (top_ 1) 1)) l5 c5 k5
  have F6 := fun_mk (st := (inClass (top_ 1) 2)) l6 c6 k6
  have F7 := fun_mk (st := (inClass (top_ 1) 3)) l7 c7 k7
  have F8 := fun_mk (st := (inClass (top_ 1) 4)) l8 c8 k8
  have b0 := F0.binds (ps := ["_law_cell"]) fun _ _ _ _ _ _ us hl => match us, hl with | [_], _ => rfl
  have A0 : FnAt gm prg K 0 1 f0 _ ["_law_cell"] := ⟨_, _, _, _, _, F0, gfn0, sc0, rfl, rfl, rfl, rfl, ck0⟩
  have b1 := F1.binds (ps := ["_law_row", "_law_groups", "_law_number"]) fun _ _ _ _ _ _ us hl => match us, hl with | [_, _, _], _ => rfl
  have A1 : FnAt gm prg K 1 3 f1 _ ["_law_row", "_law_groups", "_law_number"] := ⟨_, _, _, _, _, F1, gfn1, sc1, rfl, rfl, rfl, rfl, ck1⟩
  have b2 := F2.binds (ps := ["_law_row", "_law_groups"]) fun _ _ _ _ _ _ us hl => match us, hl with | [_, _], _ => rfl
  have A2 : FnAt gm prg K 2 2 f2 _ ["_law_row", "_law_groups"] := ⟨_, _, _, _, _, F2, gfn2, sc2, rfl, rfl, rfl, rfl, ck2⟩
  have b3 := F3.binds (ps := ["_law_script"]) fun _ _ _ _ _ _ us hl => match us, hl with | [_], _ => rfl
  have A3 : FnAt gm prg K 3 1 fa _ ["_law_script"] := ⟨_, _, _, _, _, F3, gfn3, sc3, rfl, rfl, rfl, rfl, ck3⟩
  have b4 := F4.binds (ps := ["self"]) fun _ _ _ _ _ _ us hl => match us, hl with | [_], _ => rfl
  have A4 : FnAt gm prg K 4 1 f4 _ ["self"] := ⟨_, _, _, _, _, F4, gfn4, sc4, rfl, rfl, rfl, rfl, ck4⟩
  have b5 := F5.binds (ps := ["self"]) fun _ _ _ _ _ _ us hl => match us, hl with | [_], _ => rfl
  have A5 : FnAt gm prg K 5 1 f5 _ ["self"] := ⟨_, _, _, _, _, F5, gfn5, sc5, rfl, rfl, rfl, rfl, ck5⟩
  have b6 := F6.binds (ps := ["self", "place"]) fun _ _ _ _ _ _ us hl => match us, hl with | [_, _], _ => rfl
  have A6 : FnAt gm prg K 6 2 f6 _ ["self", "place"] := ⟨_, _, _, _, _, F6, gfn6, sc6, rfl, rfl, rfl, rfl, ck6⟩
  have b7 := F7.binds (ps := ["self", "place", "other"]) fun _ _ _ _ _ _ us hl => match us, hl with | [_, _, _], _ => rfl
  have A7 : FnAt gm prg K 7 3 f7 _ ["self", "place", "other"] := ⟨_, _, _, _, _, F7, gfn7, sc7, rfl, rfl, rfl, rfl, ck7⟩
  have b8 := F8.binds (ps := ["self", "place", "other"]) fun _ _ _ _ _ _ us hl => match us, hl with | [_, _, _], _ => rfl
  have A8 : FnAt gm prg K 8 3 f8 _ ["self", "place", "other"] := ⟨_, _, _, _, _, F8, gfn8, sc8, rfl, rfl, rfl, rfl, ck8⟩
  have cl0 : Cls K C0 := ⟨pg0, hd0, po0, sa0⟩
  have D : Md gm prg w K mg (fun c => ([C0] : List Addr)[c]?) := by
    refine ⟨fun x i hx => ?_, fun x hx => ?_, fun f i m hx => ?_, fun c C hx => ?_, fun c nm i m hx => ?_, fun x c i m hx => ?_⟩
    · have hm := mem_of_lookup hx
      simp [gm] at hm
    · have hm := List.contains_iff_mem.mp hx
      simp only [gm, List.mem_cons, List.not_mem_nil, or_false] at hm
      rcases hm with rfl | rfl | rfl | rfl | rfl | rfl | rfl
      · exact W.mg_none_of X G z0
      · exact W.mg_none_of X G z1
      · exact W.mg_none_of X G z2
      · exact W.mg_none_of X G z3
      · exact W.mg_none_of X G z4
      · exact W.mg_none_of X G z5
      · exact W.mg_none_of X G z6
    · have hm := mem_of_lookup hx
      simp only [gm, List.mem_cons, Prod.mk.injEq, List.not_mem_nil, or_false] at hm
      rcases hm with ⟨rfl, rfl, rfl⟩ | ⟨rfl, rfl, rfl⟩ | ⟨rfl, rfl, rfl⟩ | ⟨rfl, rfl, rfl⟩
      · exact ⟨f0, _, _, W.mg_of X G a0, k0, b0, A0⟩
      · exact ⟨f1, _, _, W.mg_of X G a1, k1, b1, A1⟩
      · exact ⟨f2, _, _, W.mg_of X G a2, k2, b2, A2⟩
      · exact ⟨fa, _, _, W.mg_of X G a3, k3, b3, A3⟩
    · match c, hx with
      | 0, hx =>
        cases hx
        refine ⟨cl0, fun f hf => ?_⟩
        have hm := List.contains_iff_mem.mp hf
        simp only [gm, List.mem_cons, List.not_mem_nil, or_false] at hm
        rcases hm with rfl
        · exact nf0_0
      | n + 1, hx => simp at hx
    · have hm := mem_of_lookup hx
      simp only [gm, List.mem_cons, Prod.mk.injEq, List.not_mem_nil, or_false] at hm
      rcases hm with ⟨⟨rfl, rfl⟩, rfl, rfl⟩ | ⟨⟨rfl, rfl⟩, rfl, rfl⟩ | ⟨⟨rfl, rfl⟩, rfl, rfl⟩ | ⟨⟨rfl, rfl⟩, rfl, rfl⟩
      · exact ⟨C0, f5, _, _, rfl, ⟨a5, i5, k5⟩, b5, A5⟩
      · exact ⟨C0, f6, _, _, rfl, ⟨a6, i6, k6⟩, b6, A6⟩
      · exact ⟨C0, f7, _, _, rfl, ⟨a7, i7, k7⟩, b7, A7⟩
      · exact ⟨C0, f8, _, _, rfl, ⟨a8, i8, k8⟩, b8, A8⟩
    · have hm := mem_of_lookup hx
      simp only [gm, List.mem_cons, Prod.mk.injEq, List.not_mem_nil, or_false] at hm
      rcases hm with ⟨rfl, rfl, rfl, rfl⟩
      · exact ⟨C0, f4, _, _, W.mg_of X G aC0, rfl, ⟨mk0, a4, i4, kc0⟩, b4, A4⟩
  refine ⟨(W.fnOf "law" "law" (defArgs (top_ 6)) (defBody (top_ 6)) (defScope (top_ 6)) .none kV3 dc3 pm3 an3 cd3 ct3), fun s v => .of_eq rfl, fun base _ _ => ?_⟩
  exact law_ok (k := 8) D law_true F3 gfn3 sc3 rfl rfl rfl rfl ck3
theorem walk {l : W.OpenLaw} {q : Program} {loose : List Str} {XP : (Str → Option Value) → Heap → Prop} {YP : World → Heap → Prop} {d : DefRec} {K : Params → W.Frag} (hn : l.most = some 63) (hdf : d.params.defaults = [])
    (hY : ∀ (w : World) (h : Heap), YP w h → (K w.params).In h)
    (F : ∀ (w : World) (mg : Str → Option Value) (fa : Addr) (h : Heap), (K w.params).In h → h.Ns mainGlobals mg → mg d.name = some (.ref fa) →
      ∃ fd : FuncData, (∀ (s : Shared) (u : Value), BindsTo s fd ⟨[u], []⟩ [("_law_script", u)]) ∧ ∀ base : Heap, (K w.params).In base → base.Ns mainGlobals mg → FnOk l.prog w (K w.params) mg base (CXE l.prog w) 9 fa fd ["_law_script"] (Fg.spLaw (K w.params))) :
    W.WalkO q loose XP YP l.row.toRowW d [] (fun f vs => PySem.call f vs) :=
  L2.walk_of (n := 63) (k := 9) (x := "_law_script") (CX := fun w => CXE l.prog w) (sp := fun w => Fg.spLaw (K w.params)) hn (by decide) hdf ⟨rfl, by decide, by decide⟩ hY F (fun _ _ a ns hl _ hS => ⟨a, ns, rfl, hS, hl, fun _ => rfl⟩) fun _ _ _ _ _ ⟨_, _, _, _, _, _, _, _, _, _, _, _, z⟩ => z
end K21

end
section
open PySem PySem.W PyProof.Rows
set_option maxRecDepth 100000 in
set_option maxHeartbeats 0 in
theorem PySem.Challenge.cw_fieldgate_k21_classes_holds : PySem.Challenge.rw_fieldgate_k21_classes.Holds := by
  w_on; o_law; k_head; (case hw => w_witness2)
  k_fill
  refine K21.walk (l := PySem.Challenge.rw_fieldgate_k21_classes) rfl rfl (fun w h Y => PySem.W.kIn_of Y) ?F
  case F =>
    intro w mg fa h KX G hmg
    refine' K21.all_mk KX G hmg ?aC0 ?pg0 ?hd0 ?po0 ?sa0 ?mk0 ?kc0 ?nf0_0 ?a0 ?l0 ?c0 ?k0 ?a1 ?l1 ?c1 ?k1 ?a2 ?l2 ?c2 ?k2 ?a3 ?l3 ?c3 ?k3 ?a4 ?i4 ?l4 ?c4 ?k4 ?a5 ?i5 ?l5 ?c5 ?k5 ?a6 ?i6 ?l6 ?c6 ?k6 ?a7 ?i7 ?l7 ?c7 ?k7 ?a8 ?i8 ?l8 ?c8 ?k8 ?z0 ?z1 ?z2 ?z3 ?z4 ?z5 ?z6
    (case aC0 => k_is)
    (case pg0 => k_is)
    (case hd0 => k_is)
    (case po0 => k_is)
    (case sa0 => k_is)
    (case mk0 => k_is)
    (case kc0 => k_is)
    (case nf0_0 => k_is)
    (case a0 => k_is)
    (case l0 => k_is)
    (case c0 => k_is)
    (case k0 => k_is)
    (case a1 => k_is)
    (case l1 => k_is)
    (case c1 => k_is)
    (case k1 => k_is)
    (case a2 => k_is)
    (case l2 => k_is)
    (case c2 => k_is)
    (case k2 => k_is)
    (case a3 => k_is)
    (case l3 => k_is)
    (case c3 => k_is)
    (case k3 => k_is)
    (case a4 => k_is)
    (case i4 => k_is)
    (case l4 => k_is)
    (case c4 => k_is)
    (case k4 => k_is)
    (case a5 => k_is)
    (case i5 => k_is)
    (case l5 => k_is)
    (case c5 => k_is)
    (case k5 => k_is)
    (case a6 => k_is)
    (case i6 => k_is)
    (case l6 => k_is)
    (case c6 => k_is)
    (case k6 => k_is)
    (case a7 => k_is)
    (case i7 => k_is)
    (case l7 => k_is)
    (case c7 => k_is)
    (case k7 => k_is)
    (case a8 => k_is)
    (case i8 => k_is)
    (case l8 => k_is)
    (case c8 => k_is)
    (case k8 => k_is)
    (case z0 => k_is)
    (case z1 => k_is)
    (case z2 => k_is)
    (case z3 => k_is)
    (case z4 => k_is)
    (case z5 => k_is)
    (case z6 => k_is)

end
