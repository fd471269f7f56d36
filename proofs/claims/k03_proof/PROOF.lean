import PyProof.Rows.All
import Wide.All
import OpenK.AllK
import Wide.FinOn
import Lean
import PyProof.EqAt
import PyProof.EqKinds
import PyProof.TupleCall
import PyProof.NeKinds
import PyProof.CompFree
import PyProof.ListRange
import PyProof.Rows.FStr
import PyProof.ConsumeWalk
import PyProof.ZipIter
import PySem.Challenge.RW_fieldgate_k03_kind_of
set_option maxRecDepth 100000
set_option linter.all false
set_option Elab.async false
section
namespace L2
open PySem PySem.Spec PyProof.Rows
abbrev Key := Sum Int Str
def keyIs : Key -> Value -> Bool
  | .inl k,v => Value.isInt k v
  | .inr x,v => Value.isStrOf x v
def keyH (w : World) : Key -> Int
  | .inl k => hashInt k
  | .inr x => hashStr w x
theorem keyIs_shape : ∀ {k : Key} {v : Value},keyIs k v = true -> (∃ i t,k = Sum.inl i /\ v = Value.int i t) \/ (∃ x t,k = Sum.inr x /\ v = Value.str x t)
  | .inl i,v,h => by
    obtain ⟨t,e⟩ := Value.isInt_shape (k := i) (v := v) h
    exact .inl ⟨i,t,rfl,e⟩
  | .inr x,v,h => by
    obtain ⟨t,e⟩ := Value.isStrOf_shape (x := x) (v := v) h
    exact .inr ⟨x,t,rfl,e⟩
theorem keyIs_int (i : Int) (t : Tok) : keyIs (.inl i) (.int i t) = true := by simp [keyIs,Value.isInt]
theorem keyIs_str (x : Str) (t : Tok) : keyIs (.inr x) (.str x t) = true := by simp [keyIs,Value.isStrOf]
theorem key_ll (a b : Int) : decide ((Sum.inl a : Key) = Sum.inl b) = (a == b) := by
  by_cases e : a = b
  . subst e; simp
  . have h : ¬ (Sum.inl a : Key) = Sum.inl b := fun q => e (Sum.inl.inj q)
    rw [decide_eq_false h]
    exact (beq_eq_false_iff_ne.mpr e).symm
theorem key_rr (a b : Str) : decide ((Sum.inr a : Key) = Sum.inr b) = decide (a = b) := by
  by_cases e : a = b
  . subst e; simp
  . have h : ¬ (Sum.inr a : Key) = Sum.inr b := fun q => e (Sum.inr.inj q)
    rw [decide_eq_false h,decide_eq_false e]
theorem key_lr (a : Int) (b : Str) : decide ((Sum.inl a : Key) = Sum.inr b) = false := decide_eq_false (fun q => nomatch q)
theorem key_rl (a : Str) (b : Int) : decide ((Sum.inr a : Key) = Sum.inl b) = false := decide_eq_false (fun q => nomatch q)
def mixKind (prog : Program) (w : World) : PySem.KeyKind prog w Key where
  is := keyIs
  hash := keyH w
  inj := fun v a b ha hb => by
    rcases keyIs_shape ha with ⟨i,t,rfl,rfl⟩ | ⟨x,t,rfl,rfl⟩
    . rcases keyIs_shape hb with ⟨j,u,rfl,e⟩ | ⟨y,u,rfl,e⟩
      . injection e with e1 _; rw [e1]
      . exact nomatch e
    . rcases keyIs_shape hb with ⟨j,u,rfl,e⟩ | ⟨y,u,rfl,e⟩
      . exact nomatch e
      . injection e with e1 _; rw [e1]
  byValue := fun k v h => by
    rcases keyIs_shape h with ⟨i,t,rfl,rfl⟩ | ⟨x,t,rfl,rfl⟩ <;> rfl
  pyHash := fun hv h => by
    rcases keyIs_shape hv with ⟨i,t,rfl,rfl⟩ | ⟨x,t,rfl,rfl⟩
    . exact wpAny_pyHash_int h
    . exact wpAny_pyHash_str h
  eqBool := fun hu hv h => by
    rcases keyIs_shape hu with ⟨i,t,rfl,rfl⟩ | ⟨x,t,rfl,rfl⟩
    . rcases keyIs_shape hv with ⟨j,u,rfl,rfl⟩ | ⟨y,u,rfl,rfl⟩
      . rw [key_ll] at h; exact wpAny_eqBool_int h
      . rw [key_lr] at h; exact SeqAt.EqAt.int_str i t y u _ _ _ _ h
    . rcases keyIs_shape hv with ⟨j,u,rfl,rfl⟩ | ⟨y,u,rfl,rfl⟩
      . rw [key_rl] at h; exact SeqAt.EqAt.str_int x t j u _ _ _ _ h
      . rw [key_rr] at h; exact wpAny_eqBool_str h
  «strs» := fun k x t v h => by
    rcases keyIs_shape h with ⟨i,u,rfl,e⟩ | ⟨y,u,rfl,e⟩
    . exact nomatch e
    . injection e with e1 _
      subst e1
      cases v <;> rfl
theorem mixKind_int (prog : Program) (w : World) (i : Int) (t : Tok) : (mixKind prog w).is (.inl i) (.int i t) = true := keyIs_int i t
theorem mixKind_str (prog : Program) (w : World) (x : Str) (t : Tok) : (mixKind prog w).is (.inr x) (.str x t) = true := keyIs_str x t
end L2
namespace L2
open PySem PySem.Spec PyProof.Rows
inductive V where
  | non | bl (b : Bool) | int (i : Int) | str (x : Str) | byt (b : Array UInt8) | flt (b : UInt64) | ref (a : Addr) | ty (n : String)
  deriving DecidableEq
def RelV : V -> Value -> Prop
  | .non,u => u = Value.none
  | .bl b,u => u = Value.bool b
  | .int i,u => ∃ t,u = Value.int i t
  | .str x,u => ∃ t,u = Value.str x t
  | .byt b,u => ∃ t,u = Value.bytes b t
  | .flt b,u => ∃ t,u = Value.float b t
  | .ref a,u => u = Value.ref a
  | .ty n,u => u = Value.type n
abbrev Vals : List V -> List Value -> Prop := Paired RelV
theorem Vals.length {xs : List V} {us : List Value} (r : Vals xs us) : xs.length = us.length := Paired.length r
theorem Vals.get : ∀ {xs : List V} {us : List Value} {i : Nat} {x : V},Vals xs us -> xs[i]? = some x -> ∃ u,us[i]? = some u /\ RelV x u
  | _,_,_,_,.nil,e => by simp at e
  | _,_,0,_,.cons r _,e => by simp at e; subst e; exact ⟨_,rfl,r⟩
  | _,_,i + 1,x,.cons _ t,e => by
    obtain ⟨u,h1,h2⟩ := Vals.get (i := i) (x := x) t (by simpa using e)
    exact ⟨u,by simpa using h1,h2⟩
theorem Vals.set {x : V} {u : Value} (r : RelV x u) : ∀ {xs : List V} {us : List Value} (i : Nat),Vals xs us -> Vals (xs.set i x) (us.set i u)
  | _,_,_,.nil => .nil
  | _,_,0,.cons _ t => .cons r t
  | _,_,i + 1,.cons q t => .cons q (Vals.set r i t)
theorem Vals.append : ∀ {xs ys : List V} {us ws : List Value},Vals xs us -> Vals ys ws -> Vals (xs ++ ys) (us ++ ws)
  | _,_,_,_,.nil,s => s
  | _,_,_,_,.cons r t,s => .cons r (Vals.append t s)
theorem Vals.take : ∀ {xs : List V} {us : List Value} (n : Nat),Vals xs us -> Vals (xs.take n) (us.take n)
  | _,_,0,_ => .nil
  | _,_,_ + 1,.nil => .nil
  | _,_,n + 1,.cons r t => .cons r (Vals.take n t)
theorem Vals.drop : ∀ {xs : List V} {us : List Value} (n : Nat),Vals xs us -> Vals (xs.drop n) (us.drop n)
  | _,_,0,r => r
  | _,_,_ + 1,.nil => .nil
  | _,_,n + 1,.cons _ t => Vals.drop n t
def RelO : Option V -> Option Value -> Prop
  | some v,some u => RelV v u
  | none,none => True
  | _,_ => False
def KV {κ : Type} : List (κ × V) -> List (κ × Value) -> Prop := Paired fun (p : κ × V) (q : κ × Value) => p.1 = q.1 /\ RelV p.2 q.2
def kV : Key -> V
  | .inl i => .int i
  | .inr x => .str x
inductive HO where
  | lst (xs : List V)
  | tup (xs : List V)
  | dK (kvs : List (Key × V)) | dT (kvs : List (List Key × V))
  | set (S : Int -> Bool) (n : Nat)
  | ins (C dx : Addr) (fs : List (Str × V))
  | own (x : Addr)
  | xd (fs : List (Str × V))
  | met (f x : Addr)
  | rng (lo hi : Int)
  | frz (o : Obj) (u : HO)
  | tbl (ps : Array Value)
  | ext (φ : Heap -> Prop)
abbrev Hp := Addr -> Option HO
def upd (H : Hp) (a : Addr) (o : HO) : Hp := fun b => if b = a then some o else H b
theorem upd_same {H : Hp} {a : Addr} {o : HO} : upd H a o a = some o := by unfold upd; rw [if_pos rfl]
theorem upd_ne {H : Hp} {a b : Addr} {o : HO} (h : b ≠ a) : upd H a o b = H b := by unfold upd; rw [if_neg h]
theorem ne_of {H : Hp} {a b : Addr} {o u : HO} (h : H a = some o) (h' : H b = some u) (d : o ≠ u) : a ≠ b := by
  intro e; subst e; rw [h] at h'; exact d (Option.some.inj h')
theorem ne_of_none {H : Hp} {a b : Addr} {o : HO} (h : H a = some o) (h' : H b = none) : a ≠ b := by
  intro e; subst e; rw [h] at h'; cases h'
section
variable (P : Program) (w : World)
def ObjOk (H : Hp) (h : Heap) (a : Addr) : HO -> Prop
  | .lst xs => xs.length <= sizeLine /\ ∃ (its : List Value) (n : Nat), Vals xs its /\ h.get? a = some { cls := .type "list", data := .seq its.toArray n }
  | .tup xs => xs.length <= sizeLine /\ ∃ its : List Value,Vals xs its /\ IsTup h a its.toArray
  | .dK kvs => kvs.length <= sizeLine /\ (a == sysModules) = false /\ ∃ vs,KV kvs vs /\ h.DictOf (mixKind P w) a vs
  | .dT kvs => kvs.length <= sizeLine /\ (a == sysModules) = false /\ ∃ xs : List (List Key × Addr × Value),
      Paired (fun (p : List Key × V) (q : List Key × Addr × Value) => p.1 = q.1 /\ H q.2.1 = some (.tup (p.1.map kV)) /\ RelV p.2 q.2.2) kvs xs /\
      ∃ o es ep,h.get? a = some o /\ o.ExactDict /\ o.data = .dict es ep /\ es.toList = xs.map (entryOfKey (tupleKind (mixKind P w))) /\ (xs.map (·.1)).Nodup
  | .set S n => h.SetOf (intKind P w) a S n
  | .ins C dx fs => H dx = some (.own a) /\ fs.length <= 1000 /\ dx ≠ a /\ h.get? a = some (PySem.W.instObj C dx) /\
      ∃ mA,h.Ns1 dx mA /\ (∀ f,RelO (fs.lookup f) (mA f)) /\ PySem.Within mA (fs.map (·.1))
  | .own _ => ∃ o,h.get? a = some o
  | .xd fs => ∃ mA,h.Ns1 a mA /\ ∀ f,RelO (fs.lookup f) (mA f)
  | .rng lo hi => ∃ t u v, h.get? a = some { cls := .type "range", data := .fields #[.int lo t, .int hi u, .int 1 v] }
  | .frz o u => h.get? a = some o /\ ObjOk H h a u
  | .tbl ps => h.get? a = some { cls := .none,data := .fields ps }
  | .met f x => h.get? a = some (PySem.W.methodObj (.ref f) (.ref x))
  | .ext φ => φ h /\ (∃ o,h.get? a = some o) /\ ∀ h1 h2 : Heap,φ h1 -> (∀ o,h1.get? a = some o -> h2.get? a = some o) -> φ h2
def HOk (H : Hp) (h : Heap) : Prop := ∀ a o,H a = some o -> ObjOk P w H h a o
end
section
variable {P : Program} {w : World} {H H' : Hp} {h h' : Heap} {a : Addr} {o : HO}
theorem ObjOk.lt (x : ObjOk P w H h a o) : a < h.objs.size := by
  cases o with
  | lst xs => obtain ⟨_,_,_,_,e⟩ := x; exact Heap.lt_size e
  | tup xs => obtain ⟨_,_,_,p⟩ := x; exact p.lt
  | dK kvs => obtain ⟨_,_,_,_,o,_,_,e,_⟩ := x; exact Heap.lt_size e
  | dT kvs => obtain ⟨_,_,_,_,o,_,_,e,_⟩ := x; exact Heap.lt_size e
  | set S n => obtain ⟨o,_,_,_,e,_⟩ := x; exact Heap.lt_size e
  | ins C dx fs => obtain ⟨_,_,_,e,_⟩ := x; exact Heap.lt_size e
  | own y => obtain ⟨_,e⟩ := x; exact Heap.lt_size e
  | xd fs => obtain ⟨_,⟨_,_,_,e,_⟩,_⟩ := x; exact Heap.lt_size e
  | rng lo hi => obtain ⟨_,_,_,e⟩ := x; exact Heap.lt_size e
  | frz ob u => obtain ⟨e,_⟩ := x; exact Heap.lt_size e
  | tbl ps => exact Heap.lt_size (show h.get? a = some _ from x)
  | met f y => exact Heap.lt_size (show h.get? a = some _ from x)
  | ext φ => obtain ⟨_,⟨_,e⟩,_⟩ := x; exact Heap.lt_size e
theorem Paired.mapP {α β : Type} {F G : α -> β -> Prop} : ∀ {l₁ : List α} {l₂ : List β},Paired F l₁ l₂ -> (∀ a b,F a b -> G a b) -> Paired G l₁ l₂
  | _,_,.nil,_ => .nil
  | _,_,.cons r t,f => .cons (f _ _ r) (Paired.mapP t f)
theorem ObjOk.stay (x : ObjOk P w H h a o) (k : ∀ b u,(b = a \/ H b = some (.own a)) -> h.get? b = some u -> h'.get? b = some u)
    (ho : ∀ b,H b = some (.own a) -> H' b = some (.own a)) (ht : ∀ b xs,H b = some (.tup xs) -> H' b = some (.tup xs)) : ObjOk P w H' h' a o := by
  induction o with
  | lst xs => obtain ⟨z,its,n,r,e⟩ := x; exact ⟨z,its,n,r,k _ _ (.inl rfl) e⟩
  | tup xs => obtain ⟨z,its,r,ob,e,c⟩ := x; exact ⟨z,its,r,ob,k _ _ (.inl rfl) e,c⟩
  | dK kvs => obtain ⟨z,y,vs,r,ob,es,ep,e,c⟩ := x; exact ⟨z,y,vs,r,ob,es,ep,k _ _ (.inl rfl) e,c⟩
  | dT kvs =>
    obtain ⟨z,y,xs,r,ob,es,ep,e,c⟩ := x
    exact ⟨z,y,xs,Paired.mapP r fun p q z => ⟨z.1,ht _ _ z.2.1,z.2.2⟩,ob,es,ep,k _ _ (.inl rfl) e,c⟩
  | set S n => obtain ⟨ob,es,ep,t,e,c⟩ := x; exact ⟨ob,es,ep,t,k _ _ (.inl rfl) e,c⟩
  | ins C dx fs =>
    obtain ⟨d,z,ne,e,mA,⟨od,es,ep,e2,c⟩,r⟩ := x
    exact ⟨ho _ d,z,ne,k _ _ (.inl rfl) e,mA,⟨od,es,ep,k _ _ (.inr d) e2,c⟩,r⟩
  | own y => obtain ⟨ob,e⟩ := x; exact ⟨ob,k _ _ (.inl rfl) e⟩
  | xd fs => obtain ⟨mA,⟨od,es,ep,e,c⟩,r⟩ := x; exact ⟨mA,⟨od,es,ep,k _ _ (.inl rfl) e,c⟩,r⟩
  | rng lo hi => obtain ⟨t,u,v,e⟩ := x; exact ⟨t,u,v,k _ _ (.inl rfl) e⟩
  | frz ob u ih => obtain ⟨e,q⟩ := x; exact ⟨k _ _ (.inl rfl) e,ih q⟩
  | tbl ps =>
    have e : h.get? a = some { cls := .none,data := .fields ps } := x
    show h'.get? a = some { cls := .none,data := .fields ps }
    exact k a _ (.inl rfl) e
  | met f y =>
    have e : h.get? a = some (PySem.W.methodObj (.ref f) (.ref y)) := x
    show h'.get? a = some (PySem.W.methodObj (.ref f) (.ref y))
    exact k a _ (.inl rfl) e
  | ext φ => obtain ⟨p,⟨o,e⟩,st⟩ := x; exact ⟨st _ _ p fun o q => k _ _ (.inl rfl) q,⟨o,k _ _ (.inl rfl) e⟩,st⟩
theorem HOk.lt (x : HOk P w H h) (e : H a = some o) : a < h.objs.size := (x a o e).lt
theorem HOk.fresh (x : HOk P w H h) (e : h.objs.size <= a) : H a = none := by
  cases q : H a with
  | none => rfl
  | some u => exact absurd (Nat.lt_of_lt_of_le (x.lt q) e) (Nat.lt_irrefl _)
theorem HOk.kept (x : HOk P w H h) (k : ∀ b u,h.get? b = some u -> h'.get? b = some u) : HOk P w H h' := fun a o e =>
  (x a o e).stay (fun b u _ q => k b u q) (fun _ q => q) fun _ _ q => q
theorem HOk.laid (x : HOk P w H h) (k : ∀ b u,h.get? b = some u -> h'.get? b = some u) (hp : h.objs.size <= a) (new : ObjOk P w (upd H a o) h' a o) : HOk P w (upd H a o) h' := fun b u e => by
  have hn := x.fresh hp
  by_cases hb : b = a
  . subst hb; rw [upd_same] at e; cases e; exact new
  . rw [upd_ne hb] at e
    exact (x b u e).stay (fun c v _ q => k c v q) (fun c q => by rw [upd_ne (ne_of_none q hn)]; exact q) fun c xs q => by rw [upd_ne (ne_of_none q hn)]; exact q
end
def Rd (H : Hp) (a : Addr) (u : HO) : Prop := H a = some u \/ ∃ o,H a = some (.frz o u)
theorem Rd.ok {P : Program} {w : World} {H : Hp} {h : Heap} {a : Addr} {u : HO} (r : Rd H a u) (x : HOk P w H h) : ObjOk P w H h a u := by
  rcases r with r | ⟨o,r⟩
  . exact x a u r
  . obtain ⟨_,q⟩ := x a _ r
    exact q
def Mut : Option HO -> Prop
  | some (.lst _) => True
  | some (.dK _) => True
  | some (.dT _) => True
  | some (.set _ _) => True
  | some (.ins _ _ _) => True
  | some (.ext _) => True
  | _ => False
section
variable {P : Program} {w : World} {H : Hp} {h h' : Heap} {x e : Addr} {o' : HO}
theorem HOk.write (ok : HOk P w H h) (mu : Mut (H x)) (he : e = x \/ H e = some (.own x)) (k : ∀ b u,b ≠ e -> h.get? b = some u -> h'.get? b = some u) (heo : ∃ u,h'.get? e = some u)
    (new : ObjOk P w (upd H x o') h' x o') : HOk P w (upd H x o') h' := fun b u q => by
  have nown : ∀ c y,H c = some (.own y) -> c ≠ x := fun c y r z => by subst z; rw [r] at mu; exact mu
  have ntup : ∀ c xs,H c = some (.tup xs) -> c ≠ x := fun c xs r z => by subst z; rw [r] at mu; exact mu
  by_cases hb : b = x
  . subst hb; rw [upd_same] at q; cases q; exact new
  . rw [upd_ne hb] at q
    by_cases hbe : b = e
    . have q' : H b = some (.own x) := by
        rcases he with z | z
        . exact absurd (hbe.trans z) hb
        . rw [hbe]; exact z
      rw [q] at q'; cases q'
      obtain ⟨v,hv⟩ := heo
      exact ⟨v,by rw [hbe]; exact hv⟩
    . refine (ok b u q).stay (fun c v hc r => k c v ?_ r) (fun c r => by rw [upd_ne (nown c b r)]; exact r) fun c xs r => by rw [upd_ne (ntup c xs r)]; exact r
      rcases hc with rfl | hc
      . exact hbe
      . rintro rfl
        rcases he with z | z
        . exact nown c b hc z
        . rw [hc] at z; cases z; exact hb rfl
end
structure Un (fs ex : List Addr) (H H' : Hp) (h h' : Heap) : Prop where
  keep : ∀ b o,h.get? b = some o -> H b = none -> b ∉ fs -> b ∉ ex -> h'.get? b = some o
  slot : ∀ b o,h.get? b = some o -> H b = none -> b ∈ fs -> b ∉ ex -> ∃ sl,h'.get? b = some { o with slots := sl }
  free : ∀ b o,h.get? b = some o -> H b = none -> b ∉ ex -> H' b = none
  there : ∀ b o,h.get? b = some o -> b ∉ ex -> ∃ o',h'.get? b = some o'
  tups : ∀ b xs,H b = some (.tup xs) -> H' b = some (.tup xs)
  frzs : ∀ b o u,H b = some (.frz o u) -> H' b = some (.frz o u)
  tbls : ∀ b ps,H b = some (.tbl ps) -> ∃ more,H' b = some (.tbl (ps ++ more))
section
variable {fs fs' ex ex' : List Addr} {H H1 H2 : Hp} {h h1 h2 h' : Heap} {a x e : Addr} {o : HO}
theorem Un.any (u : Un fs ex H H1 h h1) {b : Addr} {ob : Obj} (q : h.get? b = some ob) (n : H b = none) (hx : b ∉ ex) : ∃ sl,h1.get? b = some { ob with slots := sl } := by
  by_cases hb : b ∈ fs
  . exact u.slot b ob q n hb hx
  . exact ⟨ob.slots,u.keep b ob q n hb hx⟩
theorem Un.trans (a : Un fs ex H H1 h h1) (b : Un fs ex H1 H2 h1 h2) : Un fs ex H H2 h h2 where
  keep := fun c ob q n hc hx => b.keep c ob (a.keep c ob q n hc hx) (a.free c ob q n hx) hc hx
  slot := fun c ob q n hc hx => by
    obtain ⟨sl,e1⟩ := a.slot c ob q n hc hx
    obtain ⟨sl',e2⟩ := b.slot c _ e1 (a.free c ob q n hx) hc hx
    exact ⟨sl',e2⟩
  free := fun c ob q n hx => by
    obtain ⟨o',e1⟩ := a.there c ob q hx
    exact b.free c o' e1 (a.free c ob q n hx) hx
  there := fun c ob q hx => by
    obtain ⟨o',e1⟩ := a.there c ob q hx
    exact b.there c o' e1 hx
  tups := fun c xs q => b.tups c xs (a.tups c xs q)
  frzs := fun c ob xs q => b.frzs c ob xs (a.frzs c ob xs q)
  tbls := fun c ps q => by
    obtain ⟨m1,e1⟩ := a.tbls c ps q
    obtain ⟨m2,e2⟩ := b.tbls c _ e1
    exact ⟨m1 ++ m2,by rw [e2,Array.append_assoc]⟩
theorem Un.kept (k : ∀ b u,h.get? b = some u -> h'.get? b = some u) : Un fs ex H H h h' :=
  ⟨fun b ob q _ _ _ => k b ob q,fun b ob q _ _ _ => ⟨ob.slots,k b ob q⟩,fun _ _ _ n _ => n,fun b ob q _ => ⟨ob,k b ob q⟩,fun _ _ q => q,fun _ _ _ q => q,fun _ ps q => ⟨#[],by rw [q]; simp⟩⟩
theorem Un.refl : Un fs ex H H h h := Un.kept fun _ _ q => q
theorem Un.laid (k : ∀ b u,h.get? b = some u -> h'.get? b = some u) (hp : h.objs.size <= a) (hn : H a = none) : Un fs ex H (upd H a o) h h' where
  keep := fun b u q _ _ _ => k b u q
  slot := fun b u q _ _ _ => ⟨u.slots,k b u q⟩
  free := fun b u q n _ => by rw [upd_ne (Nat.ne_of_lt (Nat.lt_of_lt_of_le (Heap.lt_size q) hp))]; exact n
  there := fun b u q _ => ⟨u,k b u q⟩
  tups := fun b xs q => by rw [upd_ne (ne_of_none q hn)]; exact q
  frzs := fun b u xs q => by rw [upd_ne (ne_of_none q hn)]; exact q
  tbls := fun b ps q => ⟨#[],by rw [upd_ne (ne_of_none q hn),q]; simp⟩
theorem Un.write (mu : Mut (H x)) (he : e = x \/ H e = some (.own x)) (k : ∀ b u,b ≠ e -> h.get? b = some u -> h'.get? b = some u) (heo : ∃ u,h'.get? e = some u) : Un fs ex H (upd H x o) h h' := by
  have hx : ∀ b,H b = none -> b ≠ x := fun b n z => by subst z; rw [n] at mu; exact mu
  have hb : ∀ b,H b = none -> b ≠ e := fun b n z => by
    subst z
    rcases he with r | r
    . exact hx b n r
    . rw [n] at r; cases r
  have hm : ∀ b u,H b = some u -> ¬ Mut (some u) -> b ≠ x := fun b u q nm z => by subst z; rw [q] at mu; exact nm mu
  refine ⟨fun b u q n _ _ => k b u (hb b n) q,fun b u q n _ _ => ⟨u.slots,k b u (hb b n) q⟩,fun b u q n _ => by rw [upd_ne (hx b n)]; exact n,fun b u q _ => ?_,
    fun b xs q => by rw [upd_ne (hm b _ q fun z => z)]; exact q,fun b u xs q => by rw [upd_ne (hm b _ q fun z => z)]; exact q,fun b ps q => ⟨#[],by rw [upd_ne (hm b _ q fun z => z),q]; simp⟩⟩
  by_cases hbe : b = e
  . subst hbe; exact heo
  . exact ⟨u,k b u hbe q⟩
end
def trk (h : Heap) (H : Hp) : List Addr := (List.range h.objs.size).filter fun a => (H a).isSome
def hidT (h : Heap) (H : Hp) : Heap := PySem.W.hideAll h (trk h H)
theorem hidT_size (h : Heap) (H : Hp) : (hidT h H).objs.size = h.objs.size := PySem.W.hideAll_size _ _
theorem hidT_get {h : Heap} {H : Hp} {b : Addr} {o : Obj} (e : h.get? b = some o) (n : H b = none) : (hidT h H).get? b = some o :=
  PySem.W.hideAll_get _ e fun hm => by
    have q : (H b).isSome = true := (List.mem_filter.mp hm).2
    rw [n] at q; simp at q
theorem of_hidT {h : Heap} {H : Hp} {b : Addr} {o : Obj} (e : (hidT h H).get? b = some o) : h.get? b = some o /\ H b = none := by
  have e' : h.get? b = some o := PySem.W.of_hideAll (trk h H) e
  refine ⟨e',?_⟩
  cases q : H b with
  | none => rfl
  | some x =>
    have hm : b ∈ trk h H := List.mem_filter.mpr ⟨List.mem_range.mpr (Heap.lt_size e'),by simp [q]⟩
    have z : (hidT h H).get? b = none := PySem.W.hideAll_none (trk h H) hm
    rw [z] at e; cases e
def allNews (g h : Heap) (L : Addr) : List (Addr × Obj) := (List.range h.objs.size).filterMap fun a => if a = L \/ (g.get? a).isSome = true then none else (h.get? a).map fun o => (a,o)
def rest (g h : Heap) (L d : Addr) : List (Addr × Obj) := (allNews g h L).filter fun p => decide (p.1 ≠ d)
end L2
namespace L2
open PySem PySem.Spec PyProof.Rows
structure Mod (K : PySem.W.Frag) (mg : Str -> Option Value) (base : Heap) : Prop where
  kin : K.In base
  glob : base.Ns mainGlobals mg
  blt : ∃ mb, base.Ns builtinsNs mb /\ ∀ x : Str, x ≠ "__name__" -> mb x = bootBuiltins x
  nolimit : base.NoLimit
structure Cx where
  prog : Program
  w : World
  K : PySem.W.Frag
  mg : Str -> Option Value
  base : Heap
  A : Around
  N : List Str
  s₀ : Shared
  H₀ : Hp
  env : Env
  outer : List Env
  stack : List Env
  ex : List Addr
  fn : Str -> Bool
  calm : Bool
  pn : List (Addr × Obj)
  xe : Value -> Shared -> Prop
def frs (l : List Env) : List Addr := l.filterMap (·.frame)
abbrev Cx.fs (X : Cx) : List Addr := frs X.outer
def Vis (sc : Scope) (x : Str) : Prop := sc.names.lookup x = some .local \/ sc.names.lookup x = some .cell \/ sc.names.lookup x = some .free
def Loc (sc : Scope) (x : Str) : Prop := sc.names.lookup x = some .local \/ sc.names.lookup x = some .cell
def Look (env : Env) (h : Heap) (m : Str -> Option Value) (x : Str) (u : Value) : Prop :=
  (env.kindOf x = some .local /\ m x = some u) \/ ((env.kindOf x = some .cell \/ env.kindOf x = some .free) /\ ∃ c,env.cells.lookup x = some c /\ h.IsCell c (some u))
structure Cx.Ok (X : Cx) : Prop where
  mod : Mod X.K X.mg X.base
  kind : X.env.scope.kind = .function
  glob : X.env.globals = mainGlobals
  blt : X.env.builtins = builtinsNs
  above : X.s₀.heap.objs.size <= X.env.locals
  inj : ∀ x y c,X.env.cells.lookup x = some c -> X.env.cells.lookup y = some c -> x = y
  has : ∀ x,(X.env.kindOf x = some .cell \/ X.env.kindOf x = some .free) -> ∃ c,X.env.cells.lookup x = some c
  cab : ∀ x c,X.fn x = true -> X.env.cells.lookup x = some c -> X.s₀.heap.objs.size <= c
  hd : X.calm = true -> X.A.handled = none
  frames : X.A.frames = some X.stack
  stk : X.stack = X.outer \/ (X.stack = X.env :: X.outer /\ X.env.frame = some X.env.locals)
  exf : ∀ b ∈ X.ex,b ≠ X.env.locals /\ ∀ x c,X.env.cells.lookup x = some c -> c ≠ b
  bs : ∀ b o,X.base.get? b = some o -> X.s₀.heap.get? b = some o /\ X.H₀ b = none
  bsz : X.base.objs.size <= X.s₀.heap.objs.size
  noex : ∀ b o,X.base.get? b = some o -> b ∉ X.ex
  exfs : ∀ b ∈ X.ex,b ∉ X.fs
  funs : X.s₀.heap.FunFrames X.base X.outer
  frf : ∀ b ∈ X.fs,X.H₀ b = none
structure Inv (X : Cx) (pins : List (Addr × Obj)) (U : List (Option V)) (H : Hp) (s : Shared) : Prop where
  ok : X.Ok
  os : s.os = X.s₀.os
  bare : AllBare s.gens
  base : Un X.fs X.ex X.H₀ H X.s₀.heap s.heap
  loc : ∃ m,s.heap.Ns X.env.locals m /\ ∀ (i : Nat) (x : Str) (v : V),X.N[i]? = some x -> U[i]? = some (some v) -> Vis X.env.scope x -> ∃ u,RelV v u /\ Look X.env s.heap m x u
  cell : ∀ x c,X.env.cells.lookup x = some c -> ∃ v,s.heap.IsCell c v
  free : H X.env.locals = none
  freeC : ∀ x c,X.env.cells.lookup x = some c -> H c = none
  pin : ∀ p ∈ X.pn ++ pins,s.heap.get? p.1 = some p.2 /\ H p.1 = none /\ p.1 ≠ X.env.locals /\ p.1 ∉ X.fs /\ ∀ v,p.2.data ≠ .cell v
  hok : HOk X.prog X.w H s.heap
  len : U.length = X.N.length
section
variable {X : Cx} {pins : List (Addr × Obj)} {U : List (Option V)} {H H' : Hp} {s : Shared} {h' : Heap}
theorem Cx.Ok.nofr (ok : X.Ok) {b : Addr} {o : Obj} (e : X.base.get? b = some o) : b ∉ X.fs := fun hb => by
  have := (ok.funs.mem hb).1
  rw [e] at this; cases this
theorem Inv.bs (I : Inv X pins U H s) : ∀ b o,X.base.get? b = some o -> s.heap.get? b = some o /\ H b = none := fun b o e =>
  ⟨I.base.keep b o (I.ok.bs b o e).1 (I.ok.bs b o e).2 (I.ok.nofr e) (I.ok.noex b o e),I.base.free b o (I.ok.bs b o e).1 (I.ok.bs b o e).2 (I.ok.noex b o e)⟩
theorem Inv.bk (I : Inv X pins U H s) : ∀ b o,X.base.get? b = some o -> s.heap.get? b = some o := fun b o e => (I.bs b o e).1
theorem Inv.mod (I : Inv X pins U H s) : Mod X.K X.mg X.base := I.ok.mod
theorem Inv.kIn (I : Inv X pins U H s) : X.K.In s.heap := I.ok.mod.kin.keeps I.bk
theorem Inv.lt (I : Inv X pins U H s) : X.env.locals < s.heap.objs.size := let ⟨_,hn,_⟩ := I.loc; hn.lt
theorem Inv.sz (I : Inv X pins U H s) : X.s₀.heap.objs.size <= s.heap.objs.size := Nat.le_trans I.ok.above (Nat.le_of_lt I.lt)
theorem Inv.nofs (I : Inv X pins U H s) {a : Addr} (h : s.heap.objs.size <= a) : a ∉ X.fs := fun hb => by
  obtain ⟨_,o,ho,_⟩ := I.ok.funs.mem hb
  exact absurd (Nat.lt_of_lt_of_le (Heap.lt_size ho) (Nat.le_trans I.sz h)) (Nat.lt_irrefl _)
theorem Inv.cne (I : Inv X pins U H s) : ∀ x c,X.env.cells.lookup x = some c -> c ≠ X.env.locals := fun x c e z => by
  obtain ⟨v,o,ho,hd⟩ := I.cell x c e
  obtain ⟨m,⟨o',es,ep,ho',hd',_⟩,_⟩ := I.loc
  rw [z,ho'] at ho; cases ho; rw [hd'] at hd; cases hd
theorem Inv.funs (I : Inv X pins U H s) : s.heap.FunFrames X.base X.outer := by
  have all : ∀ (l : List Env),(∀ b ∈ frs l,b ∈ X.fs) -> X.s₀.heap.FunFrames X.base l -> s.heap.FunFrames X.base l := by
    intro l
    induction l with
    | nil => intro _ _; trivial
    | cons env r ih =>
      intro hs hl
      obtain ⟨hk,⟨L,o,hf,hn,ho,hd⟩,hr⟩ := hl
      have hL : L ∈ X.fs := hs L (by unfold frs; rw [List.filterMap_cons,hf]; exact List.mem_cons_self)
      obtain ⟨sl,e⟩ := I.base.slot L o ho (I.ok.frf L hL) hL fun z => I.ok.exfs L z hL
      exact ⟨hk,⟨L,_,hf,hn,e,hd⟩,ih (fun b hb => hs b (by unfold frs; rw [List.filterMap_cons,hf]; exact List.mem_cons_of_mem _ hb)) hr⟩
  exact all X.outer (fun _ hb => hb) I.ok.funs
theorem Inv.stack (I : Inv X pins U H s) : s.heap.FunFrames X.base X.stack := by
  rcases I.ok.stk with e | ⟨e,hf⟩
  . rw [e]; exact I.funs
  . rw [e]
    obtain ⟨m,hn,_⟩ := I.loc
    refine .cons (by rw [I.ok.kind]; decide) hf hn ?_ I.funs
    exact Heap.get?_none_of_le (Nat.le_trans I.ok.bsz I.ok.above)
theorem Inv.stkSub (I : Inv X pins U H s) : ∀ b ∈ frs X.stack,b ∈ X.env.locals :: X.fs := fun b hb => by
  rcases I.ok.stk with e | ⟨e,hf⟩
  . rw [e] at hb; exact List.mem_cons_of_mem _ hb
  . rw [e] at hb
    unfold frs at hb
    rw [List.filterMap_cons,hf] at hb
    exact hb
theorem Inv.stkFree (I : Inv X pins U H s) : ∀ b ∈ frs X.stack,H b = none := fun b hb => by
  rcases List.mem_cons.mp (I.stkSub b hb) with e | hb
  . rw [e]; exact I.free
  . obtain ⟨_,o,ho,_⟩ := I.ok.funs.mem hb
    exact I.base.free b o ho (I.ok.frf b hb) fun z => I.ok.exfs b z hb
theorem Inv.step {g' : Array GenState} {t' : Nat} {d' : Drawn} {ch : List Addr} (I : Inv X pins U H s)
    (hch : ∀ b ∈ ch,(b ∈ X.ex \/ X.s₀.heap.objs.size <= b) /\ b ≠ X.env.locals /\ (∀ x c,X.env.cells.lookup x = some c -> c ≠ b) /\ ∀ p ∈ X.pn ++ pins,p.1 ≠ b)
    (keep : ∀ b o,b ≠ X.env.locals -> b ∉ X.fs -> b ∉ ch -> s.heap.get? b = some o -> H b = none -> h'.get? b = some o)
    (slot : ∀ b o,b ≠ X.env.locals -> b ∈ X.fs -> b ∉ ch -> s.heap.get? b = some o -> H b = none -> ∃ sl,h'.get? b = some { o with slots := sl }) (free : ∀ b o,b ∉ ch -> s.heap.get? b = some o -> H b = none -> H' b = none)
    (there : ∀ b o,b ∉ ch -> s.heap.get? b = some o -> ∃ o',h'.get? b = some o')
    (tups : ∀ b xs,H b = some (.tup xs) -> H' b = some (.tup xs)) (frzs : ∀ b o u,H b = some (.frz o u) -> H' b = some (.frz o u)) (tbls : ∀ b ps,H b = some (.tbl ps) -> ∃ more,H' b = some (.tbl (ps ++ more)))
    (ns : ∀ m,s.heap.Ns X.env.locals m -> h'.Ns X.env.locals m) (hok : HOk X.prog X.w H' h') (hg : AllBare g') :
    Inv X pins U H' { s with heap := h',gens := g',drawn := d',toks := t' } := by
  have neL : ∀ b o,X.s₀.heap.get? b = some o -> b ≠ X.env.locals := fun b o e => Nat.ne_of_lt (Nat.lt_of_lt_of_le (Heap.lt_size e) I.ok.above)
  have neC : ∀ b o,X.s₀.heap.get? b = some o -> b ∉ X.ex -> b ∉ ch := fun b o e hx hb => by
    rcases (hch b hb).1 with z | z
    . exact hx z
    . exact absurd (Nat.lt_of_lt_of_le (Heap.lt_size e) z) (Nat.lt_irrefl _)
  have cellK : ∀ x c,X.env.cells.lookup x = some c -> ∀ v,s.heap.IsCell c v -> h'.IsCell c v := fun x c e v ⟨o,ho,hd⟩ => by
    have nch : c ∉ ch := fun z => (hch c z).2.2.1 x c e rfl
    by_cases hc : c ∈ X.fs
    . obtain ⟨sl,q⟩ := slot c o (I.cne x c e) hc nch ho (I.freeC x c e)
      exact ⟨_,q,hd⟩
    . exact ⟨o,keep c o (I.cne x c e) hc nch ho (I.freeC x c e),hd⟩
  refine ⟨I.ok,I.os,hg,⟨fun b o e n hb hx => ?_,fun b o e n hb hx => ?_,fun b o e n hx => ?_,fun b o e hx => ?_,fun b xs e => tups b xs (I.base.tups b xs e),fun b o xs e => frzs b o xs (I.base.frzs b o xs e),fun b ps e => ?_⟩,?_,fun x c e => ?_,?_,fun x c e => ?_,fun p hp => ?_,hok,I.len⟩
  . exact keep b o (neL b o e) hb (neC b o e hx) (I.base.keep b o e n hb hx) (I.base.free b o e n hx)
  . obtain ⟨sl,e1⟩ := I.base.slot b o e n hb hx
    obtain ⟨sl',e2⟩ := slot b _ (neL b o e) hb (neC b o e hx) e1 (I.base.free b o e n hx)
    exact ⟨sl',e2⟩
  . obtain ⟨o',e1⟩ := I.base.there b o e hx
    exact free b o' (neC b o e hx) e1 (I.base.free b o e n hx)
  . obtain ⟨o',e1⟩ := I.base.there b o e hx
    exact there b o' (neC b o e hx) e1
  . obtain ⟨m1,e1⟩ := I.base.tbls b ps e
    obtain ⟨m2,e2⟩ := tbls b _ e1
    exact ⟨m1 ++ m2,by rw [e2,Array.append_assoc]⟩
  . obtain ⟨m,hn,hl⟩ := I.loc
    refine ⟨m,ns m hn,fun i x v e1 e2 e3 => ?_⟩
    obtain ⟨u,r,l⟩ := hl i x v e1 e2 e3
    refine ⟨u,r,?_⟩
    rcases l with l | ⟨k,c,e,z⟩
    . exact .inl l
    . exact .inr ⟨k,c,e,cellK x c e _ z⟩
  . obtain ⟨v,z⟩ := I.cell x c e
    exact ⟨v,cellK x c e v z⟩
  . obtain ⟨m,⟨o,_,_,ho,_⟩,_⟩ := I.loc
    exact free _ o (fun z => (hch _ z).2.1 rfl) ho I.free
  . obtain ⟨v,o,ho,hd⟩ := I.cell x c e
    exact free c o (fun z => (hch c z).2.2.1 x c e rfl) ho (I.freeC x c e)
  . obtain ⟨e,n,ne,nf,d⟩ := I.pin p hp
    have nch : p.1 ∉ ch := fun z => (hch p.1 z).2.2.2 p hp rfl
    exact ⟨keep p.1 p.2 ne nf nch e n,free p.1 p.2 nch e n,ne,nf,d⟩
theorem Inv.un {t' : Nat} (I : Inv X pins U H s) (u : Un X.fs [] H H' s.heap h') (hok : HOk X.prog X.w H' h') : Inv X pins U H' { s with heap := h',toks := t' } := by
  obtain ⟨m,⟨o,es,ep,ho,r⟩,_⟩ := id I.loc
  obtain ⟨sl,hL⟩ := u.any ho I.free (by simp)
  exact I.step (g' := s.gens) (d' := s.drawn) (ch := []) (fun _ z => nomatch z) (fun b o _ hb _ e n => u.keep b o e n hb (by simp)) (fun b o _ hb _ e n => u.slot b o e n hb (by simp)) (fun b o _ e n => u.free b o e n (by simp)) (fun b o _ e => u.there b o e (by simp)) u.tups u.frzs u.tbls (fun m' hm => by
    obtain ⟨o',es',ep',ho',r'⟩ := hm
    rw [ho] at ho'; cases ho'
    exact ⟨_,es',ep',hL,r'⟩) hok I.bare
theorem Inv.call {g' : Array GenState} {t' : Nat} {d' : Drawn} {ch : List Addr} (I : Inv X pins U H s) (u : Un (frs X.stack) ch H H' s.heap h') (hok : HOk X.prog X.w H' h') (hg : AllBare g')
    (hch : ∀ b ∈ ch,(b ∈ X.ex \/ X.s₀.heap.objs.size <= b) /\ b ≠ X.env.locals /\ (∀ x c,X.env.cells.lookup x = some c -> c ≠ b) /\ ∀ p ∈ X.pn ++ pins,p.1 ≠ b) :
    Inv X pins U H' { s with heap := h',gens := g',drawn := d',toks := t' } := by
  obtain ⟨m,⟨o,es,ep,ho,r⟩,_⟩ := id I.loc
  obtain ⟨sl,hL⟩ := u.any ho I.free fun z => (hch _ z).2.1 rfl
  exact I.step (ch := ch) hch (fun b o hL hb hc e n => u.keep b o e n (fun z => (List.mem_cons.mp (I.stkSub b z)).elim hL hb) hc) (fun b o _ _ hc e n => u.any e n hc) (fun b o hc e n => u.free b o e n hc) (fun b o hc e => u.there b o e hc) u.tups u.frzs u.tbls (fun m' hm => by
    obtain ⟨o',es',ep',ho',r'⟩ := hm
    rw [ho] at ho'; cases ho'
    exact ⟨_,es',ep',hL,r'⟩) hok hg
theorem Inv.turned {t' : Nat} {it : Addr} (I : Inv X pins U H s) (k : ∀ b o,b ≠ it -> s.heap.get? b = some o -> h'.get? b = some o) (hn : H it = none) (hL : it ≠ X.env.locals)
    (h1 : it ∈ X.ex \/ X.s₀.heap.objs.size <= it) (h2 : ∀ x c,X.env.cells.lookup x = some c -> c ≠ it) (h3 : ∀ p ∈ X.pn ++ pins,p.1 ≠ it) : Inv X pins U H { s with heap := h',toks := t' } := by
  have nit : ∀ b u,H b = some u -> b ≠ it := fun b u e z => by rw [z,hn] at e; cases e
  refine I.step (g' := s.gens) (d' := s.drawn) (ch := [it]) (fun b hb => ?_) (fun b o _ _ hc e _ => k b o (fun z => hc (by simp [z])) e) (fun b o _ _ hc e _ => ⟨o.slots,k b o (fun z => hc (by simp [z])) e⟩) (fun _ _ _ _ n => n)
    (fun b o hc e => ⟨o,k b o (fun z => hc (by simp [z])) e⟩) (fun _ _ e => e) (fun _ _ _ e => e) (fun b ps e => ⟨#[],by rw [e]; simp⟩) (fun m hm => ?_) (fun b u e => ?_) I.bare
  . have e : b = it := by simpa using hb
    subst e
    exact ⟨h1,hL,h2,h3⟩
  . obtain ⟨o,es,ep,ho,r⟩ := hm
    exact ⟨o,es,ep,k _ o (Ne.symm hL) ho,r⟩
  . refine (I.hok b u e).stay (fun c v hc q => k c v ?_ q) (fun _ q => q) fun _ _ q => q
    rcases hc with z | z
    . rw [z]; exact nit b u e
    . exact nit c _ z
theorem Inv.tok (I : Inv X pins U H s) (t : Nat) : Inv X pins U H { s with toks := t } := I.un (h' := s.heap) (t' := t) Un.refl I.hok
theorem Inv.kept {t' : Nat} (I : Inv X pins U H s) (k : ∀ b u,s.heap.get? b = some u -> h'.get? b = some u) : Inv X pins U H { s with heap := h',toks := t' } := I.un (Un.kept k) (I.hok.kept k)
theorem Inv.laid {a : Addr} {o : HO} {t' : Nat} (I : Inv X pins U H s) (k : ∀ b u,s.heap.get? b = some u -> h'.get? b = some u) (hp : s.heap.objs.size <= a) (new : ObjOk X.prog X.w (upd H a o) h' a o) :
    Inv X pins U (upd H a o) { s with heap := h',toks := t' } := I.un (Un.laid k hp (I.hok.fresh hp)) (I.hok.laid k hp new)
theorem Inv.write {x e : Addr} {o : HO} {t' : Nat} (I : Inv X pins U H s) (mu : Mut (H x)) (he : e = x \/ H e = some (.own x)) (k : ∀ b u,b ≠ e -> s.heap.get? b = some u -> h'.get? b = some u) (heo : ∃ u,h'.get? e = some u)
    (new : ObjOk X.prog X.w (upd H x o) h' x o) : Inv X pins U (upd H x o) { s with heap := h',toks := t' } := I.un (Un.write mu he k heo) (I.hok.write mu he k heo new)
theorem Inv.pins_of {pins' : List (Addr × Obj)} (I : Inv X pins U H s) (h : ∀ p ∈ pins',s.heap.get? p.1 = some p.2 /\ H p.1 = none /\ p.1 ≠ X.env.locals /\ p.1 ∉ X.fs /\ ∀ v,p.2.data ≠ .cell v) : Inv X pins' U H s :=
  ⟨I.ok,I.os,I.bare,I.base,I.loc,I.cell,I.free,I.freeC,fun p hp => (List.mem_append.mp hp).elim (fun z => I.pin p (List.mem_append_left _ z)) (h p),I.hok,I.len⟩
theorem nodup_ix {N : List Str} (hN : N.Nodup) {i j : Nat} {x : Str} (a : N[i]? = some x) (b : N[j]? = some x) : i = j := by
  obtain ⟨h1,e1⟩ := List.getElem?_eq_some_iff.mp a
  obtain ⟨h2,e2⟩ := List.getElem?_eq_some_iff.mp b
  exact (List.getElem_inj hN).mp (e1.trans e2.symm)
theorem store_ok2 {M : Model} {A : Around} {E : Value -> Shared -> Prop} {i : Nat} {x : Str} {v : V} {u : Value} {Q : Unit -> Shared -> Prop} (I : Inv X pins U H s) (hN : X.N.Nodup) (hi : X.N[i]? = some x) (hx : Loc X.env.scope x) (r : RelV v u)
    (h : ∀ s',Inv X pins (U.set i (some v)) H s' -> (∃ a,Heap.SameBut a s.heap s'.heap /\ (a = X.env.locals \/ X.env.cells.lookup x = some a)) -> Q () s') (hf : X.fn x = true \/ X.env.scope.names.lookup x = some .local := by first | exact .inl rfl | exact .inr rfl | assumption) : wpAny M A (storeName X.env x u) Q E s := by
  obtain ⟨m,hn,hl⟩ := id I.loc
  have hcls : (X.env.scope.kind == .class || (X.env.scope.kind == .module && X.env.locals != X.env.globals)) = false := by rw [I.ok.kind]; rfl
  have hiU : i < U.length := by rw [I.len]; exact (List.getElem?_eq_some_iff.mp hi).1
  have cne := I.cne
  have tracked : ∀ {a : Addr} {h' : Heap},(∃ o,s.heap.get? a = some o /\ H a = none) -> Heap.SameBut a s.heap h' -> HOk X.prog X.w H h' := fun {a h'} ha hs b ob e => by
    obtain ⟨_,_,hfree⟩ := ha
    refine (I.hok b ob e).stay (fun c w' hc q => (hs.2 c ?_).trans q) (fun _ q => q) fun _ _ q => q
    rintro rfl
    rcases hc with rfl | hc
    . rw [hfree] at e; cases e
    . rw [hfree] at hc; cases hc
  rcases hx with hk | hk
  . refine wpAny_storeName_local hk hn (fun h' hn' hs => ?_) hcls
    obtain ⟨oL,_,_,hoL,_⟩ := id hn
    refine h _ ⟨I.ok,I.os,I.bare,⟨fun b o e n hb hx => ?_,fun b o e n hb hx => ?_,I.base.free,fun b o e hx => ?_,I.base.tups,I.base.frzs,I.base.tbls⟩,⟨_,hn',fun j y v' e1 e2 e3 => ?_⟩,fun y c e => ?_,I.free,I.freeC,fun p hp => ?_,tracked ⟨oL,hoL,I.free⟩ hs,by simpa using I.len⟩ ⟨_,hs,.inl rfl⟩
    . exact (hs.2 b (Nat.ne_of_lt (Nat.lt_of_lt_of_le (Heap.lt_size e) I.ok.above))).trans (I.base.keep b o e n hb hx)
    . obtain ⟨sl,e1⟩ := I.base.slot b o e n hb hx
      exact ⟨sl,(hs.2 b (Nat.ne_of_lt (Nat.lt_of_lt_of_le (Heap.lt_size e) I.ok.above))).trans e1⟩
    . obtain ⟨o',e1⟩ := I.base.there b o e hx
      exact ⟨o',(hs.2 b (Nat.ne_of_lt (Nat.lt_of_lt_of_le (Heap.lt_size e) I.ok.above))).trans e1⟩
    . by_cases hj : j = i
      . subst hj
        rw [hi] at e1; cases e1
        rw [List.getElem?_set_self hiU] at e2
        cases e2
        exact ⟨u,r,.inl ⟨hk,by simp⟩⟩
      . rw [List.getElem?_set_ne (Ne.symm hj)] at e2
        obtain ⟨u',r',q⟩ := hl j y v' e1 e2 e3
        refine ⟨u',r',?_⟩
        rcases q with ⟨k,e⟩ | ⟨k,c,e,z⟩
        . refine .inl ⟨k,?_⟩
          have : y ≠ x := fun e => hj (nodup_ix hN e1 (e ▸ hi))
          simp [this,e]
        . exact .inr ⟨k,c,e,z.sameBut hs (cne y c e)⟩
    . obtain ⟨w',z⟩ := I.cell y c e
      exact ⟨w',z.sameBut hs (cne y c e)⟩
    . obtain ⟨e,n,ne,nf,d⟩ := I.pin p hp
      exact ⟨(hs.2 p.1 ne).trans e,n,ne,nf,d⟩
  . have hfn : X.fn x = true := by
      rcases hf with z | z
      . exact z
      . rw [z] at hk; cases hk
    obtain ⟨c,hc⟩ := I.ok.has x (.inl hk)
    obtain ⟨w',z⟩ := I.cell x c hc
    refine wpAny_storeName_cell I.ok.kind hk hc z (fun h' hc' hs => ?_)
    obtain ⟨oc,hoc,hocd⟩ := id z
    refine h { s with heap := h' } ⟨I.ok,I.os,I.bare,⟨fun b o e n hb hx => ?_,fun b o e n hb hx => ?_,I.base.free,fun b o e hx => ?_,I.base.tups,I.base.frzs,I.base.tbls⟩,⟨m,hn.sameBut hs (Ne.symm (cne x c hc)),fun j y v' e1 e2 e3 => ?_⟩,fun y c' e => ?_,I.free,I.freeC,fun p hp => ?_,tracked ⟨oc,hoc,I.freeC x c hc⟩ hs,by simpa using I.len⟩ ⟨c,hs,.inr hc⟩
    . exact (hs.2 b (Nat.ne_of_lt (Nat.lt_of_lt_of_le (Heap.lt_size e) (I.ok.cab x c hfn hc)))).trans (I.base.keep b o e n hb hx)
    . obtain ⟨sl,e1⟩ := I.base.slot b o e n hb hx
      exact ⟨sl,(hs.2 b (Nat.ne_of_lt (Nat.lt_of_lt_of_le (Heap.lt_size e) (I.ok.cab x c hfn hc)))).trans e1⟩
    . obtain ⟨o',e1⟩ := I.base.there b o e hx
      exact ⟨o',(hs.2 b (Nat.ne_of_lt (Nat.lt_of_lt_of_le (Heap.lt_size e) (I.ok.cab x c hfn hc)))).trans e1⟩
    . by_cases hj : j = i
      . subst hj
        rw [hi] at e1; cases e1
        rw [List.getElem?_set_self hiU] at e2
        cases e2
        exact ⟨u,r,.inr ⟨.inl hk,c,hc,hc'⟩⟩
      . rw [List.getElem?_set_ne (Ne.symm hj)] at e2
        obtain ⟨u',r',q⟩ := hl j y v' e1 e2 e3
        refine ⟨u',r',?_⟩
        rcases q with q | ⟨k,c',e,z'⟩
        . exact .inl q
        . refine .inr ⟨k,c',e,z'.sameBut hs ?_⟩
          rintro rfl
          exact hj (nodup_ix hN e1 (I.ok.inj _ _ _ e hc ▸ hi))
    . by_cases hcc : c' = c
      . subst hcc; exact ⟨_,hc'⟩
      . obtain ⟨w2,z2⟩ := I.cell y c' e
        exact ⟨w2,z2.sameBut hs hcc⟩
    . obtain ⟨e,n,ne,nf,d⟩ := I.pin p hp
      refine ⟨(hs.2 p.1 ?_).trans e,n,ne,nf,d⟩
      intro q
      rw [q,hoc] at e
      have q' : oc = p.2 := Option.some.inj e
      exact d w' (by rw [<- q']; exact hocd)
theorem store_ok {M : Model} {A : Around} {E : Value -> Shared -> Prop} {i : Nat} {x : Str} {v : V} {u : Value} {Q : Unit -> Shared -> Prop} (I : Inv X pins U H s) (hN : X.N.Nodup) (hi : X.N[i]? = some x) (hx : Loc X.env.scope x) (r : RelV v u)
    (h : ∀ s',Inv X pins (U.set i (some v)) H s' -> Q () s') (hf : X.fn x = true \/ X.env.scope.names.lookup x = some .local := by first | exact .inl rfl | exact .inr rfl | assumption) : wpAny M A (storeName X.env x u) Q E s :=
  store_ok2 I hN hi hx r (fun s' I' _ => h s' I') hf
theorem Inv.call' {s' : Shared} {ch : List Addr} (I : Inv X pins U H s) (ho : s'.os = s.os) (u : Un (frs X.stack) ch H H' s.heap s'.heap) (hok : HOk X.prog X.w H' s'.heap) (hg : AllBare s'.gens)
    (hch : ∀ b ∈ ch,(b ∈ X.ex \/ X.s₀.heap.objs.size <= b) /\ b ≠ X.env.locals /\ (∀ x c,X.env.cells.lookup x = some c -> c ≠ b) /\ ∀ p ∈ X.pn ++ pins,p.1 ≠ b) : Inv X pins U H' s' := by
  obtain ⟨h',g',d',t',o'⟩ := s'
  have e : o' = s.os := ho
  subst e
  exact I.call (g' := g') (t' := t') (d' := d') u hok hg hch
end
abbrev XK := Value -> Option Addr -> Hp -> Prop
abbrev St := List (Option V)
abbrev VK := V -> Hp -> Prop
abbrev TE := St -> Hp -> VK -> Prop
abbrev TT := St -> Hp -> (Bool -> Hp -> Prop) -> Prop
abbrev TA := St -> Hp -> (List V -> Hp -> Prop) -> Prop
structure Ends where
  nx : St -> Hp -> Prop
  rt : VK
  bk : St -> Hp -> Prop := fun _ _ => False
  ct : St -> Hp -> Prop := fun _ _ => False
abbrev TS := Ends -> St -> Hp -> Prop
def EP (X : Cx) (pins : List (Addr × Obj)) (U : St) (Q : VK) (u : Value) (s' : Shared) : Prop := ∃ v H',Inv X pins U H' s' /\ RelV v u /\ Q v H'
def TP (X : Cx) (pins : List (Addr × Obj)) (U : St) (Q : Bool -> Hp -> Prop) (b : Bool) (s' : Shared) : Prop := ∃ H',Inv X pins U H' s' /\ Q b H'
def AP (X : Cx) (pins : List (Addr × Obj)) (U : St) (Q : List V -> Hp -> Prop) (us : List Value) (s' : Shared) : Prop := ∃ vs H',Inv X pins U H' s' /\ Vals vs us /\ Q vs H'
def SP (X : Cx) (pins : List (Addr × Obj)) (D : Ends) (f : Flow) (s' : Shared) : Prop :=
  match f with
  | .next => ∃ U' H',Inv X pins U' H' s' /\ D.nx U' H'
  | .brk => ∃ U' H',Inv X pins U' H' s' /\ D.bk U' H'
  | .cont => ∃ U' H',Inv X pins U' H' s' /\ D.ct U' H'
  | .ret u => ∃ v U' H',Inv X pins U' H' s' /\ RelV v u /\ D.rt v H'
def PE (X : Cx) (e : Expr) (t : TE) : Prop :=
  ∀ (pins : List (Addr × Obj)) (s : Shared) (U : St) (H : Hp) (Q : VK),Inv X pins U H s -> t U H Q -> wpAny (model X.prog X.w) X.A (eval e X.env) (EP X pins U Q) X.xe s
def PT (X : Cx) (e : Expr) (t : TT) : Prop :=
  ∀ (pins : List (Addr × Obj)) (s : Shared) (U : St) (H : Hp) (Q : Bool -> Hp -> Prop),Inv X pins U H s -> t U H Q -> wpAny (model X.prog X.w) X.A (isTrue e X.env (eval e X.env)) (TP X pins U Q) X.xe s
def PW (X : Cx) (e : Expr) (t : TT) : Prop :=
  ∀ (whole : Sem Value) (pins : List (Addr × Obj)) (s : Shared) (U : St) (H : Hp) (Q : Bool -> Hp -> Prop),Inv X pins U H s -> t U H Q -> wpAny (model X.prog X.w) X.A (isTrue e X.env whole) (TP X pins U Q) X.xe s
theorem PW.pt {X : Cx} {e : Expr} {t : TT} (h : PW X e t) : PT X e t := h _
def PA (X : Cx) (es : List Expr) (t : TA) : Prop :=
  ∀ (pos : Pos) (pins : List (Addr × Obj)) (s : Shared) (U : St) (H : Hp) (Q : List V -> Hp -> Prop),Inv X pins U H s -> t U H Q -> wpAny (model X.prog X.w) X.A (spliced (backTo pos (starEach es X.env))) (AP X pins U Q) X.xe s
def PS (X : Cx) (st : Stmt) (t : TS) : Prop :=
  ∀ (pins : List (Addr × Obj)) (s : Shared) (U : St) (H : Hp) (D : Ends),Inv X pins U H s -> t D U H -> wpAny (model X.prog X.w) X.A (exec st X.env) (SP X pins D) X.xe s
def PSs (X : Cx) (st : List Stmt) (t : TS) : Prop :=
  ∀ (pins : List (Addr × Obj)) (s : Shared) (U : St) (H : Hp) (D : Ends),Inv X pins U H s -> t D U H -> wpAny (model X.prog X.w) X.A (execs st X.env) (SP X pins D) X.xe s
theorem thn {α : Type} {t : Sem α} {Q Q' : α -> Shared -> Prop} {M : Model} {A : Around} {E : Value -> Shared -> Prop} {s : Shared} (h : wpAny M A t Q E s) (hQ : ∀ a s,Q a s -> Q' a s) : wpAny M A t Q' E s := wpAny_mono h hQ fun _ _ x => x
end L2
namespace L2
open PySem PySem.Spec PyProof.Rows
section
variable {X : Cx}
def tVar (i : Nat) : TE := fun U H Q => ∃ v,U[i]? = some (some v) /\ Q v H
def tC (v : V) : TE := fun _ H Q => Q v H
theorem pe_var {i : Nat} {x : Str} {pos : Pos} (hN : X.N[i]? = some x) (hv : Vis X.env.scope x) (hd : (x == ("__debug__" : Str)) = false := by decide) (hcd : (x == ("__classdict__" : Str)) = false := by decide) : PE X (.Name x pos) (tVar i) := by
  intro pins s U H Q I h
  obtain ⟨v,e,h⟩ := h
  obtain ⟨m,hn,hl⟩ := I.loc
  obtain ⟨u,r,l⟩ := hl i x v hN e hv
  have fin : EP X pins U Q u s := ⟨v,H,I,r,h⟩
  rcases l with ⟨hk,hm⟩ | ⟨hk,c,hc,hcell⟩
  . exact wpAny_Name (wpAny_loadName_local I.ok.kind hk hn hm fin) hd
  . rcases hk with hk | hk
    . exact wpAny_Name (wpAny_loadName_cell I.ok.kind hk hc hcell fin) hd
    . exact wpAny_Name (wpAny_loadName_free I.ok.kind hk hc hcell fin hcd) hd
theorem pe_int {i j pos} : PE X (.Constant (.int i) j pos) (tC (.int i)) := fun _ _ _ H _ I h => wpAny_Constant_int ⟨.int i,H,I.tok _,⟨_,rfl⟩,h⟩
theorem pe_bl {b j pos} : PE X (.Constant (.bool b) j pos) (tC (.bl b)) := fun _ _ _ H _ I h => Constant_bool ⟨.bl b,H,I,rfl,h⟩
theorem pe_non {j pos} : PE X (.Constant .none j pos) (tC .non) := fun _ _ _ H _ I h => Constant_none ⟨.non,H,I,rfl,h⟩
theorem pe_str {x j pos} : PE X (.Constant (.str x) j pos) (tC (.str x)) := fun _ _ _ H _ I h => Calls.Constant_str ⟨.str x,H,I.tok _,⟨_,rfl⟩,h⟩
def Gl (X : Cx) (x : Str) : Prop := X.env.kindOf x = some .globalImplicit
theorem ld_glob {E : Value -> Shared -> Prop} {pins : List (Addr × Obj)} {s : Shared} {U : St} {H : Hp} {x : Str} {u : Value} {pos : Pos} {Q : Value -> Shared -> Prop} (I : Inv X pins U H s) (hg : Gl X x) (hm : X.mg x = some u) (h : Q u s)
    (hd : (x == ("__debug__" : Str)) = false := by decide) : wpAny (model X.prog X.w) X.A (eval (.Name x pos) X.env) Q E s :=
  Calls.Name_function_global I.ok.kind hg (Calls.loadGlobal_global (by rw [I.ok.glob]; exact I.mod.glob.keeps I.bk) hm h) hd
theorem ld_blt {E : Value -> Shared -> Prop} {pins : List (Addr × Obj)} {s : Shared} {U : St} {H : Hp} {x : Str} {u : Value} {pos : Pos} {Q : Value -> Shared -> Prop} (I : Inv X pins U H s) (hg : Gl X x) (hm : X.mg x = none) (hv : bootBuiltins x = some u) (h : Q u s)
    (hn : x ≠ "__name__" := by decide) (hd : (x == ("__debug__" : Str)) = false := by decide) : wpAny (model X.prog X.w) X.A (eval (.Name x pos) X.env) Q E s := by
  obtain ⟨mb,h1,h2⟩ := I.mod.blt
  exact Calls.Name_function_global I.ok.kind hg (Calls.loadGlobal_builtin (by rw [I.ok.glob]; exact I.mod.glob.keeps I.bk) hm (by rw [I.ok.blt]; exact h1.keeps I.bk) ((h2 x hn).trans hv) h) hd
theorem pe_glob {x : Str} {v : V} {u : Value} {pos : Pos} (hg : Gl X x) (hm : X.mg x = some u) (r : RelV v u) (hd : (x == ("__debug__" : Str)) = false := by decide) : PE X (.Name x pos) (tC v) :=
  fun _ _ _ H _ I h => ld_glob I hg hm ⟨v,H,I,r,h⟩ hd
theorem pe_bltn {x : Str} {v : V} {u : Value} {pos : Pos} (hg : Gl X x) (hm : X.mg x = none) (hv : bootBuiltins x = some u) (r : RelV v u) (hn : x ≠ "__name__" := by decide) (hd : (x == ("__debug__" : Str)) = false := by decide) : PE X (.Name x pos) (tC v) :=
  fun _ _ _ H _ I h => ld_blt I hg hm hv ⟨v,H,I,r,h⟩ hn hd
variable {a b : Expr} {ta tb : TE} {pos : Pos}
def tB (t : TE) : TT := fun U H Q => t U H fun x H1 => ∃ c,x = .bl c /\ Q c H1
theorem pt_val {e : Expr} {t : TE} (h : PE X e t) (he : ∀ whole,isTrue e X.env whole = (do let v <- whole; standAt e.pos; holding [v] (truthy v)) := by intro _; rfl) : PT X e (tB t) := by
  intro pins s U H Q I hw
  refine isTrue_plain (thn (h pins s U H _ I hw) fun v s1 ⟨x,H1,I1,r1,q1⟩ => ?_) (he _)
  obtain ⟨d,rfl,q⟩ := q1
  cases r1
  exact wpAny_truthy_bool ⟨H1,I1,q⟩
variable {tA tB' : TT} {rest : List Expr}
def tAnd (t u : TT) : TT := fun U H Q => t U H fun c H1 => if c = true then u U H1 Q else Q false H1
def tOr (t u : TT) : TT := fun U H Q => t U H fun c H1 => if c = true then Q true H1 else u U H1 Q
def tNot (t : TT) : TT := fun U H Q => t U H fun c H1 => Q (!c) H1
theorem pw_and1 (ha : PT X a tA) : PW X (.BoolOp .And [a] pos) tA := by
  intro wh pins s U H Q I h
  refine isTrue_and (thn (ha pins s U H Q I h) fun c s1 e => ?_)
  cases c with
  | true => exact isTrue_and_nil e
  | false => exact e
theorem pw_or1 (ha : PT X a tA) : PW X (.BoolOp .Or [a] pos) tA := by
  intro wh pins s U H Q I h
  refine isTrue_or (thn (ha pins s U H Q I h) fun c s1 e => ?_)
  cases c with
  | false => exact isTrue_or_nil e
  | true => exact e
theorem pw_and (ha : PT X a tA) (hb : PW X (.BoolOp .And (b :: rest) pos) tB') : PW X (.BoolOp .And (a :: b :: rest) pos) (tAnd tA tB') := by
  intro wh pins s U H Q I h
  refine isTrue_and (thn (ha pins s U H _ I h) fun c s1 ⟨H1,I1,q1⟩ => ?_)
  cases c with
  | true => exact hb wh pins s1 U H1 Q I1 q1
  | false => exact ⟨H1,I1,q1⟩
theorem pw_or (ha : PT X a tA) (hb : PW X (.BoolOp .Or (b :: rest) pos) tB') : PW X (.BoolOp .Or (a :: b :: rest) pos) (tOr tA tB') := by
  intro wh pins s U H Q I h
  refine isTrue_or (thn (ha pins s U H _ I h) fun c s1 ⟨H1,I1,q1⟩ => ?_)
  cases c with
  | true => exact ⟨H1,I1,q1⟩
  | false => exact hb wh pins s1 U H1 Q I1 q1
theorem pt_not (ha : PT X a tA) : PT X (.UnaryOp .Not a pos) (tNot tA) := by
  intro pins s U H Q I h
  exact isTrue_not (ha pins s U H (fun c H1 => Q (!c) H1) I h)
def tAndV (ta tb : TE) : TE := fun U H Q => ta U H fun x H1 => ∃ c,x = .bl c /\ if c = true then tb U H1 Q else Q (.bl false) H1
def tOrV (ta tb : TE) : TE := fun U H Q => ta U H fun x H1 => ∃ c,x = .bl c /\ if c = true then Q (.bl true) H1 else tb U H1 Q
def tNotV (ta : TE) : TE := fun U H Q => ta U H fun x H1 => ∃ c,x = .bl c /\ Q (.bl (!c)) H1
theorem pe_one {op} {t : TE} (h : PE X a t) : PE X (.BoolOp op [a] pos) t := fun pins s U H Q I hw => BoolOp_one (h pins s U H Q I hw)
theorem pe_and (ha : PE X a ta) (hb : PE X (.BoolOp .And (b :: rest) pos) tb) : PE X (.BoolOp .And (a :: b :: rest) pos) (tAndV ta tb) := by
  intro pins s U H Q I h
  refine BoolOp_and (thn (ha pins s U H _ I h) fun v s1 ⟨x,H1,I1,r1,q1⟩ => ?_)
  obtain ⟨c,rfl,q1⟩ := q1
  cases r1
  refine wpAny_truthy_bool ?_
  cases c with
  | true => exact hb pins s1 U H1 Q I1 q1
  | false => exact ⟨.bl false,H1,I1,rfl,q1⟩
theorem pe_or (ha : PE X a ta) (hb : PE X (.BoolOp .Or (b :: rest) pos) tb) : PE X (.BoolOp .Or (a :: b :: rest) pos) (tOrV ta tb) := by
  intro pins s U H Q I h
  refine BoolOp_or (thn (ha pins s U H _ I h) fun v s1 ⟨x,H1,I1,r1,q1⟩ => ?_)
  obtain ⟨c,rfl,q1⟩ := q1
  cases r1
  refine wpAny_truthy_bool ?_
  cases c with
  | false => exact hb pins s1 U H1 Q I1 q1
  | true => exact ⟨.bl true,H1,I1,rfl,q1⟩
theorem pe_not (ha : PE X a ta) : PE X (.UnaryOp .Not a pos) (tNotV ta) := by
  intro pins s U H Q I h
  refine UnaryOp_ (thn (ha pins s U H _ I h) fun v s1 ⟨x,H1,I1,r1,q1⟩ => ?_)
  obtain ⟨c,rfl,q1⟩ := q1
  cases r1
  exact not_of (wpAny_truthy_bool ⟨.bl (!c),H1,I1,rfl,q1⟩)
def tIf (t : TT) (ta tb : TE) : TE := fun U H Q => t U H fun c H1 => if c = true then ta U H1 Q else tb U H1 Q
theorem pe_ifExp {c : Expr} (hc : PT X c tA) (ha : PE X a ta) (hb : PE X b tb) : PE X (.IfExp c a b pos) (tIf tA ta tb) := by
  intro pins s U H Q I h
  refine wpAny_IfExp (thn (hc pins s U H _ I h) fun d s1 ⟨H1,I1,q1⟩ => ?_)
  cases d with
  | true => exact ha pins s1 U H1 Q I1 q1
  | false => exact hb pins s1 U H1 Q I1 q1
end
end L2
namespace L2
open PySem PySem.Spec PyProof.Rows
def SqL (K : PySem.W.Frag) (H : Hp) (a : Addr) (xs : List V) : Prop :=
  Rd H a (.lst xs) \/
    ∃ (o : Obj) (its : Array Value) (n : Nat), K.lookup a = some o /\ o.cls = .type "list" /\ o.dict = none /\ o.data = .seq its n /\ its.size <= sizeLine /\ Vals xs its.toList
def SqT (K : PySem.W.Frag) (H : Hp) (a : Addr) (xs : List V) : Prop :=
  Rd H a (.tup xs) \/
    ∃ (o : Obj) (its : Array Value) (n : Nat), K.lookup a = some o /\ o.cls = .type "tuple" /\ o.data = .seq its n /\ its.size <= sizeLine /\ Vals xs its.toList
def absV : Value -> Option V
  | .none => some .non
  | .bool b => some (.bl b)
  | .int i _ => some (.int i)
  | .str x _ => some (.str x)
  | .bytes b _ => some (.byt b)
  | .float b _ => some (.flt b)
  | .ref a => some (.ref a)
  | .type n => some (.ty n)
  | _ => none
theorem RelV.abs {x : V} {u : Value} (r : RelV x u) : absV u = some x := by
  cases x with
  | non => cases r; rfl
  | bl _ => cases r; rfl
  | int _ => obtain ⟨t,rfl⟩ := r; rfl
  | str _ => obtain ⟨t,rfl⟩ := r; rfl
  | byt _ => obtain ⟨t,rfl⟩ := r; rfl
  | flt _ => obtain ⟨t,rfl⟩ := r; rfl
  | ref _ => cases r; rfl
  | ty _ => cases r; rfl
theorem RelV.inj {x y : V} {u : Value} (r : RelV x u) (q : RelV y u) : x = y := Option.some.inj (r.abs.symm.trans q.abs)
theorem Vals.inj : ∀ {xs ys : List V} {us : List Value},Vals xs us -> Vals ys us -> xs = ys
  | _,_,_,.nil,.nil => rfl
  | _,_,_,.cons r t,.cons r' t' => by rw [r.inj r',Vals.inj t t']
section
variable {X : Cx} {pins : List (Addr × Obj)} {U : St} {H : Hp} {s : Shared} {a : Addr} {xs ys : List V}
theorem Inv.list (I : Inv X pins U H s) (h : SqL X.K H a xs) : ∃ its : List Value,Vals xs its /\ PlainL s.heap a its.toArray /\ xs.length <= sizeLine := by
  rcases h with h | ⟨o,its,n,hk,hc,hd,hs,hz,r⟩
  . obtain ⟨z,its,n,r,e⟩ := h.ok I.hok
    exact ⟨its,r,⟨_,n,e,rfl,rfl,rfl⟩,z⟩
  . refine ⟨its.toList,r,⟨o,n,I.kIn a o hk,hc,hd,by simpa using hs⟩,?_⟩
    have e := r.length
    simp only [Array.length_toList] at e
    omega
theorem Inv.tuple (I : Inv X pins U H s) (h : SqT X.K H a xs) : ∃ its : List Value,Vals xs its /\ IsTup s.heap a its.toArray /\ xs.length <= sizeLine := by
  rcases h with h | ⟨o,its,n,hk,hc,hs,hz,r⟩
  . obtain ⟨z,its,r,p⟩ := h.ok I.hok
    exact ⟨its,r,p,z⟩
  . refine ⟨its.toList,r,⟨o,I.kIn a o hk,hc,n,by simpa using hs⟩,?_⟩
    have e := r.length
    simp only [Array.length_toList] at e
    omega
theorem Inv.list_inj (I : Inv X pins U H s) (h : SqL X.K H a xs) (h' : SqL X.K H a ys) : xs = ys := by
  obtain ⟨its,r,⟨o,n,e,_,_,d⟩,_⟩ := I.list h
  obtain ⟨its',r',⟨o',n',e',_,_,d'⟩,_⟩ := I.list h'
  rw [e] at e'; cases e'
  rw [d] at d'
  injection d' with d1 _
  have : its = its' := by simpa using congrArg Array.toList d1
  subst this
  exact r.inj r'
theorem Inv.tuple_inj (I : Inv X pins U H s) (h : SqT X.K H a xs) (h' : SqT X.K H a ys) : xs = ys := by
  obtain ⟨its,r,⟨o,e,_,n,d⟩,_⟩ := I.tuple h
  obtain ⟨its',r',⟨o',e',_,n',d'⟩,_⟩ := I.tuple h'
  rw [e] at e'; cases e'
  rw [d] at d'
  injection d' with d1 _
  have : its = its' := by simpa using congrArg Array.toList d1
  subst this
  exact r.inj r'
end
abbrev Cx.wish (X : Cx) (E : Value -> Shared -> Prop) : Cx := { X with xe := E }
abbrev Cx.nox (X : Cx) : Cx := X.wish fun _ _ => False
theorem Cx.Ok.wish {X : Cx} (ok : X.Ok) (E : Value -> Shared -> Prop) : (X.wish E).Ok :=
  ⟨ok.mod,ok.kind,ok.glob,ok.blt,ok.above,ok.inj,ok.has,ok.cab,ok.hd,ok.frames,ok.stk,ok.exf,ok.bs,ok.bsz,ok.noex,ok.exfs,ok.funs,ok.frf⟩
theorem Cx.Ok.unwish {X : Cx} {E : Value -> Shared -> Prop} (ok : (X.wish E).Ok) : X.Ok :=
  ⟨ok.mod,ok.kind,ok.glob,ok.blt,ok.above,ok.inj,ok.has,ok.cab,ok.hd,ok.frames,ok.stk,ok.exf,ok.bs,ok.bsz,ok.noex,ok.exfs,ok.funs,ok.frf⟩
section
variable {X : Cx} {pins : List (Addr × Obj)} {U : St} {H : Hp} {s : Shared} {E : Value -> Shared -> Prop}
theorem Inv.wish (I : Inv X pins U H s) (E : Value -> Shared -> Prop) : Inv (X.wish E) pins U H s := ⟨I.ok.wish E,I.os,I.bare,I.base,I.loc,I.cell,I.free,I.freeC,I.pin,I.hok,I.len⟩
theorem Inv.unwish (I : Inv (X.wish E) pins U H s) : Inv X pins U H s := ⟨I.ok.unwish,I.os,I.bare,I.base,I.loc,I.cell,I.free,I.freeC,I.pin,I.hok,I.len⟩
theorem SP.unwish {D : Ends} {f : Flow} {s' : Shared} (h : SP (X.wish E) pins D f s') : SP X pins D f s' := by
  cases f with
  | next => obtain ⟨U',H',I,q⟩ := h; exact ⟨U',H',I.unwish,q⟩
  | brk => obtain ⟨U',H',I,q⟩ := h; exact ⟨U',H',I.unwish,q⟩
  | cont => obtain ⟨U',H',I,q⟩ := h; exact ⟨U',H',I.unwish,q⟩
  | ret u => obtain ⟨v,U',H',I,r,q⟩ := h; exact ⟨v,U',H',I.unwish,r,q⟩
end
section
variable {X : Cx} {st : Stmt} {rest : List Stmt} {t u : TS} {e : Expr} {te : TE} {pos : Pos}
def tNext : TS := fun D U H => D.nx U H
def tSeq (t u : TS) : TS := fun D U H => t { D with nx := u D } U H
theorem pss_nil : PSs X [] tNext := fun _ _ U H _ I h => wpAny_execs_nil ⟨U,H,I,h⟩
theorem pss_cons (h1 : PS X st t) (h2 : PSs X rest u) : PSs X (st :: rest) (tSeq t u) := by
  intro pins s U H D I h
  refine wpAny_execs_cons (thn (h1 pins s U H { D with nx := u D } I h) fun f s1 q => ?_)
  cases f with
  | next =>
    obtain ⟨U',H',I',q⟩ := q
    exact h2 pins s1 U' H' D I' q
  | ret v => exact q
  | brk => exact q
  | cont => exact q
def tBreak : TS := fun D U H => D.bk U H
def tCont : TS := fun D U H => D.ct U H
theorem ps_pass : PS X (.Pass pos) tNext := fun _ _ U H _ I h => wpAny_Pass ⟨U,H,I,h⟩
theorem ps_break : PS X (.Break pos) tBreak := fun _ _ U H _ I h => wpAny_Break ⟨U,H,I,h⟩
theorem ps_continue : PS X (.Continue pos) tCont := fun _ _ U H _ I h => wpAny_Continue ⟨U,H,I,h⟩
theorem Inv.quiet {pins : List (Addr × Obj)} {U : St} {H : Hp} {s : Shared} (I : Inv X pins U H s) : interactive X.env = false := by simp [interactive,I.ok.kind]
def tDrop (te : TE) : TS := fun D U H => te U H fun _ H1 => D.nx U H1
theorem ps_expr (he : PE X e te) (hs : swapsWith e none pos.line X.env = pure false := by rfl) : PS X (.Expr e pos) (tDrop te) := by
  intro pins s U H D I h
  exact wpAny_Expr_any (thn (he pins s U H _ I h) fun v s1 ⟨x,H1,I1,r1,q1⟩ => ⟨U,H1,I1,q1⟩) I.quiet hs
def tRet (te : TE) : TS := fun D U H => te U H D.rt
theorem ps_ret (he : PE X e te) : PS X (.Return (some e) pos) (tRet te) := by
  intro pins s U H D I h
  exact wpAny_Return_some (thn (he pins s U H _ I h) fun v s1 ⟨x,H1,I1,r1,q1⟩ => ⟨x,U,H1,I1,r1,q1⟩)
def tRetN : TS := fun D _ H => D.rt .non H
theorem ps_retN : PS X (.Return none pos) tRetN := fun _ _ U H _ I h => wpAny_Return_none ⟨.non,U,H,I,rfl,h⟩
def tIfS (c : TT) (t u : TS) : TS := fun D U H => c U H fun b H1 => if b = true then t D U H1 else u D U H1
theorem ps_if {c : Expr} {a b : List Stmt} {tc : TT} (hc : PT X c tc) (ha : PSs X a t) (hb : PSs X b u) : PS X (.If c a b pos) (tIfS tc t u) := by
  intro pins s U H D I h
  refine wpAny_If (thn (hc pins s U H _ I h) fun d s1 ⟨H1,I1,q1⟩ => ?_)
  cases d with
  | true => exact ha pins s1 U H1 D I1 q1
  | false => exact hb pins s1 U H1 D I1 q1
end
abbrev TG := V -> St -> Hp -> (St -> Hp -> Prop) -> Prop
abbrev TGs := List V -> St -> Hp -> (St -> Hp -> Prop) -> Prop
def PG (X : Cx) (target : Expr) (t : TG) : Prop :=
  ∀ (pins : List (Addr × Obj)) (s : Shared) (U : St) (H : Hp) (v : V) (u : Value) (Q : St -> Hp -> Prop),Inv X pins U H s -> RelV v u -> t v U H Q ->
    wpAny (model X.prog X.w) X.A (assign target X.env u) (fun _ s' => ∃ U' H',Inv X pins U' H' s' /\ Q U' H') X.xe s
def PGs (X : Cx) (ts : List Expr) (t : TGs) : Prop :=
  ∀ (pins : List (Addr × Obj)) (s : Shared) (U : St) (H : Hp) (vs : List V) (us : List Value) (Q : St -> Hp -> Prop),Inv X pins U H s -> Vals vs us -> t vs U H Q ->
    wpAny (model X.prog X.w) X.A (assignInOrder ((assignEach ts X.env).map (·.2)) us) (fun _ s' => ∃ U' H',Inv X pins U' H' s' /\ Q U' H') X.xe s
abbrev TSet := V -> V -> V -> Hp -> (Hp -> Prop) -> Prop
def PSet (X : Cx) (t : TSet) : Prop :=
  ∀ (pins : List (Addr × Obj)) (s : Shared) (U : St) (H : Hp) (o i v : V) (ov iv u : Value) (Q : Hp -> Prop),Inv X pins U H s -> RelV o ov -> RelV i iv -> RelV v u -> t o i v H Q ->
    wpAny (model X.prog X.w) X.A (setItem ov iv u) (fun _ s' => ∃ H',Inv X pins U H' s' /\ Q H') X.xe s
section
variable {X : Cx} {pos : Pos}
def gName (i : Nat) : TG := fun v U H Q => Q (U.set i (some v)) H
theorem pg_name {i : Nat} {x : Str} (hN : X.N.Nodup) (hi : X.N[i]? = some x) (hx : Loc X.env.scope x) (hf : X.fn x = true \/ X.env.scope.names.lookup x = some .local := by first | exact .inl rfl | exact .inr rfl | assumption) : PG X (.Name x pos) (gName i) := by
  intro pins s U H v u Q I r h
  exact wpAny_assign_Name (store_ok I hN hi hx r (fun s' I' => ⟨_,H,I',h⟩) hf)
def gNil : TGs := fun vs U H Q => vs = [] /\ Q U H
def gCons (t : TG) (u : TGs) : TGs := fun vs U H Q => ∃ v r,vs = v :: r /\ t v U H fun U' H' => u r U' H' Q
theorem pgs_nil : PGs X [] gNil := by
  intro pins s U H vs us Q I r h
  obtain ⟨e,h⟩ := h
  subst e
  cases r
  exact assignInOrder_nil ⟨U,H,I,h⟩
theorem pgs_cons {e : Expr} {es : List Expr} {t : TG} {u : TGs} (h1 : PG X e t) (h2 : PGs X es u)
    (hs : (assignEach (e :: es) X.env).map (·.2) = assign e X.env :: (assignEach es X.env).map (·.2) := by rfl) : PGs X (e :: es) (gCons t u) := by
  intro pins s U H vs us Q I r h
  obtain ⟨v,vr,e1,h⟩ := h
  subst e1
  cases r with
  | cons r rr =>
    rw [hs]
    refine assignInOrder_cons (thn (h1 pins s U H _ _ _ I r h) fun _ s1 ⟨U1,H1,I1,q1⟩ => ?_)
    exact h2 pins s1 U1 H1 _ _ Q I1 rr q1
def gTup (K : PySem.W.Frag) (n : Nat) (t : TGs) : TG := fun v U H Q => ∃ a xs,v = .ref a /\ SqT K H a xs /\ xs.length = n /\ t xs U H Q
theorem pg_tup {es : List Expr} {k : Nat} {t : TGs} {n : Nat} (hc : X.calm = true) (h : PGs X es t)
    (hn : (assignEach es X.env).length = n := by rfl) (hst : (assignEach es X.env).findIdx? (·.1) = none := by rfl) : PG X (.Tuple es k pos) (gTup X.K n t) := by
  intro pins s U H v u Q I r hw
  obtain ⟨a,xs,e1,hq,hl,hw⟩ := hw
  subst e1
  cases r
  obtain ⟨its,rv,ht,hz⟩ := I.tuple hq
  refine assign_Tuple_tuple (I.ok.hd hc) ht (by simp [hn,<- hl,rv.length]) hst fun h' hx => ?_
  have I1 : Inv X pins U H { s with heap := h' } := I.kept (t' := s.toks) fun b o e => hx b o (Nat.ne_of_lt (Heap.lt_size e)) e
  exact h pins _ U H xs _ Q I1 (by simpa using rv) hw
def tAsg (te : TE) (g : TG) : TS := fun D U H => te U H fun x H1 => g x U H1 D.nx
theorem ps_asg {tg e : Expr} {te : TE} {g : TG} (he : PE X e te) (hg : PG X tg g) (hs : swapsWithSole [tg] e pos.line X.env = pure false := by rfl) (hw : swappedStores [tg] e X.env = pure none := by rfl)
    (h1 : (assignEach [tg] X.env).map (·.2) = [assign tg X.env] := by rfl) : PS X (.Assign [tg] e pos) (tAsg te g) := by
  intro pins s U H D I h
  refine wpAny_Assign_stores (thn (he pins s U H _ I h) fun v s1 ⟨x,H1,I1,r1,q1⟩ => ?_) hs hw
  rw [h1]
  exact thn (hg pins s1 U H1 x v _ I1 r1 q1) fun _ s2 q => q
theorem ps_set {i : Nat} {x : Str} {e : Expr} {te : TE} {pos' : Pos} (hN : X.N.Nodup) (hi : X.N[i]? = some x) (hx : Loc X.env.scope x) (he : PE X e te) (hs : swapsWith e (some (.Name x pos')) pos.line X.env = pure false := by rfl) (hf : X.fn x = true \/ X.env.scope.names.lookup x = some .local := by first | exact .inl rfl | exact .inr rfl | assumption) :
    PS X (.Assign [.Name x pos'] e pos) (tAsg te (gName i)) := by
  intro pins s U H D I h
  refine wpAny_Assign_Name (thn (he pins s U H _ I h) fun v s1 ⟨y,H1,I1,r1,q1⟩ => ?_) hs
  exact store_ok I1 hN hi hx r1 (fun s2 I2 => ⟨_,H1,I2,q1⟩) hf
end
section
variable {X : Cx} {pos : Pos}
def tWhile (c : TT) (tb : TS) : TS := fun D U H => ∃ W : Nat -> St -> Hp -> Prop,(∃ m,W m U H) /\ ∀ m U H,W m U H ->
  c U H fun b H1 => if b = true then ∃ N : St -> Hp -> Prop,(∀ U' H',N U' H' -> ∃ m',m' < m /\ W m' U' H') /\ tb { D with nx := N,ct := N,bk := D.nx } U H1 else D.nx U H1
theorem ps_while {c : Expr} {body : List Stmt} {tc : TT} {tb : TS} (hp : PassesOwn (model X.prog X.w) X.A X.env X.xe) (hc : PT X c tc) (hb : PSs X body tb) : PS X (.While c body [] pos) (tWhile tc tb) := by
  intro pins s U H D I h
  obtain ⟨W,⟨m0,w0⟩,turn⟩ := h
  refine wpAny_While (codeAny_whileLoop (fun n s' => ∃ U' H',Inv X pins U' H' s' /\ W n U' H') ?_ m0 ⟨U,H,I,w0⟩)
  rintro n s1 ⟨U1,H1,I1,w1⟩
  refine wpAny_passesOwn hp (thn (hc pins s1 U1 H1 _ I1 (turn n U1 H1 w1)) fun b s2 ⟨H2,I2,q2⟩ => ?_)
  cases b with
  | true =>
    obtain ⟨N,hN,q2⟩ := q2
    rw [if_pos rfl]
    refine wpAny_passesOwn hp (thn (hb pins s2 U1 H2 _ I2 q2) fun f s3 q3 => ?_)
    cases f with
    | next =>
      obtain ⟨U3,H3,I3,n3⟩ := q3
      obtain ⟨m',hm,w3⟩ := hN U3 H3 n3
      exact ⟨m',hm,U3,H3,I3,w3⟩
    | cont =>
      obtain ⟨U3,H3,I3,n3⟩ := q3
      obtain ⟨m',hm,w3⟩ := hN U3 H3 n3
      exact ⟨m',hm,U3,H3,I3,w3⟩
    | brk => exact q3
    | ret v => exact q3
  | false =>
    rw [if_neg Bool.false_ne_true]
    exact wpAny_execs_nil ⟨U1,H2,I2,q2⟩
end
structure It where
  go : Nat -> Hp -> Prop
  yld : Nat -> Hp -> V -> Hp -> Prop
  stop : Nat -> Hp -> Prop
def FpOk (X : Cx) (pins : List (Addr × Obj)) (H : Hp) (b : Addr) : Prop :=
  H b = none /\ b ≠ X.env.locals /\ b ∉ X.fs /\ (b ∈ X.ex \/ X.s₀.heap.objs.size <= b) /\ (∀ x c,X.env.cells.lookup x = some c -> c ≠ b) /\ ∀ p ∈ X.pn ++ pins,p.1 ≠ b
theorem Inv.fpOk {X : Cx} {pins : List (Addr × Obj)} {U : St} {H H' : Hp} {s : Shared} {b : Addr} (I : Inv X pins U H s) (hb : s.heap.objs.size <= b) (hn : H' b = none) : FpOk X pins H' b := by
  refine ⟨hn,Nat.ne_of_gt (Nat.lt_of_lt_of_le I.lt hb),I.nofs hb,.inr (Nat.le_trans I.sz hb),fun x c e z => ?_,fun p hp z => ?_⟩
  . obtain ⟨v,q⟩ := I.cell x c e
    exact absurd (Nat.lt_of_lt_of_le q.lt (by rw [z]; exact hb)) (Nat.lt_irrefl _)
  . exact absurd (Nat.lt_of_lt_of_le (Heap.lt_size (I.pin p hp).1) (by rw [z]; exact hb)) (Nat.lt_irrefl _)
structure Turn (P : Program) (w : World) (K : PySem.W.Frag) (tg : Expr) (J : It) (fp : List Addr) (it : Addr) (tn : Nat -> Heap -> Prop) : Prop where
  mem : it ∈ fp
  obj : ∀ i h,tn i h -> ∀ b ∈ fp,∃ o,h.get? b = some o /\ ∀ v,o.data ≠ .cell v
  keep : ∀ i h h',tn i h -> (∀ b ∈ fp,∀ o,h.get? b = some o -> h'.get? b = some o) -> tn i h'
  item : ∀ (X : Cx),X.prog = P -> X.w = w -> X.K = K -> X.calm = true -> ∀ (i : Nat) (pins : List (Addr × Obj)) (s : Shared) (U : St) (H : Hp) (E : Value -> Shared -> Prop),Inv X pins U H s -> (∀ b ∈ fp,FpOk X pins H b) -> tn i s.heap -> J.go i H ->
    wpAny (model P w) X.A (pyNext (.ref it)) (fun r s1 => ∃ u,r = some u /\
      wpAny (model P w) X.A (letOwnedTupleGo tg (.ref it) u) (fun _ s2 => ∃ x H',Inv X pins U H' s2 /\ RelV x u /\ J.yld i H x H' /\ tn (i + 1) s2.heap /\ ∀ b ∈ fp,H' b = none) E s1) E s
  done : ∀ (X : Cx),X.prog = P -> X.w = w -> X.K = K -> X.calm = true -> ∀ (i : Nat) (pins : List (Addr × Obj)) (s : Shared) (U : St) (H : Hp) (E : Value -> Shared -> Prop),Inv X pins U H s -> (∀ b ∈ fp,FpOk X pins H b) -> tn i s.heap -> J.stop i H ->
    wpAny (model P w) X.A (pyNext (.ref it)) (fun r s1 => r = none /\ Inv X pins U H s1) E s
  self : ∀ (A : Around) (i : Nat) (s : Shared) (Q : Value -> Shared -> Prop) (E : Value -> Shared -> Prop),tn i s.heap -> Q (.ref it) s -> wpAny (model P w) A (pyIter (.ref it)) Q E s
abbrev TI := St -> Hp -> (It -> Hp -> Prop) -> Prop
def PIE (X : Cx) (pins : List (Addr × Obj)) (U : St) (tg : Expr) (R : It -> Hp -> Prop) (itv : Value) (s2 : Shared) : Prop :=
  ∃ (it : Addr) (fp : List Addr) (tn : Nat -> Heap -> Prop) (J : It) (H' : Hp),itv = .ref it /\ Inv X pins U H' s2 /\ Turn X.prog X.w X.K tg J fp it tn /\ tn 0 s2.heap /\ (∀ b ∈ fp,FpOk X pins H' b) /\ R J H'
def PI (X : Cx) (tg iter : Expr) (wi : TI) : Prop :=
  ∀ (pins : List (Addr × Obj)) (s : Shared) (U : St) (H : Hp) (R : It -> Hp -> Prop),Inv X pins U H s -> wi U H R ->
    wpAny (model X.prog X.w) X.A (eval iter X.env) (fun v s1 => wpAny (model X.prog X.w) X.A (pyIter v) (PIE X pins U tg R) X.xe s1) X.xe s
theorem go_of {M : Model} {A : Around} {E : Value -> Shared -> Prop} {s : Shared} {tg : Expr} {it : Addr} {u : Value} {o : Obj} {n : String} {vs : Array Value} {Q : Unit -> Shared -> Prop} (ho : s.heap.get? it = some o) (hc : o.cls = .type n) (hd : o.data = .fields vs)
    (hn : ["enumerate", "zip", "dict_itemiterator", "dict_reverseitemiterator", "odict_iterator", "itertools.zip_longest", "itertools.pairwise"].contains n = false) (hQ : Q () s) : wpAny M A (letOwnedTupleGo tg (.ref it) u) Q E s := by
  unfold letOwnedTupleGo
  cases tg <;> first
    | exact wpAny_pure hQ
    | (cases u <;> first
        | exact wpAny_pure hQ
        | (refine wpAny_bind (wpAny_load ho ?_)
           rw [hc,hd]
           show wpAny M A (if (["enumerate", "zip", "dict_itemiterator", "dict_reverseitemiterator", "odict_iterator", "itertools.zip_longest", "itertools.pairwise"].contains n && vs[0]? == some (rawInt _)) = true then _ else _) Q E s
           rw [if_neg (by intro h; rw [hn,Bool.false_and] at h; cases h)]
           exact wpAny_pure hQ))
def Itl (K : PySem.W.Frag) (a : Addr) : It :=
  ⟨fun i H => ∃ xs x,SqL K H a xs /\ xs[i]? = some x,fun i H x H' => H' = H /\ ∀ xs,SqL K H a xs -> xs[i]? = some x,fun i H => ∃ xs,SqL K H a xs /\ xs.length <= i⟩
def Itt (K : PySem.W.Frag) (a : Addr) : It :=
  ⟨fun i H => ∃ xs x,SqT K H a xs /\ xs[i]? = some x,fun i H x H' => H' = H /\ ∀ xs,SqT K H a xs -> xs[i]? = some x,fun i H => ∃ xs,SqT K H a xs /\ xs.length <= i⟩
def Itr (lo : Int) (n : Nat) : It := ⟨fun i _ => i < n,fun i H x H' => H' = H /\ x = .int (lo + i),fun i _ => n <= i⟩
theorem turn_list {P : Program} {w : World} {K : PySem.W.Frag} {tg : Expr} (a it : Addr) : Turn P w K tg (Itl K a) [it] it (fun i h => h.IsListIter it a i) where
  mem := by simp
  obj := fun i h st b hb => by
    have e : b = it := by simpa using hb
    subst e
    obtain ⟨o,e,c,d⟩ := st
    exact ⟨o,e,fun v z => by rw [d] at z; cases z⟩
  keep := fun i h h' st k => st.at fun o e => k it (by simp) o e
  item := by
    intro X hP hw hK hc i pins s U H E I hf st hg
    subst hP hw hK
    obtain ⟨xs,x,hq,hx⟩ := hg
    obtain ⟨its,rv,p,hz⟩ := I.list hq
    obtain ⟨u,hu,ru⟩ := rv.get hx
    obtain ⟨f0,f1,f2,f3,f4,f5⟩ := hf it (by simp)
    refine wpAny_pyNext_list_item st p.isList (x := u) (by simpa using hu) fun h' st' sb => ?_
    have I1 : Inv X pins U H { s with heap := h' } := I.turned (t' := s.toks) (fun b o hb e => (sb.2 b hb).trans e) f0 f1 f3 f4 f5
    obtain ⟨o,e,c,d⟩ := id st'
    exact ⟨u,rfl,go_of (s := { s with heap := h' }) e c d (by decide) ⟨x,H,I1,ru,⟨rfl,fun ys hy => by rw [I.list_inj hy hq]; exact hx⟩,st',fun b hb => (hf b hb).1⟩⟩
  done := by
    intro X hP hw hK hc i pins s U H E I hf st hg
    subst hP hw hK
    obtain ⟨xs,hq,hx⟩ := hg
    obtain ⟨its,rv,p,hz⟩ := I.list hq
    obtain ⟨f0,f1,f2,f3,f4,f5⟩ := hf it (by simp)
    have hl := rv.length
    exact wpAny_pyNext_list_end (I.ok.hd hc) st p.isList (by simp; omega) fun h' eb => ⟨rfl,I.turned (t' := s.toks) (fun b o hb e => eb b o hb e) f0 f1 f3 f4 f5⟩
  self := fun _ _ _ _ _ st h => wpAny_pyIter_listiter st h
theorem turn_tuple {P : Program} {w : World} {K : PySem.W.Frag} {tg : Expr} (a it : Addr) : Turn P w K tg (Itt K a) [it] it (fun i h => h.IsTupleIter it a i) where
  mem := by simp
  obj := fun i h st b hb => by
    have e : b = it := by simpa using hb
    subst e
    obtain ⟨o,e,c,d⟩ := st
    exact ⟨o,e,fun v z => by rw [d] at z; cases z⟩
  keep := fun i h h' st k => st.at fun o e => k it (by simp) o e
  item := by
    intro X hP hw hK hc i pins s U H E I hf st hg
    subst hP hw hK
    obtain ⟨xs,x,hq,hx⟩ := hg
    obtain ⟨its,rv,p,hz⟩ := I.tuple hq
    obtain ⟨u,hu,ru⟩ := rv.get hx
    obtain ⟨f0,f1,f2,f3,f4,f5⟩ := hf it (by simp)
    refine wpAny_pyNext_tuple_item st (show s.heap.IsTuple a its.toArray from p) (x := u) (by simpa using hu) fun h' st' sb => ?_
    have I1 : Inv X pins U H { s with heap := h' } := I.turned (t' := s.toks) (fun b o hb e => (sb.2 b hb).trans e) f0 f1 f3 f4 f5
    obtain ⟨o,e,c,d⟩ := id st'
    exact ⟨u,rfl,go_of (s := { s with heap := h' }) e c d (by decide) ⟨x,H,I1,ru,⟨rfl,fun ys hy => by rw [I.tuple_inj hy hq]; exact hx⟩,st',fun b hb => (hf b hb).1⟩⟩
  done := by
    intro X hP hw hK hc i pins s U H E I hf st hg
    subst hP hw hK
    obtain ⟨xs,hq,hx⟩ := hg
    obtain ⟨its,rv,p,hz⟩ := I.tuple hq
    obtain ⟨f0,f1,f2,f3,f4,f5⟩ := hf it (by simp)
    have hl := rv.length
    exact wpAny_pyNext_tuple_end (I.ok.hd hc) st (show s.heap.IsTuple a its.toArray from p) (by simp; omega) fun h' eb => ⟨rfl,I.turned (t' := s.toks) (fun b o hb e => eb b o hb e) f0 f1 f3 f4 f5⟩
  self := fun _ _ _ _ _ st h => wpAny_pyIter_tupleiter st h
theorem turn_range {P : Program} {w : World} {K : PySem.W.Frag} {tg : Expr} (it : Addr) (lo : Int) (n : Nat) : Turn P w K tg (Itr lo n) [it] it (fun i h => IsRangeIter h it (lo + (i : Nat) * 1) ((n : Int) - (i : Nat)) 1) where
  mem := by simp
  obj := fun i h st b hb => by
    have e : b = it := by simpa using hb
    subst e
    exact ⟨_,st,fun v z => by
      have z' : Data.fields _ = Data.cell v := z
      cases z'⟩
  keep := fun i h h' st k => k it (by simp) _ st
  item := by
    intro X hP hw hK hc i pins s U H E I hf st hg
    subst hP hw hK
    obtain ⟨f0,f1,f2,f3,f4,f5⟩ := hf it (by simp)
    have W := Walks.range (prog := X.prog) (w := X.w) (I.ok.hd hc) it lo 1 n
    refine W.item i s _ _ hg st fun v h' tk hv st' kk => ?_
    obtain ⟨t,rfl⟩ := hv
    have I1 : Inv X pins U H { s with heap := h',toks := tk } := I.turned (fun b o hb e => kk b o (by simpa using hb) e) f0 f1 f3 f4 f5
    refine ⟨_, rfl, go_of (s := { s with heap := h', toks := tk }) (n := "range_iterator") st' rfl rfl (by decide) ⟨.int (lo + i), H, I1, ⟨t, ?_⟩, ⟨rfl, rfl⟩, st', fun b hb => (hf b hb).1⟩⟩
    rw [Int.mul_one]
  done := by
    intro X hP hw hK hc i pins s U H E I hf st hg
    subst hP hw hK
    obtain ⟨f0,f1,f2,f3,f4,f5⟩ := hf it (by simp)
    exact wpAny_pyNext_range_end (I.ok.hd hc) st (by have : n <= i := hg; omega) fun h' eb => ⟨rfl,I.turned (t' := s.toks) (fun b o hb e => eb b o hb e) f0 f1 f3 f4 f5⟩
  self := fun _ _ _ _ _ st h => wpAny_pyIter_rangeiter st h
end L2
namespace L2
open PySem PySem.Spec PyProof.Rows
section
variable {X : Cx} {tg : Expr}
theorem range_it {pins : List (Addr × Obj)} {U : St} {H : Hp} {s : Shared} {R : It -> Hp -> Prop} {E : Value -> Shared -> Prop} {lo hi : Int} {t u v : Tok} {tk : Nat} (I : Inv X pins U H s) (h1 : -(2 ^ 62) <= lo) (h2 : lo < 2 ^ 62) (h3 : -(2 ^ 62) <= hi) (h4 : hi < 2 ^ 62)
    (q : R (Itr lo (hi - lo).toNat) H) : wpAny (model X.prog X.w) X.A (pyIter (.ref s.heap.objs.size)) (PIE X pins U tg R) E { s with heap := s.heap.push { cls := .type "range", data := .fields #[.int lo t, .int hi u, .int 1 v] }, toks := tk } := by
  refine wpAny_pyIter_range (IsRange.new ..) (small_one h1 h2 h3 h4) ?_
  have I1 : Inv X pins U H { s with heap := s.heap.push { cls := .type "range", data := .fields #[.int lo t, .int hi u, .int 1 v] }, toks := tk } := I.kept fun b o e => Heap.get?_push_of_some _ e
  refine ⟨(s.heap.push { cls := .type "range", data := .fields #[.int lo t, .int hi u, .int 1 v] }).objs.size, [(s.heap.push { cls := .type "range", data := .fields #[.int lo t, .int hi u, .int 1 v] }).objs.size], _, _, H, rfl,
    I1.kept (t' := tk) fun b o e => Heap.get?_push_of_some _ e,turn_range _ lo (hi - lo).toNat,?_,fun b hb => ?_,q⟩
  . have e1 : lo + ((0 : Nat) : Int) * 1 = lo := by simp
    have e2 : (((hi - lo).toNat : Nat) : Int) - ((0 : Nat) : Int) = Builtin.Range.rangeSize lo hi 1 := by rw [rangeSize_one]; split <;> omega
    show IsRangeIter _ _ (lo + ((0 : Nat) : Int) * 1) ((((hi - lo).toNat : Nat) : Int) - ((0 : Nat) : Int)) 1
    rw [e1,e2]
    exact Heap.get?_push_size _ rfl
  . have e : b = (s.heap.push { cls := .type "range", data := .fields #[.int lo t, .int hi u, .int 1 v] }).objs.size := by simpa using hb
    subst e
    exact I1.fpOk (Nat.le_refl _) (I1.hok.fresh (Nat.le_refl _))
def iRng1 (ta : TA) : TI := fun U H R => ta U H fun vs H1 => ∃ j : Int,vs = [.int j] /\ -(2 ^ 62) <= j /\ j < 2 ^ 62 /\ R (Itr 0 j.toNat) H1
theorem pi_range1 {a : Expr} {ta : TA} {p pos : Pos} (hg : Gl X "range") (hm : X.mg "range" = none) (ha : PA X [a] ta) (hs : starEach [a] X.env = [(false, eval a X.env)] := by rfl) : PI X tg (.Call (.Name "range" p) [a] [] pos) (iRng1 ta) := by
  intro pins s U H R I h
  refine Call_ (ld_blt I hg hm boot_range (PyProof.Rows.callWith_type1 (thn (ha pos pins s U H _ I h) fun us s1 ⟨vs,H1,I1,r1,q1⟩ => ?_) hs rfl))
  obtain ⟨j,e,q1,q2,q⟩ := q1
  subst e
  cases r1 with
  | cons r rr =>
    cases rr
    obtain ⟨t,rfl⟩ := r
    exact call_range_1 (range_it I1 (by omega) (by omega) q1 q2 (by simpa using q))
def tFor (wi : TI) (g : TG) (tb : TS) : TS := fun D U H => wi U H fun J H1 => ∃ W : Nat -> Nat -> St -> Hp -> Prop,(∃ m,W 0 m U H1) /\ ∀ i m U H,W i m U H ->
  (J.stop i H /\ D.nx U H) \/ (J.go i H /\ ∃ N : St -> Hp -> Prop,(∀ U' H',N U' H' -> ∃ m',m' < m /\ W (i + 1) m' U' H') /\ ∀ x H',J.yld i H x H' -> g x U H' fun U2 H2 => tb { D with nx := N,ct := N,bk := D.nx } U2 H2)
def pinsAt (fp : List Addr) (h : Heap) : List (Addr × Obj) := fp.filterMap fun b => (h.get? b).map fun o => (b,o)
theorem mem_pinsAt {fp : List Addr} {h : Heap} {b : Addr} {o : Obj} (hb : b ∈ fp) (e : h.get? b = some o) : (b,o) ∈ pinsAt fp h := List.mem_filterMap.mpr ⟨b,hb,by rw [e]; rfl⟩
theorem of_pinsAt {fp : List Addr} {h : Heap} {p : Addr × Obj} (hp : p ∈ pinsAt fp h) : p.1 ∈ fp /\ h.get? p.1 = some p.2 := by
  obtain ⟨b,hb,e⟩ := List.mem_filterMap.mp hp
  cases q : h.get? b with
  | none => rw [q] at e; cases e
  | some o =>
    rw [q] at e
    have e' : (b,o) = p := Option.some.inj e
    subst e'
    exact ⟨hb,q⟩
theorem Inv.pinned {pins : List (Addr × Obj)} {U : St} {H : Hp} {s : Shared} {fp : List Addr} (I : Inv X pins U H s) (hf : ∀ b ∈ fp,FpOk X pins H b) (ho : ∀ b ∈ fp,∃ o,s.heap.get? b = some o /\ ∀ v,o.data ≠ .cell v) : Inv X (pins ++ pinsAt fp s.heap) U H s :=
  I.pins_of fun p hp => (List.mem_append.mp hp).elim (fun z => I.pin p (List.mem_append_right _ z)) fun z => by
    obtain ⟨hb,e⟩ := of_pinsAt z
    obtain ⟨f0,f1,f2,_⟩ := hf p.1 hb
    obtain ⟨o,e',d⟩ := ho p.1 hb
    rw [e] at e'; cases e'
    exact ⟨e,f0,f1,f2,d⟩
theorem Inv.unpinned {pins pl : List (Addr × Obj)} {U : St} {H : Hp} {s : Shared} (I : Inv X (pins ++ pl) U H s) : Inv X pins U H s := I.pins_of fun p hp => I.pin p (List.mem_append_right _ (List.mem_append_left _ hp))
theorem ps_for {iter : Expr} {body : List Stmt} {wi : TI} {g : TG} {tb : TS} {pos : Pos} (hp : PassesOwn (model X.prog X.w) X.A X.env X.xe) (hc : X.calm = true) (hi : PI X tg iter wi) (hg : PG X tg g) (hb : PSs X body tb)
    (hs : ∀ x,foldedSetIterable iter X.env x = pure x := by intro _; rfl) : PS X (.For tg iter body [] pos) (tFor wi g tb) := by
  intro pins s U H D I h
  refine wpAny_For (thn (hi pins s U H _ I h) fun v s1 h1 => thn h1 fun itv s2 h2 => ?_) hs
  obtain ⟨it,fp,tn,J,H2,e,I2,T,st2,f2,W,⟨m0,w0⟩,turn⟩ := h2
  subst e
  have stat : ∀ {H' : Hp},(∀ b ∈ fp,H' b = none) -> ∀ b ∈ fp,FpOk X pins H' b := fun hn b hb => ⟨hn b hb,(f2 b hb).2⟩
  refine codeAny_forLoop_any (fun n s' => ∃ i U' H',Inv X pins U' H' s' /\ tn i s'.heap /\ (∀ b ∈ fp,H' b = none) /\ W i n U' H') ?_ m0 ⟨0,U,H2,I2,st2,fun b hb => (f2 b hb).1,w0⟩
  rintro n s3 ⟨i,U3,H3,I3,st3,fr3,w3⟩
  rcases turn i n U3 H3 w3 with ⟨stop,qn⟩ | ⟨go,N,hN,step⟩
  . refine wpAny_passesOwn hp (thn (T.done X rfl rfl rfl hc i pins s3 U3 H3 X.xe I3 (stat fr3) st3 stop) fun r s4 ⟨hr,I4⟩ => ?_)
    subst hr
    exact wpAny_execs_nil ⟨U3,H3,I4,qn⟩
  . refine wpAny_passesOwn hp (thn (T.item X rfl rfl rfl hc i pins s3 U3 H3 X.xe I3 (stat fr3) st3 go) fun r s4 ⟨u,hr,h4⟩ => ?_)
    subst hr
    refine wpAny_passesOwn hp (thn h4 fun _ s5 ⟨x,H5,I5,r5,y5,st5,fr5⟩ => ?_)
    have I5' := I5.pinned (stat fr5) (T.obj _ _ st5)
    refine wpAny_passesOwn hp (thn (hg _ s5 U3 H5 x u _ I5' r5 (step x H5 y5)) fun _ s6 ⟨U6,H6,I6,q6⟩ => ?_)
    refine wpAny_passesOwn hp (thn (hb _ s6 U6 H6 _ I6 q6) fun f s7 q7 => ?_)
    have again : ∀ {U7 : St} {H7 : Hp},Inv X (pins ++ pinsAt fp s5.heap) U7 H7 s7 -> N U7 H7 -> ∃ m,m < n /\ ∃ i U' H',Inv X pins U' H' s7 /\ tn i s7.heap /\ (∀ b ∈ fp,H' b = none) /\ W i m U' H' := fun {U7 H7} I7 n7 => by
      obtain ⟨m',hm,w7⟩ := hN U7 H7 n7
      refine ⟨m',hm,i + 1,U7,H7,I7.unpinned,T.keep _ _ _ st5 fun b hb o e => (I7.pin (b,o) (List.mem_append_right _ (List.mem_append_right _ (mem_pinsAt hb e)))).1,fun b hb => ?_,w7⟩
      obtain ⟨o,e,d⟩ := T.obj _ _ st5 b hb
      exact (I7.pin (b,o) (List.mem_append_right _ (List.mem_append_right _ (mem_pinsAt hb e)))).2.1
    cases f with
    | next => obtain ⟨U7,H7,I7,n7⟩ := q7; exact again I7 n7
    | cont => obtain ⟨U7,H7,I7,n7⟩ := q7; exact again I7 n7
    | brk => obtain ⟨U7,H7,I7,q7⟩ := q7; exact ⟨U7,H7,I7.unpinned,q7⟩
    | ret v => obtain ⟨x7,U7,H7,I7,r7,q7⟩ := q7; exact ⟨x7,U7,H7,I7.unpinned,r7,q7⟩
end
end L2
namespace L2
open PySem PySem.Spec PyProof.Rows
abbrev R2 := V -> V -> Hp -> VK -> Prop
def OpR (X : Cx) (f : Value -> Value -> Sem Value) (r : R2) : Prop :=
  ∀ (pins : List (Addr × Obj)) (s : Shared) (U : St) (H : Hp) (x y : V) (v u : Value) (Q : VK),Inv X pins U H s -> RelV x v -> RelV y u -> r x y H Q ->
    wpAny (model X.prog X.w) X.A (f v u) (EP X pins U Q) X.xe s
def UnR (X : Cx) (f : Value -> Sem Value) (r : V -> Hp -> VK -> Prop) : Prop :=
  ∀ (pins : List (Addr × Obj)) (s : Shared) (U : St) (H : Hp) (x : V) (v : Value) (Q : VK),Inv X pins U H s -> RelV x v -> r x H Q ->
    wpAny (model X.prog X.w) X.A (f v) (EP X pins U Q) X.xe s
def CallR (X : Cx) (f : Value) (r : List V -> Hp -> VK -> Prop) : Prop :=
  ∀ (pins : List (Addr × Obj)) (s : Shared) (U : St) (H : Hp) (xs : List V) (us : List Value) (Q : VK),Inv X pins U H s -> Vals xs us -> r xs H Q ->
    wpAny (model X.prog X.w) X.A (call f us) (EP X pins U Q) X.xe s
def tOp (r : R2) (ta tb : TE) : TE := fun U H Q => ta U H fun x H1 => tb U H1 fun y H2 => r x y H2 Q
def tUn (r : V -> Hp -> VK -> Prop) (ta : TE) : TE := fun U H Q => ta U H fun x H1 => r x H1 Q
def rI (C : Int -> Int -> Prop) (g : Int -> Int -> V) : R2 := fun x y H Q => ∃ i j,x = .int i /\ y = .int j /\ C i j /\ Q (g i j) H
def rI0 (g : Int -> Int -> V) : R2 := fun x y H Q => ∃ i j,x = .int i /\ y = .int j /\ Q (g i j) H
def rU (g : Int -> V) : V -> Hp -> VK -> Prop := fun x H Q => ∃ i,x = .int i /\ Q (g i) H
section
variable {X : Cx} {a b c : Expr} {ta tb tc : TE} {pos : Pos}
theorem binT (ha : PE X a ta) (hb : PE X b tb) {pins : List (Addr × Obj)} {s : Shared} {U : St} {H : Hp} {R : V -> V -> Hp -> Prop} (I : Inv X pins U H s)
    (h : ta U H fun x H1 => tb U H1 fun y H2 => R x y H2) {Q : Value -> Shared -> Prop} {f : Value -> Value -> Sem Value}
    (hf : ∀ v u s2 x y H2,Inv X pins U H2 s2 -> RelV x v -> RelV y u -> R x y H2 -> wpAny (model X.prog X.w) X.A (f v u) Q X.xe s2) :
    wpAny (model X.prog X.w) X.A (eval a X.env) (fun v s₁ => wpAny (model X.prog X.w) X.A (eval b X.env) (fun u s₂ => wpAny (model X.prog X.w) X.A (f v u) Q X.xe s₂) X.xe s₁) X.xe s := by
  refine thn (ha pins s U H _ I h) fun v s1 ⟨x,H1,I1,r1,q1⟩ => ?_
  refine thn (hb pins s1 U H1 _ I1 q1) fun u s2 ⟨y,H2,I2,r2,q2⟩ => ?_
  exact hf v u s2 x y H2 I2 r1 r2 q2
theorem pe_op {op : Operator} {r : R2} (ho : OpR X (binaryOp op) r) (ha : PE X a ta) (hb : PE X b tb) : PE X (.BinOp a op b pos) (tOp r ta tb) := by
  intro pins s U H Q I h
  exact wpAny_BinOp (binT ha hb I h fun v u s2 x y H2 I2 rx ry q => ho pins s2 U H2 x y v u Q I2 rx ry q)
theorem pe_un {op : UnaryOp} {r : V -> Hp -> VK -> Prop} (ho : UnR X (unaryOp op) r) (ha : PE X a ta) : PE X (.UnaryOp op a pos) (tUn r ta) := by
  intro pins s U H Q I h
  exact UnaryOp_ (thn (ha pins s U H _ I h) fun v s1 ⟨x,H1,I1,r1,q1⟩ => ho pins s1 U H1 x v Q I1 r1 q1)
theorem opI {f : Value -> Value -> Sem Value} {C : Int -> Int -> Prop} {g : Int -> Int -> Int}
    (rule : ∀ (i j : Int) (t u : Tok) (s : Shared) (Q : Value -> Shared -> Prop) (E : Value -> Shared -> Prop),C i j -> Q (.int (g i j) s.toks) { s with toks := s.toks + 1 } -> wpAny (model X.prog X.w) X.A (f (.int i t) (.int j u)) Q E s) :
    OpR X f (rI C fun i j => .int (g i j)) := by
  intro pins s U H x y v u Q I rx ry h
  obtain ⟨i,j,rfl,rfl,hc,q⟩ := h
  obtain ⟨t,rfl⟩ := rx
  obtain ⟨t',rfl⟩ := ry
  exact rule i j t t' s _ _ hc ⟨.int (g i j),H,I.tok _,⟨_,rfl⟩,q⟩
theorem opI0 {f : Value -> Value -> Sem Value} {g : Int -> Int -> Int}
    (rule : ∀ (i j : Int) (t u : Tok) (s : Shared) (Q : Value -> Shared -> Prop) (E : Value -> Shared -> Prop),Q (.int (g i j) s.toks) { s with toks := s.toks + 1 } -> wpAny (model X.prog X.w) X.A (f (.int i t) (.int j u)) Q E s) :
    OpR X f (rI0 fun i j => .int (g i j)) := by
  intro pins s U H x y v u Q I rx ry h
  obtain ⟨i,j,rfl,rfl,q⟩ := h
  obtain ⟨t,rfl⟩ := rx
  obtain ⟨t',rfl⟩ := ry
  exact rule i j t t' s _ _ ⟨.int (g i j),H,I.tok _,⟨_,rfl⟩,q⟩
theorem opB0 {f : Value -> Value -> Sem Value} {g : Int -> Int -> Bool}
    (rule : ∀ (i j : Int) (t u : Tok) (s : Shared) (Q : Value -> Shared -> Prop) (E : Value -> Shared -> Prop),Q (.bool (g i j)) s -> wpAny (model X.prog X.w) X.A (f (.int i t) (.int j u)) Q E s) :
    OpR X f (rI0 fun i j => .bl (g i j)) := by
  intro pins s U H x y v u Q I rx ry h
  obtain ⟨i,j,rfl,rfl,q⟩ := h
  obtain ⟨t,rfl⟩ := rx
  obtain ⟨t',rfl⟩ := ry
  exact rule i j t t' s _ _ ⟨.bl (g i j),H,I,rfl,q⟩
def CDiv (i j : Int) : Prop := 0 < j /\ j < 1073741824
def CPow (i j : Int) : Prop := 0 <= j /\ j <= 1000000 /\ i.natAbs < 2 ^ 64
def CMul (i j : Int) : Prop := (-(2 ^ 64) < i /\ i < 2 ^ 64) \/ (-(2 ^ 64) < j /\ j < 2 ^ 64)
theorem CMul.ok {i j : Int} (h : CMul i j) : IntMulOk i j := by
  rcases h with ⟨h1,h2⟩ | ⟨h1,h2⟩
  . exact .of_left (intBits_le_64 h1 h2)
  . exact .of_right (intBits_le_64 h1 h2)
theorem op_add : OpR X (binaryOp .Add) (rI0 fun i j => .int (i + j)) := opI0 fun _ _ _ _ _ _ _ q => add_int q
theorem op_sub : OpR X (binaryOp .Sub) (rI0 fun i j => .int (i - j)) := opI0 fun _ _ _ _ _ _ _ q => sub_int q
theorem op_mul : OpR X (binaryOp .Mult) (rI CMul fun i j => .int (i * j)) := opI fun _ _ _ _ _ _ _ hc q => mul_int q hc.ok
theorem op_fdiv : OpR X (binaryOp .FloorDiv) (rI CDiv fun i j => .int (i / j)) := opI fun i j _ _ _ _ _ hc q => by
  have h1 : (0 : Int) < j := hc.1
  have h2 : j < 1073741824 := hc.2
  exact floordiv_int (by omega) (by rw [Int.fdiv_eq_ediv_of_nonneg i (by omega)]; exact q) (.inl (PyProof.noPylong_small (by omega)))
theorem op_mod : OpR X (binaryOp .Mod) (rI (fun _ j => 0 < j) fun i j => .int (i % j)) := opI fun i j _ _ _ _ _ hc q => by
  have h1 : (0 : Int) < j := hc
  exact mod_int' (by omega) (by rw [Int.fmod_eq_emod_of_nonneg i (by omega)]; exact q)
theorem op_pow : OpR X (binaryOp .Pow) (rI CPow fun i j => .int (i ^ j.toNat)) := opI fun _ _ _ _ _ _ _ hc q => pow_int_small hc.1 hc.2.1 hc.2.2 q
theorem unI {f : Value -> Sem Value} {g : Int -> Int}
    (rule : ∀ (i : Int) (t : Tok) (s : Shared) (Q : Value -> Shared -> Prop) (E : Value -> Shared -> Prop),Q (.int (g i) s.toks) { s with toks := s.toks + 1 } -> wpAny (model X.prog X.w) X.A (f (.int i t)) Q E s) :
    UnR X f (rU fun i => .int (g i)) := by
  intro pins s U H x v Q I rx h
  obtain ⟨i,rfl,q⟩ := h
  obtain ⟨t,rfl⟩ := rx
  exact rule i t s _ _ ⟨.int (g i),H,I.tok _,⟨_,rfl⟩,q⟩
theorem un_neg : UnR X (unaryOp .USub) (rU fun i => .int (-i)) := unI fun _ _ _ _ _ q => neg_int q
end
def scal : V -> V -> Bool
  | .non,.non => true | .non,.int _ => true | .int _,.non => true | .non,.bl _ => true | .bl _,.non => true | .non,.str _ => true | .str _,.non => true
  | .int _,.int _ => true | .bl _,.bl _ => true | .str _,.str _ => true | .byt _,.byt _ => true
  | .int _,.str _ => true | .str _,.int _ => true | .bl _,.str _ => true | .str _,.bl _ => true
  | _,_ => false
def rEq : R2 := fun x y H Q => scal x y = true /\ Q (.bl (decide (x = y))) H
def rNe : R2 := fun x y H Q => scal x y = true /\ Q (.bl (!decide (x = y))) H
theorem dec_int {i j : Int} : decide (V.int i = V.int j) = (i == j) := by
  rw [Bool.eq_iff_iff]
  simp
theorem dec_bl {i j : Bool} : decide (V.bl i = V.bl j) = (i == j) := by
  rw [Bool.eq_iff_iff]
  simp
theorem dec_str {i j : Str} : decide (V.str i = V.str j) = (i == j) := by
  rw [Bool.eq_iff_iff]
  simp
theorem dec_byt {i j : Array UInt8} : decide (V.byt i = V.byt j) = (i.toList == j.toList) := by
  rw [Bool.eq_iff_iff]
  cases i
  cases j
  simp
section
variable {X : Cx} {a b c : Expr} {ta tb tc : TE} {pos : Pos}
theorem fin_bl {pins : List (Addr × Obj)} {U : St} {H : Hp} {s : Shared} {Q : VK} {k k' : Bool} (I : Inv X pins U H s) (q : Q (.bl k) H) (e : k = k') : EP X pins U Q (.bool k') s := by
  subst e
  exact ⟨.bl k,H,I,rfl,q⟩
theorem op_eq : OpR X (compareOp .Eq) rEq := by
  intro pins s U H x y v u Q I rx ry h
  obtain ⟨hs,q⟩ := h
  cases x with
  | non =>
    cases rx
    cases y with
    | non => cases ry; exact PySem.EqNone.eq_none_none (fin_bl I q (by simp))
    | bl j => cases ry; exact PySem.EqNone.eq_none_bool (fin_bl I q (by simp))
    | int j => obtain ⟨t',rfl⟩ := ry; exact PySem.EqNone.eq_none_int (fin_bl I q (by simp))
    | str j => obtain ⟨t',rfl⟩ := ry; exact PySem.EqNone.eq_none_str (fin_bl I q (by simp))
    | _ => exact absurd (show false = true from hs) Bool.false_ne_true
  | bl i =>
    cases rx
    cases y with
    | non => cases ry; exact PySem.EqNone.eq_bool_none (fin_bl I q (by simp))
    | bl j => cases ry; exact eq_bool (fin_bl I q dec_bl)
    | str j => obtain ⟨t',rfl⟩ := ry; exact PySem.EqMixed.eq_bool_str (fin_bl I q (by simp))
    | _ => exact absurd (show false = true from hs) Bool.false_ne_true
  | int i =>
    obtain ⟨t,rfl⟩ := rx
    cases y with
    | non => cases ry; exact PySem.EqNone.eq_int_none (fin_bl I q (by simp))
    | int j => obtain ⟨t',rfl⟩ := ry; exact eq_int (fin_bl I q dec_int)
    | str j => obtain ⟨t',rfl⟩ := ry; exact PySem.EqMixed.eq_int_str (fin_bl I q (by simp))
    | _ => exact absurd (show false = true from hs) Bool.false_ne_true
  | str i =>
    obtain ⟨t,rfl⟩ := rx
    cases y with
    | non => cases ry; exact PySem.EqNone.eq_str_none (fin_bl I q (by simp))
    | bl j => cases ry; exact PySem.EqMixed.eq_str_bool (fin_bl I q (by simp))
    | int j => obtain ⟨t',rfl⟩ := ry; exact PySem.EqMixed.eq_str_int (fin_bl I q (by simp))
    | str j => obtain ⟨t',rfl⟩ := ry; exact eq_str (fin_bl I q dec_str)
    | _ => exact absurd (show false = true from hs) Bool.false_ne_true
  | byt i =>
    obtain ⟨t,rfl⟩ := rx
    cases y with
    | byt j => obtain ⟨t',rfl⟩ := ry; exact PySem.W.eq_bytes (fin_bl I q dec_byt)
    | _ => exact absurd (show false = true from hs) Bool.false_ne_true
  | _ => cases y <;> exact absurd (show false = true from hs) Bool.false_ne_true
theorem op_ne : OpR X (compareOp .NotEq) rNe := by
  intro pins s U H x y v u Q I rx ry h
  obtain ⟨hs,q⟩ := h
  cases x with
  | non =>
    cases rx
    cases y with
    | non => cases ry; exact PySem.EqNone.ne_none_none (fin_bl I q (by simp))
    | bl j => cases ry; exact PySem.EqNone.ne_none_bool (fin_bl I q (by simp))
    | int j => obtain ⟨t',rfl⟩ := ry; exact PySem.EqNone.ne_none_int (fin_bl I q (by simp))
    | str j => obtain ⟨t',rfl⟩ := ry; exact PySem.EqNone.ne_none_str (fin_bl I q (by simp))
    | _ => exact absurd (show false = true from hs) Bool.false_ne_true
  | bl i =>
    cases rx
    cases y with
    | non => cases ry; exact PySem.EqNone.ne_bool_none (fin_bl I q (by simp))
    | bl j => cases ry; exact ne_bool (fin_bl I q (congrArg not dec_bl))
    | str j => obtain ⟨t',rfl⟩ := ry; exact PySem.EqMixed.ne_bool_str (fin_bl I q (by simp))
    | _ => exact absurd (show false = true from hs) Bool.false_ne_true
  | int i =>
    obtain ⟨t,rfl⟩ := rx
    cases y with
    | non => cases ry; exact PySem.EqNone.ne_int_none (fin_bl I q (by simp))
    | int j => obtain ⟨t',rfl⟩ := ry; exact ne_int (fin_bl I q (congrArg not dec_int))
    | str j => obtain ⟨t',rfl⟩ := ry; exact PySem.EqMixed.ne_int_str (fin_bl I q (by simp))
    | _ => exact absurd (show false = true from hs) Bool.false_ne_true
  | str i =>
    obtain ⟨t,rfl⟩ := rx
    cases y with
    | non => cases ry; exact PySem.EqNone.ne_str_none (fin_bl I q (by simp))
    | bl j => cases ry; exact PySem.EqMixed.ne_str_bool (fin_bl I q (by simp))
    | int j => obtain ⟨t',rfl⟩ := ry; exact PySem.EqMixed.ne_str_int (fin_bl I q (by simp))
    | str j => obtain ⟨t',rfl⟩ := ry; exact ne_str (fin_bl I q (congrArg not dec_str))
    | _ => exact absurd (show false = true from hs) Bool.false_ne_true
  | byt i =>
    obtain ⟨t,rfl⟩ := rx
    cases y with
    | byt j => obtain ⟨t',rfl⟩ := ry; exact PySem.W.ne_bytes (fin_bl I q (congrArg not dec_byt))
    | _ => exact absurd (show false = true from hs) Bool.false_ne_true
  | _ => cases y <;> exact absurd (show false = true from hs) Bool.false_ne_true
theorem op_lt : OpR X (compareOp .Lt) (rI0 fun i j => .bl (decide (i < j))) := opB0 fun _ _ _ _ _ _ _ q => lt_int q
theorem op_le : OpR X (compareOp .LtE) (rI0 fun i j => .bl (decide (i <= j))) := opB0 fun _ _ _ _ _ _ _ q => le_int q
theorem op_gt : OpR X (compareOp .Gt) (rI0 fun i j => .bl (decide (j < i))) := opB0 fun _ _ _ _ _ _ _ q => gt_int q
theorem op_ge : OpR X (compareOp .GtE) (rI0 fun i j => .bl (decide (j <= i))) := opB0 fun _ _ _ _ _ _ _ q => ge_int q
theorem op_isN : OpR X (compareOp .Is) (fun x y H Q => y = .non /\ Q (.bl (decide (x = .non))) H) := by
  intro pins s U H x y v u Q I rx ry h
  obtain ⟨rfl,q⟩ := h
  cases ry
  refine is_none_gen (fin_bl I q ?_)
  cases x <;> first
    | (cases rx; rfl)
    | (obtain ⟨t,rfl⟩ := rx; rfl)
theorem op_notN : OpR X (compareOp .IsNot) (fun x y H Q => y = .non /\ Q (.bl (!decide (x = .non))) H) := by
  intro pins s U H x y v u Q I rx ry h
  obtain ⟨rfl,q⟩ := h
  cases ry
  refine isnot_none_gen (fin_bl I q ?_)
  cases x <;> first
    | (cases rx; rfl)
    | (obtain ⟨t,rfl⟩ := rx; rfl)
theorem OpR.or {f : Value -> Value -> Sem Value} {r r' : R2} (h : OpR X f r) (h' : OpR X f r') : OpR X f (fun x y H Q => r x y H Q \/ r' x y H Q) := by
  intro pins s U H x y v u Q I rx ry q
  rcases q with q | q
  . exact h pins s U H x y v u Q I rx ry q
  . exact h' pins s U H x y v u Q I rx ry q
theorem pe_cmpR {op : CmpOp} {r : R2} (ho : OpR X (compareOp op) r) (ha : PE X a ta) (hb : PE X b tb) (hm : behindInMarks op b = false) : PE X (.Compare a [op] [b] pos) (tOp r ta tb) := by
  intro pins s U H Q I h
  exact wpAny_Compare1 (binT ha hb I h fun v u s2 x y H2 I2 rx ry q => ho pins s2 U H2 x y v u Q I2 rx ry q) hm
def tTest (t : TE) : TT := fun U H Q => t U H fun x H' => ∃ k,x = .bl k /\ Q k H'
theorem pt_cmpR {op : CmpOp} {r : R2} (ho : OpR X (compareOp op) r) (ha : PE X a ta) (hb : PE X b tb) (hm : behindInMarks op b = false) : PT X (.Compare a [op] [b] pos) (tTest (tOp r ta tb)) := by
  intro pins s U H Q I h
  refine wpAny_isTrue_Compare1 (thn (ha pins s U H _ I h) fun v s1 ⟨x,H1,I1,r1,q1⟩ => thn (hb pins s1 U H1 _ I1 q1) fun u s2 ⟨y,H2,I2,r2,q2⟩ =>
    thn (ho pins s2 U H2 x y v u _ I2 r1 r2 q2) fun c s3 ⟨z,H3,I3,r3,k,e,q3⟩ => ?_) hm
  subst e
  cases r3
  exact wpAny_truthy_bool ⟨H3,I3,q3⟩
theorem line63 : (sizeLine : Nat) < 2 ^ 63 := by rw [sizeLine_eq]; decide
theorem op_add_str : OpR X (binaryOp .Add) (fun x y H Q => ∃ i j,x = .str i /\ y = .str j /\ i.length + j.length <= sizeLine /\ Q (.str (i ++ j)) H) := by
  intro pins s U H x y v u Q I rx ry h
  obtain ⟨i,j,rfl,rfl,hz,q⟩ := h
  obtain ⟨t,rfl⟩ := rx
  obtain ⟨t',rfl⟩ := ry
  exact add_str (fun t' tk => ⟨.str (i ++ j),H,I.tok _,⟨_,rfl⟩,q⟩) hz
theorem vals1 {x : V} {us : List Value} (r : Vals [x] us) : ∃ u,us = [u] /\ RelV x u := by
  cases r with
  | cons r1 r2 => cases r2; exact ⟨_,rfl,r1⟩
theorem vals2 {x y : V} {us : List Value} (r : Vals [x,y] us) : ∃ u w',us = [u,w'] /\ RelV x u /\ RelV y w' := by
  cases r with
  | cons r1 r2 =>
    cases r2 with
    | cons r3 r4 => cases r4; exact ⟨_,_,rfl,r1,r3⟩
theorem call_max2 (hc : X.calm = true) : CallR X (.builtin "max") (fun xs H Q => ∃ i j, xs = [.int i, .int j] /\ Q (.int (if j > i then j else i)) H) := by
  intro pins s U H xs us Q I r h
  obtain ⟨i,j,rfl,q⟩ := h
  obtain ⟨u,w',rfl,⟨t,rfl⟩,⟨t',rfl⟩⟩ := vals2 r
  refine max_two_ints (I.ok.hd hc) fun h' tk k => ⟨_,H,I.kept k,?_,q⟩
  by_cases hj : j > i
  . rw [if_pos hj,if_pos hj]; exact ⟨_,rfl⟩
  . rw [if_neg hj,if_neg hj]; exact ⟨_,rfl⟩
theorem call_min2 (hc : X.calm = true) : CallR X (.builtin "min") (fun xs H Q => ∃ i j, xs = [.int i, .int j] /\ Q (.int (if j < i then j else i)) H) := by
  intro pins s U H xs us Q I r h
  obtain ⟨i,j,rfl,q⟩ := h
  obtain ⟨u,w',rfl,⟨t,rfl⟩,⟨t',rfl⟩⟩ := vals2 r
  refine min_two_ints (I.ok.hd hc) fun h' tk k => ⟨_,H,I.kept k,?_,q⟩
  by_cases hj : j < i
  . rw [if_pos hj,if_pos hj]; exact ⟨_,rfl⟩
  . rw [if_neg hj,if_neg hj]; exact ⟨_,rfl⟩
end
end L2
namespace L2
open PySem PySem.Spec PyProof.Rows
structure ObjM (h : Heap) (x dx C : Addr) (mA : Str -> Option Value) : Prop where
  obj : h.get? x = some (PySem.W.instObj C dx)
  ns : h.Ns1 dx mA
  ne : dx ≠ x
theorem lookIn_ns {h : Heap} {dx : Addr} {mA : Str -> Option Value} (n : h.Ns1 dx mA) : ∃ od,h.get? dx = some od /\ ∀ name,PySem.W.lookIn name od = some (mA name) := by
  obtain ⟨o,es,ep,ho,hd,hk,_,hm⟩ := n
  refine ⟨o,ho,fun name => ?_⟩
  have e := hm name
  unfold nsFind findBy at e
  rw [<- Array.find?_toList] at e
  unfold PySem.W.lookIn
  rw [hd]
  dsimp only
  split
  . rename_i y q
    rw [q] at e
    exact congrArg some e
  . rename_i q
    rw [q] at e
    have a : es.toList.any (·.refKey) = false := by
      rw [List.any_eq_false]
      intro y hy
      obtain ⟨z,t,hkey⟩ := hk y (Array.mem_toList_iff.mp hy)
      simp [DictEntry.refKey,hkey]
    have a' : ¬ es.toList.any (·.refKey) = true := by rw [a]; exact Bool.false_ne_true
    rw [if_neg a']
    exact congrArg some e
theorem ObjM.look {h : Heap} {x dx C : Addr} {mA : Str -> Option Value} (I : ObjM h x dx C mA) : ∃ od,PySem.W.InstAt h x (PySem.W.instObj C dx) C (some od) /\ ∀ name,PySem.W.lookIn name od = some (mA name) :=
  let ⟨od,ho,hl⟩ := lookIn_ns I.ns
  ⟨od,⟨I.obj,rfl,rfl,ho⟩,hl⟩
section
variable {prog : Program} {w : World} {A : Around} {E : Value -> Shared -> Prop} {s : Shared} {K : PySem.W.Frag} {x dx C f : Addr} {mA : Str -> Option Value} {name : Str} {v : Value}
theorem get_map {expr : Bool} {Q : Value -> Shared -> Prop} (X : K.In s.heap) (I : ObjM s.heap x dx C mA) (hg : PySem.W.plainGet K C name = true) (hh : PySem.W.hasDictIn K C = true)
    (ha : PySem.W.findIn K (.ref C) name = some none) (hv : mA name = some v) (hv' : PySem.W.handedIn v = true) (h : Q v { s with toks := s.toks + 1 }) :
    wpAny (model prog w) A (getAttr (.ref x) name expr) Q E s := by
  obtain ⟨od,J,hl⟩ := I.look
  exact PySem.W.get_value X J (PySem.W.plainGet_of hg).1 (PySem.W.findObj_own hh ha rfl (by rw [hl,hv])) hv' h
theorem get_meth {pl : Sem Bool} {Q : Value × List Value -> Shared -> Prop} (X : K.In s.heap) (I : ObjM s.heap x dx C mA) (hg : PySem.W.plainGet K C name = true)
    (hf : PySem.W.findIn K (.ref C) name = some (some (.ref f))) (ht : PySem.W.isFn K (.ref f) = true) (hv : mA name = none) (h : Q (.ref f,[.ref x]) s) :
    wpAny (model prog w) A (getMethod (.ref x) name pl) Q E s := by
  obtain ⟨od,J,hl⟩ := I.look
  exact PySem.W.method_fn X J (PySem.W.plainGet_of hg).1 (PySem.W.plainGet_of hg).2 hf (beq_iff_eq.mp ht) (by show (PySem.W.lookIn name od).map (·.isSome) = some false; rw [hl,hv]; rfl) h
theorem set_map {ns : List Str} {Q : Unit -> Shared -> Prop} (X : K.In s.heap) (I : ObjM s.heap x dx C mA)
    (hs : PySem.W.findIn K (.ref C) "__setattr__" = some (some (.builtin "object.__setattr__"))) (hp : PySem.W.plainOver K C = true) (ht : PySem.W.takerIn K C name = some none) (hh : PySem.W.hasDictIn K C = true)
    (hw : PySem.Within mA ns) (hsz : ns.length <= sizeLine)
    (h : ∀ h',ObjM h' x dx C (fun y => if y = name then some v else mA y) -> Heap.SameBut dx s.heap h' -> Q () { s with heap := h',toks := s.toks + 2 }) :
    wpAny (model prog w) A (setAttr (.ref x) name v) Q E s := by
  obtain ⟨od,J,hl⟩ := I.look
  refine PySem.W.set_plain X J hs (PySem.W.osa_open (s := { s with toks := s.toks + 1 }) (r := none) X J hp ht fun b => ?_)
  obtain ⟨cd,hc,hd'⟩ := PySem.W.any_some hh
  have hx : s.heap.get? x = some ⟨.ref C,some dx,.plain,#[]⟩ := I.obj
  refine wpAny_bind (wpAny_pure (wpAny_bind (wpAny_bind (wpAny_loadPart hx (wpAny_bind (PySem.W.Looks.here (s := { s with toks := s.toks + 1 }) (PySem.W.looks_clsIn X hc) ?_))))))
  rw [hd']
  refine wpAny_pure (a := some dx) (wpAny_bind (wpAny_pure (wpAny_bind ?_)))
  refine wpAny_nsSet1 (s := { s with toks := s.toks + 1 }) I.ns fun h' hn2 hs2 => ?_
  obtain ⟨oD,esD,epD,hoD,hdD,hcD⟩ := hn2.count (PySem.Within.cons name v hw)
  refine wpAny_bind (wpAny_lookBehind hoD (by rw [hdD]; exact pastItsLine_dict (Nat.le_trans hcD (by rw [List.length_cons]; omega))) ?_)
  exact wpAny_pure (h _ ⟨(hs2.2 _ (Ne.symm I.ne)).trans I.obj,hn2,I.ne⟩ hs2)
theorem make_map {R : Result -> Shared -> Prop} {vs : List Value} {kw : List (Str × Value)} (X : K.In s.heap) (hm : PySem.W.makesIn K C = true)
    (hi : PySem.W.findIn K (.ref C) "__init__" = some (some (.ref f))) (hf : PySem.W.typeIn K (.ref f) = some (.type "function"))
    (h : codeAny (model prog w) (A.under (.builtin "type.__call__" ⟨.ref C :: vs, kw⟩)) (.call (.ref f) ⟨.ref (s.heap.objs.size + 1) :: vs, kw⟩) (PySem.W.InitBack (s.heap.objs.size + 1) R)
      { s with heap := (s.heap.push PySem.W.emptyDict).push (PySem.W.instObj C s.heap.objs.size) }) :
    codeAny (model prog w) A (.call (.ref C) ⟨vs,kw⟩) R s := by
  obtain ⟨hh,g,d,t,os⟩ := s
  exact PySem.W.make_core (PySem.W.makes_of X hm) (PySem.W.looks_findIn X hi) (fun self => PySem.W.bind_fn X self hf) (.inl rfl) h
end
def putF (f : Str) (v : V) : List (Str × V) -> List (Str × V)
  | [] => [(f,v)]
  | (g,x) :: r => if g = f then (g,v) :: r else (g,x) :: putF f v r
theorem lookup_putF (f g : Str) (v : V) : ∀ fs : List (Str × V),(putF f v fs).lookup g = if g = f then some v else fs.lookup g
  | [] => by
    show List.lookup g [(f,v)] = _
    by_cases h : g = f
    . have hb : (g == f) = true := beq_iff_eq.mpr h
      simp only [List.lookup,hb,if_pos h]
    . have hb : (g == f) = false := beq_eq_false_iff_ne.mpr h
      simp only [List.lookup,hb,if_neg h]
  | (k, x) :: r => by
    have ih := lookup_putF f g v r
    rw [show putF f v ((k,x) :: r) = (if k = f then (k,v) :: r else (k,x) :: putF f v r) from rfl]
    by_cases hk : k = f
    . rw [if_pos hk]
      by_cases h : g = k
      . have hb : (g == k) = true := beq_iff_eq.mpr h
        simp only [List.lookup,hb,if_pos (h.trans hk)]
      . have hb : (g == k) = false := beq_eq_false_iff_ne.mpr h
        simp only [List.lookup,hb,if_neg (fun e : g = f => h (e.trans hk.symm))]
    . rw [if_neg hk]
      by_cases h : g = k
      . have hb : (g == k) = true := beq_iff_eq.mpr h
        simp only [List.lookup,hb,if_neg (fun e : g = f => hk (h.symm.trans e))]
      . have hb : (g == k) = false := beq_eq_false_iff_ne.mpr h
        simp only [List.lookup,hb]
        exact ih
theorem keys_putF (f : Str) (v : V) : ∀ fs : List (Str × V),f ∈ (putF f v fs).map (·.1) /\ ∀ g,g ∈ fs.map (·.1) -> g ∈ (putF f v fs).map (·.1)
  | [] => ⟨by simp [putF],fun g h => by simp at h⟩
  | (k, x) :: r => by
    obtain ⟨i1,i2⟩ := keys_putF f v r
    rw [show putF f v ((k,x) :: r) = (if k = f then (k,v) :: r else (k,x) :: putF f v r) from rfl]
    by_cases hk : k = f
    . rw [if_pos hk]
      subst hk
      exact ⟨by simp,fun g h => by simpa using h⟩
    . rw [if_neg hk]
      refine ⟨?_,fun g h => ?_⟩
      . rw [List.map_cons]
        exact List.mem_cons_of_mem _ i1
      . rw [List.map_cons] at h ⊢
        rcases List.mem_cons.mp h with e | e
        . exact List.mem_cons.mpr (.inl e)
        . exact List.mem_cons_of_mem _ (i2 g e)
theorem length_putF (f : Str) (v : V) : ∀ fs : List (Str × V),(putF f v fs).length <= fs.length + 1
  | [] => by simp [putF]
  | (k,x) :: r => by
    have ih := length_putF f v r
    rw [show putF f v ((k,x) :: r) = (if k = f then (k,v) :: r else (k,x) :: putF f v r) from rfl]
    by_cases hk : k = f
    . rw [if_pos hk,List.length_cons,List.length_cons]; omega
    . rw [if_neg hk,List.length_cons,List.length_cons]; omega
theorem RelO.some_of {v : V} {o : Option Value} (r : RelO (some v) o) : ∃ u,o = some u /\ RelV v u := by
  cases o with
  | none => exact (show False from r).elim
  | some u => exact ⟨u,rfl,r⟩
theorem RelO.none_of {o : Option Value} (r : RelO none o) : o = none := by
  cases o with
  | none => rfl
  | some u => exact (show False from r).elim
theorem handed_of {v : V} {u : Value} (r : RelV v u) : PySem.W.handedIn u = true := by
  cases v with
  | non => cases (show u = Value.none from r); rfl
  | bl b => cases (show u = Value.bool b from r); rfl
  | int i => obtain ⟨t,e⟩ := (show ∃ t,u = Value.int i t from r); cases e; rfl
  | str x => obtain ⟨t,e⟩ := (show ∃ t,u = Value.str x t from r); cases e; rfl
  | byt b => obtain ⟨t,e⟩ := (show ∃ t,u = Value.bytes b t from r); cases e; rfl
  | flt b => obtain ⟨t,e⟩ := (show ∃ t,u = Value.float b t from r); cases e; rfl
  | ref a => cases (show u = Value.ref a from r); rfl
  | ty n => cases (show u = Value.type n from r); rfl
section
variable {P : Program} {w : World} {H H' : Hp} {h h' : Heap} {a C dx : Addr} {fs fs' : List (Str × V)}
theorem ins_get (hok : HOk P w H h) (e : H a = some (.ins C dx fs)) : ∃ mA,ObjM h a dx C mA /\ (∀ f,RelO (fs.lookup f) (mA f)) /\ PySem.Within mA (fs.map (·.1)) /\ fs.length <= 1000 /\ H dx = some (.own a) := by
  obtain ⟨d,z,ne,ob,mA,n,r,q⟩ := (show ObjOk P w H h a (.ins C dx fs) from hok a _ e)
  exact ⟨mA,⟨ob,n,ne⟩,r,q,z,d⟩
end
structure Cls (K : PySem.W.Frag) (C : Addr) : Prop where
  pg : PySem.W.plainGet K C Str.empty = true
  hd : PySem.W.hasDictIn K C = true
  po : PySem.W.plainOver K C = true
  sa : PySem.W.findIn K (.ref C) "__setattr__" = some (some (.builtin "object.__setattr__"))
theorem Cls.get {K : PySem.W.Frag} {C : Addr} (c : Cls K C) (f : Str) : PySem.W.plainGet K C f = true := c.pg
def NoAttr (K : PySem.W.Frag) (C : Addr) (f : Str) : Prop := PySem.W.findIn K (.ref C) f = some none
theorem NoAttr.taker {K : PySem.W.Frag} {C : Addr} {f : Str} (n : NoAttr K C f) : PySem.W.takerIn K C f = some none := by
  unfold PySem.W.takerIn
  rw [show PySem.W.findIn K (.ref C) f = some none from n]
  rfl
structure Con (K : PySem.W.Frag) (C : Addr) (f : Str) (v : V) (u : Value) : Prop where
  at_ : PySem.W.findIn K (.ref C) f = some (some u)
  rel : RelV v u
  get : PySem.W.specialIn K u "__get__" = some none
  cp : PySem.W.copiedNames.contains f = false
structure Meth (K : PySem.W.Frag) (C : Addr) (m : Str) (f : Addr) : Prop where
  at_ : PySem.W.findIn K (.ref C) m = some (some (.ref f))
  fn : PySem.W.isFn K (.ref f) = true
  kp : PySem.W.keepIn K (.ref f) = true
section
variable {X : Cx} {pins : List (Addr × Obj)} {U : St} {H : Hp} {s : Shared} {a C dx : Addr} {fs : List (Str × V)} {f : Str} {v : V} {A : Around} {E : Value -> Shared -> Prop}
theorem getattr_ok {b : Bool} {Q : Value -> Shared -> Prop} (I : Inv X pins U H s) (e : H a = some (.ins C dx fs)) (c : Cls X.K C) (n : NoAttr X.K C f) (l : fs.lookup f = some v)
    (h : ∀ u s',Inv X pins U H s' -> RelV v u -> Q u s') : wpAny (model X.prog X.w) A (getAttr (.ref a) f b) Q E s := by
  obtain ⟨mA,O,r,_,_,_⟩ := ins_get I.hok e
  obtain ⟨u,hu,ru⟩ := RelO.some_of (v := v) (o := mA f) (by rw [<- l]; exact r f)
  exact get_map I.kIn O (c.get f) c.hd n hu (handed_of ru) (h u _ (I.tok _) ru)
theorem getmeth_ok {m : Str} {g : Addr} {pl : Sem Bool} {Q : Value × List Value -> Shared -> Prop} (I : Inv X pins U H s) (e : H a = some (.ins C dx fs)) (c : Cls X.K C) (k : Meth X.K C m g) (l : fs.lookup m = none)
    (h : Q (.ref g,[.ref a]) s) : wpAny (model X.prog X.w) A (getMethod (.ref a) m pl) Q E s := by
  obtain ⟨mA,O,r,_,_,_⟩ := ins_get I.hok e
  have hn : mA m = none := RelO.none_of (by rw [<- l]; exact r m)
  exact get_meth I.kIn O (c.get m) k.at_ k.fn hn h
theorem setattr_ok {y : V} {u : Value} {Q : Unit -> Shared -> Prop} (I : Inv X pins U H s) (e : H a = some (.ins C dx fs)) (c : Cls X.K C) (n : NoAttr X.K C f) (hl : fs.length < 1000) (ry : RelV y u)
    (h : ∀ s',Inv X pins U (upd H a (.ins C dx (putF f y fs))) s' -> Q () s') : wpAny (model X.prog X.w) A (setAttr (.ref a) f u) Q E s := by
  obtain ⟨mA,O,r,wi,_,ho⟩ := ins_get I.hok e
  have hz : (fs.map (·.1)).length <= sizeLine := by rw [List.length_map,sizeLine_eq]; omega
  refine set_map I.kIn O c.sa c.po n.taker c.hd wi hz fun h' O' sb => h _ ?_
  have hd : ∃ o,h'.get? dx = some o := let ⟨o,_,_,e',_⟩ := O'.ns; ⟨o,e'⟩
  refine I.write (x := a) (e := dx) (by rw [e]; exact True.intro) (.inr ho) (fun b q hb z => (sb.2 b hb).trans z) hd ?_
  refine ⟨by rw [upd_ne O.ne]; exact ho,?_,O.ne,O'.obj,_,O'.ns,fun g => ?_,fun g hg => ?_⟩
  . have := length_putF f y fs; omega
  . show RelO ((putF f y fs).lookup g) (if g = f then some u else mA g)
    rw [lookup_putF]
    by_cases q : g = f
    . rw [if_pos q,if_pos q]; exact ry
    . rw [if_neg q,if_neg q]; exact r g
  . by_cases q : g = f
    . rw [q]; exact (keys_putF f y fs).1
    . refine (keys_putF f y fs).2 g (wi g fun z => hg ?_)
      show (if g = f then some u else mA g) = none
      rw [if_neg q]; exact z
theorem Inv.made (I : Inv X pins U H s) : Inv X pins U (upd (upd H s.heap.objs.size (.own (s.heap.objs.size + 1))) (s.heap.objs.size + 1) (.ins C s.heap.objs.size []))
    { s with heap := (s.heap.push PySem.W.emptyDict).push (PySem.W.instObj C s.heap.objs.size) } := by
  have e1 : (s.heap.push PySem.W.emptyDict).get? s.heap.objs.size = some PySem.W.emptyDict := Heap.get?_push_size s.heap rfl
  have e2 : ((s.heap.push PySem.W.emptyDict).push (PySem.W.instObj C s.heap.objs.size)).get? (s.heap.objs.size + 1) = some (PySem.W.instObj C s.heap.objs.size) := by
    have := Heap.get?_push_size (s.heap.push PySem.W.emptyDict) (o := PySem.W.instObj C s.heap.objs.size) rfl
    rwa [Heap.size_push] at this
  have e3 : (s.heap.push PySem.W.emptyDict).Ns s.heap.objs.size (fun _ => none) := ⟨PySem.W.emptyDict,#[],_,e1,rfl,(fun e he => absurd he (by simp)),fun _ => rfl⟩
  have I1 := I.laid (a := s.heap.objs.size) (o := .own (s.heap.objs.size + 1)) (h' := s.heap.push PySem.W.emptyDict) (t' := s.toks) (fun b u q => Heap.get?_push_of_some _ q) (Nat.le_refl _) ⟨_,e1⟩
  refine I1.laid (a := s.heap.objs.size + 1) (o := .ins C s.heap.objs.size []) (t' := s.toks) (fun b u q => Heap.get?_push_of_some _ q) (Nat.le_of_eq (Heap.size_push _ _)) ?_
  have ne : s.heap.objs.size ≠ s.heap.objs.size + 1 := Nat.ne_of_lt (Nat.lt_succ_self _)
  refine ⟨by rw [upd_ne ne,upd_same],Nat.zero_le _,ne,e2,fun _ => none,(Heap.Ns1.of_empty e3).at fun o q => Heap.get?_push_of_some _ q,fun _ => True.intro,fun y hy => absurd rfl hy⟩
theorem attr_of {prog : Program} {w : World} {env : Env} {e : Expr} {f : Str} {pos : Pos} {s : Shared} {Q : Value -> Shared -> Prop} (hb : attributeBase e f env (eval e env) = eval e env)
    (h : wpAny (model prog w) A (eval e env) (fun o s₁ => wpAny (model prog w) A (getAttr o f true) Q E s₁) E s) : wpAny (model prog w) A (eval (.Attribute e f pos) env) Q E s :=
  Attribute_any_ h (by rw [arm_eval_Attribute,hb])
end
def tFld (K : PySem.W.Frag) (ta : TE) (f : Str) : TE := fun U H Q => ta U H fun x H1 => ∃ a C dx fs v,x = .ref a /\ H1 a = some (.ins C dx fs) /\ Cls K C /\ NoAttr K C f /\ fs.lookup f = some v /\ Q v H1
def sFld (K : PySem.W.Frag) (ta tv : TE) (f : Str) : TS := fun D U H => tv U H fun y H1 => ta U H1 fun x H2 => ∃ a C dx fs,x = .ref a /\ H2 a = some (.ins C dx fs) /\ Cls K C /\ NoAttr K C f /\ fs.length < 1000 /\
  D.nx U (upd H2 a (.ins C dx (putF f y fs)))
section
variable {X : Cx} {o e value : Expr} {f : Str} {pos pos' tpos : Pos} {ta tv : TE}
theorem pe_fld (he : PE X e ta) (hb : attributeBase e f X.env (eval e X.env) = eval e X.env) : PE X (.Attribute e f pos) (tFld X.K ta f) := by
  intro pins s U H Q I h
  refine attr_of hb (thn (he pins s U H _ I h) fun u s1 ⟨x,H1,I1,rx,a,C,dx,fs,v,ex,ea,c,n,l,q⟩ => ?_)
  subst ex
  obtain rfl : u = Value.ref a := rx
  exact getattr_ok I1 ea c n l fun u' s2 I2 ru => ⟨v,H1,I2,ru,q⟩
theorem ps_fld (ha : PE X o ta) (hv : PE X value tv) (hs : swapsWith value (some (.Attribute o f pos')) pos.line X.env = pure false) : PS X (.Assign [.Attribute o f pos'] value pos) (sFld X.K ta tv f) := by
  intro pins s U H D I h
  refine plainObj_wpAny_Assign_Attribute (thn (hv pins s U H _ I h) fun u s1 ⟨y,H1,I1,ry,q⟩ => thn (ha pins s1 U H1 _ I1 q) fun ov s2 ⟨x,H2,I2,rx,a,C,dx,fs,ex,ea,c,n,l,q2⟩ => ?_) hs
  subst ex
  obtain rfl : ov = Value.ref a := rx
  exact setattr_ok I2 ea c n l ry fun s3 I3 => ⟨U,_,I3,q2⟩
end
section
variable {X : Cx} {pins : List (Addr × Obj)} {U : St} {H : Hp} {s : Shared} {A : Around} {E : Value -> Shared -> Prop} {Q : Value -> Shared -> Prop} {c : Value} {b : Bool}
inductive TyOf (K : PySem.W.Frag) (H : Hp) : V -> Value -> Prop where
  | non : TyOf K H .non (.type "NoneType")
  | bl (x : Bool) : TyOf K H (.bl x) (.type "bool")
  | int (i : Int) : TyOf K H (.int i) (.type "int")
  | str (x : Str) : TyOf K H (.str x) (.type "str")
  | flt (x : UInt64) : TyOf K H (.flt x) (.type "float")
  | lst {a : Addr} {xs : List V} (e : H a = some (.lst xs)) : TyOf K H (.ref a) (.type "list")
  | frz {a : Addr} {o : Obj} {xs : List V} (e : H a = some (.frz o (.lst xs))) : TyOf K H (.ref a) (.type "list")
  | tup {a : Addr} {xs : List V} (e : H a = some (.tup xs)) : TyOf K H (.ref a) (.type "tuple")
  | dK {a : Addr} {kvs : List (Key × V)} (e : H a = some (.dK kvs)) : TyOf K H (.ref a) (.type "dict")
  | dT {a : Addr} {kvs : List (List Key × V)} (e : H a = some (.dT kvs)) : TyOf K H (.ref a) (.type "dict")
  | ins {a C dx : Addr} {fs : List (Str × V)} (e : H a = some (.ins C dx fs)) (cl : Cls K C) (ha : PySem.W.findIn K (.ref C) "__class__" = some (some (.builtin "object.__class__")))
      (hn : PySem.W.specialIn K (.builtin "object.__class__") "__get__" = some (some (.builtin "getset_descriptor.__get__"))) (htk : PySem.W.takesIn K (.builtin "object.__class__") = some true)
      (hm : PySem.W.mroIn K C (.type "object") = some true) : TyOf K H (.ref a) (.ref C)
end
end L2
namespace L2
open PySem PySem.Spec PyProof.Rows
structure Room (k : Nat) (A : Around) : Prop where
  hd : A.handled = none
  dp : A.depth + 3 * k + 5 < recursionLimit
  un : A.units + 16 * k + 200 < cLine
theorem Room.deeper {k : Nat} {A : Around} (r : Room (k + 1) A) (env : Env) : Room k (A.deeper env) :=
  ⟨r.hd,by have := r.dp; show A.depth + 1 + 3 * k + 5 < _; omega,by have := r.un; show A.units + 3 + 16 * k + 200 < _; omega⟩
theorem Room.in1 {k : Nat} {A : Around} (r : Room (k + 1) A) : Room k A.in1 :=
  ⟨r.hd,by have := r.dp; show A.depth + 3 * k + 5 < _; omega,by have := r.un; show A.units + 1 + 16 * k + 200 < _; omega⟩
theorem make_depth {A : Around} {C : Addr} {us : List Value} {kw : List (Str × Value)} : (A.under (.builtin "type.__call__" ⟨.ref C :: us, kw⟩)).depth = A.depth + 1 := by
  first | rfl | simp [Around.under,Code.weight,Code.isCreation,Code.isGuard,Code.isCaller,Code.frames,Code.isFrame,guardIds]
theorem make_units {A : Around} {C : Addr} {us : List Value} {kw : List (Str × Value)} : (A.under (.builtin "type.__call__" ⟨.ref C :: us, kw⟩)).units = A.units + 1 := by
  first | rfl | simp [Around.under,Code.cUnits,Code.frames,Code.isFrame]
theorem Room.make {k : Nat} {A : Around} (r : Room (k + 1) A) (C : Addr) (us : List Value) (kw : List (Str × Value)) : Room k (A.under (.builtin "type.__call__" ⟨.ref C :: us, kw⟩)) :=
  ⟨r.hd,by have := r.dp; rw [make_depth]; omega,by have := r.un; rw [make_units]; omega⟩
theorem Room.depth {k : Nat} {A : Around} (r : Room k A) : A.depth < recursionLimit := by have := r.dp; omega
def tNil : TA := fun _ H Q => Q [] H
def tCons (ta : TE) (tr : TA) : TA := fun U H Q => ta U H fun x H1 => tr U H1 fun xs H2 => Q (x :: xs) H2
section
variable {X : Cx} {e : Expr} {es : List Expr} {te : TE} {t : TA} {pos : Pos}
theorem pa_nil : PA X [] tNil := fun _ _ _ _ H Q I h => Calls.spliced_nil ⟨[],H,I,.nil,h⟩
theorem pa_cons (ha : PE X e te) (hr : PA X es t) (hs : starEach (e :: es) X.env = (false,eval e X.env) :: starEach es X.env := by rfl) : PA X (e :: es) (tCons te t) := by
  intro pos pins s U H Q I h
  rw [hs]
  show wpAny _ _ (spliced ((false,eval e X.env) :: backTo pos (starEach es X.env))) _ _ s
  refine Calls.spliced_cons (thn (ha pins s U H _ I h) fun u s1 ⟨x,H1,I1,r1,q1⟩ => ?_)
  exact thn (hr pos pins s1 U H1 _ I1 q1) fun us s2 ⟨xs,H2,I2,r2,q2⟩ => ⟨x :: xs,H2,I2,.cons r1 r2,q2⟩
def tTup (t : TA) : TE := fun U H Q => t U H fun xs H1 => xs.length <= sizeLine /\ ∀ p,H1 p = none -> Q (.ref p) (upd H1 p (.tup xs))
def tLst (t : TA) : TE := fun U H Q => t U H fun xs H1 => xs.length <= sizeLine /\ ∀ p,H1 p = none -> Q (.ref p) (upd H1 p (.lst xs))
theorem pe_tup {x1} (h : PA X es t) : PE X (.Tuple es x1 pos) (tTup t) := by
  intro pins s U H Q I hq
  refine wpAny_Tuple_spliced (thn (h pos pins s U H _ I hq) fun us s1 ⟨xs,H1,I1,r,z,q⟩ => ⟨by rw [<- r.length]; exact z,?_⟩)
  have hf : H1 s1.heap.objs.size = none := I1.hok.fresh (Nat.le_refl _)
  refine ⟨.ref s1.heap.objs.size,upd H1 s1.heap.objs.size (.tup xs),I1.laid (t' := s1.toks) (fun b u e => Heap.get?_push_of_some _ e) (Nat.le_refl _) ?_,rfl,q _ hf⟩
  exact ⟨z,us,r,⟨_,Heap.get?_push_size _ rfl,rfl,_,rfl⟩⟩
theorem pe_lst (h : PA X es t) : PE X (.List es pos) (tLst t) := by
  intro pins s U H Q I hq
  refine wpAny_List_spliced (thn (h pos pins s U H _ I hq) fun us s1 ⟨xs,H1,I1,r,z,q⟩ => ⟨by rw [<- r.length]; exact z,?_⟩)
  have hf : H1 s1.heap.objs.size = none := I1.hok.fresh (Nat.le_refl _)
  refine ⟨.ref s1.heap.objs.size,upd H1 s1.heap.objs.size (.lst xs),I1.laid (t' := s1.toks) (fun b u e => Heap.get?_push_of_some _ e) (Nat.le_refl _) ?_,rfl,q _ hf⟩
  exact ⟨z,us,0,r,Heap.get?_push_size _ rfl⟩
end
abbrev Sp := List V -> Hp -> VK -> XK -> Prop
abbrev CXT := List Env -> Hp -> Shared -> XK -> Value -> Shared -> Prop
structure Env0 (P : Program) (w : World) (K : PySem.W.Frag) (mg : Str -> Option Value) (base : Heap) (A : Around) (outer : List Env) (s : Shared) (H : Hp) : Prop where
  frames : A.frames = some outer
  mod : Mod K mg base
  bs : ∀ b o,base.get? b = some o -> s.heap.get? b = some o /\ H b = none
  bsz : base.objs.size <= s.heap.objs.size
  funs : s.heap.FunFrames base outer
  frf : ∀ b ∈ frs outer,H b = none
  hok : HOk P w H s.heap
  bare : AllBare s.gens
def CE (outer : List Env) (P : Program) (w : World) (H : Hp) (s : Shared) (Q : VK) (u : Value) (s' : Shared) : Prop :=
  ∃ v H',s'.os = s.os /\ AllBare s'.gens /\ Un (frs outer) [] H H' s.heap s'.heap /\ HOk P w H' s'.heap /\ RelV v u /\ Q v H'
def CR (CX : CXT) (outer : List Env) (P : Program) (w : World) (H : Hp) (s : Shared) (Q : VK) (E : XK) (r : Result) (s' : Shared) : Prop :=
  match r with
  | .ok (.ret u) => CE outer P w H s Q u s'
  | .ok _ => False
  | .error e => CX outer H s E e s'
structure FnOk (P : Program) (w : World) (K : PySem.W.Frag) (mg : Str -> Option Value) (base : Heap) (CX : CXT) (k : Nat) (f : Addr) (fd : FuncData) (ps : List Str) (sp : Sp) : Prop where
  len : ∀ vs H Q E,sp vs H Q E -> vs.length = ps.length
  run : ∀ (A : Around) (outer : List Env) (s : Shared) (H : Hp) (args : Args) (us : List Value) (vs : List V) (Q : VK) (E : XK),Room k A -> Env0 P w K mg base A outer s H -> BindsTo s fd args (ps.zip us) -> Vals vs us -> sp vs H Q E ->
    codeAny (model P w) A (.call (.ref f) args) (CR CX outer P w H s Q E) s
theorem FnOk.imp {P : Program} {w : World} {K : PySem.W.Frag} {mg : Str -> Option Value} {base : Heap} {CX : CXT} {k : Nat} {f : Addr} {fd : FuncData} {ps : List Str} {sp sp' : Sp} (F : FnOk P w K mg base CX k f fd ps sp)
    (h : ∀ vs H Q E,sp' vs H Q E -> sp vs H Q E) : FnOk P w K mg base CX k f fd ps sp' :=
  ⟨fun vs H Q E q => F.len vs H Q E (h _ _ _ _ q),fun A outer s H args us vs Q E hr he hb hv hs => F.run A outer s H args us vs Q E hr he hb hv (h _ _ _ _ hs)⟩
theorem Env0.make {P : Program} {w : World} {K : PySem.W.Frag} {mg : Str -> Option Value} {base : Heap} {A : Around} {outer : List Env} {s : Shared} {H : Hp} (e : Env0 P w K mg base A outer s H) (C : Addr) (us : List Value) (kw : List (Str × Value)) :
    Env0 P w K mg base (A.under (.builtin "type.__call__" ⟨.ref C :: us, kw⟩)) outer s H := ⟨by first | exact e.frames | (simpa [Around.under, Code.envs, Code.isFrame, pushEnvs] using e.frames), e.mod, e.bs, e.bsz, e.funs, e.frf, e.hok, e.bare⟩
theorem Env0.in1 {P : Program} {w : World} {K : PySem.W.Frag} {mg : Str -> Option Value} {base : Heap} {A : Around} {outer : List Env} {s : Shared} {H : Hp} (e : Env0 P w K mg base A outer s H) :
    Env0 P w K mg base A.in1 outer s H := ⟨e.frames,e.mod,e.bs,e.bsz,e.funs,e.frf,e.hok,e.bare⟩
section
variable {X : Cx} {pins : List (Addr × Obj)} {U : St} {H : Hp} {s s' : Shared}
theorem Inv.env0 (I : Inv X pins U H s) : Env0 X.prog X.w X.K X.mg X.base X.A X.stack s H :=
  ⟨I.ok.frames,I.ok.mod,I.bs,Nat.le_trans I.ok.bsz I.sz,I.stack,I.stkFree,I.hok,I.bare⟩
theorem Inv.after {Q : VK} {u : Value} (I : Inv X pins U H s) (h : CE X.stack X.prog X.w H s Q u s') : EP X pins U Q u s' := by
  obtain ⟨v,H',os,bare,un,hok,r,q⟩ := h
  obtain ⟨hh,g,d,t,os'⟩ := s'
  obtain rfl : os' = s.os := os
  exact ⟨v,H',I.call (h' := hh) (g' := g) (d' := d) (t' := t) (ch := []) un hok bare (fun b z => absurd z (by simp)),r,q⟩
end
def Binds (K : PySem.W.Frag) (fd : FuncData) (ps : List Str) (ds : List Value) : Prop :=
  ∀ (s : Shared) (us : List Value),K.In s.heap -> (us ++ ds).length = ps.length -> BindsTo s fd ⟨us,[]⟩ (ps.zip (us ++ ds))
theorem Binds.all {K : PySem.W.Frag} {fd : FuncData} {ps : List Str} (h : ∀ us : List Value,us.length = ps.length -> bindArgs fd ⟨us,[]⟩ = pure (ps.zip us)) : Binds K fd ps [] := fun s us _ hl => by
  rw [List.append_nil] at hl ⊢
  exact .of_eq (h us hl)
section
variable {X : Cx} {CX : CXT} {k : Nat} {f C : Addr} {fd : FuncData} {ps : List Str} {sp : Sp} {dvs : List V} {ds : List Value} {E : XK} {x m : Str} {p pos apos : Pos} {e o : Expr} {es : List Expr} {ta : TE} {t : TA}
structure Mk (K : PySem.W.Frag) (C f : Addr) : Prop where
  makes : PySem.W.makesIn K C = true
  init : PySem.W.findIn K (.ref C) "__init__" = some (some (.ref f))
  fn : PySem.W.isFn K (.ref f) = true
  kp : PySem.W.keepIn K (.ref C) = true
end
section
variable {X : Cx} {CX : CXT} {k : Nat} {f C : Addr} {fd : FuncData} {ps ks : List Str} {sp : Sp} {E : XK} {x m : Str} {p pos apos kpos : Pos} {e o : Expr} {es : List Expr} {kws : List Keyword} {te ta : TE} {t tk : TA} {nm : Option Str}
structure KBinds (K : PySem.W.Frag) (fd : FuncData) (ps ks : List Str) (g : List Value -> List Value -> List Value) (gV : List V -> List V -> List V) : Prop where
  to : ∀ (s : Shared) (us ws : List Value),K.In s.heap -> (g us ws).length = ps.length -> BindsTo s fd ⟨us,ks.zip ws⟩ (ps.zip (g us ws))
  rel : ∀ {vs : List V} {us : List Value} {zs : List V} {ws : List Value},Vals vs us -> Vals zs ws -> Vals (gV vs zs) (g us ws)
variable {g : List Value -> List Value -> List Value} {gV : List V -> List V -> List V}
end
structure FnScope (N P : List Str) (sc : Scope) : Prop where
  kind : sc.kind = .function
  co : sc.isCoroutine = false
  gen : sc.isGenerator = false
  nd : N.Nodup
  pre : N.take P.length = P
  par : ∀ x ∈ P,sc.names.lookup x = some .local \/ sc.names.lookup x = some .cell
  nofree : ∀ y ∈ sc.names,y.2 ≠ .free
theorem bindL_out {kindOf : Str -> Option NameKind} {x : Str} : ∀ {binds : List (Str × Value)} {m : Str -> Option Value},(∀ v,(x,v) ∉ binds) -> bindL kindOf binds m x = m x
  | [],_,_ => rfl
  | (n, v) :: r, m, h => by
    unfold bindL
    rw [bindL_out fun w hw => h w (List.mem_cons_of_mem _ hw)]
    split
    . have : x ≠ n := by rintro rfl; exact h v List.mem_cons_self
      simp [this]
    . rfl
theorem bindC_out {kindOf : Str -> Option NameKind} {x : Str} : ∀ {binds : List (Str × Value)} {m : Str -> Option Value},(∀ v,(x,v) ∉ binds) -> bindC kindOf binds m x = m x
  | [],_,_ => rfl
  | (n, v) :: r, m, h => by
    unfold bindC
    rw [bindC_out fun w hw => h w (List.mem_cons_of_mem _ hw)]
    split
    . rfl
    . have : x ≠ n := by rintro rfl; exact h v List.mem_cons_self
      simp [this]
theorem bindL_get {kindOf : Str -> Option NameKind} {x : Str} {v : Value} : ∀ {P : List Str} {vs : List Value} {i : Nat} {m : Str -> Option Value},P.Nodup -> P[i]? = some x -> vs[i]? = some v -> kindOf x = some .local ->
    bindL kindOf (P.zip vs) m x = some v
  | [],_,_,_,_,h,_,_ => by simp at h
  | _ :: _,[],_,_,_,_,h,_ => by simp at h
  | p :: P,w :: vs,0,m,nd,h1,h2,hk => by
    simp at h1 h2; subst h1; subst h2
    show bindL kindOf ((p,w) :: P.zip vs) m p = _
    unfold bindL
    rw [bindL_out fun v hv => (List.nodup_cons.mp nd).1 (List.of_mem_zip hv).1,if_pos hk]
    simp
  | p :: P,w :: vs,i + 1,m,nd,h1,h2,hk => by
    show bindL kindOf ((p,w) :: P.zip vs) m x = _
    unfold bindL
    exact bindL_get (i := i) (List.nodup_cons.mp nd).2 (by simpa using h1) (by simpa using h2) hk
theorem bindC_get {kindOf : Str -> Option NameKind} {x : Str} {v : Value} : ∀ {P : List Str} {vs : List Value} {i : Nat} {m : Str -> Option Value},P.Nodup -> P[i]? = some x -> vs[i]? = some v -> kindOf x ≠ some .local ->
    bindC kindOf (P.zip vs) m x = some v
  | [],_,_,_,_,h,_,_ => by simp at h
  | _ :: _,[],_,_,_,_,h,_ => by simp at h
  | p :: P,w :: vs,0,m,nd,h1,h2,hk => by
    simp at h1 h2; subst h1; subst h2
    show bindC kindOf ((p,w) :: P.zip vs) m p = _
    unfold bindC
    rw [bindC_out fun v hv => (List.nodup_cons.mp nd).1 (List.of_mem_zip hv).1,if_neg hk]
    simp
  | p :: P,w :: vs,i + 1,m,nd,h1,h2,hk => by
    show bindC kindOf ((p,w) :: P.zip vs) m x = _
    unfold bindC
    exact bindC_get (i := i) (List.nodup_cons.mp nd).2 (by simpa using h1) (by simpa using h2) hk
def start (N : List Str) (vs : List V) : St := vs.map some ++ List.replicate (N.length - vs.length) none
def cxOf (CX : CXT) (P : Program) (w : World) (K : PySem.W.Frag) (mg : Str -> Option Value) (base : Heap) (N : List Str) (qual : Str) (scope : Scope) (f : Addr) (cd : Value) (A : Around) (outer : List Env) (s : Shared) (H : Hp) (E : XK) : Cx where
  prog := P
  w := w
  K := K
  mg := mg
  base := base
  A := A.deeper (envOfC qual scope s.heap.objs.size f cd)
  N := N
  s₀ := s
  H₀ := H
  env := envOfC qual scope s.heap.objs.size f cd
  outer := outer
  stack := envOfC qual scope s.heap.objs.size f cd :: outer
  ex := []
  calm := true
  fn := fun _ => true
  pn := []
  xe := fun e s' => wpAny (model P w) (A.deeper (envOfC qual scope s.heap.objs.size f cd)) (leaving (envOfC qual scope s.heap.objs.size f cd) e) (fun _ s'' => CX outer H s E e s'') (fun e' s'' => CX outer H s E e' s'') s'
theorem cell_has {sc : Scope} {n : Nat} {x : Str} (h : sc.names.lookup x = some .cell) : ∃ c,(cellsFrom n sc.names []).lookup x = some c := by
  have q := PySem.W.cellsFrom_some sc.names n [] (.inl h)
  exact Option.isSome_iff_exists.mp q
theorem inv_start {CX : CXT} {P : Program} {w : World} {K : PySem.W.Frag} {mg : Str -> Option Value} {base : Heap} {N ps : List Str} {qual : Str} {scope : Scope} {f : Addr} {cd : Value} {A : Around} {outer : List Env} {s s1 : Shared} {H : Hp} {E : XK} {us : List Value} {vs : List V}
    (S : FnScope N ps scope) (hd : A.handled = none) (e0 : Env0 P w K mg base A outer s H) (hl : vs.length = ps.length) (r : Vals vs us)
    (x : InCallC s s.heap.objs.size (bindL (envOfC qual scope s.heap.objs.size f cd).kindOf (ps.zip us) fun _ => none) (cellsFrom (s.heap.objs.size + 1) scope.names []) (bindC (envOfC qual scope s.heap.objs.size f cd).kindOf (ps.zip us) fun _ => none) s1) :
    Inv (cxOf CX P w K mg base N qual scope f cd A outer s H E) [] (start N vs) H s1 := by
  have hpl : ps.length <= N.length := by have := congrArg List.length S.pre; rw [List.length_take] at this; omega
  obtain ⟨h1,tk,rfl,hk⟩ := x.done
  have noA : ∀ b : Addr,b ∉ (cxOf CX P w K mg base N qual scope f cd A outer s H E).ex := fun b z => absurd (show b ∈ ([] : List Addr) from z) (by simp)
  refine ⟨⟨e0.mod,S.kind,rfl,rfl,Nat.le_refl _,fun y z c h1 h2 => ?_,fun y hy => ?_,fun y c _ h => ?_,fun _ => hd,Around.frames_deeper e0.frames,.inr ⟨rfl,rfl⟩,fun b z => absurd z (noA b),e0.bs,e0.bsz,fun b _ _ => noA b,fun b z => absurd z (noA b),e0.funs,e0.frf⟩,
    rfl,e0.bare,Un.kept hk,⟨_,x.toInCall.ns,fun i y v h1 h2 h3 => ?_⟩,fun y c h => ⟨_,x.cell y c h⟩,e0.hok.fresh (Nat.le_refl _),fun y c h => ?_,fun p hp => absurd (show p ∈ ([] : List (Addr × Obj)) from hp) (by simp),e0.hok.kept hk,?_⟩
  . exact name_of_addr x.apart (PySem.mem_of_lookup h1) (PySem.mem_of_lookup h2)
  . have hy : scope.names.lookup y = some .cell \/ scope.names.lookup y = some .free := hy
    rcases hy with hy | hy
    . exact cell_has hy
    . exact absurd rfl (S.nofree _ (PySem.mem_of_lookup hy))
  . exact Nat.le_of_lt (x.above y c (PySem.mem_of_lookup h))
  . have hi : i < vs.length := by
      unfold start at h2
      by_cases hi : i < vs.length
      . exact hi
      . rw [List.getElem?_append_right (by simpa using hi)] at h2
        rw [List.getElem?_replicate] at h2
        split at h2 <;> cases h2
    have ha : vs[i]? = some v := by
      unfold start at h2
      rw [List.getElem?_append_left (by simpa using hi),List.getElem?_map] at h2
      cases e : vs[i]? with
      | none => rw [e] at h2; cases h2
      | some a => rw [e] at h2; cases h2; rfl
    obtain ⟨u,hu,rv⟩ := r.get ha
    have hp : ps[i]? = some y := by
      rw [<- S.pre,List.getElem?_take_of_lt (by omega)]; exact h1
    have ndP : ps.Nodup := by rw [<- S.pre]; exact S.nd.sublist (List.take_sublist _ _)
    refine ⟨u,rv,?_⟩
    rcases S.par y (List.mem_of_getElem? hp) with k | k
    . exact .inl ⟨k,bindL_get ndP hp hu k⟩
    . obtain ⟨c,e⟩ := cell_has (n := s.heap.objs.size + 1) k
      refine .inr ⟨.inl k,c,e,?_⟩
      have q := x.cell y c e
      rw [bindC_get ndP hp hu (by show scope.names.lookup y ≠ _; rw [k]; decide)] at q
      exact q
  . exact e0.hok.fresh (Nat.le_of_lt (x.above y c (PySem.mem_of_lookup h)))
  . unfold start
    show _ = N.length
    rw [List.length_append,List.length_map,List.length_replicate]
    omega
theorem fn_of {CX : CXT} {P : Program} {w : World} {K : PySem.W.Frag} {mg : Str -> Option Value} {base : Heap} {k : Nat} {f : Addr} {name qual : Str} {params : Arguments} {body : List Stmt} {scope : Scope} {dV kV doc pm cdv ct oc : Value} {an od : Option Addr}
    {osl : Array (Option Value)} {N ps : List Str} {sp : Sp} (lk : K.lookup f = some ⟨oc,od,.func (PySem.W.fnOf name qual params body scope dV kV doc pm an cdv ct),osl⟩) (hcd : PySem.W.codeIn K cdv qual = true) (S : FnScope N ps scope)
    (len : ∀ vs H Q E,sp vs H Q E -> vs.length = ps.length)
    (hbody : ∀ (A : Around) (outer : List Env) (s : Shared) (H : Hp) (vs : List V) (Q : VK) (E : XK),Room k (A.deeper (envOfC qual scope s.heap.objs.size f cdv)) -> sp vs H Q E ->
      ∃ t,PSs (cxOf CX P w K mg base N qual scope f cdv A outer s H E) body t /\ t { nx := fun _ H' => Q .non H',rt := Q } (start N vs) H) :
    FnOk P w K mg base CX (k + 1) f (PySem.W.fnOf name qual params body scope dV kV doc pm an cdv ct) ps sp := by
  refine ⟨len,fun A outer s H args us vs Q E hr e0 hb r hsp => ?_⟩
  have hl := len _ _ _ _ hsp
  have KX : K.In s.heap := e0.mod.kin.keeps fun b o e => (e0.bs b o e).1
  have lim : s.heap.NoLimit := e0.mod.nolimit.keeps fun b o e => (e0.bs b o e).1
  have hkind : ∀ y ∈ ps.zip us,scope.names.lookup y.1 = some .local \/ (scope.names.lookup y.1 = some .cell /\ ((cellsFrom (s.heap.objs.size + 1) scope.names []).lookup y.1).isSome = true) := fun ⟨n,v⟩ hy => by
    rcases S.par n (List.of_mem_zip hy).1 with q | q
    . exact .inl q
    . exact .inr ⟨q,PySem.W.cellsFrom_some _ _ _ (.inl q)⟩
  refine codeAny_call_function hr.depth (KX _ _ lk) rfl S.co S.gen rfl (PySem.W.codeRec_of KX hcd) (hb _ _ _ _ ?_)
  refine wpAny_newFunctionEnv_cells S.kind hkind fun env he s1 x => ?_
  subst he
  refine ⟨lim.keeps x.toInCall.keep,codeAny_func ?_⟩
  obtain ⟨t,ht,hq⟩ := hbody A outer s H vs Q E (hr.deeper _) hsp
  have I : Inv (cxOf CX P w K mg base N qual scope f cdv A outer s H E) [] (start N vs) H s1 := inv_start S hr.hd e0 hl r x
  refine wpAny_mono (ht [] s1 (start N vs) H _ I hq) (fun fl s' hs => ?_) fun e s' hs => hs
  have fin : ∀ {U' : St} {H' : Hp} {v : V} {u : Value},Inv (cxOf CX P w K mg base N qual scope f cdv A outer s H E) [] U' H' s' -> RelV v u -> Q v H' -> CE outer P w H s Q u s' :=
    fun {U' H' v u} J rv q => ⟨v,H',J.os,J.bare,J.base,J.hok,rv,q⟩
  cases fl with
  | ret u =>
    obtain ⟨v,U',H',J,rv,q⟩ := hs
    exact fin J rv q
  | next =>
    obtain ⟨U',H',J,q⟩ := hs
    exact fin (v := V.non) (u := Value.none) J rfl q
  | brk =>
    obtain ⟨_,_,_,q⟩ := hs
    exact False.elim q
  | cont =>
    obtain ⟨_,_,_,q⟩ := hs
    exact False.elim q
end L2
namespace L2
open PySem PySem.Spec PyProof.Rows
section
variable {X : Cx} {x : Str} {p pos : Pos} {e : Expr} {es : List Expr} {t : TA} {id T : String} {r : List V -> Hp -> VK -> Prop}
def tCB (r : List V -> Hp -> VK -> Prop) (t : TA) : TE := fun U H Q => t U H fun vs H1 => r vs H1 Q
theorem pe_callB (hc : CallR X (.builtin id) r) (hg : Gl X x) (hm : X.mg x = none) (hv : bootBuiltins x = some (.builtin id)) (ha : PA X (e :: es) t) (hn : x ≠ "__name__" := by decide) (hdb : (x == ("__debug__" : Str)) = false := by decide)
    (he : starEach (e :: es) X.env = (false,eval e X.env) :: starEach es X.env := by rfl) (hpl : (backTo pos (starEach es X.env)).any (·.1) = false := by rfl) : PE X (.Call (.Name x p) (e :: es) [] pos) (tCB r t) := by
  intro pins s U H Q I h
  refine wpAny_Call_Name_kw (ld_blt I hg hm hv ?_ hn hdb)
  exact PyProof.Rows.callWith_builtin1 (thn (ha pos pins s U H _ I h) fun us s1 ⟨vs,H1,I1,r1,q1⟩ => hc pins s1 U H1 vs us Q I1 r1 q1) he hpl
theorem pe_callTy (hc : CallR X (.type T) r) (hg : Gl X x) (hm : X.mg x = none) (hv : bootBuiltins x = some (.type T)) (ha : PA X (e :: es) t) (hn : x ≠ "__name__" := by decide) (hdb : (x == ("__debug__" : Str)) = false := by decide)
    (he : starEach (e :: es) X.env = (false,eval e X.env) :: starEach es X.env := by rfl) (hpl : (backTo pos (starEach es X.env)).any (·.1) = false := by rfl) : PE X (.Call (.Name x p) (e :: es) [] pos) (tCB r t) := by
  intro pins s U H Q I h
  refine wpAny_Call_Name_kw (ld_blt I hg hm hv ?_ hn hdb)
  exact PyProof.Rows.callWith_type1 (thn (ha pos pins s U H _ I h) fun us s1 ⟨vs,H1,I1,r1,q1⟩ => hc pins s1 U H1 vs us Q I1 r1 q1) he hpl
end
end L2
namespace HT
open PySem PyProof.Rows
section
open PySem.SeqAt
open PySem.AutoSeq1 (wpAny_loadPart')
open PySem.MeetsSeq PySem.MeetsSeq2 PySem.MeetsSeq3
end
section
variable {prog : Program} {w : World} {A : Around} {E : Value -> Shared -> Prop} {s : Shared}
theorem cat_tup {t b : Addr} {vs ws : List Value} {Q : Value -> Shared -> Prop} (ht : IsTup s.heap t vs.toArray) (hb : IsTup s.heap b ws.toArray) (hv : vs ≠ [])
    (h1 : ws = [] -> Q (.ref t) s) (h2 : ws ≠ [] -> Q (.ref s.heap.objs.size) { s with heap := s.heap.push { cls := .type "tuple", data := .seq (vs ++ ws).toArray } })
    (hsz : vs.length + ws.length <= sizeLine) : wpAny (model prog w) A (binaryOp .Add (.ref t) (.ref b)) Q E s := by
  obtain ⟨⟨cls,dd,data,sl⟩,ho,hc,n,hd⟩ := id ht
  obtain ⟨⟨cls2,dd2,data2,sl2⟩,ho2,hc2,n2,hd2⟩ := id hb
  simp only at hc hd hc2 hd2
  subst hc hd hc2 hd2
  have e : vs.toArray ++ ws.toArray = (vs ++ ws).toArray := by simp
  by_cases hw : ws = []
  . exact concat_meets ⟨_,ho,rfl⟩ ⟨_,ho2,rfl⟩ noFill_tuple_add seq_tuple_add PySem.F.slot_tuple_add PySem.F.entry_tuple_add (PySem.F.args_tuple_add_2 _ _)
      (tuple_addW1 t b vs.toArray ws.toArray n n2 dd dd2 sl sl2 (by simpa using hv) (by simp [hw])) ⟨ho,ho2,h1 hw⟩
  . refine concat_meets ⟨_,ho,rfl⟩ ⟨_,ho2,rfl⟩ noFill_tuple_add seq_tuple_add PySem.F.slot_tuple_add PySem.F.entry_tuple_add (PySem.F.args_tuple_add_2 _ _)
      (tuple_addW2 t b vs.toArray ws.toArray n n2 dd dd2 sl sl2 (by simpa using hv) (by simpa using hw) (by rw [List.size_toArray,List.size_toArray]; exact hsz)) ⟨ho,ho2,?_⟩
    rw [e]
    exact h2 hw
def sIx (n d : Nat) : Option Int -> Nat
  | none => d
  | some v => if v < 0 then (v + (n : Int)).toNat else min v.toNat n
theorem sIx_le (n d : Nat) (hd : d <= n) (o : Option Int) : sIx n d o <= n := by
  cases o with
  | none => exact hd
  | some v =>
    show (if v < 0 then (v + (n : Int)).toNat else min v.toNat n) <= n
    by_cases hv : v < 0
    . rw [if_pos hv]; omega
    . rw [if_neg hv]; exact Nat.min_le_right _ _
theorem clip_eq (v : Int) (n d : Nat) : (if v < 0 then max (v + (n : Int)) 0 else min v (n : Int)) = ((sIx n d (some v) : Nat) : Int) := by
  show (if v < 0 then max (v + (n : Int)) 0 else min v (n : Int)) = (((if v < 0 then (v + (n : Int)).toNat else min v.toNat n) : Nat) : Int)
  by_cases hv : v < 0
  . simp only [if_pos hv]; omega
  . simp only [if_neg hv]; omega
theorem adjust_gen (lo hi : Option Int) (n : Nat) : Builtin.Slice.sliceAdjust lo hi 1 (n : Int) = (((sIx n 0 lo : Nat) : Int),((sIx n n hi : Nat) : Int)) := by
  have h1 : ¬ ((1 : Int) < 0) := by omega
  unfold Builtin.Slice.sliceAdjust
  simp only [h1,if_false]
  refine Prod.ext ?_ ?_
  . cases lo with
    | none => rfl
    | some v => exact clip_eq v n 0
  . cases hi with
    | none => rfl
    | some v => exact clip_eq v n n
theorem places_gen (i j : Nat) : Builtin.Slice.slicePlaces (i : Int) (j : Int) 1 = j - i := by
  unfold Builtin.Slice.slicePlaces
  have h1 : (1 : Int) > 0 := by omega
  simp only [h1,if_true,Int.ediv_one]
  split <;> omega
theorem slicePart_ {v : Value} {o : Option Int} {Q : Option Int -> Shared -> Prop} (p : IsPart v o) (h : Q o s) : wpAny (model prog w) A (Builtin.Slice.slicePartIndex v) Q E s := by
  cases p with
  | none => exact slicePart_none h
  | int i t => exact slicePart_int h
theorem sliceApplied_gen {sl : Addr} {vl vu : Value} {lo hi : Option Int} {n : Nat} {Q : Int × Int × Nat -> Shared -> Prop} (hs : s.heap.IsSliceOf sl vl vu .none) (pl : IsPart vl lo) (pu : IsPart vu hi)
    (h : Q (((sIx n 0 lo : Nat) : Int),1,sIx n n hi - sIx n 0 lo) s) : wpAny (model prog w) A (Builtin.Slice.sliceApplied (.ref sl) (pure (n : Int))) Q E s := by
  obtain ⟨os,hos,hcs,hds⟩ := id hs
  unfold Builtin.Slice.sliceApplied Builtin.Slice.sliceFields
  refine wpAny_bind (wpAny_bind (wpAny_field hos hds (x := vl) rfl (wpAny_bind (wpAny_field hos hds (x := vu) rfl (wpAny_bind (wpAny_field hos hds (x := .none) rfl (wpAny_pure ?_)))))))
  refine wpAny_bind (slicePart_none ?_)
  show wpAny _ _ (if ((1 : Int) == 0) = true then _ else _) _ _ s
  rw [if_neg (by decide)]
  refine wpAny_bind (slicePart_ pl (wpAny_bind (slicePart_ pu (wpAny_bind (wpAny_pure ?_)))))
  show wpAny _ _ (match Builtin.Slice.sliceAdjust lo hi 1 (n : Int) with | (lo,hi) => pure (lo,(1 : Int),Builtin.Slice.slicePlaces lo hi 1)) _ _ s
  rw [adjust_gen lo hi n]
  show wpAny _ _ (pure (((sIx n 0 lo : Nat) : Int),(1 : Int),Builtin.Slice.slicePlaces ((sIx n 0 lo : Nat) : Int) ((sIx n n hi : Nat) : Int) 1)) _ _ s
  rw [places_gen]
  exact wpAny_pure h
theorem pick_gen (xs : Array Value) (i k : Nat) : ((List.range k).filterMap fun (m : Nat) => xs[((i : Int) + (m : Int) * 1).toNat]?).toArray = ((xs.toList.drop i).take k).toArray := by
  have e : (fun (m : Nat) => xs[((i : Int) + (m : Int) * 1).toNat]?) = fun m => xs[i + m]? := by
    funext m
    have : ((i : Int) + (m : Int) * 1).toNat = i + m := by omega
    rw [this]
  rw [e]
  have := pick_run xs i k
  rw [List.filterMap_map] at this
  have e2 : ((fun x => xs[x]?) ∘ fun x => i + x) = fun m => xs[i + m]? := rfl
  rw [e2] at this
  rw [this]
theorem getItem_tuple_cut {t sl : Addr} {items : Array Value} {vl vu : Value} {lo hi : Option Int} {Q : Value -> Shared -> Prop} (ht : IsTup s.heap t items) (hs : s.heap.IsSliceOf sl vl vu .none) (pl : IsPart vl lo) (pu : IsPart vu hi)
    (hw : ¬ (sIx items.size 0 lo = 0 /\ sIx items.size items.size hi = items.size))
    (h : Q (.ref s.heap.objs.size) { s with heap := s.heap.push { cls := .type "tuple", data := .seq ((items.toList.drop (sIx items.size 0 lo)).take (sIx items.size items.size hi - sIx items.size 0 lo)).toArray } })
    (hsz : items.size <= sizeLine) : wpAny (model prog w) A (getItem (.ref t) (.ref sl)) Q E s := by
  have htake : sizeOk (.seq ((items.toList.drop (sIx items.size 0 lo)).take (sIx items.size items.size hi - sIx items.size 0 lo)).toArray) := by
    show ((items.toList.drop (sIx items.size 0 lo)).take (sIx items.size items.size hi - sIx items.size 0 lo)).toArray.size <= sizeLine
    rw [List.size_toArray,List.length_take,List.length_drop,Array.length_toList]
    omega
  have hj : sIx items.size items.size hi <= items.size := sIx_le _ _ (Nat.le_refl _) hi
  obtain ⟨os,hos,hcs,hds⟩ := id hs
  have hTs : s.TypeIs (.ref sl) "slice" := ⟨os, hos, hcs⟩
  unfold getItem
  try with_reducible refine wpAny_holding ?_
  first | refine wpAny_bind (wpAny_pure ?_) | skip
  refine wpAny_bind (wpAny_sequenceKey ht.typeIs (by decide) ?_)
  refine wpAny_bind (wpAny_callSpecial?_slot (name := Str.ofString "__getitem__") ht.typeIs PyProof.Rows.slot_tuple_getitem
    (wpAny_call_entry PyProof.Rows.slot_tuple_getitem ht.typeIs entry_tuple_getitem ?_ (args_tuple_getitem _ _)))
  show wpAny _ _ (Builtin.Tuple.tupleItemsOf (.ref t) >>= _) _ _ s
  refine wpAny_bind (tupleItemsOf_ ht ?_)
  refine wpAny_bind (wpAny_typeOf hTs ?_)
  rw [if_pos (by decide)]
  refine wpAny_bind (sliceApplied_gen hs pl pu ?_)
  have hno : ¬ ((((sIx items.size 0 lo : Nat) : Int) == 0 && (1 : Int) == 1 && (sIx items.size items.size hi - sIx items.size 0 lo) == items.size) = true) := by
    intro q
    rw [Bool.and_eq_true,Bool.and_eq_true] at q
    have q1 : ((sIx items.size 0 lo : Nat) : Int) = 0 := eq_of_beq q.1.1
    have q2 : sIx items.size items.size hi - sIx items.size 0 lo = items.size := eq_of_beq q.2
    exact hw ⟨by omega,by omega⟩
  show wpAny _ _ (if (((sIx items.size 0 lo : Nat) : Int) == 0 && (1 : Int) == 1 && (sIx items.size items.size hi - sIx items.size 0 lo) == items.size) = true then _ else _) _ _ s
  rw [if_neg hno,pick_gen]
  first
    | exact wpAny_bind (m := Builtin.Tuple.tupleExact _) (wpAny_newObj_type (wpAny_pure ⟨_,rfl,wpAny_pure h⟩) htake)
    | exact wpAny_bind (m := Builtin.Tuple.tupleExact _) (wpAny_newObj_type (wpAny_bind (wpAny_pure (wpAny_pure ⟨_,rfl,wpAny_pure h⟩))) htake)
    | exact wpAny_bind (wpAny_bind (m := Builtin.Tuple.tupleExact _) (wpAny_newObj_type (wpAny_pure (wpAny_pure ⟨_,rfl,wpAny_pure h⟩)) htake))
    | exact wpAny_bind (wpAny_bind (m := Builtin.Tuple.tupleExact _) (wpAny_newObj_type (wpAny_pure ⟨_,rfl,wpAny_pure h⟩) htake))
end
end HT
namespace L2
open PySem PySem.Spec PyProof.Rows
abbrev TO := St -> Hp -> (Option Int -> Hp -> Prop) -> Prop
def PO (X : Cx) (e : Option Expr) (t : TO) : Prop :=
  ∀ (pins : List (Addr × Obj)) (s : Shared) (U : St) (H : Hp) (Q : Option Int -> Hp -> Prop),Inv X pins U H s -> t U H Q ->
    wpAny (model X.prog X.w) X.A (evalPart e X.env) (fun u s' => ∃ o H',Inv X pins U H' s' /\ IsPart u o /\ Q o H') X.xe s
def tNoPart : TO := fun _ H Q => Q none H
def tPart (t : TE) : TO := fun U H Q => t U H fun x H1 => ∃ i,x = .int i /\ Q (some i) H1
section
variable {X : Cx} {e : Expr} {te : TE} {lo hi : Option Expr} {tl th : TO} {pos p2 : Pos}
theorem po_none : PO X none tNoPart := by
  intro pins s U H Q I h
  rw [evalPart_none]
  exact wpAny_pure ⟨none,H,I,.none,h⟩
theorem po_some (h : PE X e te) : PO X (some e) (tPart te) := by
  intro pins s U H Q I hw
  rw [evalPart_some]
  refine thn (h pins s U H _ I hw) fun u s1 ⟨x,H1,I1,r1,q1⟩ => ?_
  obtain ⟨i,rfl,q⟩ := q1
  obtain ⟨t,rfl⟩ := r1
  exact ⟨some i,H1,I1,.int i t,q⟩
def SlR (X : Cx) (r : V -> Option Int -> Option Int -> Hp -> VK -> Prop) : Prop :=
  ∀ (pins : List (Addr × Obj)) (s : Shared) (U : St) (H : Hp) (x : V) (v vl vu : Value) (lo hi : Option Int) (sl : Addr) (Q : VK),Inv X pins U H s -> RelV x v -> s.heap.IsSliceOf sl vl vu .none -> IsPart vl lo -> IsPart vu hi -> r x lo hi H Q ->
    ∃ T id, typeLookup (.type T) "__getitem__" = pure (some (.builtin id)) /\ s.TypeIs v T /\ wpAny (model X.prog X.w) X.A (getItem v (.ref sl)) (EP X pins U Q) X.xe s
theorem SlR.or {r r' : V -> Option Int -> Option Int -> Hp -> VK -> Prop} (h : SlR X r) (h' : SlR X r') : SlR X (fun x lo hi H Q => r x lo hi H Q \/ r' x lo hi H Q) := by
  intro pins s U H x v vl vu lo hi sl Q I rx hs pl pu q
  rcases q with q | q
  . exact h pins s U H x v vl vu lo hi sl Q I rx hs pl pu q
  . exact h' pins s U H x v vl vu lo hi sl Q I rx hs pl pu q
def tSl (r : V -> Option Int -> Option Int -> Hp -> VK -> Prop) (te : TE) (tl th : TO) : TE := fun U H Q => te U H fun x H1 => tl U H1 fun l H2 => th U H2 fun u H3 => r x l u H3 Q
theorem pe_slice {r : V -> Option Int -> Option Int -> Hp -> VK -> Prop} (hr : SlR X r) (he : PE X e te) (hl : PO X lo tl) (hu : PO X hi th) : PE X (.Subscript e (.Slice lo hi none p2) pos) (tSl r te tl th) := by
  intro pins s U H Q I h
  refine Subscript_ (thn (he pins s U H _ I h) fun v s1 ⟨x,H1,I1,r1,q1⟩ => ?_)
  refine wpAny_Slice (thn (hl pins s1 U H1 _ I1 q1) fun vl s2 ⟨l,H2,I2,pl,q2⟩ => thn (hu pins s2 U H2 _ I2 q2) fun vu s3 ⟨u,H3,I3,pu,q3⟩ => ?_)
  rw [evalPart_none]
  refine wpAny_pure ?_
  have I4 : Inv X pins U H3 { s3 with heap := s3.heap.push { cls := .type "slice", data := .fields #[vl, vu, .none] } } := I3.kept (t' := s3.toks) fun b ob q => Heap.get?_push_of_some _ q
  obtain ⟨T, id, hT, ht, hg⟩ := hr pins { s3 with heap := s3.heap.push { cls := .type "slice", data := .fields #[vl, vu, .none] } } U H3 x v vl vu l u s3.heap.objs.size Q I4 r1 (Heap.IsSliceOf.new ..) pl pu q3
  show wpAny (model X.prog X.w) X.A (subscriptTail e (.Slice lo hi none p2) v (.ref s3.heap.objs.size)) (EP X pins U Q) X.xe { s3 with heap := s3.heap.push { cls := .type "slice", data := .fields #[vl, vu, .none] } }
  exact tail_any (ops := [.ref s3.heap.objs.size,v]) ht hT hg (by with_unfolding_all rfl)
def cutV (xs : List V) (lo hi : Option Int) : List V := (xs.drop (HT.sIx xs.length 0 lo)).take (HT.sIx xs.length xs.length hi - HT.sIx xs.length 0 lo)
theorem cutV_length (xs : List V) (lo hi : Option Int) : (cutV xs lo hi).length <= xs.length := by
  unfold cutV
  rw [List.length_take,List.length_drop]
  omega
def rSlT (K : PySem.W.Frag) : V -> Option Int -> Option Int -> Hp -> VK -> Prop := fun x lo hi H Q => ∃ a xs,x = .ref a /\ SqT K H a xs /\
  ¬ (HT.sIx xs.length 0 lo = 0 /\ HT.sIx xs.length xs.length hi = xs.length) /\ ∀ p,H p = none -> Q (.ref p) (upd H p (.tup (cutV xs lo hi)))
theorem sl_tup : SlR X (rSlT X.K) := by
  intro pins s U H x v vl vu lo hi sl Q I rx hs pl pu h
  obtain ⟨a,xs,rfl,hx,hw,q⟩ := h
  cases rx
  obtain ⟨its,r,ht,hz⟩ := I.tuple hx
  have hlen : its.toArray.size = xs.length := by rw [List.size_toArray]; exact r.length.symm
  refine ⟨"tuple", _, PyProof.Rows.slot_tuple_getitem.lookup, ht.typeIs, ?_⟩
  refine HT.getItem_tuple_cut ht hs pl pu (by rw [hlen]; exact hw) ?_ (by rw [hlen]; exact hz)
  rw [hlen]
  refine ⟨.ref s.heap.objs.size,_,I.laid (t' := s.toks) (o := .tup (cutV xs lo hi)) (fun b ob q => Heap.get?_push_of_some _ q) (Nat.le_refl _) ?_,rfl,q _ (I.hok.fresh (Nat.le_refl _))⟩
  exact ⟨Nat.le_trans (cutV_length xs lo hi) hz,_,(r.drop (HT.sIx xs.length 0 lo)).take (HT.sIx xs.length xs.length hi - HT.sIx xs.length 0 lo),IsTup.new _ _⟩
def rCatT (K : PySem.W.Frag) : R2 := fun x y H Q => ∃ a b xs ys,x = .ref a /\ y = .ref b /\ SqT K H a xs /\ SqT K H b ys /\ xs ≠ [] /\ xs.length + ys.length <= sizeLine /\
  (ys = [] -> Q (.ref a) H) /\ (ys ≠ [] -> ∀ p,H p = none -> Q (.ref p) (upd H p (.tup (xs ++ ys))))
theorem Vals.nil_iff {xs : List V} {us : List Value} (r : Vals xs us) : us = [] ↔ xs = [] := by
  cases r with
  | nil => simp
  | cons _ _ => simp
theorem op_catT : OpR X (binaryOp .Add) (rCatT X.K) := by
  intro pins s U H x y v u Q I rx ry h
  obtain ⟨a,b,xs,ys,rfl,rfl,ha,hb,hx,hz,q1,q2⟩ := h
  cases rx
  cases ry
  obtain ⟨its,r1,p1,_⟩ := I.tuple ha
  obtain ⟨its2,r2,p2,_⟩ := I.tuple hb
  refine HT.cat_tup p1 p2 (fun z => hx (r1.nil_iff.mp z)) (fun z => ⟨.ref a,H,I,rfl,q1 (r2.nil_iff.mp z)⟩) (fun z => ?_) (by rw [<- r1.length,<- r2.length]; exact hz)
  refine ⟨.ref s.heap.objs.size,_,I.laid (t' := s.toks) (o := .tup (xs ++ ys)) (fun b ob q => Heap.get?_push_of_some _ q) (Nat.le_refl _) ?_,rfl,q2 (fun w => z (r2.nil_iff.mpr w)) _ (I.hok.fresh (Nat.le_refl _))⟩
  exact ⟨by rw [List.length_append]; exact hz,_,r1.append r2,IsTup.new _ _⟩
end
end L2
namespace L2
open PySem PySem.Spec PyProof.Rows
def ixN (n : Nat) (i : Int) : Option Nat := if 0 <= i then (if i < n then some i.toNat else none) else if -(n : Int) <= i then some (i + n).toNat else none
def atI {α : Type} (xs : List α) (i : Int) : Option α := (ixN xs.length i).bind fun j => xs[j]?
theorem ixN_seq {n : Nat} {i : Int} {j : Nat} (h : ixN n i = some j) : seqIndex? i n = some j /\ j < n /\ -(n : Int) <= i /\ i < n := by
  unfold ixN at h
  by_cases h0 : 0 <= i
  . rw [if_pos h0] at h
    by_cases h1 : i < n
    . rw [if_pos h1] at h
      have e : i.toNat = j := Option.some.inj h
      exact ⟨by rw [seqIndex_of h0 h1,e],by omega,by omega,h1⟩
    . rw [if_neg h1] at h; cases h
  . rw [if_neg h0] at h
    by_cases h1 : -(n : Int) <= i
    . rw [if_pos h1] at h
      have e : (i + n).toNat = j := Option.some.inj h
      exact ⟨by rw [seqIndex_neg (by omega) h1,e],by omega,h1,by omega⟩
    . rw [if_neg h1] at h; cases h
theorem atI_get {α : Type} {xs : List α} {i : Int} {v : α} (h : atI xs i = some v) : ∃ j,seqIndex? i xs.length = some j /\ xs[j]? = some v /\ j < xs.length /\ -(xs.length : Int) <= i /\ i < xs.length := by
  unfold atI at h
  cases e : ixN xs.length i with
  | none => rw [e] at h; cases h
  | some j =>
    rw [e] at h
    obtain ⟨h1,h2,h3,h4⟩ := ixN_seq e
    exact ⟨j,h1,h,h2,h3,h4⟩
def PlainIx (b : Expr) : Prop := ∀ o i,subscripted b false o i = operate [o,i] (getItem o i)
def IxR (X : Cx) (r : R2) : Prop :=
  ∀ (value slice : Expr) (pins : List (Addr × Obj)) (s : Shared) (U : St) (H : Hp) (x y : V) (v u : Value) (Q : VK),Inv X pins U H s -> RelV x v -> RelV y u -> r x y H Q ->
    subscripted slice false v u = operate [v,u] (getItem v u) -> wpAny (model X.prog X.w) X.A (subscriptTail value slice v u) (EP X pins U Q) X.xe s
def MtR (X : Cx) (id : String) (r : V -> List V -> Hp -> VK -> Prop) : Prop :=
  ∀ (pins : List (Addr × Obj)) (s : Shared) (U : St) (H : Hp) (x : V) (xs : List V) (v : Value) (us : List Value) (Q : VK),Inv X pins U H s -> RelV x v -> Vals xs us -> r x xs H Q ->
    wpAny (model X.prog X.w) X.A (call (.builtin id) (v :: us)) (EP X pins U Q) X.xe s
section
variable {X : Cx} {a b : Expr} {ta tb : TE} {pos : Pos}
theorem IxR.or {r r' : R2} (h : IxR X r) (h' : IxR X r') : IxR X (fun x y H Q => r x y H Q \/ r' x y H Q) := by
  intro value slice pins s U H x y v u Q I rx ry q hs
  rcases q with q | q
  . exact h value slice pins s U H x y v u Q I rx ry q hs
  . exact h' value slice pins s U H x y v u Q I rx ry q hs
theorem pe_ix {r : R2} (hr : IxR X r) (ha : PE X a ta) (hb : PE X b tb) (hs : PlainIx b) : PE X (.Subscript a b pos) (tOp r ta tb) := by
  intro pins s U H Q I h
  exact Subscript_ (binT ha hb I h fun v u s2 x y H2 I2 rx ry q => hr a b pins s2 U H2 x y v u Q I2 rx ry q (hs _ _))
def rIxL (K : PySem.W.Frag) : R2 := fun x y H Q => ∃ p xs i v,x = .ref p /\ y = .int i /\ SqL K H p xs /\ atI xs i = some v /\ Q v H
def rIxT (K : PySem.W.Frag) : R2 := fun x y H Q => ∃ p xs i v,x = .ref p /\ y = .int i /\ SqT K H p xs /\ atI xs i = some v /\ Q v H
def rIxS : R2 := fun x y H Q => ∃ z i c,x = .str z /\ y = .int i /\ z.length <= sizeLine /\ atI z.cps.toList i = some c /\ Q (.str ⟨#[c]⟩) H
theorem ix_list : IxR X (rIxL X.K) := by
  intro value slice pins s U H x y v u Q I rx ry h hs
  obtain ⟨p,xs,i,z,rfl,rfl,hq,he,q⟩ := h
  cases rx
  obtain ⟨t,rfl⟩ := ry
  obtain ⟨its,r,pl,hz⟩ := I.list hq
  obtain ⟨j,h1,h2,h3,h4,h5⟩ := atI_get he
  obtain ⟨w,ew,rw'⟩ := r.get h2
  have hl := r.length
  have hn := line63
  have fin : EP X pins U Q w s := ⟨z,H,I,rw',q⟩
  by_cases h0 : 0 <= i
  . have hj : i.toNat = j := by
      rw [seqIndex_of h0 h5] at h1
      exact Option.some.inj h1
    exact item_listR pl.isList h0 (by omega) (by rw [hj]; simpa using ew) fin hs
  . have hj : (i + (its.toArray.size : Int)).toNat = j := by
      rw [seqIndex_neg (by omega) h4] at h1
      rw [List.size_toArray,<- hl]
      exact Option.some.inj h1
    exact subscriptTail_builtinR (x := w) pl.isList.typeIs slot_list_getitem.lookup
      (wpAny_getItem_list_neg (Q := fun r s' => r = w /\ EP X pins U Q r s') pl.isList (by omega) (by rw [List.size_toArray] <;> omega) (by omega) (by rw [hj]; simpa using ew) ⟨rfl,fin⟩) hs
theorem ix_tup : IxR X (rIxT X.K) := by
  intro value slice pins s U H x y v u Q I rx ry h hs
  obtain ⟨p,xs,i,z,rfl,rfl,hq,he,q⟩ := h
  cases rx
  obtain ⟨t,rfl⟩ := ry
  obtain ⟨its,r,pl,hz⟩ := I.tuple hq
  obtain ⟨j,h1,h2,h3,h4,h5⟩ := atI_get he
  obtain ⟨w,ew,rw'⟩ := r.get h2
  have hl := r.length
  have hn := line63
  have fin : EP X pins U Q w s := ⟨z,H,I,rw',q⟩
  exact subscriptTail_builtinR (x := w) pl.typeIs slot_tuple_getitem.lookup
    (getItem_tuple (j := j) (Q := fun r s' => r = w /\ EP X pins U Q r s') pl (by omega) (by omega) (by rw [List.size_toArray,<- hl]; exact h1) (by simpa using ew) ⟨rfl,fin⟩) hs
theorem ix_str : IxR X rIxS := by
  intro value slice pins s U H x y v u Q I rx ry h hs
  obtain ⟨z,i,c,rfl,rfl,hz,he,q⟩ := h
  obtain ⟨t,rfl⟩ := rx
  obtain ⟨t',rfl⟩ := ry
  obtain ⟨j,h1,h2,h3,h4,h5⟩ := atI_get he
  have hl : z.cps.toList.length = z.length := by simp [Str.length]
  rw [hl] at h1 h4 h5
  have hn := line63
  exact tail_any (typeIs_str s z t) slot_str_getitem.lookup (getItem_str (c := c) (by
    have e1 : decide (i < -(2 ^ 63 : Int)) = false := decide_eq_false (by omega)
    have e2 : decide (i ≥ 2 ^ 63) = false := decide_eq_false (by omega)
    rw [e1,e2,Bool.or_false]) (by rw [h1]; simpa using h2) ⟨.str ⟨#[c]⟩,H,I.tok _,⟨_,rfl⟩,q⟩) hs
theorem mapSeq_set (its : List Value) (n j : Nat) (u : Value) : Obj.mapSeq (·.setIfInBounds j u) { cls := .type "list", data := .seq its.toArray n } = { cls := .type "list", data := .seq (its.set j u).toArray n } := by
  simp [Obj.mapSeq]
theorem Inv.lst {pins : List (Addr × Obj)} {U : St} {H : Hp} {s : Shared} {p : Addr} {xs : List V} (I : Inv X pins U H s) (h : H p = some (.lst xs)) :
    ∃ (its : List Value) (n : Nat), Vals xs its /\ s.heap.get? p = some { cls := .type "list", data := .seq its.toArray n } /\ xs.length <= sizeLine := by
  obtain ⟨z,its,n,r,e⟩ := I.hok p _ h
  exact ⟨its,n,r,e,z⟩
theorem Inv.lstUpd {pins : List (Addr × Obj)} {U : St} {H : Hp} {s : Shared} {p : Addr} {xs ys : List V} {its its' : List Value} {n n' : Nat} {f : Obj -> Obj} (I : Inv X pins U H s) (h : H p = some (.lst xs))
    (ho : s.heap.get? p = some { cls := .type "list", data := .seq its.toArray n }) (hf : f { cls := .type "list", data := .seq its.toArray n } = { cls := .type "list", data := .seq its'.toArray n' }) (r : Vals ys its') (hz : ys.length <= sizeLine) (t : Nat) :
    Inv X pins U (upd H p (.lst ys)) { s with heap := s.heap.update p f,toks := t } := by
  have e : (s.heap.update p f).get? p = some { cls := .type "list", data := .seq its'.toArray n' } := by
    rw [Heap.get?_update_self f ho (by rw [hf] <;> rfl),hf]
  refine I.write (x := p) (e := p) (by rw [h]; trivial) (.inl rfl) (fun b u hb q => (Heap.get?_update_other _ _ (Ne.symm hb)).trans q) ⟨_,e⟩ ?_
  exact ⟨hz,its',n',r,e⟩
def rSetL : V -> V -> V -> Hp -> (Hp -> Prop) -> Prop := fun o i v H Q => ∃ p xs k j,o = .ref p /\ i = .int k /\ H p = some (.lst xs) /\ ixN xs.length k = some j /\ Q (upd H p (.lst (xs.set j v)))
theorem set_list : PSet X rSetL := by
  intro pins s U H o i v ov iv u Q I ro ri rv h
  obtain ⟨p,xs,k,j,rfl,rfl,hp,hj,q⟩ := h
  cases ro
  obtain ⟨t,rfl⟩ := ri
  obtain ⟨its,n,r,ho,hz⟩ := I.lst hp
  obtain ⟨h1,h2,h3,h4⟩ := ixN_seq hj
  have hl := r.length
  have hn := line63
  have I' : Inv X pins U (upd H p (.lst (xs.set j v))) { s with heap := s.heap.update p (Obj.mapSeq (·.setIfInBounds j u)) } :=
    I.lstUpd hp ho (mapSeq_set its n j u) (r.set rv j) (by rw [List.length_set]; exact hz) s.toks
  by_cases h0 : 0 <= k
  . have hk : k.toNat = j := by
      rw [seqIndex_of h0 h4] at h1
      exact Option.some.inj h1
    exact PySem.W.ki_setAt ho h0 (by omega) (by rw [List.size_toArray,<- hl]; exact h4) (by rw [hk]; exact ⟨_,I',q⟩)
  . have hk : (k + (its.toArray.size : Int)).toNat = j := by
      rw [seqIndex_neg (by omega) h3] at h1
      rw [List.size_toArray,<- hl]
      exact Option.some.inj h1
    exact PySem.W.ki_setBack ho (by omega) (by rw [List.size_toArray,<- hl]; exact h3) (by omega) (by rw [hk]; exact ⟨_,I',q⟩)
theorem slice_bounds (lo hi : Option Int) (n : Nat) : (sliceBounds lo hi none n).1 = ((HT.sIx n 0 lo : Nat) : Int) /\ (sliceBounds lo hi none n).2.1 = ((HT.sIx n n hi : Nat) : Int) /\ (sliceBounds lo hi none n).2.2 = 1 := by
  refine ⟨?_,?_,rfl⟩
  . cases lo with
    | none => simp [sliceBounds,HT.sIx]
    | some i =>
      simp only [sliceBounds,HT.sIx,Option.getD_none,show (1 : Int) > 0 by decide,if_true]
      by_cases h : i < 0
      . simp only [h,if_true] <;> omega
      . simp only [h,if_false] <;> omega
  . cases hi with
    | none => simp [sliceBounds,HT.sIx]
    | some i =>
      simp only [sliceBounds,HT.sIx,Option.getD_none,show (1 : Int) > 0 by decide,if_true]
      by_cases h : i < 0
      . simp only [h,if_true] <;> omega
      . simp only [h,if_false] <;> omega
theorem slicePick_cut (its : List Value) (lo hi : Option Int) : slicePick its.toArray lo hi none = ((its.drop (HT.sIx its.length 0 lo)).take (HT.sIx its.length its.length hi - HT.sIx its.length 0 lo)).toArray := by
  obtain ⟨h1,h2,h3⟩ := slice_bounds lo hi its.toArray.size
  unfold slicePick
  rw [h1,h2,h3]
  simp only [sliceRange_one,pick_run,List.size_toArray] <;> rfl
def rSlL (K : PySem.W.Frag) : V -> Option Int -> Option Int -> Hp -> VK -> Prop := fun x lo hi H Q => ∃ a xs,x = .ref a /\ SqL K H a xs /\ ∀ p,H p = none -> Q (.ref p) (upd H p (.lst (cutV xs lo hi)))
theorem sl_list : SlR X (rSlL X.K) := by
  intro pins s U H x v vl vu lo hi sl Q I rx hs pl pu h
  obtain ⟨a,xs,rfl,hx,q⟩ := h
  cases rx
  obtain ⟨its,r,ht,hz⟩ := I.list hx
  have hlen := r.length
  refine ⟨"list", _, slot_list_getitem.lookup, ht.isList.typeIs, ?_⟩
  refine wpAny_getItem_list_slice ht.isList hs pl pu .none (by simp) ?_ (by rw [List.size_toArray] <;> omega)
  rw [slicePick_cut,<- hlen]
  refine ⟨.ref s.heap.objs.size,_,I.laid (t' := s.toks) (o := .lst (cutV xs lo hi)) (fun b ob q => Heap.get?_push_of_some _ q) (Nat.le_refl _) ?_,rfl,q _ (I.hok.fresh (Nat.le_refl _))⟩
  exact ⟨Nat.le_trans (cutV_length xs lo hi) hz,_,0,(r.drop (HT.sIx xs.length 0 lo)).take (HT.sIx xs.length xs.length hi - HT.sIx xs.length 0 lo),Heap.get?_push_size _ rfl⟩
def flatV : V -> Bool
  | .non => true
  | .bl _ => true
  | .int _ => true
  | .str _ => true
  | _ => false
def eqV : V -> V -> Bool
  | .non,.non => true
  | .bl a,.bl b => a == b
  | .bl a,.int b => (if a then 1 else 0) == b
  | .int a,.bl b => a == (if b then 1 else 0)
  | .int a,.int b => a == b
  | .str a,.str b => a == b
  | _,_ => false
theorem eqAt_V {A : Around} {s : Shared} {y x : V} {u v : Value} (ry : RelV y u) (rx : RelV x v) (fy : flatV y = true) (fx : flatV x = true) : SeqAt.EqAt A s u v (eqV y x) := by
  cases y with
  | non =>
    cases ry
    cases x with
    | non => cases rx; exact SeqAt.EqAt.same _
    | bl b => cases rx; exact SeqAt.EqAt.none_bool b
    | int b => obtain ⟨t,rfl⟩ := rx; exact SeqAt.EqAt.none_int b t
    | str b => obtain ⟨t,rfl⟩ := rx; exact SeqAt.EqAt.none_str b t
    | _ => exact absurd (show false = true from fx) Bool.false_ne_true
  | bl a =>
    cases ry
    cases x with
    | non => cases rx; exact SeqAt.EqAt.bool_none a
    | bl b => cases rx; exact SeqAt.EqAt.bool_bool a b
    | int b => obtain ⟨t,rfl⟩ := rx; exact SeqAt.EqAt.bool_int a b t
    | str b => obtain ⟨t,rfl⟩ := rx; exact SeqAt.EqAt.bool_str a b t
    | _ => exact absurd (show false = true from fx) Bool.false_ne_true
  | int a =>
    obtain ⟨t',rfl⟩ := ry
    cases x with
    | non => cases rx; exact SeqAt.EqAt.int_none a t'
    | bl b => cases rx; exact SeqAt.EqAt.int_bool a t' b
    | int b => obtain ⟨t,rfl⟩ := rx; exact SeqAt.EqAt.int_int a t' b t
    | str b => obtain ⟨t,rfl⟩ := rx; exact SeqAt.EqAt.int_str a t' b t
    | _ => exact absurd (show false = true from fx) Bool.false_ne_true
  | str a =>
    obtain ⟨t',rfl⟩ := ry
    cases x with
    | non => cases rx; exact SeqAt.EqAt.str_none a t'
    | bl b => cases rx; exact SeqAt.EqAt.str_bool a t' b
    | int b => obtain ⟨t,rfl⟩ := rx; exact SeqAt.EqAt.str_int a t' b t
    | str b => obtain ⟨t,rfl⟩ := rx; exact SeqAt.EqAt.str_str a t' b t
    | _ => exact absurd (show false = true from fx) Bool.false_ne_true
  | _ => exact absurd (show false = true from fy) Bool.false_ne_true
def eqU (x : V) (u : Value) : Bool := match u with
  | .none => eqV .non x
  | .bool b => eqV (.bl b) x
  | .int i _ => eqV (.int i) x
  | .str z _ => eqV (.str z) x
  | _ => false
theorem eqU_of {x y : V} {u : Value} (r : RelV y u) (f : flatV y = true) : eqU x u = eqV y x := by
  cases y with
  | non => cases r; rfl
  | bl b => cases r; rfl
  | int i => obtain ⟨t,rfl⟩ := r; rfl
  | str z => obtain ⟨t,rfl⟩ := r; rfl
  | _ => exact absurd (show false = true from f) Bool.false_ne_true
theorem any_eqU {x : V} : ∀ {xs : List V} {us : List Value},Vals xs us -> xs.all flatV = true -> us.any (eqU x) = xs.any fun y => eqV y x
  | _,_,.nil,_ => rfl
  | y :: xs,u :: us,.cons r t,f => by
    rw [List.all_cons,Bool.and_eq_true] at f
    rw [List.any_cons,List.any_cons,eqU_of r f.1,any_eqU t f.2]
theorem mem_eqAt {A : Around} {s : Shared} {x : V} {v : Value} (rx : RelV x v) (fx : flatV x = true) : ∀ {xs : List V} {us : List Value},Vals xs us -> xs.all flatV = true -> ∀ u ∈ us,SeqAt.EqAt A s u v (eqU x u)
  | _,_,.nil,_ => fun u hu => by cases hu
  | y :: xs,u :: us,.cons r t,f => fun u' hu => by
    rw [List.all_cons,Bool.and_eq_true] at f
    rcases List.mem_cons.mp hu with rfl | hu
    . rw [eqU_of r f.1]; exact eqAt_V r rx f.1 fx
    . exact mem_eqAt rx fx t f.2 u' hu
def inV (x : V) (xs : List V) : Bool := xs.any fun y => eqV y x
def rIn (K : PySem.W.Frag) (neg : Bool) : R2 := fun x y H Q => ∃ p xs,y = .ref p /\ (SqL K H p xs \/ SqT K H p xs) /\ flatV x = true /\ xs.all flatV = true /\ Q (.bl (if neg then !inV x xs else inV x xs)) H
theorem op_in_seq : OpR X (compareOp .In) (rIn X.K false) := by
  intro pins s U H x y v u Q I rx ry h
  obtain ⟨p,xs,rfl,hq,fx,fs,q⟩ := h
  cases ry
  rcases hq with hq | hq
  . obtain ⟨its,r,pl,hz⟩ := I.list hq
    refine SeqAt.in_listAt (eqU x) pl.isList (fun w hw => mem_eqAt rx fx r fs w (by simpa using hw)) ⟨.bl _,H,I,rfl,?_⟩
    rw [show its.toArray.any (eqU x) = its.any (eqU x) by simp,any_eqU r fs]
    exact q
  . obtain ⟨its,r,pl,hz⟩ := I.tuple hq
    refine SeqAt.in_tupleAt (eqU x) pl (fun w hw => mem_eqAt rx fx r fs w (by simpa using hw)) ⟨.bl _,H,I,rfl,?_⟩
    rw [show its.toArray.any (eqU x) = its.any (eqU x) by simp,any_eqU r fs]
    exact q
theorem op_notIn_seq : OpR X (compareOp .NotIn) (rIn X.K true) := by
  intro pins s U H x y v u Q I rx ry h
  obtain ⟨p,xs,rfl,hq,fx,fs,q⟩ := h
  cases ry
  rcases hq with hq | hq
  . obtain ⟨its,r,pl,hz⟩ := I.list hq
    refine SeqAt.notIn_listAt (eqU x) pl.isList (fun w hw => mem_eqAt rx fx r fs w (by simpa using hw)) ⟨.bl _,H,I,rfl,?_⟩
    rw [show its.toArray.any (eqU x) = its.any (eqU x) by simp,any_eqU r fs]
    exact q
  . obtain ⟨its,r,pl,hz⟩ := I.tuple hq
    refine SeqAt.notIn_tupleAt (eqU x) pl (fun w hw => mem_eqAt rx fx r fs w (by simpa using hw)) ⟨.bl _,H,I,rfl,?_⟩
    rw [show its.toArray.any (eqU x) = its.any (eqU x) by simp,any_eqU r fs]
    exact q
theorem call_len_seq : CallR X (.builtin "len") (fun xs H Q => ∃ p ys, xs = [.ref p] /\ (SqL X.K H p ys \/ SqT X.K H p ys) /\ Q (.int ys.length) H) := by
  intro pins s U H xs us Q I r h
  obtain ⟨p,ys,rfl,hq,q⟩ := h
  obtain ⟨u,rfl,rx⟩ := vals1 r
  cases rx
  have hn := line63
  rcases hq with hq | hq
  . obtain ⟨its,r',pl,hz⟩ := I.list hq
    have hlen := r'.length
    exact Calls.call_len_list pl.isList (by simp only [List.size_toArray] <;> omega) ⟨.int ys.length,H,I.tok _,⟨s.toks + 1,by rw [List.size_toArray,hlen]⟩,q⟩
  . obtain ⟨its,r',pl,hz⟩ := I.tuple hq
    have hlen := r'.length
    exact len_tuple pl (by simp only [List.size_toArray] <;> omega) ⟨.int ys.length,H,I.tok _,⟨s.toks + 1,by rw [List.size_toArray,hlen]⟩,q⟩
theorem call_len_str : CallR X (.builtin "len") (fun xs H Q => ∃ z, xs = [.str z] /\ z.length <= sizeLine /\ Q (.int z.length) H) := by
  intro pins s U H xs us Q I r h
  obtain ⟨z,rfl,hz,q⟩ := h
  obtain ⟨u,rfl,t,rfl⟩ := vals1 r
  have hn := line63
  exact len_str (by omega) ⟨.int z.length,H,I.tok _,⟨_,rfl⟩,q⟩
theorem CallR.or {f : Value} {r r' : List V -> Hp -> VK -> Prop} (h : CallR X f r) (h' : CallR X f r') : CallR X f (fun xs H Q => r xs H Q \/ r' xs H Q) := by
  intro pins s U H xs us Q I rs q
  rcases q with q | q
  . exact h pins s U H xs us Q I rs q
  . exact h' pins s U H xs us Q I rs q
theorem call_list_of : CallR X (.type "list") (fun xs H Q => ∃ p ys, xs = [.ref p] /\ (SqL X.K H p ys \/ SqT X.K H p ys) /\ ∀ l, H l = none -> Q (.ref l) (upd H l (.lst ys))) := by
  intro pins s U H xs us Q I r h
  obtain ⟨p,ys,rfl,hq,q⟩ := h
  obtain ⟨u,rfl,rx⟩ := vals1 r
  cases rx
  have fin : ∀ (its : List Value),Vals ys its -> ys.length <= sizeLine -> ∀ (h' : Heap) (c' : Nat),(∀ b o',s.heap.get? b = some o' -> h'.get? b = some o') ->
      h'.get? s.heap.objs.size = some { cls := .type "list", dict := none, data := .seq its.toArray c', slots := #[] } -> EP X pins U Q (.ref s.heap.objs.size) { s with heap := h' } := fun its r' hz h' c' kp e =>
    ⟨.ref s.heap.objs.size,_,I.laid (t' := s.toks) kp (Nat.le_refl _) (show ObjOk X.prog X.w _ h' _ (.lst ys) from ⟨hz,its,c',r',e⟩),rfl,q _ (I.hok.fresh (Nat.le_refl _))⟩
  rcases hq with hq | hq
  . obtain ⟨its,r',pl,hz⟩ := I.list hq
    have hlen := r'.length
    obtain ⟨o,ho,hc,n,hd⟩ := pl.isList
    exact call_list_seq p (.inl rfl) ho hc hd (fun h' c' kp e => fin its r' hz h' c' kp e) (by simp only [List.size_toArray] <;> omega)
  . obtain ⟨its,r',pl,hz⟩ := I.tuple hq
    have hlen := r'.length
    obtain ⟨o,ho,hc,n,hd⟩ := pl
    exact call_list_seq p (.inr rfl) ho hc hd (fun h' c' kp e => fin its r' hz h' c' kp e) (by simp only [List.size_toArray] <;> omega)
theorem call_tuple_of : CallR X (.type "tuple") (fun xs H Q => ∃ p ys, xs = [.ref p] /\ ((SqL X.K H p ys /\ ∀ l, H l = none -> Q (.ref l) (upd H l (.tup ys))) \/ (SqT X.K H p ys /\ Q (.ref p) H))) := by
  intro pins s U H xs us Q I r h
  obtain ⟨p,ys,rfl,h⟩ := h
  obtain ⟨u,rfl,rx⟩ := vals1 r
  cases rx
  rcases h with ⟨hq,q⟩ | ⟨hq,q⟩
  . obtain ⟨its,r',pl,hz⟩ := I.list hq
    have hlen := r'.length
    refine call_tuple_list pl.isList (fun h' kp => ?_) (by simp only [List.size_toArray] <;> omega)
    have I1 : Inv X pins U H { s with heap := h' } := I.kept (t' := s.toks) kp
    have I2 : Inv X pins U (upd H h'.objs.size (.tup ys)) { s with heap := h'.push { cls := .type "tuple", data := .seq its.toArray } } :=
      I1.laid (t' := s.toks) (fun b o e => Heap.get?_push_of_some _ e) (Nat.le_refl _) (show ObjOk X.prog X.w _ _ _ (.tup ys) from ⟨hz,its,r',IsTup.new _ _⟩)
    exact ⟨.ref h'.objs.size,_,I2,rfl,q _ (I1.hok.fresh (Nat.le_refl _))⟩
  . obtain ⟨its,r',pl,hz⟩ := I.tuple hq
    exact call_tuple_same pl ⟨.ref p,H,I,rfl,q⟩
def tyV (K : PySem.W.Frag) (T : String) (x : V) (H : Hp) : Prop := match x with
  | .str _ => T = "str"
  | .int _ => T = "int"
  | .ref p => (T = "list" /\ ∃ xs, SqL K H p xs) \/ (T = "tuple" /\ ∃ o, K.lookup p = some o /\ o.cls = .type "tuple" /\ o.dict = none) \/
      (T = "dict" /\ ((∃ kvs, H p = some (.dK kvs)) \/ ∃ kvs, H p = some (.dT kvs))) \/ (T = "set" /\ ∃ S n, H p = some (.set S n))
  | _ => False
theorem tyV_is {pins : List (Addr × Obj)} {U : St} {H : Hp} {s : Shared} {T : String} {x : V} {v : Value} (I : Inv X pins U H s) (r : RelV x v) (ty : tyV X.K T x H) :
    s.TypeIs v T /\ ∀ a,v = .ref a -> ∃ ob,s.heap.get? a = some ob /\ ob.dict = none := by
  cases x with
  | str z =>
    obtain ⟨t,rfl⟩ := r
    cases (show T = "str" from ty)
    exact ⟨typeIs_str s z t,fun _ e => nomatch e⟩
  | int i =>
    obtain ⟨t,rfl⟩ := r
    cases (show T = "int" from ty)
    exact ⟨typeIs_int s i t,fun _ e => nomatch e⟩
  | ref p =>
    cases r
    rcases ty with ⟨rfl,xs,hq⟩ | ⟨rfl,o,hk,hc,hd⟩ | ⟨rfl,hk⟩ | ⟨rfl,S,n,hk⟩
    . obtain ⟨its,_,pl,_⟩ := I.list hq
      refine ⟨pl.isList.typeIs,fun a e => ?_⟩
      cases e
      obtain ⟨o,n,e,c,hd,_⟩ := pl
      exact ⟨o,e,hd⟩
    . refine ⟨⟨o,I.kIn p o hk,hc⟩,fun a e => ?_⟩
      cases e
      exact ⟨o,I.kIn _ o hk,hd⟩
    . have z : ∃ o,s.heap.get? p = some o /\ o.ExactDict := by
        rcases hk with ⟨kvs,hk⟩ | ⟨kvs,hk⟩
        . obtain ⟨_,_,_,_,o,_,_,e,ex,_⟩ := I.hok p _ hk
          exact ⟨o,e,ex⟩
        . obtain ⟨_,_,_,_,o,_,_,e,ex,_⟩ := I.hok p _ hk
          exact ⟨o,e,ex⟩
      obtain ⟨o,e,ex⟩ := z
      refine ⟨⟨o,e,ex.1⟩,fun a e2 => ?_⟩
      cases e2
      exact ⟨o,e,ex.2.1⟩
    . obtain ⟨o,_,_,_,e,ex,_⟩ := I.hok p _ hk
      refine ⟨⟨o,e,ex.1⟩,fun a e2 => ?_⟩
      cases e2
      exact ⟨o,e,ex.2.1⟩
  | _ => exact False.elim ty
def tBM (K : PySem.W.Frag) (T : String) (r : V -> List V -> Hp -> VK -> Prop) (to : TE) (t : TA) : TE := fun U H Q => to U H fun x H1 => tyV K T x H1 /\ t U H1 fun xs H2 => r x xs H2 Q
variable {o e : Expr} {es : List Expr} {to : TE} {t : TA} {name : Str} {apos cpos : Pos} {T id : String} {r : V -> List V -> Hp -> VK -> Prop}
theorem pe_bm (pa : PlainAttrs T) (slot : Slot T name id) (hty : typeOf (.builtin id) = pure (.type "method_descriptor")) (hm : MtR X id r) (ho : PE X o to) (ha : PA X (e :: es) t)
    (hbase : attributeBase o name X.env (eval o X.env) = eval o X.env := by rfl)
    (hfew : ((backTo cpos (starEach (e :: es) X.env)).all (fun x => !x.1) && (backToKw cpos (keywordEach [] X.env)).all (fun x => x.1.isSome)
      && decide ((e :: es).length + ([] : List Keyword).length + (if ([] : List Keyword).isEmpty then 0 else 1) < 30)) = true := by rfl)
    (hline : (apos.endLine == cpos.line) = true := by rfl) (hs : starEach (e :: es) X.env = (false,eval e X.env) :: starEach es X.env := by rfl) (hplain : (backTo cpos (starEach es X.env)).any (·.1) = false := by rfl) :
    PE X (.Call (.Attribute o name apos) (e :: es) [] cpos) (tBM X.K T r to t) := by
  intro pins s U H Q I h
  refine wpAny_Call_method_late hbase hfew hline rfl (thn (ho pins s U H _ I h) fun v s1 ⟨x,H1,I1,r1,ty,q1⟩ => ?_)
  obtain ⟨h1,h2⟩ := tyV_is I1 r1 ty
  refine ⟨T,id,pa,slot,hty,h1,h2,?_⟩
  have hA := ha cpos pins s1 U H1 _ I1 q1
  rw [hs] at hA ⊢
  refine Calls.callWith_builtin (by show (false || (backTo cpos (starEach es X.env)).any (·.1)) = false; rw [hplain] <;> rfl) (Calls.evalArgs_plain ?_)
  exact thn hA fun us s2 ⟨vs,H2,I2,r2,q2⟩ => hm pins s2 U H2 x vs v us Q I2 r1 r2 q2
end
end L2
namespace L2
open PySem PySem.Spec PyProof.Rows
def MtM (X : Cx) (id : String) (r : V -> List V -> Hp -> VK -> Prop) : Prop :=
  ∀ (pins : List (Addr × Obj)) (s : Shared) (U : St) (H : Hp) (x : V) (xs : List V) (v : Value) (us : List Value) (Q : VK),Inv X pins U H s -> RelV x v -> Vals xs us -> r x xs H Q ->
    wpAny (model X.prog X.w) X.A (call (.builtin id) (v :: us)) (EP X pins U Q) X.xe s
theorem Vals.one : ∀ {x : V} {us : List Value},Vals [x] us -> ∃ u,us = [u] /\ RelV x u
  | _,_,.cons r .nil => ⟨_,rfl,r⟩
section
variable {X : Cx} {pins : List (Addr × Obj)} {U : St} {H : Hp} {s : Shared} {l b : Addr} {xs ys zs : List V}
theorem Inv.lset {its its' : List Value} {n : Nat} {f : Array Value -> Array Value} {t' : Nat} (I : Inv X pins U H s) (hH : H l = some (.lst xs))
    (e : s.heap.get? l = some { cls := .type "list", data := .seq its.toArray n }) (hf : f its.toArray = its'.toArray) (hv : Vals ys its') (hz : ys.length <= sizeLine) :
    Inv X pins U (upd H l (.lst ys)) { s with heap := s.heap.update l (Obj.mapSeq f),toks := t' } := by
  have q := PySem.IsL.update e f
  rw [hf] at q
  refine I.write (x := l) (e := l) (by rw [hH]; exact trivial) (.inl rfl) (fun b' u hb hu => (Heap.get?_update_other s.heap (Obj.mapSeq f) (Ne.symm hb)).trans hu) ⟨_,q⟩ ?_
  exact ⟨hz,its',_,hv,q⟩
theorem Inv.lnew {its : List Value} {t' : Nat} (I : Inv X pins U H s) (hv : Vals ys its) (hz : ys.length <= sizeLine) :
    Inv X pins U (upd H s.heap.objs.size (.lst ys)) { s with heap := s.heap.push { cls := .type "list", data := .seq its.toArray }, toks := t' } :=
  I.laid (fun _ _ q => Heap.get?_push_of_some _ q) (Nat.le_refl _) ⟨hz,its,0,hv,Heap.get?_push_size _ rfl⟩
theorem Inv.fresh (I : Inv X pins U H s) : H s.heap.objs.size = none := I.hok.fresh (Nat.le_refl _)
theorem Inv.lstM (I : Inv X pins U H s) (hH : H l = some (.lst xs)) : xs.length <= sizeLine /\ ∃ (its : List Value) (n : Nat), Vals xs its /\ xs.length = its.length /\ s.heap.get? l = some { cls := .type "list", data := .seq its.toArray n } := by
  obtain ⟨z,its,n,r,e⟩ := I.hok l _ hH
  exact ⟨z,its,n,r,r.length,e⟩
end
section
variable {X : Cx}
def rAppend : V -> List V -> Hp -> VK -> Prop := fun x vs H Q => ∃ l xs y,x = .ref l /\ vs = [y] /\ H l = some (.lst xs) /\ xs.length < sizeLine /\ Q .non (upd H l (.lst (xs ++ [y])))
theorem mt_append : MtM X "list.append" rAppend := by
  intro pins s U H x vs v us Q I rx rv h
  obtain ⟨l,xs,y,rfl,rfl,hH,hz,q⟩ := h
  cases rx
  obtain ⟨u,rfl,ru⟩ := rv.one
  obtain ⟨z,its,n,r,hl,e⟩ := I.lstM hH
  refine call_meets F.slot_list_append ⟨_,e,rfl⟩ F.entry_list_append (F.args_list_append_2 _ _) (PySem.list_append l its.toArray n u (by rw [List.size_toArray]; omega)) ⟨e,?_⟩
  refine ⟨.non,_,I.lset (its' := its ++ [u]) hH e (by simp) (r.append (.cons ru .nil)) ?_,rfl,q⟩
  rw [List.length_append,List.length_singleton]
  omega
end
section
variable {prog : Program} {w : World} {A : Around} {E : Value -> Shared -> Prop} {s : Shared}
end
section
variable {X : Cx}
end
end L2
namespace L2
open PySem PySem.Spec PyProof.Rows
section
variable {κ : Type} [DecidableEq κ]
def valV (kvs : List (κ × V)) (k : κ) : Option V := (kvs.find? fun kv => decide (kv.1 = k)).map (·.2)
def putK (kvs : List (κ × V)) (k : κ) (v : V) : List (κ × V) :=
  if (kvs.any fun kv => decide (kv.1 = k)) = true then kvs.map (fun kv => if kv.1 = k then (kv.1,v) else kv) else kvs ++ [(k,v)]
theorem valV_pos {p : κ × V} {r : List (κ × V)} {k : κ} (e : p.1 = k) : valV (p :: r) k = some p.2 := by simp [valV,List.find?_cons,e]
theorem valV_neg {p : κ × V} {r : List (κ × V)} {k : κ} (e : ¬ p.1 = k) : valV (p :: r) k = valV r k := by simp [valV,List.find?_cons,e]
theorem valV_any (k : κ) : ∀ kvs : List (κ × V),(kvs.any fun kv => decide (kv.1 = k)) = (valV kvs k).isSome
  | [] => rfl
  | p :: r => by
    rw [List.any_cons]
    by_cases e : p.1 = k
    . simp only [valV_pos e,decide_eq_true e,Bool.true_or,Option.isSome_some]
    . rw [valV_neg e,decide_eq_false e,Bool.false_or]; exact valV_any k r
theorem length_putK (kvs : List (κ × V)) (k : κ) (v : V) : (putK kvs k v).length <= kvs.length + 1 := by
  unfold putK
  split
  . rw [List.length_map]; omega
  . rw [List.length_append,List.length_cons,List.length_nil]; omega
theorem RelO.isSome_eq {o : Option V} {u : Option Value} (r : RelO o u) : o.isSome = u.isSome := by
  cases o with
  | none => cases u with
    | none => rfl
    | some _ => exact (show False from r).elim
  | some _ => cases u with
    | none => exact (show False from r).elim
    | some _ => rfl
theorem KV.val {kvs : List (κ × V)} {vs : List (κ × Value)} (r : KV kvs vs) (k : κ) : RelO (valV kvs k) (valueAt vs k) := by
  unfold KV at r
  induction r with
  | nil => exact True.intro
  | @cons p q ps qs h t ih =>
    obtain ⟨h1,h2⟩ := h
    by_cases e : p.1 = k
    . have e' : q.1 = k := h1.symm.trans e
      have b : valueAt (q :: qs) k = some q.2 := by simp [valueAt,List.find?_cons,e']
      rw [valV_pos e,b]; exact h2
    . have e' : ¬ q.1 = k := fun z => e (h1.trans z)
      have b : valueAt (q :: qs) k = valueAt qs k := by simp [valueAt,List.find?_cons,e']
      rw [valV_neg e,b]; exact ih
theorem KV.any {kvs : List (κ × V)} {vs : List (κ × Value)} (r : KV kvs vs) (k : κ) : (kvs.any fun kv => decide (kv.1 = k)) = vs.any fun kv => decide (kv.1 = k) := by
  unfold KV at r
  induction r with
  | nil => rfl
  | cons h t ih => rw [List.any_cons,List.any_cons,ih,h.1]
theorem KV.repl {kvs : List (κ × V)} {vs : List (κ × Value)} (r : KV kvs vs) (k : κ) {y : V} {u : Value} (ry : RelV y u) :
    KV (kvs.map fun kv => if kv.1 = k then (kv.1,y) else kv) (vs.map fun kv => if kv.1 = k then (kv.1,u) else kv) := by
  unfold KV at r ⊢
  induction r with
  | nil => exact .nil
  | @cons p q ps qs h t ih =>
    rw [List.map_cons,List.map_cons]
    refine .cons ?_ ih
    obtain ⟨h1,h2⟩ := h
    by_cases e : p.1 = k
    . rw [if_pos e,if_pos (h1.symm.trans e)]; exact ⟨h1,ry⟩
    . rw [if_neg e,if_neg (fun z => e (h1.trans z))]; exact ⟨h1,h2⟩
theorem KV.put {kvs : List (κ × V)} {vs : List (κ × Value)} (r : KV kvs vs) (k : κ) {y : V} {u : Value} (ry : RelV y u) : KV (putK kvs k y) (stored vs k u) := by
  unfold putK stored
  rw [r.any k]
  by_cases e : (vs.any fun kv => decide (kv.1 = k)) = true
  . rw [if_pos e,if_pos e]; exact r.repl k ry
  . rw [if_neg e,if_neg e]; exact Paired.snoc r ⟨rfl,ry⟩
theorem KV.length {kvs : List (κ × V)} {vs : List (κ × Value)} (r : KV kvs vs) : kvs.length = vs.length := Paired.length r
end
theorem kV_is {P : Program} {w : World} {k : Key} {u : Value} (r : RelV (kV k) u) : (mixKind P w).is k u = true := by
  cases k with
  | inl i => obtain ⟨t,e⟩ := (show ∃ t,u = Value.int i t from r); subst e; exact mixKind_int P w i t
  | inr x => obtain ⟨t,e⟩ := (show ∃ t,u = Value.str x t from r); subst e; exact mixKind_str P w x t
theorem items_are {P : Program} {w : World} : ∀ {ks : List Key} {us : List Value},Vals (ks.map kV) us -> ItemsAre (mixKind P w) ks us
  | [],_,r => by rw [List.map_nil] at r; cases r; exact .nil
  | k :: ks,_,r => by
    rw [List.map_cons] at r
    cases r with
    | cons h t => exact .cons (kV_is h) (items_are t)
abbrev KT (H : Hp) : List (List Key × V) -> List (List Key × Addr × Value) -> Prop := Paired fun p q => p.1 = q.1 /\ H q.2.1 = some (.tup (p.1.map kV)) /\ RelV p.2 q.2.2
theorem KT.val {H : Hp} {kvs : List (List Key × V)} {xs : List (List Key × Addr × Value)} (r : KT H kvs xs) (k : List Key) : RelO (valV kvs k) ((atKey xs k).map (·.2)) := by
  induction r with
  | nil => exact True.intro
  | @cons p q ps qs h t ih =>
    obtain ⟨h1,_,h2⟩ := h
    by_cases e : p.1 = k
    . have e' : q.1 = k := h1.symm.trans e
      have b : atKey (q :: qs) k = some q.2 := by simp [atKey,List.find?_cons,e']
      rw [valV_pos e,b]; exact h2
    . have e' : ¬ q.1 = k := fun z => e (h1.trans z)
      have b : atKey (q :: qs) k = atKey qs k := by simp [atKey,List.find?_cons,e']
      rw [valV_neg e,b]; exact ih
theorem KT.repl {H : Hp} {kvs : List (List Key × V)} {xs : List (List Key × Addr × Value)} (r : KT H kvs xs) (k : List Key) {y : V} {u : Value} (ry : RelV y u) :
    KT H (kvs.map fun kv => if kv.1 = k then (kv.1,y) else kv) (xs.map (putAt k u)) := by
  induction r with
  | nil => exact .nil
  | @cons p q ps qs h t ih =>
    rw [List.map_cons,List.map_cons]
    refine .cons ?_ ih
    obtain ⟨h1,h2,h3⟩ := h
    unfold putAt
    by_cases e : p.1 = k
    . rw [if_pos e,if_pos (h1.symm.trans e)]; exact ⟨h1,h2,ry⟩
    . rw [if_neg e,if_neg (fun z => e (h1.trans z))]; exact ⟨h1,h2,h3⟩
theorem KT.put {H : Hp} {kvs : List (List Key × V)} {xs : List (List Key × Addr × Value)} (r : KT H kvs xs) (k : List Key) {b : Addr} {y : V} {u : Value} (hb : H b = some (.tup (k.map kV))) (ry : RelV y u) :
    KT H (putK kvs k y) (storedH xs k b u) := by
  have e : (kvs.any fun kv => decide (kv.1 = k)) = (atKey xs k).isSome := by
    rw [valV_any,(r.val k).isSome_eq,Option.isSome_map]
  unfold putK storedH
  rw [e]
  by_cases q : (atKey xs k).isSome = true
  . rw [if_pos q,if_pos q]; exact r.repl k ry
  . rw [if_neg q,if_neg q]; exact Paired.snoc r ⟨rfl,hb,ry⟩
theorem KT.keeps {H H' : Hp} {kvs : List (List Key × V)} {xs : List (List Key × Addr × Value)} (r : KT H kvs xs) (ht : ∀ b ys,H b = some (.tup ys) -> H' b = some (.tup ys)) : KT H' kvs xs :=
  Paired.mapP r fun _ _ z => ⟨z.1,ht _ _ z.2.1,z.2.2⟩
section
variable {P : Program} {w : World} {H : Hp} {h : Heap} {a : Addr}
theorem rd_of {u : HO} (ok : HOk P w H h) (e : Rd H a u) : ObjOk P w H h a u := e.ok ok
theorem dk_rd {kvs : List (Key × V)} (ok : HOk P w H h) (e : Rd H a (.dK kvs)) : kvs.length <= sizeLine /\ (a == sysModules) = false /\ ∃ vs,KV kvs vs /\ h.DictOf (mixKind P w) a vs :=
  show ObjOk P w H h a (.dK kvs) from rd_of ok e
theorem dk_of {kvs : List (Key × V)} (ok : HOk P w H h) (e : H a = some (.dK kvs)) : kvs.length <= sizeLine /\ (a == sysModules) = false /\ ∃ vs,KV kvs vs /\ h.DictOf (mixKind P w) a vs := dk_rd ok (.inl e)
theorem key_of {ks : List Key} (ok : HOk P w H h) (e : H a = some (.tup (ks.map kV))) : (tupleKind (mixKind P w)).is h ks a := by
  obtain ⟨_,its,r,o,h1,h2,n,h3⟩ := (show ObjOk P w H h a (.tup (ks.map kV)) from ok a _ e)
  exact ⟨o,its.toArray,n,h1,h2,h3,by simpa using items_are r⟩
theorem dt_rd {kvs : List (List Key × V)} (ok : HOk P w H h) (e : Rd H a (.dT kvs)) : kvs.length <= sizeLine /\ (a == sysModules) = false /\
    ∃ xs,KT H kvs xs /\ h.DictOfH (tupleKind (mixKind P w)) a xs := by
  obtain ⟨z,y,xs,r,o,es,ep,h1,h2,h3,h4,h5⟩ := (show ObjOk P w H h a (.dT kvs) from rd_of ok e)
  refine ⟨z,y,xs,r,o,es,ep,h1,h2,h3,h4,fun x hx => ?_,h5⟩
  have all : ∀ {l : List (List Key × V)} {m : List (List Key × Addr × Value)},KT H l m -> ∀ x ∈ m,(tupleKind (mixKind P w)).is h x.1 x.2.1 := by
    intro l m q
    induction q with
    | nil => intro x hx; exact nomatch hx
    | @cons p q ps qs hq t ih =>
      intro x hx
      rcases List.mem_cons.mp hx with e | hx
      . subst e
        exact key_of ok (by rw [<- hq.1]; exact hq.2.1)
      . exact ih x hx
  exact all r x hx
theorem dt_of {kvs : List (List Key × V)} (ok : HOk P w H h) (e : H a = some (.dT kvs)) : kvs.length <= sizeLine /\ (a == sysModules) = false /\
    ∃ xs,KT H kvs xs /\ h.DictOfH (tupleKind (mixKind P w)) a xs := dt_rd ok (.inl e)
end
def DGet (H : Hp) (a : Addr) (y : V) (r : Option V) : Prop :=
  (∃ kvs k,Rd H a (.dK kvs) /\ y = kV k /\ r = valV kvs k) \/ ∃ kvs k b,Rd H a (.dT kvs) /\ y = .ref b /\ H b = some (.tup (k.map kV)) /\ r = valV kvs k
def DPut (H : Hp) (a : Addr) (y v : V) (H' : Hp) : Prop :=
  (∃ kvs k,H a = some (.dK kvs) /\ y = kV k /\ kvs.length < sizeLine /\ H' = upd H a (.dK (putK kvs k v))) \/
  ∃ kvs k b,H a = some (.dT kvs) /\ y = .ref b /\ H b = some (.tup (k.map kV)) /\ kvs.length < sizeLine /\ H' = upd H a (.dT (putK kvs k v))
theorem DGet.k {H : Hp} {a : Addr} {kvs : List (Key × V)} {k : Key} (e : H a = some (.dK kvs)) : DGet H a (kV k) (valV kvs k) := .inl ⟨kvs,k,.inl e,rfl,rfl⟩
theorem DGet.t {H : Hp} {a b : Addr} {kvs : List (List Key × V)} {k : List Key} (e : H a = some (.dT kvs)) (eb : H b = some (.tup (k.map kV))) : DGet H a (.ref b) (valV kvs k) := .inr ⟨kvs,k,b,.inl e,rfl,eb,rfl⟩
theorem DPut.k {H : Hp} {a : Addr} {kvs : List (Key × V)} {k : Key} {v : V} (e : H a = some (.dK kvs)) (hl : kvs.length < sizeLine) : DPut H a (kV k) v (upd H a (.dK (putK kvs k v))) := .inl ⟨kvs,k,e,rfl,hl,rfl⟩
theorem DPut.t {H : Hp} {a b : Addr} {kvs : List (List Key × V)} {k : List Key} {v : V} (e : H a = some (.dT kvs)) (eb : H b = some (.tup (k.map kV))) (hl : kvs.length < sizeLine) :
    DPut H a (.ref b) v (upd H a (.dT (putK kvs k v))) := .inr ⟨kvs,k,b,e,rfl,eb,hl,rfl⟩
section
variable {X : Cx} {pins : List (Addr × Obj)} {U : St} {H : Hp} {s : Shared} {a : Addr} {y v : V} {u r : Value} {o : Option V} {A : Around} {E : Value -> Shared -> Prop}
theorem Inv.big (I : Inv X pins U H s) : sysModules < s.heap.objs.size := by
  have h : mainGlobals < s.heap.objs.size := (I.mod.glob.keeps I.bk).lt
  exact Nat.lt_trans (by decide) h
theorem d_write {h' : Heap} {t' : Nat} {ob : HO} (I : Inv X pins U H s) (mu : Mut (H a)) (hs : Heap.SameBut a s.heap h') (he : ∃ q,h'.get? a = some q) (new : ObjOk X.prog X.w (upd H a ob) h' a ob) :
    Inv X pins U (upd H a ob) { s with heap := h',toks := t' } :=
  I.write (x := a) (e := a) mu (.inl rfl) (fun b q hb z => (hs.2 b hb).trans z) he new
theorem dk_new {P : Program} {w : World} {H' : Hp} {h' : Heap} {kvs : List (Key × V)} {vs : List (Key × Value)} (z : kvs.length <= sizeLine) (hd : (a == sysModules) = false) (rel : KV kvs vs) (dd : h'.DictOf (mixKind P w) a vs) :
    ObjOk P w H' h' a (.dK kvs) := ⟨z,hd,vs,rel,dd⟩
theorem d_setItem {H' : Hp} {Q : Unit -> Shared -> Prop} (hu : A.units + 1 < cLine) (I : Inv X pins U H s) (g : DPut H a y v H') (ry : RelV y u) (rv : RelV v r) (h : ∀ s',Inv X pins U H' s' -> Q () s') :
    wpAny (model X.prog X.w) A (setItem (.ref a) u r) Q E s := by
  rcases g with ⟨kvs,k,e,ey,l,eH⟩ | ⟨kvs,k,b,e,ey,eb,l,eH⟩
  . subst ey eH
    obtain ⟨z,hd,vs,rel,dd⟩ := dk_of I.hok e
    have hz : vs.length <= sizeLine := by rw [<- rel.length]; exact z
    have hl : (putK kvs k v).length <= sizeLine := by have := length_putK kvs k v; omega
    refine wpAny_setItem_pairs (hsz := hz) (kV_is ry) dd fun h' dd' hs => h _ ?_
    have he : ∃ q,h'.get? a = some q := let ⟨q,_,_,hq,_⟩ := dd'; ⟨q,hq⟩
    exact d_write I (by rw [e]; exact True.intro) hs he (dk_new hl hd (rel.put k rv) dd')
  . subst ey eH
    cases (show u = Value.ref b from ry)
    obtain ⟨z,hd,xs,rel,dd⟩ := dt_of I.hok e
    have hz : xs.length <= sizeLine := by rw [<- Paired.length rel]; exact z
    have hl : (putK kvs k v).length <= sizeLine := by have := length_putK kvs k v; omega
    refine wpAny_setItem_heap (hsz := hz) (tupleKind_room_in1 hu) (key_of I.hok eb) dd fun h' dd' hs => h _ ?_
    obtain ⟨q,es,ep,hq,h2,h3,h4,_,h5⟩ := dd'
    refine d_write I (by rw [e]; exact True.intro) hs ⟨q,hq⟩ ⟨hl,hd,_,(rel.put k eb rv).keeps fun c ys ec => ?_,q,es,ep,hq,h2,h3,h4,h5⟩
    rw [upd_ne (ne_of ec e (fun z => nomatch z))]
    exact ec
end
section
variable {X : Cx} {pins : List (Addr × Obj)} {U : St} {H : Hp} {s : Shared} {a : Addr} {kvs : List (Key × V)} {k : Key} {u : Value} {A : Around} {E : Value -> Shared -> Prop}
end
section
variable {X : Cx} {o i e value : Expr} {pos pos' tpos : Pos} {td ty tv : TE}
end
theorem dk_empty {P : Program} {w : World} {H : Hp} (h : Heap) (hb : sysModules < h.objs.size) : ObjOk P w H (h.push { cls := .type "dict", data := .dict #[] }) h.objs.size (.dK []) :=
  ⟨Nat.zero_le _,beq_eq_false_iff_ne.mpr (Ne.symm (Nat.ne_of_lt hb)),[],.nil,Heap.DictOf.new h⟩
def tDNewK : TE := fun _ H Q => ∀ p,H p = none -> Q (.ref p) (upd H p (.dK []))
section
variable {X : Cx} {pos : Pos}
theorem pe_dnewK : PE X (.Dict [] [] pos) tDNewK := fun pins s U H Q I h =>
  wpAny_Dict_empty ⟨.ref s.heap.objs.size,_,I.laid (a := s.heap.objs.size) (o := .dK []) (t' := s.toks) (fun _ _ q => Heap.get?_push_of_some _ q) (Nat.le_refl _) (dk_empty s.heap I.big),rfl,h _ (I.hok.fresh (Nat.le_refl _))⟩
end
structure M1 (X : Cx) (o : Expr) (m : Str) (apos : Pos) (e : Expr) (cpos : Pos) : Prop where
  base : attributeBase o m X.env (eval o X.env) = eval o X.env
  few : ((backTo cpos (starEach [e] X.env)).all (fun x => !x.1) && (backToKw cpos (keywordEach [] X.env)).all (fun x => x.1.isSome)
    && decide (([e] : List Expr).length + ([] : List Keyword).length + (if ([] : List Keyword).isEmpty then 0 else 1) < 30)) = true
  line : (apos.endLine == cpos.line) = true
  trees : backTo cpos (starEach [e] X.env) = [(false,eval e X.env)]
structure M2 (X : Cx) (o : Expr) (m : Str) (apos : Pos) (e f : Expr) (cpos : Pos) : Prop where
  base : attributeBase o m X.env (eval o X.env) = eval o X.env
  few : ((backTo cpos (starEach [e,f] X.env)).all (fun x => !x.1) && (backToKw cpos (keywordEach [] X.env)).all (fun x => x.1.isSome)
    && decide (([e,f] : List Expr).length + ([] : List Keyword).length + (if ([] : List Keyword).isEmpty then 0 else 1) < 30)) = true
  line : (apos.endLine == cpos.line) = true
  trees : backTo cpos (starEach [e,f] X.env) = [(false,eval e X.env),(false,eval f X.env)]
section
variable {X : Cx} {pins : List (Addr × Obj)} {U : St} {H : Hp} {s : Shared} {a : Addr} {y d : V} {u r : Value} {o : Option V} {A : Around} {E : Value -> Shared -> Prop}
end
section
variable {X : Cx} {o e f : Expr} {apos cpos : Pos} {td ty tx : TE}
end
section
variable {X : Cx} {pins : List (Addr × Obj)} {U : St} {H : Hp} {s : Shared} {a : Addr} {kvs : List (Key × V)} {A : Around} {E : Value -> Shared -> Prop}
end
section
variable {X : Cx} {pins : List (Addr × Obj)} {U : St} {H : Hp} {s : Shared} {a : Addr} {y : V} {u : Value} {A : Around} {E : Value -> Shared -> Prop}
end
end L2
namespace Att
open PySem PySem.W PySem.Calls PyProof.Rows
theorem ints_of_wellAll {P : Params} {h : Heap} : ∀ (ns : List Int) (vs : List Value),WellAll P h vs (ns.map WData.int) -> IntsAre vs ns := by
  intro ns
  induction ns with
  | nil =>
    intro vs w
    rw [List.map_nil] at w
    cases w
    exact .nil
  | cons n ns ih =>
    intro vs w
    rw [List.map_cons] at w
    cases w with
    | cons a b =>
      cases a
      exact .cons _ _ (ih _ b)
theorem script_of {l : OpenLaw} {n : Nat} (hn : l.most = some n) {P : Params} {h : Heap} {args : List WData} {vals : List Value}
    (hpre : l.row.toRowW.claim.pre args = true) (hwl : WellAll P h vals args) :
    ∃ a vs ns, vals = [Value.ref a] /\ args = [WData.list (ns.map WData.int)] /\ h.get? a = some { cls := .type "list", data := .seq vs.toArray } /\ IntsAre vs ns /\ ns.length <= n := by
  have hsh : WShape.hasAll [] args [.list .int] = true := (pre_splitW hpre).1
  have hc : l.pre.holds [] { args := args } = true := (pre_splitW hpre).2
  obtain ⟨d,r,rfl,h1,h2⟩ := hasAllW_cons hsh
  obtain rfl := hasAllW_nil h2
  obtain ⟨xs,rfl,h3⟩ := hasW_list h1
  obtain ⟨ns,rfl⟩ := items_int h3
  have hlen : ns.length <= n := by
    unfold OpenLaw.pre at hc
    have h4 : (WTm.not (.lt (.lit (.int (n : Int))) (.len (.arg 0)))).holds [] { args := [.list (ns.map .int)] } = true := by
      have h4 := (holds_andW hc).1
      rw [hn] at h4
      exact h4
    have h5 := condW_of h4 (w_not (w_lt w_lit (w_len_list (w_arg rfl))))
    rw [List.length_map] at h5
    refine Nat.le_of_not_lt fun q => ?_
    have q' : (n : Int) < ((ns.length : Nat) : Int) := by omega
    first
      | (rw [decide_eq_true q'] at h5; exact absurd h5 (by decide))
      | (simp at h5; omega)
  cases hwl with
  | cons w1 w2 =>
    cases w2
    cases w1 with
    | list ho hall => exact ⟨_,_,ns,rfl,rfl,ho,ints_of_wellAll ns _ hall,hlen⟩
theorem post_true (l : OpenLaw) (args : List WData) : l.row.toRowW.claim.post args (.bool true) args = true :=
  postW_of (r := l.row.toRowW) (X := (true == true))
    (show WShape.has [] (.bool true) .bool = true by first | rfl | decide | simp [WShape.has,WShape.arms,WShape.armsAll])
    (show (WTm.eq .res (.lit (.bool true))).value [] { args := args,res := some (.bool true),after := args } = some (.bool (true == true)) from w_eq_bool (w_res rfl) w_lit) rfl
theorem attach_call {l : OpenLaw} {n : Nat} {q : Program} {loose : List Str} {XP : (Str -> Option Value) -> Heap -> Prop} {YP : World -> Heap -> Prop} {d : DefRec}
    (hn : l.most = some n) (hdf : d.params.defaults = [])
    (call : ∀ (w : World) (s₀ s₁ : Shared) (mg mb : Str -> Option Value) (fa : Addr) (o : Obj) (pm cd doc : Value) (a : Addr) (vs : List Value) (ns : List Int),
      Ground q loose [] XP w s₀ mg mb s₁.heap -> YP w s₁.heap ->
      s₁.heap.get? fa = some o -> o.data = .func (docDef d.name d.params d.body d.scope pm cd doc) -> s₁.heap.CodeRec cd d.name -> mg d.name = some (.ref fa) ->
      s₁.heap.get? a = some { cls := .type "list", data := .seq vs.toArray } -> IntsAre vs ns -> ns.length <= n -> s₁.gens = #[] ->
      codeAny (model l.prog w) callerA (.call (.ref fa) ⟨[.ref a],[]⟩) (fun r s' => r = .ok (.ret (.bool true)) /\ OldK s₁.heap s'.heap /\ s'.os = s₁.os /\ AllBare s'.gens) s₁) :
    WalkO q loose XP YP l.row.toRowW d [] (fun f vs => PySem.call f vs) := by
  intro w s₀ s₁ mg mb G Y fa o pm cd doc dV kV ho hd hcd hD hmg hg args vals as hpre hlay hrd hwl hlo
  obtain rfl : dV = .none := Dflts.none hD hdf
  obtain rfl : kV = .none := Dflts.noKw hD
  obtain ⟨a,vs,ns,rfl,rfl,hobj,hints,hlen⟩ := script_of hn hpre hwl
  refine enter_call (codeAny_mono (call w s₀ s₁ mg mb fa o pm cd doc a vs ns G Y ho (fd_plain hd) hcd hmg hobj hints hlen hg) fun r s' hq => ?_)
  obtain ⟨rfl,h2,h3,h4⟩ := hq
  exact ⟨.inl ⟨.bool true,.bool true,[],rfl,fun _ => rfl,.bool true,post_true l _,fun _ => ⟨List.Pairwise.nil,fun _ hm => (nomatch hm)⟩⟩,h2,h3,h4⟩
section
variable {prog : Program} {w : World} {A : Around} {E : Value -> Shared -> Prop} {s : Shared} {K : Frag}
end
end Att
namespace L2
open PySem PySem.Spec PyProof.Rows
theorem vals_ints : ∀ {vs : List Value} {ns : List Int},IntsAre vs ns -> Vals (ns.map V.int) vs
  | _,_,.nil => .nil
  | _,_,.cons n t h => .cons ⟨t,rfl⟩ (vals_ints h)
def Only (H : Hp) : Prop := ∀ b,H b = none \/ ∃ o xs,H b = some (.frz o (.lst xs))
theorem law_call {P : Program} {w : World} {K : PySem.W.Frag} {mg mb : Str -> Option Value} {CX : CXT} {k : Nat} {fa a : Addr} {fd : FuncData} {x : Str} {sp : Sp} {s₁ : Shared} {vs : List Value} {ns : List Int}
    (KX : K.In s₁.heap) (hns : s₁.heap.Ns mainGlobals mg) (hb : s₁.heap.Ns builtinsNs mb) (hbb : ∀ x : Str, x ≠ "__name__" -> mb x = bootBuiltins x) (hlim : s₁.heap.NoLimit) (hg : s₁.gens = #[])
    (ha : s₁.heap.get? a = some { cls := .type "list", data := .seq vs.toArray }) (hi : IntsAre vs ns) (hl : ns.length <= sizeLine) (hr : Room k callerA)
    (F : ∀ base : Heap,K.In base -> base.Ns mainGlobals mg -> FnOk P w K mg base CX k fa fd [x] sp) (hbind : ∀ (s : Shared) (u : Value),BindsTo s fd ⟨[u],[]⟩ [(x,u)])
    (hsp : ∀ H : Hp,Only H -> SqL K H a (ns.map V.int) -> sp [.ref a] H (fun v _ => v = .bl true) fun _ _ _ => False)
    (hCX : ∀ H e s',CX [] H s₁ (fun _ _ _ => False) e s' -> False) :
    codeAny (model P w) callerA (.call (.ref fa) ⟨[.ref a],[]⟩) (fun r s' => r = .ok (.ret (.bool true)) /\ OldK s₁.heap s'.heap /\ s'.os = s₁.os /\ AllBare s'.gens) s₁ := by
  have rv := vals_ints hi
  have lenV := hi.length
  have core : ∀ H : Hp,Only H -> SqL K H a (ns.map V.int) -> HOk P w H s₁.heap -> (∀ b,H b ≠ none -> b = a) -> (H a ≠ none -> K.lookup a = none) ->
      codeAny (model P w) callerA (.call (.ref fa) ⟨[.ref a],[]⟩) (fun r s' => r = .ok (.ret (.bool true)) /\ OldK s₁.heap s'.heap /\ s'.os = s₁.os /\ AllBare s'.gens) s₁ := by
    intro H hO hS hok hA hK
    have base_of : ∀ {b : Addr} {o : Obj},s₁.heap.get? b = some o -> H b = none -> (hidT s₁.heap H).get? b = some o := fun e n => hidT_get e n
    have noA : ∀ {b : Addr} {o : Obj} {es : Array DictEntry} {ep : Nat},s₁.heap.get? b = some o -> o.data = .dict es ep -> H b = none := fun {b o es ep} e d => by
      cases q : H b with
      | none => rfl
      | some u =>
        have e' : b = a := hA b (by rw [q]; simp)
        subst e'
        rw [ha] at e; cases e
        have d' : Data.seq vs.toArray _ = Data.dict es ep := d
        cases d'
    have nsK : ∀ {b : Addr} {m : Str -> Option Value},s₁.heap.Ns b m -> (hidT s₁.heap H).Ns b m := fun {b m} ⟨o,es,ep,e,d,r⟩ => ⟨o,es,ep,base_of e (noA e d),d,r⟩
    have hKb : K.In (hidT s₁.heap H) := fun b o e => base_of (KX b o e) (by
      cases q : H b with
      | none => rfl
      | some u =>
        have e' : b = a := hA b (by rw [q]; simp)
        subst e'
        rw [hK (by rw [q]; simp)] at e; cases e)
    have hM : Mod K mg (hidT s₁.heap H) := ⟨hKb,nsK hns,⟨mb,nsK hb,hbb⟩,let ⟨mc,h1,h2⟩ := hlim; ⟨mc,nsK h1,h2⟩⟩
    have e0 : Env0 P w K mg (hidT s₁.heap H) callerA [] s₁ H := ⟨rfl,hM,fun b o e => of_hidT e,Nat.le_of_eq (hidT_size _ _),trivial,fun b hb => absurd (show b ∈ ([] : List Addr) from hb) (by simp),hok,.of_eq hg⟩
    refine codeAny_mono ((F _ hKb (nsK hns)).run callerA [] s₁ H ⟨[.ref a],[]⟩ [.ref a] [.ref a] _ _ hr e0 (hbind s₁ (.ref a)) (.cons rfl .nil) (hsp H hO hS)) fun r s' h => ?_
    cases r with
    | error e => exact (hCX H e s' h).elim
    | ok fl =>
      cases fl with
      | next => exact False.elim h
      | brk => exact False.elim h
      | cont => exact False.elim h
      | ret u =>
        obtain ⟨v,H',os,bare,un,hok',r',q⟩ := h
        have q' : v = .bl true := q
        subst q'
        obtain rfl : u = Value.bool true := r'
        refine ⟨rfl,OldK.of_keep fun b o e => ?_,os,bare⟩
        cases q : H b with
        | none => exact un.keep b o e q (by intro z; exact absurd (show b ∈ ([] : List Addr) from z) (by simp)) (by simp)
        | some u =>
          rcases hO b with z | ⟨ob,xs,z⟩
          . rw [q] at z; cases z
          . have z2 := un.frzs b ob _ z
            obtain ⟨e1,_⟩ := hok b _ z
            obtain ⟨e2,_⟩ := hok' b _ z2
            rw [e] at e1; cases e1
            exact e2
  cases hk : K.lookup a with
  | some o =>
    have e := KX a o hk
    rw [ha] at e
    cases e
    refine core (fun _ => none) (fun _ => .inl rfl) (.inr ⟨_,vs.toArray,_,hk,rfl,rfl,rfl,by rw [List.size_toArray,lenV]; exact hl,by simpa using rv⟩) (fun b u z => by have z' : (none : Option HO) = some u := z; cases z') (fun b z => absurd rfl z) fun z => absurd rfl z
  | none =>
    refine core (fun b => if b = a then some (.frz { cls := .type "list", data := .seq vs.toArray } (.lst (ns.map V.int))) else none) (fun b => ?_) (.inl (.inr ⟨{ cls := .type "list", data := .seq vs.toArray }, if_pos rfl⟩)) (fun b u z => ?_) (fun b z => ?_) fun _ => hk
    . by_cases hb : b = a
      . exact .inr ⟨_,_,if_pos hb⟩
      . exact .inl (if_neg hb)
    . by_cases hb : b = a
      . have z' := (if_pos hb).symm.trans z
        cases z'
        subst hb
        exact ⟨ha,by rw [List.length_map]; exact hl,vs,_,rv,ha⟩
      . have z' := (if_neg hb).symm.trans z
        cases z'
    . by_cases hb : b = a
      . exact hb
      . exact absurd (if_neg hb) z
end L2
namespace L2
open PySem PySem.Spec PyProof.Rows
theorem walk_of {l : PySem.W.OpenLaw} {n k : Nat} {q : Program} {loose : List Str} {XP : (Str -> Option Value) -> Heap -> Prop} {YP : World -> Heap -> Prop} {d : DefRec} {K : Params -> PySem.W.Frag} {CX : World -> CXT} {sp : World -> Sp} {x : Str}
    (hn : l.most = some n) (hn2 : n <= sizeLine) (hdf : d.params.defaults = []) (hr : Room k callerA)
    (hY : ∀ (w : World) (h : Heap),YP w h -> (K w.params).In h)
    (F : ∀ (w : World) (mg : Str -> Option Value) (fa : Addr) (h : Heap),(K w.params).In h -> h.Ns mainGlobals mg -> mg d.name = some (.ref fa) ->
      ∃ fd : FuncData,(∀ (s : Shared) (u : Value),BindsTo s fd ⟨[u],[]⟩ [(x,u)]) /\
        ∀ base : Heap,(K w.params).In base -> base.Ns mainGlobals mg -> FnOk l.prog w (K w.params) mg base (CX w) k fa fd [x] (sp w))
    (hsp : ∀ (w : World) (H : Hp) (a : Addr) (ns : List Int),ns.length <= n -> Only H -> SqL (K w.params) H a (ns.map V.int) -> sp w [.ref a] H (fun v _ => v = .bl true) fun _ _ _ => False)
    (hCX : ∀ (w : World) (H : Hp) (s : Shared) (e : Value) (s' : Shared),CX w [] H s (fun _ _ _ => False) e s' -> False) :
    PySem.W.WalkO q loose XP YP l.row.toRowW d [] (fun f vs => PySem.call f vs) := by
  refine Att.attach_call hn hdf fun w s₀ s₁ mg mb fa o pm cd doc a vs ns G Y ho hd hcd hmg hobj hints hlen hg => ?_
  have KX := hY w _ Y
  obtain ⟨fd,hb,hF⟩ := F w mg fa _ KX G.T.g hmg
  exact law_call KX G.T.g G.T.b G.T.builtins G.T.nolimit hg hobj hints (Nat.le_trans hlen hn2) hr hF hb (fun H hO hS => hsp w H a ns hlen hO hS) fun H e s' => hCX w H s₁ e s'
end L2
namespace L2
open PySem PySem.Spec PyProof.Rows
def defArgs (s : Stmt) : Arguments := match s with
  | .FunctionDef _ a _ _ _ _ _ _ _ _ => a
  | _ => { posonlyargs := [],args := [],vararg := none,kwonlyargs := [],kw_defaults := [],kwarg := none,defaults := [] }
def defBody (s : Stmt) : List Stmt := match s with
  | .FunctionDef _ _ b _ _ _ _ _ _ _ => b
  | _ => []
def defScope (s : Stmt) : Scope := match s with
  | .FunctionDef _ _ _ _ _ _ sc _ _ _ => sc
  | _ => { kind := .function,names := [],isGenerator := false,isCoroutine := false }
abbrev CX0 : CXT := fun _ _ _ _ _ _ => False
structure Fun (K : PySem.W.Frag) (x qual : Str) (st : Stmt) (f : Addr) (fd : FuncData) : Prop where
  ex : ∃ (oc : Value) (od : Option Addr) (kV doc pm : Value) (an : Option Addr) (cdv ct : Value) (osl : Array (Option Value)),
    fd = PySem.W.fnOf x qual (defArgs st) (defBody st) (defScope st) .none kV doc pm an cdv ct /\ K.lookup f = some ⟨oc,od,.func fd,osl⟩ /\ PySem.W.codeIn K cdv qual = true
  kp : PySem.W.keepIn K (.ref f) = true
section
variable {P : Program} {w : World} {K : PySem.W.Frag} {mg : Str -> Option Value} {base : Heap}
theorem Fun.binds {x qual : Str} {st : Stmt} {f : Addr} {fd : FuncData} {ps : List Str} (F : Fun K x qual st f fd)
    (h : ∀ (kV doc pm : Value) (an : Option Addr) (cdv ct : Value) (us : List Value),us.length = ps.length -> bindArgs (PySem.W.fnOf x qual (defArgs st) (defBody st) (defScope st) .none kV doc pm an cdv ct) ⟨us,[]⟩ = pure (ps.zip us)) : Binds K fd ps [] := by
  obtain ⟨oc,od,kV,doc,pm,an,cdv,ct,osl,rfl,lk,hcd⟩ := F.ex
  exact .all (h kV doc pm an cdv ct)
theorem fun_mk {x qual : Str} {st : Stmt} {f : Addr} {oc : Value} {od an : Option Addr} {osl : Array (Option Value)} {kV doc pm cdv ct : Value} (l : K.lookup f = some ⟨oc,od,.func (PySem.W.fnOf x qual (defArgs st) (defBody st) (defScope st) .none kV doc pm an cdv ct),osl⟩)
    (c : PySem.W.codeIn K cdv qual = true) (k : PySem.W.keepIn K (.ref f) = true) : Fun K x qual st f (PySem.W.fnOf x qual (defArgs st) (defBody st) (defScope st) .none kV doc pm an cdv ct) := ⟨⟨oc,od,kV,doc,pm,an,cdv,ct,osl,rfl,l,c⟩,k⟩
end
section
variable {X : Cx}
end
def Same (H H' : Hp) : Prop := ∀ b o,H b = some o -> H' b = some o
theorem Same.trans {H H1 H2 : Hp} (a : Same H H1) (b : Same H1 H2) : Same H H2 := fun c o h => b c o (a c o h)
theorem Same.free {H H' : Hp} (e : Same H H') {l : Addr} (h : H' l = Option.none) : H l = Option.none := by
  cases q : H l with
  | none => rfl
  | some o =>
    rw [e l o q] at h
    cases h
section
variable {κ : Type} [DecidableEq κ]
end
end L2
end
section
namespace Fg
open PySem
abbrev Ky := Sum Int Str
inductive D where
  | non
  | bl (b : Bool)
  | int (i : Int)
  | str (x : Str)
  | tup (ds : List D)
  | lst (ds : List D)
  | dct (ks : List Ky) (ds : List D)
  | ref (n : Nat)
mutual
def same : D -> D -> Bool
  | .non,.non => true
  | .bl a,.bl b => decide (a = b)
  | .int a,.int b => decide (a = b)
  | .str a,.str b => decide (a = b)
  | .tup a,.tup b => sames a b
  | .lst a,.lst b => sames a b
  | .dct k a,.dct l b => decide (k = l) && sames a b
  | .ref a,.ref b => decide (a = b)
  | _,_ => false
def sames : List D -> List D -> Bool
  | [],[] => true
  | a :: as,b :: bs => same a b && sames as bs
  | _,_ => false
end
mutual
theorem same_eq : ∀ (a b : D),same a b = true -> a = b
  | .non,b,h => by cases b <;> simp [same] at h ⊢
  | .bl x,b,h => by cases b <;> simp [same] at h ⊢; exact h
  | .int x,b,h => by cases b <;> simp [same] at h ⊢; exact h
  | .str x,b,h => by cases b <;> simp [same] at h ⊢; exact h
  | .tup x,b,h => by cases b <;> simp [same] at h ⊢; exact sames_eq _ _ h
  | .lst x,b,h => by cases b <;> simp [same] at h ⊢; exact sames_eq _ _ h
  | .dct k x,b,h => by cases b <;> simp [same] at h ⊢; exact ⟨h.1,sames_eq _ _ h.2⟩
  | .ref x,b,h => by cases b <;> simp [same] at h ⊢; exact h
theorem sames_eq : ∀ (a b : List D),sames a b = true -> a = b
  | [],b,h => by cases b <;> simp [sames] at h ⊢
  | x :: xs,b,h => by
    cases b with
    | nil => simp [sames] at h
    | cons y ys => simp only [sames,Bool.and_eq_true] at h; rw [same_eq x y h.1,sames_eq xs ys h.2]
end
mutual
theorem same_refl : ∀ (a : D),same a a = true
  | .non => by simp [same]
  | .bl x => by simp [same]
  | .int x => by simp [same]
  | .str x => by simp [same]
  | .tup x => by simp only [same]; exact sames_refl x
  | .lst x => by simp only [same]; exact sames_refl x
  | .dct k x => by simp only [same,sames_refl x]; simp
  | .ref x => by simp [same]
theorem sames_refl : ∀ (a : List D),sames a a = true
  | [] => by simp [sames]
  | x :: xs => by simp only [sames,same_refl x,sames_refl xs,Bool.and_self]
end
instance : DecidableEq D := fun a b => decidable_of_iff (same a b = true) ⟨same_eq a b,fun h => h ▸ same_refl a⟩
inductive MO where
  | lst (ds : List D)
  | dct (kvs : List (Ky × D))
  | dwk (kvs : List (Ky × D))
  | ins (c : Nat) (fs : List (Str × D))
  deriving DecidableEq
abbrev MH := List MO
abbrev Sg := List (Option D)
inductive R (α : Type) where
  | ok (a : α) (M : MH)
  | exc (c : Nat) (M : MH)
  | bad
def R.bind {α β : Type} (x : R α) (f : α -> MH -> R β) : R β :=
  match x with
  | .ok a M => f a M
  | .exc c M => .exc c M
  | .bad => .bad
@[simp] theorem R.bind_ok {α β : Type} (a : α) (M : MH) (f : α -> MH -> R β) : (R.ok a M).bind f = f a M := rfl
@[simp] theorem R.bind_exc {α β : Type} (c : Nat) (M : MH) (f : α -> MH -> R β) : (R.exc c M : R α).bind f = .exc c M := rfl
@[simp] theorem R.bind_bad {α β : Type} (f : α -> MH -> R β) : (R.bad : R α).bind f = .bad := rfl
inductive Op2 where
  | add | sub | mul | fdiv | mod | pow
inductive Cmp where
  | eq | ne | lt | le | gt | ge | isin | notin | isN | notN
inductive Ty where
  | int | str | bool | list | tuple | dict
inductive Bl where
  | len | sum | tuple | list | dict | str | int | abs | max | min | sorted | all | any | repr
inductive Mt where
  | append | extend | pop | clear | get | join | startswith | replace | split | index | count
mutual
inductive E where
  | v (i : Nat)
  | k (d : D)
  | g (i : Nat)
  | tup (es : Es)
  | lst (fz : Bool) (es : Es)
  | dct0
  | op (o : Op2) (fz : Bool) (a b : E)
  | neg (a : E)
  | cmp (o : Cmp) (a b : E)
  | chain (o o' : Cmp) (a b c : E)
  | and (a b : E)
  | or (a b : E)
  | not (a : E)
  | tru (a : E)
  | ife (c a b : E)
  | idx (a b : E)
  | sl (fz : Bool) (a : E) (lo hi : O)
  | call (f : Nat) (es : Es)
  | isi (a : E) (t : Ty)
  | blt (b : Bl) (fz : Bool) (es : Es)
  | mth (m : Mt) (fz : Bool) (a : E) (es : Es)
  | comp (fz : Bool) (caps : List Nat) (tg : List Nat) (elt : E) (it : Src) (cond : O)
  | fld (a : E) (f : Str)
  | umt (c m : Nat) (nm : Str) (a : E) (es : Es)
  | new (c i : Nat) (es : Es)
  | mx (hi : Bool) (a b : E)
  | lrg (fz : Bool) (a b : E)
  | all1 (a : E)
  | bad
inductive Es where
  | nil
  | cons (e : E) (es : Es)
inductive O where
  | none
  | some (e : E)
inductive Src where
  | e (a : E)
  | rng (a : E)
  | rng2 (a b : E)
  | enum (a : E)
  | items (a : E)
  | rev (a : E)
  | zip (a b : E)
end
mutual
inductive S where
  | set (i : Nat) (e : E)
  | seti (a b e : E)
  | setf (a : E) (f : Str) (e : E)
  | unp (tg : List Nat) (e : E)
  | ex (e : E)
  | ret (e : E)
  | ret0
  | ifs (c : E) (a b : Ss)
  | for (tg : List Nat) (it : Src) (b : Ss)
  | while (c : E) (b : Ss)
  | brk
  | cont
  | pass
  | raise (c : Nat) (es : Es)
  | try (b : Ss) (hs : Hs) (els : Ss)
  | bad
inductive Ss where
  | nil
  | cons (s : S) (ss : Ss)
inductive Hs where
  | nil
  | cons (cs : List Nat) (b : Ss) (hs : Hs)
end
inductive Out where
  | nx (U : Sg)
  | rt (d : D)
  | bk (U : Sg)
  | ct (U : Sg)
  | xc (c : Nat) (U : Sg)
def R.use {α : Type} (x : R α) (U : Sg) (f : α -> MH -> R Out) : R Out :=
  match x with
  | .ok a M => f a M
  | .exc c M => .ok (.xc c U) M
  | .bad => .bad
@[simp] theorem R.use_ok {α : Type} (a : α) (M : MH) (U : Sg) (f : α -> MH -> R Out) : (R.ok a M).use U f = f a M := rfl
@[simp] theorem R.use_exc {α : Type} (c : Nat) (M : MH) (U : Sg) (f : α -> MH -> R Out) : (R.exc c M : R α).use U f = .ok (.xc c U) M := rfl
@[simp] theorem R.use_bad {α : Type} (U : Sg) (f : α -> MH -> R Out) : (R.bad : R α).use U f = .bad := rfl
inductive Vw where
  | tup (ds : List D)
  | lst (ds : List D)
  | dct (kvs : List (Ky × D))
  | none
def vw (M : MH) : D -> Vw
  | .tup ds => .tup ds
  | .lst ds => .lst ds
  | .dct ks ds => .dct (ks.zip ds)
  | .ref n => match M[n]? with
    | some (.lst ds) => .lst ds
    | some (.dct kvs) => .dct kvs
    | some (.dwk kvs) => .dct kvs
    | _ => .none
  | _ => .none
def line : Nat := 1000000
def small (i : Int) : Bool := decide (i.natAbs < 18446744073709551616)
def num2 : Op2 -> Int -> Int -> Option Int
  | .add,i,j => some (i + j)
  | .sub,i,j => some (i - j)
  | .mul,i,j => if small i || small j then some (i * j) else none
  | .fdiv,i,j => if decide (0 < j) && decide (j.natAbs < 1073741824) then some (i / j) else none
  | .mod,i,j => if decide (0 < j) then some (i % j) else none
  | .pow,i,j => if decide (0 <= j) && (decide (j <= 1000000) && decide (i.natAbs < 18446744073709551616)) then some (i ^ j.toNat) else none
def newl (fz : Bool) (ds : List D) (M : MH) : R D := if fz then .ok (.lst ds) M else .ok (.ref M.length) (M ++ [.lst ds])
def op2 (o : Op2) (fz : Bool) (M : MH) : D -> D -> R D
  | .int i,.int j => match num2 o i j with
    | some k => .ok (.int k) M
    | none => .bad
  | .str x,.str y => match o with
    | .add => if decide (x.length + y.length <= line) then .ok (.str (x ++ y)) M else .bad
    | _ => .bad
  | a, b => match o with
    | .add => match vw M a,vw M b with
      | .lst xs,.lst ys => if decide (xs.length + ys.length <= line) then newl fz (xs ++ ys) M else .bad
      | .tup xs,.tup ys => if !xs.isEmpty && decide (xs.length + ys.length <= line) then .ok (.tup (xs ++ ys)) M else .bad
      | _,_ => .bad
    | _ => .bad
mutual
def plain : D -> Bool
  | .non => true
  | .bl _ => false
  | .int _ => true
  | .str _ => true
  | .tup ds => plains ds
  | .lst ds => plains ds
  | .dct _ _ => false
  | .ref _ => false
def plains : List D -> Bool
  | [] => true
  | d :: ds => plain d && plains ds
end
mutual
def dep : D -> Nat
  | .tup ds => deps ds + 1
  | .lst ds => deps ds + 1
  | .dct _ ds => deps ds + 1
  | .non => 0
  | .bl _ => 0
  | .int _ => 0
  | .str _ => 0
  | .ref _ => 0
def deps : List D -> Nat
  | [] => 0
  | d :: ds => max (dep d) (deps ds)
end
mutual
def eqD : D -> D -> Bool
  | .non,.non => true
  | .bl a,.bl b => a == b
  | .int a,.int b => decide (a = b)
  | .str a,.str b => decide (a = b)
  | .tup a,.tup b => eqDs a b
  | .lst a,.lst b => eqDs a b
  | _,_ => false
def eqDs : List D -> List D -> Bool
  | [],[] => true
  | a :: as,b :: bs => eqD a b && eqDs as bs
  | _,_ => false
end
def keyOf : D -> Option Ky
  | .int i => some (.inl i)
  | .str x => some (.inr x)
  | _ => none
def kyD : Ky -> D
  | .inl i => .int i
  | .inr x => .str x
def look (kvs : List (Ky × D)) (k : Ky) : Option D := (kvs.find? fun kv => decide (kv.1 = k)).map (·.2)
def put (kvs : List (Ky × D)) (k : Ky) (v : D) : List (Ky × D) :=
  if kvs.any (fun kv => decide (kv.1 = k)) then kvs.map fun kv => if kv.1 = k then (kv.1,v) else kv else kvs ++ [(k,v)]
def top (M : MH) : D -> D
  | .ref n => match M[n]? with
    | some (.lst ds) => .lst ds
    | _ => .ref n
  | d => d
def flat : D -> Bool
  | .non => true
  | .int _ => true
  | .str _ => true
  | _ => false
def cmpOk (a b : D) : Bool := (plain a && plain b) && (decide (dep a <= 100) || decide (dep b <= 100))
def cmp2 (o : Cmp) (M : MH) (a b : D) : R D :=
  match o,a,b with
  | .lt,.int i,.int j => .ok (.bl (decide (i < j))) M
  | .le,.int i,.int j => .ok (.bl (decide (i <= j))) M
  | .gt,.int i,.int j => .ok (.bl (decide (j < i))) M
  | .ge,.int i,.int j => .ok (.bl (decide (j <= i))) M
  | .eq,.bl x,.bl y => .ok (.bl (x == y)) M
  | .ne,.bl x,.bl y => .ok (.bl (!(x == y))) M
  | .eq,a,b => if cmpOk (top M a) (top M b) then .ok (.bl (eqD (top M a) (top M b))) M else .bad
  | .ne,a,b => if cmpOk (top M a) (top M b) then .ok (.bl (!eqD (top M a) (top M b))) M else .bad
  | .isN,.non,.non => .ok (.bl true) M
  | .isN,_,.non => .ok (.bl false) M
  | .notN,.non,.non => .ok (.bl false) M
  | .notN,_,.non => .ok (.bl true) M
  | .isin,a,b => match vw M b,keyOf a with
    | .dct kvs,some k => .ok (.bl (look kvs k).isSome) M
    | .lst ds,_ => if flat a && ds.all flat then .ok (.bl (ds.any fun d => eqD d a)) M else .bad
    | .tup ds,_ => if flat a && ds.all flat then .ok (.bl (ds.any fun d => eqD d a)) M else .bad
    | _,_ => .bad
  | .notin,a,b => match vw M b,keyOf a with
    | .dct kvs,some k => .ok (.bl (!(look kvs k).isSome)) M
    | .lst ds,_ => if flat a && ds.all flat then .ok (.bl (!ds.any fun d => eqD d a)) M else .bad
    | .tup ds,_ => if flat a && ds.all flat then .ok (.bl (!ds.any fun d => eqD d a)) M else .bad
    | _,_ => .bad
  | _,_,_ => .bad
def ixn (n : Nat) (i : Int) : Option Nat := if 0 <= i then (if i < n then some i.toNat else none) else if -(n : Int) <= i then some (i + n).toNat else none
def ati {α : Type} (xs : List α) (i : Int) : Option α := (ixn xs.length i).bind fun j => xs[j]?
def six (n d : Nat) : Option Int -> Nat
  | none => d
  | some v => if v < 0 then (v + (n : Int)).toNat else min v.toNat n
def cutl {α : Type} (xs : List α) (lo hi : Option Int) : List α := (xs.drop (six xs.length 0 lo)).take (six xs.length xs.length hi - six xs.length 0 lo)
def cuts (x : Str) (lo hi : Option Int) : Str := ⟨(cutl x.cps.toList lo hi).toArray⟩
def idx2 (M : MH) (a b : D) : R D :=
  match a,b with
  | .str x,.int i => if decide (x.length <= line) then (match ati x.cps.toList i with
    | some c => .ok (.str ⟨#[c]⟩) M
    | none => .bad) else .bad
  | a, b => match vw M a, b with
    | .tup ds,.int i => match ati ds i with
      | some d => .ok d M
      | none => .bad
    | .lst ds,.int i => match ati ds i with
      | some d => .ok d M
      | none => .bad
    | .dct kvs,b => match keyOf b with
      | some k => match look kvs k with
        | some d => .ok d M
        | none => .bad
      | none => .bad
    | _,_ => .bad
def fullS (n : Nat) (lo hi : Option Int) : Bool := decide (six n 0 lo = 0) && decide (six n n hi = n)
def sl2 (fz : Bool) (M : MH) (a : D) (lo hi : Option Int) : R D :=
  match a with
  | .str x => if decide (x.length <= line) then .ok (.str (cuts x lo hi)) M else .bad
  | a => match vw M a with
    | .tup ds => if fullS ds.length lo hi then .bad else .ok (.tup (cutl ds lo hi)) M
    | .lst ds => newl fz (cutl ds lo hi) M
    | _ => .bad
def isT (M : MH) (t : Ty) : D -> Bool
  | .int _ => match t with | .int => true | _ => false
  | .bl _ => match t with | .int => true | .bool => true | _ => false
  | .str _ => match t with | .str => true | _ => false
  | .tup _ => match t with | .tuple => true | _ => false
  | .lst _ => match t with | .list => true | _ => false
  | .dct _ _ => match t with | .dict => true | _ => false
  | .non => false
  | .ref n => match M[n]? with
    | some (.lst _) => (match t with | .list => true | _ => false)
    | some (.dct _) => (match t with | .dict => true | _ => false)
    | some (.dwk _) => (match t with | .dict => true | _ => false)
    | _ => false
def okT (M : MH) : D -> Bool
  | .ref n => match M[n]? with
    | some (.lst _) => true
    | some (.dct _) => true
    | some (.dwk _) => true
    | _ => false
  | _ => true
def intsOf : List D -> Option (List Int)
  | [] => some []
  | .int i :: ds => (intsOf ds).map (i :: ·)
  | _ => none
def boolsOf : List D -> Option (List Bool)
  | [] => some []
  | .bl b :: ds => (boolsOf ds).map (b :: ·)
  | _ => none
def itemsOf (M : MH) (d : D) : Option (List D) :=
  match d with
  | .str _ => none
  | .dct _ _ => none
  | d => match vw M d with
    | .tup ds => some ds
    | .lst ds => some ds
    | .dct kvs => some (kvs.map fun kv => kyD kv.1)
    | .none => none
def wk (M : MH) : D -> Bool
  | .ref n => match M[n]? with
    | some (.dct _) => true
    | _ => false
  | _ => false
def walk (M : MH) : D -> MH
  | .ref n => match M[n]? with
    | some (.dct kvs) => M.set n (.dwk kvs)
    | _ => M
  | _ => M
def unwk (b : Bool) (d : D) (M : MH) : MH := match b,d with
  | true,.ref n => match M[n]? with
    | some (.dwk kvs) => M.set n (.dct kvs)
    | _ => M
  | _,_ => M
def R.fin {α : Type} (x : R α) (f : MH -> MH) : R α := match x with
  | .ok a M => .ok a (f M)
  | .exc c M => .exc c (f M)
  | .bad => .bad
def blt1 (b : Bl) (fz : Bool) (M : MH) : List D -> R D
  | [.str x] => match b with
    | .len => if decide (x.length <= line) then .ok (.int x.length) M else .bad
    | _ => .bad
  | [d] => match b,vw M d with
    | .len,.tup ds => .ok (.int ds.length) M
    | .len,.lst ds => .ok (.int ds.length) M
    | .len,.dct kvs => .ok (.int kvs.length) M
    | .sum,.lst ds => match intsOf ds with
      | some ns => .ok (.int ns.sum) M
      | none => .bad
    | .tuple,.lst ds => .ok (.tup ds) M
    | .tuple,.tup ds => .ok (.tup ds) M
    | .list,.lst ds => newl fz ds M
    | .list,.tup ds => newl fz ds M
    | .dict,.dct kvs => .ok (.ref M.length) (M ++ [.dct kvs])
    | _,_ => .bad
  | _ => .bad
def mth1 (m : Mt) (fz : Bool) (M : MH) (a : D) (ds : List D) : R D :=
  match m,a,ds with
  | .append,.ref n,[d] => match M[n]? with
    | some (.lst xs) => if decide (xs.length < line) then .ok .non (M.set n (.lst (xs ++ [d]))) else .bad
    | _ => .bad
  | _,_,_ => .bad
def mtOk (m : Mt) (M : MH) : D -> Bool
  | .ref n => match m,M[n]? with
    | .append,some (.lst _) => true
    | _,_ => false
  | _ => false
def setI (M : MH) (a b d : D) : R Unit :=
  match a with
  | .ref n => match M[n]?,b with
    | some (.lst xs),.int i => match ixn xs.length i with
      | some j => .ok () (M.set n (.lst (xs.set j d)))
      | none => .bad
    | some (.dct kvs),b => match keyOf b with
      | some k => if decide (kvs.length < line) then .ok () (M.set n (.dct (put kvs k d))) else .bad
      | none => .bad
    | _,_ => .bad
  | _ => .bad
def sets (tg : List Nat) (M : MH) (d : D) (U : Sg) : Option Sg :=
  match tg with
  | [i] => some (U.set i (some d))
  | [i,j] => match d with
    | .tup [x,y] => some ((U.set i (some x)).set j (some y))
    | _ => none
  | _ => none
def still (M : MH) (d : D) (M' : MH) : Bool := match d with
  | .ref n => decide (M'[n]? = M[n]?)
  | _ => true
def loopF (body : Sg -> MH -> R Out) (tg : List Nat) (chk : MH -> Bool) : List D -> Sg -> MH -> R Out
  | [],U,M => .ok (.nx U) M
  | d :: ds,U,M => match sets tg M d U with
    | none => .bad
    | some U1 => (body U1 M).bind fun o M1 => match o with
      | .nx U2 => if chk M1 then loopF body tg chk ds U2 M1 else .bad
      | .ct U2 => if chk M1 then loopF body tg chk ds U2 M1 else .bad
      | .bk U2 => .ok (.nx U2) M1
      | .rt r => .ok (.rt r) M1
      | .xc c U2 => .ok (.xc c U2) M1
def loopW (c : Sg -> MH -> R D) (body : Sg -> MH -> R Out) : Nat -> Sg -> MH -> R Out
  | 0,_,_ => .bad
  | n + 1,U,M => (c U M).use U fun t M0 => match t with
    | .bl false => .ok (.nx U) M0
    | .bl true => (body U M0).bind fun o M1 => match o with
      | .nx U2 => loopW c body n U2 M1
      | .ct U2 => loopW c body n U2 M1
      | .bk U2 => .ok (.nx U2) M1
      | .rt r => .ok (.rt r) M1
      | .xc c U2 => .ok (.xc c U2) M1
    | _ => .bad
def loopC (cond : Sg -> MH -> R D) (elt : Sg -> MH -> R D) (tg : List Nat) (chk : MH -> Bool) : List D -> Sg -> MH -> List D -> R (List D)
  | [],_,M,acc => .ok acc M
  | d :: ds,U,M,acc => match sets tg M d U with
    | none => .bad
    | some U1 => (cond U1 M).bind fun t M1 => match t with
      | .bl true => (elt U1 M1).bind fun x M2 => if chk M2 then (if decide (acc.length < line) then loopC cond elt tg chk ds U1 M2 (acc ++ [x]) else .bad) else .bad
      | .bl false => if chk M1 then loopC cond elt tg chk ds U1 M1 acc else .bad
      | _ => .bad
def putM (f : Str) (v : D) : List (Str × D) -> List (Str × D)
  | [] => [(f,v)]
  | (g,x) :: r => if g = f then (g,v) :: r else (g,x) :: putM f v r
structure Fns where
  call : Nat -> List D -> MH -> R D
  ini : Nat -> List D -> MH -> R D
  glob : Nat -> Option D
  turns : Nat
  sub : Nat -> Nat -> Bool
def capt (U : Sg) (caps : List Nat) : Sg := caps.map fun i => (U[i]?).join
def okR (j : Int) : Bool := decide (j.natAbs <= 1000000)
def rngs (a b : Int) : List D := (List.range (b - a).toNat).map fun (i : Nat) => D.int (a + (i : Int))
def frzn : D -> Option (List D)
  | .tup ds => some ds
  | .lst ds => some ds
  | _ => none
def zips (ds es : List D) : List D := (ds.zip es).map fun p => .tup [p.1,p.2]
mutual
def ev (Φ : Fns) : E -> Sg -> MH -> R D
  | .v i,U,M => match U[i]? with
    | some (some d) => .ok d M
    | _ => .bad
  | .k d,_,M => .ok d M
  | .g i,_,M => match Φ.glob i with
    | some d => .ok d M
    | none => .bad
  | .tup es,U,M => (evs Φ es U M).bind fun ds M1 => .ok (.tup ds) M1
  | .lst fz es,U,M => (evs Φ es U M).bind fun ds M1 => newl fz ds M1
  | .dct0,_,M => .ok (.ref M.length) (M ++ [.dct []])
  | .op o fz a b,U,M => (ev Φ a U M).bind fun x M1 => (ev Φ b U M1).bind fun y M2 => op2 o fz M2 x y
  | .neg a,U,M => (ev Φ a U M).bind fun x M1 => match x with
    | .int i => .ok (.int (-i)) M1
    | _ => .bad
  | .cmp o a b,U,M => (ev Φ a U M).bind fun x M1 => (ev Φ b U M1).bind fun y M2 => cmp2 o M2 x y
  | .chain o o' a b c,U,M => (ev Φ a U M).bind fun x M1 => (ev Φ b U M1).bind fun y M2 => (cmp2 o M2 x y).bind fun t M3 => match t with
    | .bl true => (ev Φ c U M3).bind fun z M4 => cmp2 o' M4 y z
    | .bl false => .ok (.bl false) M3
    | _ => .bad
  | .and a b,U,M => (ev Φ a U M).bind fun x M1 => match x with
    | .bl true => (ev Φ b U M1)
    | .bl false => .ok (.bl false) M1
    | _ => .bad
  | .or a b,U,M => (ev Φ a U M).bind fun x M1 => match x with
    | .bl true => .ok (.bl true) M1
    | .bl false => (ev Φ b U M1)
    | _ => .bad
  | .not a,U,M => (ev Φ a U M).bind fun x M1 => match x with
    | .bl b => .ok (.bl (!b)) M1
    | _ => .bad
  | .tru a,U,M => .bad
  | .ife c a b,U,M => (ev Φ c U M).bind fun x M1 => match x with
    | .bl true => ev Φ a U M1
    | .bl false => ev Φ b U M1
    | _ => .bad
  | .idx a b,U,M => (ev Φ a U M).bind fun x M1 => (ev Φ b U M1).bind fun y M2 => idx2 M2 x y
  | .sl fz a lo hi,U,M => (ev Φ a U M).bind fun x M1 => (evo Φ lo U M1).bind fun l M2 => (evo Φ hi U M2).bind fun h M3 => sl2 fz M3 x l h
  | .call f es,U,M => (evs Φ es U M).bind fun ds M1 => Φ.call f ds M1
  | .isi a t,U,M => (ev Φ a U M).bind fun x M1 => if okT M1 x then .ok (.bl (isT M1 t x)) M1 else .bad
  | .blt b fz es,U,M => (evs Φ es U M).bind fun ds M1 => blt1 b fz M1 ds
  | .mth m fz a es,U,M => (ev Φ a U M).bind fun x M1 => if mtOk m M1 x then (evs Φ es U M1).bind fun ds M2 => mth1 m fz M2 x ds else .bad
  | .comp fz caps tg elt it cond,U,M => (evi Φ it U M).bind fun p M1 =>
      ((loopC (evc Φ cond) (ev Φ elt) tg (still M1 p.1) p.2.1 (capt U caps ++ List.replicate tg.length none) M1 []).fin (unwk p.2.2 p.1)).bind fun ds M2 => newl fz ds M2
  | .fld a f,U,M => (ev Φ a U M).bind fun x M1 => match x with
    | .ref n => match M1[n]? with
      | some (.ins _ fs) => match fs.lookup f with
        | some d => .ok d M1
        | none => .bad
      | _ => .bad
    | _ => .bad
  | .umt c m nm a es,U,M => (ev Φ a U M).bind fun x M1 => match x with
    | .ref n => match M1[n]? with
      | some (.ins c' fs) => if decide (c' = c) && (fs.lookup nm).isNone then (evs Φ es U M1).bind fun ds M2 => Φ.call m (.ref n :: ds) M2 else .bad
      | _ => .bad
    | _ => .bad
  | .new c i es,U,M => (evs Φ es U M).bind fun ds M1 => (Φ.ini i (.ref M1.length :: ds) (M1 ++ [.ins c []])).bind fun r M2 => match r with
    | .non => .ok (.ref M1.length) M2
    | _ => .bad
  | .mx hi a b,U,M => (ev Φ a U M).bind fun x M1 => (ev Φ b U M1).bind fun y M2 => match x,y with
    | .int i,.int j => .ok (.int (if hi then (if j > i then j else i) else (if j < i then j else i))) M2
    | _,_ => .bad
  | .lrg fz a b,U,M => (ev Φ a U M).bind fun x M1 => (ev Φ b U M1).bind fun y M2 => match x,y with
    | .int i,.int j => if okR i && (okR j && decide ((j - i).toNat <= line)) then newl fz (rngs i j) M2 else .bad
    | _,_ => .bad
  | .all1 a,U,M => (ev Φ a U M).bind fun x M1 => match vw M1 x with
    | .lst ds => match boolsOf ds with
      | some bs => .ok (.bl (bs.all id)) M1
      | none => .bad
    | _ => .bad
  | .bad,_,_ => .bad
def evs (Φ : Fns) : Es -> Sg -> MH -> R (List D)
  | .nil,_,M => .ok [] M
  | .cons e es,U,M => (ev Φ e U M).bind fun x M1 => (evs Φ es U M1).bind fun xs M2 => .ok (x :: xs) M2
def evo (Φ : Fns) : O -> Sg -> MH -> R (Option Int)
  | .none,_,M => .ok none M
  | .some e,U,M => (ev Φ e U M).bind fun x M1 => match x with
    | .int i => .ok (some i) M1
    | _ => .bad
def evc (Φ : Fns) : O -> Sg -> MH -> R D
  | .none,_,M => .ok (.bl true) M
  | .some e,U,M => ev Φ e U M
def evi (Φ : Fns) : Src -> Sg -> MH -> R (D × List D × Bool)
  | .e a,U,M => (ev Φ a U M).bind fun x M1 => match itemsOf M1 x with
    | some ds => .ok (x,ds,wk M1 x) (walk M1 x)
    | none => .bad
  | .rng a,U,M => (ev Φ a U M).bind fun x M1 => match x with
    | .int j => if okR j then .ok (.non,rngs 0 j,false) M1 else .bad
    | _ => .bad
  | .rng2 a b,U,M => (ev Φ a U M).bind fun x M1 => (ev Φ b U M1).bind fun y M2 => match x,y with
    | .int i,.int j => if okR i && okR j then .ok (.non,rngs i j,false) M2 else .bad
    | _,_ => .bad
  | .enum a,U,M => .bad
  | .items a,U,M => .bad
  | .rev a,U,M => .bad
  | .zip a b,U,M => (ev Φ a U M).bind fun x M1 => (ev Φ b U M1).bind fun y M2 => match frzn x,frzn y with
    | some ds,some es => .ok (.non,zips ds es,false) M2
    | _,_ => .bad
end
def shortS : D -> Bool
  | .str x => decide (x.length <= 100000)
  | _ => false
def evm (Φ : Fns) : Es -> Sg -> MH -> R Unit
  | .nil,_,M => .ok () M
  | .cons e es,U,M => (ev Φ e U M).bind fun x M1 => if shortS x then evm Φ es U M1 else .bad
mutual
def ex (Φ : Fns) : S -> Sg -> MH -> R Out
  | .set i e,U,M => (ev Φ e U M).use U fun x M1 => .ok (.nx (U.set i (some x))) M1
  | .seti a b e,U,M => (ev Φ e U M).use U fun x M1 => (ev Φ a U M1).use U fun y M2 => (ev Φ b U M2).use U fun z M3 => (setI M3 y z x).use U fun _ M4 => .ok (.nx U) M4
  | .setf a f e,U,M => (ev Φ e U M).use U fun x M1 => (ev Φ a U M1).use U fun y M2 => match y with
    | .ref n => match M2[n]? with
      | some (.ins c fs) => if decide (fs.length < 1000) then .ok (.nx U) (M2.set n (.ins c (putM f x fs))) else .bad
      | _ => .bad
    | _ => .bad
  | .unp tg e,U,M => (ev Φ e U M).use U fun x M1 => match sets tg M1 x U with
    | some U1 => .ok (.nx U1) M1
    | none => .bad
  | .ex e,U,M => (ev Φ e U M).use U fun _ M1 => .ok (.nx U) M1
  | .ret e,U,M => (ev Φ e U M).use U fun x M1 => .ok (.rt x) M1
  | .ret0,_,M => .ok (.rt .non) M
  | .ifs c a b,U,M => (ev Φ c U M).use U fun t M1 => match t with
    | .bl true => exs Φ a U M1
    | .bl false => exs Φ b U M1
    | _ => .bad
  | .for tg it b,U,M => (evi Φ it U M).use U fun p M1 => (loopF (exs Φ b) tg (still M1 p.1) p.2.1 U M1).fin (unwk p.2.2 p.1)
  | .while c b,U,M => loopW (ev Φ c) (exs Φ b) Φ.turns U M
  | .brk,U,M => .ok (.bk U) M
  | .cont,U,M => .ok (.ct U) M
  | .pass,U,M => .ok (.nx U) M
  | .raise c es,U,M => (evm Φ es U M).use U fun _ M1 => .ok (.xc c U) M1
  | .try b hs els,U,M => (exs Φ b U M).bind fun o M1 => match o with
    | .nx U1 => exs Φ els U1 M1
    | .xc c U1 => exh Φ hs c U1 M1
    | o => .ok o M1
  | .bad,_,_ => .bad
def exs (Φ : Fns) : Ss -> Sg -> MH -> R Out
  | .nil,U,M => .ok (.nx U) M
  | .cons s ss,U,M => (ex Φ s U M).bind fun o M1 => match o with
    | .nx U1 => exs Φ ss U1 M1
    | o => .ok o M1
def exh (Φ : Fns) : Hs -> Nat -> Sg -> MH -> R Out
  | .nil,_,_,_ => .bad
  | .cons cs b hs,c,U,M => if cs.any (fun d => Φ.sub c d) then exs Φ b U M else exh Φ hs c U M
end
mutual
def nr (m : Nat) : D -> Bool
  | .ref n => decide (n < m)
  | .tup ds => nrs m ds
  | .lst ds => nrs m ds
  | .dct _ ds => nrs m ds
  | .non => true
  | .bl _ => true
  | .int _ => true
  | .str _ => true
def nrs (m : Nat) : List D -> Bool
  | [] => true
  | d :: ds => nr m d && nrs m ds
end
structure Fn where
  np : Nat
  ns : Nat
  dfl : List D
  keep : Bool
  body : Ss
def retn (keep : Bool) (M : MH) (d : D) (M' : MH) : R D :=
  if keep = false /\ M'.take M.length = M then
    (if nr M.length d then .ok d M else match d with
      | .ref k => match M'[k]? with
        | some (.lst ds) => if nrs M.length ds then .ok (.lst ds) M else .ok d M'
        | _ => .ok d M'
      | _ => .ok d M')
  else .ok d M'
def retx (M : MH) (c : Nat) (M' : MH) : R D := if M'.take M.length = M then .exc c M else .exc c M'
structure Prg where
  fn : Nat -> Option Fn
  glob : Nat -> Option D
  turns : Nat
  sub : Nat -> Nat -> Bool
def runF (Φ : Fns) (f : Fn) (ds : List D) (M : MH) : R D :=
  if decide (ds.length <= f.np) && decide (f.np <= ds.length + f.dfl.length) then
    match exs Φ f.body ((ds ++ f.dfl.drop (ds.length + f.dfl.length - f.np)).map some ++ List.replicate (f.ns - f.np) none) M with
    | .ok (.rt d) M' => retn f.keep M d M'
    | .ok (.nx _) M' => retn f.keep M .non M'
    | .ok (.xc c _) M' => retx M c M'
    | _ => .bad
  else .bad
def callF (P : Prg) : Nat -> Fns
  | 0 => ⟨fun _ _ _ => .bad,fun _ _ _ => .bad,P.glob,P.turns,P.sub⟩
  | k + 1 => ⟨fun f ds M => match P.fn f with
    | some fn => runF (callF P k) fn ds M
    | none => .bad,(callF P k).call,P.glob,P.turns,P.sub⟩
end Fg
end
section
set_option autoImplicit false
namespace Fg
open PySem
section
variable {Φ : Fns} {U : Sg} {M : MH}
@[simp] theorem ev_v {i : Nat} : ev Φ (.v i) U M = match U[i]? with | some (some d) => .ok d M | _ => .bad := by first | (simp only [ev]; done) | (simp only [ev]; rfl)
@[simp] theorem ev_k {d : D} : ev Φ (.k d) U M = .ok d M := by first | (simp only [ev]; done) | (simp only [ev]; rfl)
@[simp] theorem ev_g {i : Nat} : ev Φ (.g i) U M = match Φ.glob i with | some d => .ok d M | none => .bad := by first | (simp only [ev]; done) | (simp only [ev]; rfl)
@[simp] theorem ev_tup {es : Es} : ev Φ (.tup es) U M = (evs Φ es U M).bind fun ds M1 => .ok (.tup ds) M1 := by first | (simp only [ev]; done) | (simp only [ev]; rfl)
@[simp] theorem ev_lst {fz : Bool} {es : Es} : ev Φ (.lst fz es) U M = (evs Φ es U M).bind fun ds M1 => newl fz ds M1 := by first | (simp only [ev]; done) | (simp only [ev]; rfl)
@[simp] theorem ev_dct0 : ev Φ .dct0 U M = .ok (.ref M.length) (M ++ [.dct []]) := by first | (simp only [ev]; done) | (simp only [ev]; rfl)
@[simp] theorem ev_op {o : Op2} {fz : Bool} {a b : E} : ev Φ (.op o fz a b) U M = (ev Φ a U M).bind fun x M1 => (ev Φ b U M1).bind fun y M2 => op2 o fz M2 x y := by first | (simp only [ev]; done) | (simp only [ev]; rfl)
@[simp] theorem ev_neg {a : E} : ev Φ (.neg a) U M = (ev Φ a U M).bind fun x M1 => match x with | .int i => .ok (.int (-i)) M1 | _ => .bad := by first | (simp only [ev]; done) | (simp only [ev]; rfl)
@[simp] theorem ev_cmp {o : Cmp} {a b : E} : ev Φ (.cmp o a b) U M = (ev Φ a U M).bind fun x M1 => (ev Φ b U M1).bind fun y M2 => cmp2 o M2 x y := by first | (simp only [ev]; done) | (simp only [ev]; rfl)
@[simp] theorem ev_and {a b : E} : ev Φ (.and a b) U M = (ev Φ a U M).bind fun x M1 => match x with | .bl true => (ev Φ b U M1) | .bl false => .ok (.bl false) M1 | _ => .bad := by first | (simp only [ev]; done) | (simp only [ev]; rfl)
@[simp] theorem ev_or {a b : E} : ev Φ (.or a b) U M = (ev Φ a U M).bind fun x M1 => match x with | .bl true => .ok (.bl true) M1 | .bl false => (ev Φ b U M1) | _ => .bad := by first | (simp only [ev]; done) | (simp only [ev]; rfl)
@[simp] theorem ev_not {a : E} : ev Φ (.not a) U M = (ev Φ a U M).bind fun x M1 => match x with | .bl b => .ok (.bl (!b)) M1 | _ => .bad := by first | (simp only [ev]; done) | (simp only [ev]; rfl)
@[simp] theorem ev_idx {a b : E} : ev Φ (.idx a b) U M = (ev Φ a U M).bind fun x M1 => (ev Φ b U M1).bind fun y M2 => idx2 M2 x y := by first | (simp only [ev]; done) | (simp only [ev]; rfl)
@[simp] theorem ev_sl {fz : Bool} {a : E} {lo hi : O} : ev Φ (.sl fz a lo hi) U M = (ev Φ a U M).bind fun x M1 => (evo Φ lo U M1).bind fun l M2 => (evo Φ hi U M2).bind fun h M3 => sl2 fz M3 x l h := by first | (simp only [ev]; done) | (simp only [ev]; rfl)
@[simp] theorem ev_call {f : Nat} {es : Es} : ev Φ (.call f es) U M = (evs Φ es U M).bind fun ds M1 => Φ.call f ds M1 := by first | (simp only [ev]; done) | (simp only [ev]; rfl)
@[simp] theorem ev_isi {a : E} {t : Ty} : ev Φ (.isi a t) U M = (ev Φ a U M).bind fun x M1 => if okT M1 x then .ok (.bl (isT M1 t x)) M1 else .bad := by first | (simp only [ev]; done) | (simp only [ev]; rfl)
@[simp] theorem ev_blt {b : Bl} {fz : Bool} {es : Es} : ev Φ (.blt b fz es) U M = (evs Φ es U M).bind fun ds M1 => blt1 b fz M1 ds := by first | (simp only [ev]; done) | (simp only [ev]; rfl)
@[simp] theorem ev_mth {m : Mt} {fz : Bool} {a : E} {es : Es} : ev Φ (.mth m fz a es) U M = (ev Φ a U M).bind fun x M1 => if mtOk m M1 x then (evs Φ es U M1).bind fun ds M2 => mth1 m fz M2 x ds else .bad := by first | (simp only [ev]; done) | (simp only [ev]; rfl)
@[simp] theorem ev_comp {fz : Bool} {caps tg : List Nat} {elt : E} {it : Src} {cond : O} : ev Φ (.comp fz caps tg elt it cond) U M = (evi Φ it U M).bind fun p M1 =>
      ((loopC (evc Φ cond) (ev Φ elt) tg (still M1 p.1) p.2.1 (capt U caps ++ List.replicate tg.length none) M1 []).fin (unwk p.2.2 p.1)).bind fun ds M2 => newl fz ds M2 := by first | (simp only [ev]; done) | (simp only [ev]; rfl)
@[simp] theorem ev_all1 {a : E} : ev Φ (.all1 a) U M = (ev Φ a U M).bind fun x M1 => match vw M1 x with
    | .lst ds => match boolsOf ds with
      | some bs => .ok (.bl (bs.all id)) M1
      | none => .bad
    | _ => .bad := by first | (simp only [ev]; done) | (simp only [ev]; rfl)
@[simp] theorem evs_nil : evs Φ .nil U M = .ok [] M := by first | (simp only [evs]; done) | (simp only [evs]; rfl)
@[simp] theorem evs_cons {e : E} {es : Es} : evs Φ (.cons e es) U M = (ev Φ e U M).bind fun x M1 => (evs Φ es U M1).bind fun xs M2 => .ok (x :: xs) M2 := by first | (simp only [evs]; done) | (simp only [evs]; rfl)
@[simp] theorem evo_none : evo Φ .none U M = .ok none M := by first | (simp only [evo]; done) | (simp only [evo]; rfl)
@[simp] theorem evo_some {e : E} : evo Φ (.some e) U M = (ev Φ e U M).bind fun x M1 => match x with | .int i => .ok (some i) M1 | _ => .bad := by first | (simp only [evo]; done) | (simp only [evo]; rfl)
@[simp] theorem evc_none : evc Φ .none U M = .ok (.bl true) M := by first | (simp only [evc]; done) | (simp only [evc]; rfl)
@[simp] theorem evc_some {e : E} : evc Φ (.some e) U M = ev Φ e U M := by first | (simp only [evc]; done) | (simp only [evc]; rfl)
@[simp] theorem evi_e {a : E} : evi Φ (.e a) U M = (ev Φ a U M).bind fun x M1 => match itemsOf M1 x with | some ds => .ok (x,ds,wk M1 x) (walk M1 x) | none => .bad := by first | (simp only [evi]; done) | (simp only [evi]; rfl)
@[simp] theorem evi_rng {a : E} : evi Φ (.rng a) U M = (ev Φ a U M).bind fun x M1 => match x with
    | .int j => if okR j then .ok (.non,rngs 0 j,false) M1 else .bad
    | _ => .bad := by first | (simp only [evi]; done) | (simp only [evi]; rfl)
@[simp] theorem evi_zip {a b : E} : evi Φ (.zip a b) U M = (ev Φ a U M).bind fun x M1 => (ev Φ b U M1).bind fun y M2 => match frzn x,frzn y with
    | some ds,some es => .ok (.non,zips ds es,false) M2
    | _,_ => .bad := by first | (simp only [evi]; done) | (simp only [evi]; rfl)
@[simp] theorem ex_set {i : Nat} {e : E} : ex Φ (.set i e) U M = (ev Φ e U M).use U fun x M1 => .ok (.nx (U.set i (some x))) M1 := by first | (simp only [ex]; done) | (simp only [ex]; rfl)
@[simp] theorem ex_seti {a b e : E} : ex Φ (.seti a b e) U M = (ev Φ e U M).use U fun x M1 => (ev Φ a U M1).use U fun y M2 => (ev Φ b U M2).use U fun z M3 => (setI M3 y z x).use U fun _ M4 => .ok (.nx U) M4 := by first | (simp only [ex]; done) | (simp only [ex]; rfl)
@[simp] theorem evm_nil : evm Φ .nil U M = .ok () M := by first | (simp only [evm]; done) | (simp only [evm]; rfl)
@[simp] theorem evm_cons {e : E} {es : Es} : evm Φ (.cons e es) U M = (ev Φ e U M).bind fun x M1 => if shortS x then evm Φ es U M1 else .bad := by first | (simp only [evm]; done) | (simp only [evm]; rfl)
@[simp] theorem ex_raise {c : Nat} {es : Es} : ex Φ (.raise c es) U M = (evm Φ es U M).use U fun _ M1 => .ok (.xc c U) M1 := by first | (simp only [ex]; done) | (simp only [ex]; rfl)
@[simp] theorem ex_try {b : Ss} {hs : Hs} {els : Ss} : ex Φ (.try b hs els) U M = (exs Φ b U M).bind fun o M1 => match o with
    | .nx U1 => exs Φ els U1 M1
    | .xc c U1 => exh Φ hs c U1 M1
    | o => .ok o M1 := by first | (simp only [ex]; done) | (simp only [ex]; rfl)
@[simp] theorem exh_nil {c : Nat} : exh Φ .nil c U M = .bad := by first | (simp only [exh]; done) | (simp only [exh]; rfl)
@[simp] theorem exh_cons {cs : List Nat} {b : Ss} {hs : Hs} {c : Nat} : exh Φ (.cons cs b hs) c U M = if cs.any (fun d => Φ.sub c d) then exs Φ b U M else exh Φ hs c U M := by first | (simp only [exh]; done) | (simp only [exh]; rfl)
@[simp] theorem ex_unp {tg : List Nat} {e : E} : ex Φ (.unp tg e) U M = (ev Φ e U M).use U fun x M1 => match sets tg M1 x U with | some U1 => .ok (.nx U1) M1 | none => .bad := by first | (simp only [ex]; done) | (simp only [ex]; rfl)
@[simp] theorem ex_ex {e : E} : ex Φ (.ex e) U M = (ev Φ e U M).use U fun _ M1 => .ok (.nx U) M1 := by first | (simp only [ex]; done) | (simp only [ex]; rfl)
@[simp] theorem ex_ret {e : E} : ex Φ (.ret e) U M = (ev Φ e U M).use U fun x M1 => .ok (.rt x) M1 := by first | (simp only [ex]; done) | (simp only [ex]; rfl)
@[simp] theorem ex_ifs {c : E} {a b : Ss} : ex Φ (.ifs c a b) U M = (ev Φ c U M).use U fun t M1 => match t with | .bl true => exs Φ a U M1 | .bl false => exs Φ b U M1 | _ => .bad := by first | (simp only [ex]; done) | (simp only [ex]; rfl)
@[simp] theorem ex_for {tg : List Nat} {it : Src} {b : Ss} : ex Φ (.for tg it b) U M = (evi Φ it U M).use U fun p M1 => (loopF (exs Φ b) tg (still M1 p.1) p.2.1 U M1).fin (unwk p.2.2 p.1) := by first | (simp only [ex]; done) | (simp only [ex]; rfl)
@[simp] theorem exs_nil : exs Φ .nil U M = .ok (.nx U) M := by first | (simp only [exs]; done) | (simp only [exs]; rfl)
@[simp] theorem exs_cons {s : S} {ss : Ss} : exs Φ (.cons s ss) U M = (ex Φ s U M).bind fun o M1 => match o with | .nx U1 => exs Φ ss U1 M1 | o => .ok o M1 := by first | (simp only [exs]; done) | (simp only [exs]; rfl)
end
@[simp] theorem fin_ok {α : Type} {a : α} {M : MH} {f : MH -> MH} : (R.ok a M).fin f = .ok a (f M) := rfl
@[simp] theorem fin_exc {α : Type} {c : Nat} {M : MH} {f : MH -> MH} : (R.exc c M : R α).fin f = .exc c (f M) := rfl
@[simp] theorem fin_bad {α : Type} {f : MH -> MH} : (R.bad : R α).fin f = .bad := rfl
@[simp] theorem unwk_f {d : D} {M : MH} : unwk false d M = M := by cases d <;> rfl
@[simp] theorem fin_f {α : Type} {x : R α} {d : D} : x.fin (unwk false d) = x := by cases x <;> simp
@[simp] theorem wk_tup {M : MH} {ds : List D} : wk M (.tup ds) = false := rfl
@[simp] theorem wk_lst {M : MH} {ds : List D} : wk M (.lst ds) = false := rfl
@[simp] theorem wk_str {M : MH} {x : Str} : wk M (.str x) = false := rfl
@[simp] theorem walk_tup {M : MH} {ds : List D} : walk M (.tup ds) = M := rfl
@[simp] theorem walk_lst {M : MH} {ds : List D} : walk M (.lst ds) = M := rfl
@[simp] theorem walk_str {M : MH} {x : Str} : walk M (.str x) = M := rfl
theorem wk_d {M : MH} {n : Nat} {kvs : List (Ky × D)} (h : M[n]? = some (.dct kvs)) : wk M (.ref n) = true := by simp only [wk,h]
theorem walk_d {M : MH} {n : Nat} {kvs : List (Ky × D)} (h : M[n]? = some (.dct kvs)) : walk M (.ref n) = M.set n (.dwk kvs) := by simp only [walk,h]
theorem set_get {α : Type} {l : List α} {n : Nat} {a b : α} (h : l[n]? = some a) : (l.set n b)[n]? = some b := by
  obtain ⟨q,_⟩ := List.getElem?_eq_some_iff.mp h
  exact List.getElem?_set_self q
theorem set_back {α : Type} {l : List α} {n : Nat} {a b : α} (h : l[n]? = some a) : (l.set n b).set n a = l := by
  obtain ⟨q,e⟩ := List.getElem?_eq_some_iff.mp h
  rw [List.set_set]
  apply List.ext_getElem?
  intro i
  by_cases hi : n = i
  . subst hi; rw [List.getElem?_set_self q,h]
  . rw [List.getElem?_set_ne hi]
theorem unwk_d {M : MH} {n : Nat} {kvs : List (Ky × D)} (h : M[n]? = some (.dct kvs)) : unwk true (.ref n) (M.set n (.dwk kvs)) = M := by
  simp only [unwk,set_get h]
  exact set_back h
theorem call_step {P : Prg} {k i : Nat} {ds : List D} {M : MH} {fn : Fn} (h : P.fn i = some fn) : (callF P (k + 1)).call i ds M = runF (callF P k) fn ds M := by simp only [callF,h]
@[simp] theorem callF_glob {P : Prg} {k : Nat} : (callF P k).glob = P.glob := by cases k <;> rfl
@[simp] theorem callF_sub {P : Prg} {k : Nat} : (callF P k).sub = P.sub := by cases k <;> rfl
theorem retn_same {keep : Bool} {M : MH} {d : D} (h : nr M.length d = true) : retn keep M d M = .ok d M := by
  unfold retn
  by_cases hk : keep = false /\ M.take M.length = M
  . rw [if_pos hk,if_pos h]
  . rw [if_neg hk]
end Fg
namespace Fg
open PySem
theorem loopC_pure {cond elt : Sg -> MH -> R D} {i : Nat} {chk : MH -> Bool} {M : MH} {f : D -> D} {p : D -> Bool} (hc : chk M = true) : ∀ (ds acc : List D) (U : Sg),(∀ d ∈ ds,cond (U.set i (some d)) M = .ok (.bl (p d)) M /\ (p d = true -> elt (U.set i (some d)) M = .ok (f d) M)) ->
    acc.length + ds.length <= line -> loopC cond elt [i] chk ds U M acc = .ok (acc ++ (ds.filter p).map f) M
  | [],acc,U,_,_ => by simp [loopC]
  | d :: ds,acc,U,h,hl => by
    obtain ⟨h1,h2⟩ := h d List.mem_cons_self
    have ih := fun acc' => loopC_pure (cond := cond) (elt := elt) (i := i) (chk := chk) (M := M) (f := f) (p := p) hc ds acc' (U.set i (some d)) (fun e he => by rw [List.set_set]; exact h e (List.mem_cons_of_mem _ he))
    simp only [List.length_cons] at hl
    rw [loopC]
    simp only [sets,h1,R.bind_ok]
    cases hp : p d with
    | true =>
      have hlt : acc.length < line := by omega
      simp only [h2 hp,R.bind_ok,hc,if_true,hlt,decide_true]
      rw [ih (acc ++ [f d]) (by simp; omega)]
      simp [List.filter_cons,hp]
    | false =>
      simp only [hc,if_true]
      rw [ih acc (by omega)]
      simp [List.filter_cons,hp]
theorem loopF_inv {body : Sg -> MH -> R Out} {i : Nat} {chk : MH -> Bool} (I : List D -> Sg -> MH -> Prop) {Q : R Out -> Prop} : ∀ (ds : List D) (U : Sg) (M : MH),I ds U M ->
    (∀ d ds U M,I (d :: ds) U M -> ∃ U' M',(body (U.set i (some d)) M = .ok (.nx U') M' \/ body (U.set i (some d)) M = .ok (.ct U') M') /\ chk M' = true /\ I ds U' M') ->
    (∀ U M,I [] U M -> Q (.ok (.nx U) M)) -> Q (loopF body [i] chk ds U M)
  | [],U,M,h,_,fin => by simp only [loopF]; exact fin U M h
  | d :: ds,U,M,h,step,fin => by
    obtain ⟨U',M',hb,hc,hI⟩ := step d ds U M h
    rw [loopF]
    simp only [sets]
    rcases hb with hb | hb <;> (simp only [hb,R.bind_ok,hc,if_true]; exact loopF_inv I ds U' M' hI step fin)
@[simp] theorem cutl_1 {α : Type} {a : α} {l : List α} : cutl (a :: l) (some 1) none = l := by
  simp [cutl,six]
@[simp] theorem cutl_2 {α : Type} {a b : α} {l : List α} : cutl (a :: b :: l) (some 2) none = l := by
  simp [cutl,six]
@[simp] theorem ati_0 {α : Type} {a : α} {l : List α} : ati (a :: l) 0 = some a := by
  have : (0 : Int) < ((a :: l).length : Int) := by simp only [List.length_cons]; omega
  simp only [ati,ixn,if_pos (Int.le_refl 0),if_pos this]; rfl
@[simp] theorem ati_1 {α : Type} {a b : α} {l : List α} : ati (a :: b :: l) 1 = some b := by
  have : (1 : Int) < ((a :: b :: l).length : Int) := by simp only [List.length_cons]; omega
  simp only [ati,ixn,if_pos (show (0 : Int) <= 1 by decide),if_pos this]; rfl
@[simp] theorem ati_2 {α : Type} {a b c : α} {l : List α} : ati (a :: b :: c :: l) 2 = some c := by
  have : (2 : Int) < ((a :: b :: c :: l).length : Int) := by simp only [List.length_cons]; omega
  simp only [ati,ixn,if_pos (show (0 : Int) <= 2 by decide),if_pos this]; rfl
@[simp] theorem ati_3 {α : Type} {a b c d : α} {l : List α} : ati (a :: b :: c :: d :: l) 3 = some d := by
  have : (3 : Int) < ((a :: b :: c :: d :: l).length : Int) := by simp only [List.length_cons]; omega
  simp only [ati,ixn,if_pos (show (0 : Int) <= 3 by decide),if_pos this]; rfl
@[simp] theorem eqD_non_non : eqD D.non D.non = true := by simp only [eqD]
@[simp] theorem eqD_int_int {x : Int} {y : Int} : eqD (D.int x) (D.int y) = decide (x = y) := by simp only [eqD]
@[simp] theorem eqD_str_str {x : Str} {y : Str} : eqD (D.str x) (D.str y) = decide (x = y) := by simp only [eqD]
@[simp] theorem eqD_tup_tup {x : List D} {y : List D} : eqD (D.tup x) (D.tup y) = eqDs x y := by simp only [eqD]
@[simp] theorem eqD_lst_lst {x : List D} {y : List D} : eqD (D.lst x) (D.lst y) = eqDs x y := by simp only [eqD]
@[simp] theorem eqDs_nn : eqDs [] [] = true := by simp only [eqDs]
@[simp] theorem eqDs_cn {a : D} {l : List D} : eqDs (a :: l) [] = false := by simp only [eqDs]
@[simp] theorem eqDs_nc {a : D} {l : List D} : eqDs [] (a :: l) = false := by simp only [eqDs]
@[simp] theorem eqDs_cc {a b : D} {l m : List D} : eqDs (a :: l) (b :: m) = (eqD a b && eqDs l m) := by simp only [eqDs]
section
variable {Φ : Fns} {U U' : Sg} {M M1 M2 : MH} {e c : E} {x : D} {ss a b : Ss} {i : Nat}
theorem s_set (h : ev Φ e U M = .ok x M1) : exs Φ (.cons (.set i e) ss) U M = exs Φ ss (U.set i (some x)) M1 := by simp [h]
theorem s_ex (h : ev Φ e U M = .ok x M1) : exs Φ (.cons (.ex e) ss) U M = exs Φ ss U M1 := by simp [h]
theorem s_ret (h : ev Φ e U M = .ok x M1) : exs Φ (.cons (.ret e) ss) U M = .ok (.rt x) M1 := by simp [h]
theorem s_retx {k : Nat} (h : ev Φ e U M = .exc k M1) : exs Φ (.cons (.ret e) ss) U M = .ok (.xc k U) M1 := by simp [h]
theorem s_ifF (h : ev Φ c U M = .ok (.bl false) M1) : exs Φ (.cons (.ifs c a .nil) ss) U M = exs Φ ss U M1 := by simp [h]
theorem s_ifF' (h : ev Φ c U M = .ok (.bl false) M1) (hb : exs Φ b U M1 = .ok (.nx U') M2) : exs Φ (.cons (.ifs c a b) ss) U M = exs Φ ss U' M2 := by simp [h,hb]
theorem s_ifT (h : ev Φ c U M = .ok (.bl true) M1) (ha : exs Φ a U M1 = .ok (.nx U') M2) : exs Φ (.cons (.ifs c a b) ss) U M = exs Φ ss U' M2 := by simp [h,ha]
theorem s_ifR (h : ev Φ c U M = .ok (.bl true) M1) (ha : exs Φ a U M1 = .ok (.rt x) M2) : exs Φ (.cons (.ifs c a b) ss) U M = .ok (.rt x) M2 := by simp [h,ha]
theorem s_for {tg : List Nat} {it : Src} {d : D} {ds : List D} (h : evi Φ it U M = .ok (d,ds,false) M1) (hl : loopF (exs Φ b) tg (still M1 d) ds U M1 = .ok (.nx U') M2) : exs Φ (.cons (.for tg it b) ss) U M = exs Φ ss U' M2 := by simp [h,hl]
theorem s_forR {tg : List Nat} {it : Src} {d : D} {ds : List D} (h : evi Φ it U M = .ok (d,ds,false) M1) (hl : loopF (exs Φ b) tg (still M1 d) ds U M1 = .ok (.rt x) M2) : exs Φ (.cons (.for tg it b) ss) U M = .ok (.rt x) M2 := by simp [h,hl]
theorem c_run {P : Prg} {k f : Nat} {fn : Fn} {ds : List D} {d : D} {M' : MH} {r : R D} (hf : P.fn f = some fn) (hn : ds.length = fn.np) (hb : exs (callF P k) fn.body (ds.map some ++ List.replicate (fn.ns - fn.np) none) M = .ok (.rt d) M') (hr : retn fn.keep M d M' = r) : (callF P (k + 1)).call f ds M = r := by
  rw [call_step hf]
  have h1 : ds.length + fn.dfl.length - fn.np = fn.dfl.length := by omega
  simp only [runF,h1,List.drop_length,List.append_nil,hb]
  rw [if_pos (by simp; omega)]
  exact hr
theorem retn_let {M : MH} {d : D} {M' : MH} (h : nr M.length d = true) (ht : M'.take M.length = M) : retn false M d M' = .ok d M := by
  unfold retn; rw [if_pos ⟨rfl,ht⟩,if_pos h]
end
theorem okR_nat {n : Nat} (h : n <= 1000000) : okR (n : Int) = true := by simp only [okR,decide_eq_true_eq]; omega
theorem okR_int {n : Int} (h0 : -1000000 <= n) (h : n <= 1000000) : okR n = true := by simp only [okR,decide_eq_true_eq]; omega
@[simp] theorem okT_tup {M : MH} {ds : List D} : okT M (.tup ds) = true := rfl
@[simp] theorem okT_lst {M : MH} {ds : List D} : okT M (.lst ds) = true := rfl
@[simp] theorem okT_int {M : MH} {i : Int} : okT M (.int i) = true := rfl
@[simp] theorem okT_str {M : MH} {x : Str} : okT M (.str x) = true := rfl
@[simp] theorem okT_bl {M : MH} {b : Bool} : okT M (.bl b) = true := rfl
@[simp] theorem okT_non {M : MH} : okT M .non = true := rfl
@[simp] theorem fullS_1 {n : Nat} : fullS (n + 1) (some 1) none = false := by simp [fullS,six]
@[simp] theorem fullS_2 {n : Nat} : fullS (n + 1 + 1) (some 2) none = false := by simp [fullS,six]
end Fg
end
section
namespace Fg
open PySem L2
structure Bd where
  K : W.Frag
  dk : Addr -> List (Key × V) -> Prop
  cls : Nat -> Option Addr
  exc : Nat -> Value -> Prop
  xad : Nat -> Option Addr
def KTup (K : W.Frag) (a : Addr) (xs : List V) : Prop :=
  ∃ (o : Obj) (its : Array Value) (n : Nat), K.lookup a = some o /\ o.cls = .type "tuple" /\ o.data = .seq its n /\ its.size <= sizeLine /\ Vals xs its.toList
def KLst (K : W.Frag) (a : Addr) (xs : List V) : Prop :=
  ∃ (o : Obj) (its : Array Value) (n : Nat), K.lookup a = some o /\ o.cls = .type "list" /\ o.dict = none /\ o.data = .seq its n /\ its.size <= sizeLine /\ Vals xs its.toList
def FzT (B : Bd) (F : Addr -> Prop) (H : Hp) (a : Addr) (xs : List V) : Prop := (F a /\ Rd H a (.tup xs)) \/ KTup B.K a xs
def FzL (B : Bd) (F : Addr -> Prop) (H : Hp) (a : Addr) (xs : List V) : Prop := (F a /\ Rd H a (.lst xs)) \/ KLst B.K a xs
def FzD (B : Bd) (F : Addr -> Prop) (H : Hp) (a : Addr) (kvs : List (Key × V)) : Prop := (F a /\ Rd H a (.dK kvs)) \/ B.dk a kvs
theorem FzT.sq {B : Bd} {F : Addr -> Prop} {H : Hp} {a : Addr} {xs : List V} (h : FzT B F H a xs) : SqT B.K H a xs := by
  rcases h with ⟨_,h⟩ | h
  . exact .inl h
  . exact .inr h
theorem FzL.sq {B : Bd} {F : Addr -> Prop} {H : Hp} {a : Addr} {xs : List V} (h : FzL B F H a xs) : SqL B.K H a xs := by
  rcases h with ⟨_,h⟩ | h
  . exact .inl h
  . exact .inr h
mutual
def RD (B : Bd) (F : Addr -> Prop) (ρ : List Addr) (H : Hp) : D -> V -> Prop
  | .non,v => v = .non
  | .bl b,v => v = .bl b
  | .int i,v => v = .int i
  | .str x,v => v = .str x
  | .tup ds,v => ∃ a vs,v = .ref a /\ FzT B F H a vs /\ RDs B F ρ H ds vs
  | .lst ds,v => ∃ a vs,v = .ref a /\ FzL B F H a vs /\ RDs B F ρ H ds vs
  | .dct ks ds,v => ∃ a kvs,v = .ref a /\ FzD B F H a kvs /\ kvs.map (·.1) = ks /\ RDs B F ρ H ds (kvs.map (·.2))
  | .ref n,v => ∃ a,ρ[n]? = some a /\ v = .ref a
def RDs (B : Bd) (F : Addr -> Prop) (ρ : List Addr) (H : Hp) : List D -> List V -> Prop
  | [],vs => vs = []
  | d :: ds,vs => ∃ v ws,vs = v :: ws /\ RD B F ρ H d v /\ RDs B F ρ H ds ws
end
structure Ext0 (F : Addr -> Prop) (ρ : List Addr) (H : Hp) (F' : Addr -> Prop) (ρ' : List Addr) (H' : Hp) : Prop where
  s : ∀ a ∈ ρ,¬ F a
  f : ∀ a,F a -> F' a
  h : ∀ a,H a ≠ none -> a ∉ ρ -> H' a = H a
  r : ρ <+: ρ'
  n : ∀ a ∈ ρ',a ∈ ρ \/ H a = none
  g : ∀ a,F' a -> F a \/ (H a = none \/ a ∈ ρ)
structure Ex1 (F : Addr -> Prop) (ρ : List Addr) (H : Hp) (F' : Addr -> Prop) (ρ' : List Addr) (H' : Hp) : Prop where
  f : ∀ a,F a -> F' a
  k : ∀ a,F a -> H a ≠ none -> H' a = H a
  r : ρ <+: ρ'
theorem Ext0.ex1 {F F' : Addr -> Prop} {ρ ρ' : List Addr} {H H' : Hp} (e : Ext0 F ρ H F' ρ' H') : Ex1 F ρ H F' ρ' H' := ⟨e.f,fun a fa h => e.h a h fun z => e.s a z fa,e.r⟩
section
variable {B : Bd} {F F' F1 : Addr -> Prop} {ρ ρ' ρ1 : List Addr} {H H' H1 : Hp}
theorem rd_ne {a : Addr} {u : HO} (h : Rd H a u) : H a ≠ none := by
  rcases h with h | ⟨o,h⟩ <;> rw [h] <;> simp
theorem Ex1.rd (e : Ex1 F ρ H F' ρ' H') {a : Addr} {u : HO} (f : F a) (h : Rd H a u) : Rd H' a u := by
  have q := e.k a f (rd_ne h)
  rcases h with h | ⟨o,h⟩
  . exact .inl (q.trans h)
  . exact .inr ⟨o,q.trans h⟩
theorem Ex1.at (e : Ex1 F ρ H F' ρ' H') {n : Nat} {a : Addr} (h : ρ[n]? = some a) : ρ'[n]? = some a := by
  obtain ⟨t,rfl⟩ := e.r
  have hn : n < ρ.length := by
    rcases Nat.lt_or_ge n ρ.length with q | q
    . exact q
    . rw [List.getElem?_eq_none_iff.mpr q] at h; cases h
  rw [List.getElem?_append_left hn]; exact h
mutual
theorem RD.mono1 (e : Ex1 F ρ H F' ρ' H') : ∀ (d : D) (v : V),RD B F ρ H d v -> RD B F' ρ' H' d v
  | .non,v,h => h
  | .bl _,v,h => h
  | .int _,v,h => h
  | .str _,v,h => h
  | .tup ds,v,h => by
    simp only [RD] at h ⊢
    obtain ⟨a,vs,h1,h2,h3⟩ := h
    refine ⟨a,vs,h1,?_,RDs.mono1 e ds vs h3⟩
    rcases h2 with ⟨f,r⟩ | h2
    . exact .inl ⟨e.f a f,e.rd f r⟩
    . exact .inr h2
  | .lst ds,v,h => by
    simp only [RD] at h ⊢
    obtain ⟨a,vs,h1,h2,h3⟩ := h
    refine ⟨a,vs,h1,?_,RDs.mono1 e ds vs h3⟩
    rcases h2 with ⟨f,r⟩ | h2
    . exact .inl ⟨e.f a f,e.rd f r⟩
    . exact .inr h2
  | .dct ks ds,v,h => by
    simp only [RD] at h ⊢
    obtain ⟨a,kvs,h1,h2,h4,h3⟩ := h
    refine ⟨a,kvs,h1,?_,h4,RDs.mono1 e ds _ h3⟩
    rcases h2 with ⟨f,r⟩ | h2
    . exact .inl ⟨e.f a f,e.rd f r⟩
    . exact .inr h2
  | .ref n,v,h => by
    simp only [RD] at h ⊢
    obtain ⟨a,h1,h2⟩ := h
    exact ⟨a,e.at h1,h2⟩
theorem RDs.mono1 (e : Ex1 F ρ H F' ρ' H') : ∀ (ds : List D) (vs : List V),RDs B F ρ H ds vs -> RDs B F' ρ' H' ds vs
  | [],vs,h => h
  | d :: ds,vs,h => by
    simp only [RDs] at h ⊢
    obtain ⟨v,ws,h1,h2,h3⟩ := h
    exact ⟨v,ws,h1,RD.mono1 e d v h2,RDs.mono1 e ds ws h3⟩
end
theorem Ext0.at (e : Ext0 F ρ H F' ρ' H') {n : Nat} {a : Addr} (h : ρ[n]? = some a) : ρ'[n]? = some a := e.ex1.at h
theorem RD.mono0 (e : Ext0 F ρ H F' ρ' H') (d : D) (v : V) (h : RD B F ρ H d v) : RD B F' ρ' H' d v := RD.mono1 e.ex1 d v h
theorem RDs.mono0 (e : Ext0 F ρ H F' ρ' H') (ds : List D) (vs : List V) (h : RDs B F ρ H ds vs) : RDs B F' ρ' H' ds vs := RDs.mono1 e.ex1 ds vs h
structure Ext (F : Addr -> Prop) (ρ : List Addr) (H : Hp) (F' : Addr -> Prop) (ρ' : List Addr) (H' : Hp) : Prop extends Ext0 F ρ H F' ρ' H' where
  z : ∀ a o u,H a = some (.frz o u) -> H' a = some (.frz o u)
theorem RD.mono (e : Ext F ρ H F' ρ' H') (d : D) (v : V) (h : RD B F ρ H d v) : RD B F' ρ' H' d v := RD.mono0 e.toExt0 d v h
theorem RDs.mono (e : Ext F ρ H F' ρ' H') (ds : List D) (vs : List V) (h : RDs B F ρ H ds vs) : RDs B F' ρ' H' ds vs := RDs.mono0 e.toExt0 ds vs h
theorem Ext.trans (a : Ext F ρ H F1 ρ1 H1) (b : Ext F1 ρ1 H1 F' ρ' H') : Ext F ρ H F' ρ' H' where
  s := a.s
  f := fun x h => b.f x (a.f x h)
  h := fun x h1 h2 => by
    have q := a.h x h1 h2
    have n1 : x ∉ ρ1 := fun z => (a.n x z).elim h2 h1
    exact (b.h x (by rw [q]; exact h1) n1).trans q
  r := List.IsPrefix.trans a.r b.r
  n := fun x hx => by
    rcases b.n x hx with q | q
    . exact a.n x q
    . by_cases hr : x ∈ ρ
      . exact .inl hr
      . refine .inr ?_
        cases hh : H x with
        | none => rfl
        | some u =>
          have := a.h x (by rw [hh]; simp) hr
          rw [q,hh] at this; cases this
  g := fun x hx => by
    rcases b.g x hx with q | q | q
    . exact a.g x q
    . by_cases hr : x ∈ ρ
      . exact .inr (.inr hr)
      . refine .inr (.inl ?_)
        cases hh : H x with
        | none => rfl
        | some u =>
          have := a.h x (by rw [hh]; simp) hr
          rw [q,hh] at this; cases this
    . rcases a.n x q with z | z
      . exact .inr (.inr z)
      . exact .inr (.inl z)
  z := fun x o u h => b.z x o u (a.z x o u h)
theorem Ext.refl (s : ∀ a ∈ ρ,¬ F a) : Ext F ρ H F ρ H := ⟨⟨s,fun _ h => h,fun _ _ _ => rfl,List.prefix_refl _,fun _ h => .inl h,fun _ h => .inl h⟩,fun _ _ _ h => h⟩
end
def MR (B : Bd) (F : Addr -> Prop) (ρ : List Addr) (H : Hp) : MO -> Addr -> Prop
  | .lst ds,a => ∃ vs,H a = some (.lst vs) /\ RDs B F ρ H ds vs
  | .dct kvs,a => ∃ kws,H a = some (.dK kws) /\ kws.map (·.1) = kvs.map (·.1) /\ RDs B F ρ H (kvs.map (·.2)) (kws.map (·.2))
  | .dwk kvs,a => ∃ o kws,H a = some (.frz o (.dK kws)) /\ kws.map (·.1) = kvs.map (·.1) /\ RDs B F ρ H (kvs.map (·.2)) (kws.map (·.2))
  | .ins c fs,a => ∃ C dx fws,B.cls c = some C /\ H a = some (.ins C dx fws) /\ fws.map (·.1) = fs.map (·.1) /\ RDs B F ρ H (fs.map (·.2)) (fws.map (·.2))
theorem MR.mono1 {B : Bd} {F F' : Addr -> Prop} {ρ ρ' : List Addr} {H H' : Hp} (e : Ex1 F ρ H F' ρ' H') {a : Addr} (ha : H' a = H a) : ∀ {o : MO},MR B F ρ H o a -> MR B F' ρ' H' o a
  | .lst ds,⟨vs,h1,h2⟩ => ⟨vs,ha.trans h1,RDs.mono1 e _ _ h2⟩
  | .dct kvs,⟨kws,h1,h2,h3⟩ => ⟨kws,ha.trans h1,h2,RDs.mono1 e _ _ h3⟩
  | .dwk kvs,⟨o,kws,h1,h2,h3⟩ => ⟨o,kws,ha.trans h1,h2,RDs.mono1 e _ _ h3⟩
  | .ins c fs,⟨C,dx,fws,h0,h1,h2,h3⟩ => ⟨C,dx,fws,h0,ha.trans h1,h2,RDs.mono1 e _ _ h3⟩
theorem MR.mono0 {B : Bd} {F F' : Addr -> Prop} {ρ ρ' : List Addr} {H H' : Hp} (e : Ext0 F ρ H F' ρ' H') {a : Addr} (ha : H' a = H a) {o : MO} (h : MR B F ρ H o a) : MR B F' ρ' H' o a := h.mono1 e.ex1 ha
theorem MR.mono {B : Bd} {F F' : Addr -> Prop} {ρ ρ' : List Addr} {H H' : Hp} (e : Ext F ρ H F' ρ' H') {a : Addr} (ha : H' a = H a) {o : MO} (h : MR B F ρ H o a) : MR B F' ρ' H' o a := h.mono0 e.toExt0 ha
theorem MR.ne {B : Bd} {F : Addr -> Prop} {ρ : List Addr} {H : Hp} {a : Addr} : ∀ {o : MO},MR B F ρ H o a -> H a ≠ none
  | .lst ds,⟨vs,h1,h2⟩ => by rw [h1]; simp
  | .dct kvs,⟨kws,h1,_⟩ => by rw [h1]; simp
  | .dwk kvs,⟨o,kws,h1,_⟩ => by rw [h1]; simp
  | .ins c fs,⟨C,dx,fws,_,h1,_⟩ => by rw [h1]; simp
structure SR (B : Bd) (F : Addr -> Prop) (ρ : List Addr) (M : MH) (H : Hp) : Prop where
  len : ρ.length = M.length
  nd : ρ.Nodup
  sep : ∀ a ∈ ρ,¬ F a
  fok : ∀ a,F a -> H a ≠ none
  obj : ∀ (n : Nat) (a : Addr) (o : MO),ρ[n]? = some a -> M[n]? = some o -> MR B F ρ H o a
section
variable {B : Bd} {F F' F1 : Addr -> Prop} {ρ ρ' ρ1 : List Addr} {H H' H1 : Hp} {M M' : MH}
theorem SR.ne (S : SR B F ρ M H) {a : Addr} (h : a ∈ ρ) : H a ≠ none := by
  obtain ⟨n,hn,e⟩ := List.mem_iff_getElem.mp h
  have hm : n < M.length := by rw [<- S.len]; exact hn
  exact (S.obj n a M[n] (by rw [List.getElem?_eq_getElem hn,e]) (List.getElem?_eq_getElem hm)).ne
theorem SR.new (S : SR B F ρ M H) {p : Addr} (h : H p = none) : p ∉ ρ /\ ¬ F p := ⟨fun z => S.ne z h,fun z => S.fok p z h⟩
theorem SR.refl (S : SR B F ρ M H) : Ext F ρ H F ρ H := Ext.refl S.sep
theorem SR.fz (S : SR B F ρ M H) {p : Addr} (h : H p = none) (o : HO) : SR B (fun a => F a \/ a = p) ρ M (upd H p o) /\ Ext F ρ H (fun a => F a \/ a = p) ρ (upd H p o) := by
  obtain ⟨np,nf⟩ := S.new h
  have e : Ext F ρ H (fun a => F a \/ a = p) ρ (upd H p o) := ⟨⟨S.sep,fun a q => .inl q,fun a q _ => upd_ne (by rintro rfl; exact q h),List.prefix_refl _,fun a q => .inl q,fun a q => q.elim .inl fun z => .inr (.inl (z ▸ h))⟩,fun b w u q => by rw [upd_ne (by rintro rfl; rw [h] at q; cases q)]; exact q⟩
  refine ⟨⟨S.len,S.nd,fun a ha z => ?_,fun a z => ?_,fun n a u h1 h2 => ?_⟩,e⟩
  . rcases z with z | z
    . exact S.sep a ha z
    . subst z; exact np ha
  . by_cases q : a = p
    . subst q; rw [upd_same]; simp
    . rw [upd_ne q]
      rcases z with z | z
      . exact S.fok a z
      . exact absurd z q
  . have m := S.obj n a u h1 h2
    exact m.mono e (upd_ne (by rintro rfl; exact m.ne h))
theorem SR.lv (S : SR B F ρ M H) {p : Addr} (h : H p = none) {o : HO} {u : MO} (hu : MR B F (ρ ++ [p]) (upd H p o) u p) : SR B F (ρ ++ [p]) (M ++ [u]) (upd H p o) /\ Ext F ρ H F (ρ ++ [p]) (upd H p o) := by
  obtain ⟨np,nf⟩ := S.new h
  have e : Ext F ρ H F (ρ ++ [p]) (upd H p o) := ⟨⟨S.sep,fun a q => q,fun a q _ => upd_ne (by rintro rfl; exact q h),List.prefix_append _ _,fun a q => by
    rcases List.mem_append.mp q with q | q
    . exact .inl q
    . rw [List.mem_singleton.mp q]; exact .inr h,fun _ q => .inl q⟩,fun b w u q => by rw [upd_ne (by rintro rfl; rw [h] at q; cases q)]; exact q⟩
  refine ⟨⟨by simp [S.len],?_,fun a ha z => ?_,fun a z => ?_,fun n a w h1 h2 => ?_⟩,e⟩
  . rw [List.nodup_append]
    refine ⟨S.nd,by simp,fun a ha b hb => ?_⟩
    rw [List.mem_singleton.mp hb]
    rintro rfl
    exact np ha
  . rcases List.mem_append.mp ha with q | q
    . exact S.sep a q z
    . rw [List.mem_singleton.mp q] at z; exact nf z
  . have q : a ≠ p := by rintro rfl; exact nf z
    rw [upd_ne q]; exact S.fok a z
  . by_cases hn : n < ρ.length
    . rw [List.getElem?_append_left hn] at h1
      rw [List.getElem?_append_left (by rw [<- S.len]; exact hn)] at h2
      have m := S.obj n a w h1 h2
      exact m.mono e (upd_ne (by rintro rfl; exact m.ne h))
    . have hn' : ρ.length <= n := Nat.le_of_not_lt hn
      rw [List.getElem?_append_right hn'] at h1
      rw [List.getElem?_append_right (by rw [<- S.len]; exact hn'),<- S.len] at h2
      cases k : n - ρ.length with
      | zero =>
        rw [k] at h1 h2
        cases h1; cases h2
        exact hu
      | succ j => rw [k] at h1; simp at h1
theorem SR.st0 (S : SR B F ρ M H) {n : Nat} {a : Addr} {o : HO} {u : MO} (hn : ρ[n]? = some a) (hu : MR B F ρ (upd H a o) u a) : SR B F ρ (M.set n u) (upd H a o) /\ Ext0 F ρ H F ρ (upd H a o) := by
  have ha : a ∈ ρ := List.mem_of_getElem? hn
  have e : Ext0 F ρ H F ρ (upd H a o) := ⟨S.sep,fun _ q => q,fun b q nb => upd_ne (by rintro rfl; exact nb ha),List.prefix_refl _,fun _ q => .inl q,fun _ q => .inl q⟩
  refine ⟨⟨by simp [S.len],S.nd,S.sep,fun b z => ?_,fun m b w h1 h2 => ?_⟩,e⟩
  . have q : b ≠ a := by rintro rfl; exact S.sep b ha z
    rw [upd_ne q]; exact S.fok b z
  . by_cases q : m = n
    . subst q
      rw [hn] at h1; cases h1
      rw [List.getElem?_set] at h2
      split at h2
      . split at h2
        . cases h2; exact hu
        . cases h2
      . rename_i z; exact absurd rfl z
    . rw [List.getElem?_set_ne (Ne.symm q)] at h2
      have ne : b ≠ a := by
        rintro rfl
        obtain ⟨m1,e1⟩ := List.getElem?_eq_some_iff.mp h1
        obtain ⟨m2,e2⟩ := List.getElem?_eq_some_iff.mp hn
        exact q ((List.getElem_inj S.nd).mp (e1.trans e2.symm))
      exact (S.obj m b w h1 h2).mono0 e (upd_ne ne)
theorem SR.st (S : SR B F ρ M H) {n : Nat} {a : Addr} {o : HO} {u : MO} (hn : ρ[n]? = some a) (hz : ∀ w v,H a ≠ some (.frz w v)) (hu : MR B F ρ (upd H a o) u a) : SR B F ρ (M.set n u) (upd H a o) /\ Ext F ρ H F ρ (upd H a o) :=
  ⟨(S.st0 hn hu).1,⟨(S.st0 hn hu).2,fun b w v q => by rw [upd_ne (by rintro rfl; exact hz w v q)]; exact q⟩⟩
theorem Ext0.at_ (S : SR B F ρ M H) {n : Nat} {a : Addr} {o : HO} (hn : ρ[n]? = some a) : Ext0 F ρ H F ρ (upd H a o) :=
  ⟨S.sep,fun _ q => q,fun b q nb => upd_ne (by rintro rfl; exact nb (List.mem_of_getElem? hn)),List.prefix_refl _,fun _ q => .inl q,fun _ q => .inl q⟩
theorem Ex1.side {D : Addr} (hF : ¬ F D) (o : HO) : Ex1 F ρ H F ρ (upd H D o) := ⟨fun _ h => h,fun a fa _ => upd_ne (by rintro rfl; exact hF fa),List.prefix_refl _⟩
theorem SR.side (S : SR B F ρ M H) {D : Addr} (hD : D ∉ ρ) (hF : ¬ F D) (o : HO) : SR B F ρ M (upd H D o) :=
  ⟨S.len,S.nd,S.sep,fun a fa => by rw [upd_ne (by rintro rfl; exact hF fa)]; exact S.fok a fa,fun n a w h1 h2 => (S.obj n a w h1 h2).mono1 (Ex1.side hF o) (upd_ne (by rintro rfl; exact hD (List.mem_of_getElem? h1)))⟩
theorem SR.take (S : SR B F ρ M H) {D : Addr} (hD : D ∉ ρ) (hn : H D ≠ none) : SR B (fun a => F a \/ a = D) ρ M H :=
  ⟨S.len,S.nd,fun a ha z => z.elim (S.sep a ha) fun e => hD (e ▸ ha),fun a z => z.elim (S.fok a) fun e => e ▸ hn,fun n a w h1 h2 => (S.obj n a w h1 h2).mono1 ⟨fun _ h => .inl h,fun _ _ _ => rfl,List.prefix_refl _⟩ rfl⟩
theorem SR.hold (S : SR B F ρ M H) {D : Addr} {u : MO} (hD : D ∉ ρ) (hF : ¬ F D) (hu : MR B F (ρ ++ [D]) H u D) : SR B F (ρ ++ [D]) (M ++ [u]) H := by
  refine ⟨by simp [S.len],?_,fun a ha z => ?_,S.fok,fun n a w h1 h2 => ?_⟩
  . rw [List.nodup_append]
    refine ⟨S.nd,by simp,fun a ha b hb => ?_⟩
    rw [List.mem_singleton.mp hb]
    rintro rfl
    exact hD ha
  . rcases List.mem_append.mp ha with q | q
    . exact S.sep a q z
    . rw [List.mem_singleton.mp q] at z; exact hF z
  . by_cases hn : n < ρ.length
    . rw [List.getElem?_append_left hn] at h1
      rw [List.getElem?_append_left (by rw [<- S.len]; exact hn)] at h2
      exact (S.obj n a w h1 h2).mono1 ⟨fun _ h => h,fun _ _ _ => rfl,List.prefix_append _ _⟩ rfl
    . have hn' : ρ.length <= n := Nat.le_of_not_lt hn
      rw [List.getElem?_append_right hn'] at h1
      rw [List.getElem?_append_right (by rw [<- S.len]; exact hn'),<- S.len] at h2
      cases k : n - ρ.length with
      | zero =>
        rw [k] at h1 h2
        cases h1; cases h2
        exact hu
      | succ j => rw [k] at h1; simp at h1
theorem SR.wk (S : SR B F ρ M H) {n : Nat} {a : Addr} {kvs : List (Ky × D)} {kws : List (Key × V)} (o : Obj) (hn : ρ[n]? = some a) (hM : M[n]? = some (.dct kvs)) (hH : H a = some (.dK kws)) :
    SR B F ρ (M.set n (.dwk kvs)) (upd H a (.frz o (.dK kws))) /\ Ext F ρ H F ρ (upd H a (.frz o (.dK kws))) := by
  obtain ⟨kws',h1,h2,h3⟩ := S.obj n a _ hn hM
  rw [hH] at h1; cases h1
  exact S.st (o := .frz o (.dK kws)) (u := .dwk kvs) hn (fun w v q => by rw [hH] at q; cases q) ⟨o,kws,upd_same,h2,RDs.mono0 (Ext0.at_ S hn) _ _ h3⟩
theorem SR.uw (S : SR B F ρ M H) {n : Nat} {a : Addr} {kvs : List (Ky × D)} (hn : ρ[n]? = some a) (hM : M[n]? = some (.dwk kvs)) : ∃ o kws,H a = some (.frz o (.dK kws)) /\
    SR B F ρ (M.set n (.dct kvs)) (upd H a (.dK kws)) := by
  obtain ⟨o,kws,h1,h2,h3⟩ := S.obj n a _ hn hM
  exact ⟨o,kws,h1,(S.st0 (o := .dK kws) (u := .dct kvs) hn ⟨kws,upd_same,h2,RDs.mono0 (Ext0.at_ S hn) _ _ h3⟩).1⟩
theorem Ext.thaw (e : Ext F ρ H F' ρ' H') {a : Addr} {o : HO} (ha : a ∈ ρ') (hn : ∀ w v,H a ≠ some (.frz w v)) (hF : ∀ b ∈ ρ',¬ F' b) : Ext F ρ H F' ρ' (upd H' a o) :=
  ⟨⟨e.s,e.f,fun b q nb => by
    by_cases hb : b = a
    . subst hb
      rcases e.n b ha with z | z
      . exact absurd z nb
      . exact absurd z q
    . rw [upd_ne hb]; exact e.h b q nb,e.r,e.n,e.g⟩,fun b w v q => by rw [upd_ne (by rintro rfl; exact hn w v q)]; exact e.z b w v q⟩
end
section
variable {B : Bd} {F F' F1 : Addr -> Prop} {ρ ρ' ρ1 : List Addr} {H H' H1 : Hp} {M M' : MH}
theorem RDs.length : ∀ {ds : List D} {vs : List V},RDs B F ρ H ds vs -> ds.length = vs.length
  | [],vs,h => by simp only [RDs] at h; subst h; rfl
  | d :: ds,vs,h => by
    simp only [RDs] at h
    obtain ⟨v,ws,rfl,_,h3⟩ := h
    simp [RDs.length h3]
theorem RDs.cons {d : D} {v : V} {ds : List D} {vs : List V} (h : RD B F ρ H d v) (t : RDs B F ρ H ds vs) : RDs B F ρ H (d :: ds) (v :: vs) := by
  simp only [RDs]; exact ⟨v,vs,rfl,h,t⟩
theorem RDs.nil : RDs B F ρ H [] [] := by simp only [RDs]
theorem RDs.append : ∀ {ds es : List D} {vs ws : List V},RDs B F ρ H ds vs -> RDs B F ρ H es ws -> RDs B F ρ H (ds ++ es) (vs ++ ws)
  | [],es,vs,ws,h,t => by simp only [RDs] at h; subst h; exact t
  | d :: ds,es,vs,ws,h,t => by
    simp only [RDs] at h
    obtain ⟨v,us,rfl,h2,h3⟩ := h
    exact RDs.cons h2 (RDs.append h3 t)
theorem RDs.get : ∀ {ds : List D} {vs : List V} {i : Nat} {d : D},RDs B F ρ H ds vs -> ds[i]? = some d -> ∃ v,vs[i]? = some v /\ RD B F ρ H d v
  | [],vs,i,d,h,e => by simp at e
  | d :: ds,vs,i,d',h,e => by
    simp only [RDs] at h
    obtain ⟨v,ws,rfl,h2,h3⟩ := h
    cases i with
    | zero => simp at e; subst e; exact ⟨v,rfl,h2⟩
    | succ i => simp at e; simpa using RDs.get (i := i) h3 e
theorem RDs.take : ∀ {ds : List D} {vs : List V} (n : Nat),RDs B F ρ H ds vs -> RDs B F ρ H (ds.take n) (vs.take n)
  | [],vs,n,h => by simp only [RDs] at h; subst h; simp [RDs]
  | d :: ds,vs,n,h => by
    simp only [RDs] at h
    obtain ⟨v,ws,rfl,h2,h3⟩ := h
    cases n with
    | zero => simp [RDs]
    | succ n => simp only [List.take_succ_cons]; exact RDs.cons h2 (RDs.take n h3)
theorem RDs.drop : ∀ {ds : List D} {vs : List V} (n : Nat),RDs B F ρ H ds vs -> RDs B F ρ H (ds.drop n) (vs.drop n)
  | [],vs,n,h => by simp only [RDs] at h; subst h; simp [RDs]
  | d :: ds,vs,n,h => by
    cases n with
    | zero => exact h
    | succ n =>
      simp only [RDs] at h
      obtain ⟨v,ws,rfl,h2,h3⟩ := h
      simp only [List.drop_succ_cons]; exact RDs.drop n h3
theorem RDs.set : ∀ {ds : List D} {vs : List V} {d : D} {v : V} (i : Nat),RDs B F ρ H ds vs -> RD B F ρ H d v -> RDs B F ρ H (ds.set i d) (vs.set i v)
  | [],vs,d,v,i,h,q => by simp only [RDs] at h; subst h; simp [RDs]
  | e :: ds,vs,d,v,i,h,q => by
    simp only [RDs] at h
    obtain ⟨u,ws,rfl,h2,h3⟩ := h
    cases i with
    | zero => simp only [List.set_cons_zero]; exact RDs.cons q h3
    | succ i => simp only [List.set_cons_succ]; exact RDs.cons h2 (RDs.set i h3 q)
mutual
theorem RD.nr : ∀ {d : D} {v : V},RD B F ρ H d v -> nr ρ.length d = true
  | .non,v,h => by simp [Fg.nr]
  | .bl _,v,h => by simp [Fg.nr]
  | .int _,v,h => by simp [Fg.nr]
  | .str _,v,h => by simp [Fg.nr]
  | .tup ds,v,h => by simp only [RD] at h; obtain ⟨a,vs,h1,h2,h3⟩ := h; simp only [Fg.nr]; exact RDs.nr h3
  | .lst ds,v,h => by simp only [RD] at h; obtain ⟨a,vs,h1,h2,h3⟩ := h; simp only [Fg.nr]; exact RDs.nr h3
  | .dct ks ds,v,h => by simp only [RD] at h; obtain ⟨a,vs,h1,h2,_,h3⟩ := h; simp only [Fg.nr]; exact RDs.nr h3
  | .ref n,v,h => by
    simp only [RD] at h; obtain ⟨a,h1,h2⟩ := h; simp only [Fg.nr]
    obtain ⟨q,_⟩ := List.getElem?_eq_some_iff.mp h1
    exact decide_eq_true q
theorem RDs.nr : ∀ {ds : List D} {vs : List V},RDs B F ρ H ds vs -> nrs ρ.length ds = true
  | [],vs,h => by simp [nrs]
  | d :: ds,vs,h => by
    simp only [RDs] at h
    obtain ⟨v,ws,rfl,h2,h3⟩ := h
    simp only [nrs,RD.nr h2,RDs.nr h3,Bool.and_self]
end
mutual
theorem RD.cut (hp : ρ <+: ρ') : ∀ {d : D} {v : V},Fg.nr ρ.length d = true -> RD B F ρ' H d v -> RD B F ρ H d v
  | .non,v,_,h => h
  | .bl _,v,_,h => h
  | .int _,v,_,h => h
  | .str _,v,_,h => h
  | .tup ds,v,q,h => by
    simp only [Fg.nr] at q; simp only [RD] at h ⊢
    obtain ⟨a,vs,h1,h2,h3⟩ := h
    exact ⟨a,vs,h1,h2,RDs.cut hp q h3⟩
  | .lst ds,v,q,h => by
    simp only [Fg.nr] at q; simp only [RD] at h ⊢
    obtain ⟨a,vs,h1,h2,h3⟩ := h
    exact ⟨a,vs,h1,h2,RDs.cut hp q h3⟩
  | .dct ks ds,v,q,h => by
    simp only [Fg.nr] at q; simp only [RD] at h ⊢
    obtain ⟨a,vs,h1,h2,h4,h3⟩ := h
    exact ⟨a,vs,h1,h2,h4,RDs.cut hp q h3⟩
  | .ref n,v,q,h => by
    simp only [Fg.nr] at q; simp only [RD] at h ⊢
    obtain ⟨a,h1,h2⟩ := h
    obtain ⟨t,rfl⟩ := hp
    rw [List.getElem?_append_left (of_decide_eq_true q)] at h1
    exact ⟨a,h1,h2⟩
theorem RDs.cut (hp : ρ <+: ρ') : ∀ {ds : List D} {vs : List V},nrs ρ.length ds = true -> RDs B F ρ' H ds vs -> RDs B F ρ H ds vs
  | [],vs,_,h => h
  | d :: ds,vs,q,h => by
    simp only [nrs,Bool.and_eq_true] at q; simp only [RDs] at h ⊢
    obtain ⟨v,ws,rfl,h2,h3⟩ := h
    exact ⟨v,ws,rfl,RD.cut hp q.1 h2,RDs.cut hp q.2 h3⟩
end
theorem MR.cut (hp : ρ <+: ρ') {a : Addr} {F0 : Addr -> Prop} {H0 : Hp} {a0 : Addr} : ∀ {o : MO},MR B F0 ρ H0 o a0 -> MR B F ρ' H o a -> MR B F ρ H o a
  | .lst ds,⟨_,_,k⟩,⟨vs,h1,h2⟩ => ⟨vs,h1,RDs.cut hp (RDs.nr k) h2⟩
  | .dct kvs,⟨_,_,_,k⟩,⟨kws,h1,h2,h3⟩ => ⟨kws,h1,h2,RDs.cut hp (RDs.nr k) h3⟩
  | .dwk kvs,⟨_,_,_,_,k⟩,⟨o,kws,h1,h2,h3⟩ => ⟨o,kws,h1,h2,RDs.cut hp (RDs.nr k) h3⟩
  | .ins c fs,⟨_,_,_,_,_,_,k⟩,⟨C,dx,fws,h0,h1,h2,h3⟩ => ⟨C,dx,fws,h0,h1,h2,RDs.cut hp (RDs.nr k) h3⟩
theorem SR.cut (S : SR B F ρ M H) (S' : SR B F' ρ' M' H') (e : Ext F ρ H F' ρ' H') (hm : M'.take M.length = M) : SR B F' ρ M H' where
  len := S.len
  nd := S.nd
  sep := fun a ha => S'.sep a (e.r.subset ha)
  fok := S'.fok
  obj := fun n a o h1 h2 => by
    have m' : M'[n]? = some o := by
      rw [<- hm] at h2
      rw [List.getElem?_take] at h2
      split at h2
      . exact h2
      . cases h2
    exact MR.cut e.r (S.obj n a o h1 h2) (S'.obj n a o (e.at h1) m')
theorem Ext.cut (e : Ext F ρ H F' ρ' H') : Ext F ρ H F' ρ H' := ⟨⟨e.s,e.f,e.h,List.prefix_refl _,fun _ h => .inl h,e.g⟩,e.z⟩
end
end Fg
end
section
set_option autoImplicit false
namespace Fg
open PySem L2
def Thw (th : Addr -> Prop) (H H' : Hp) : Prop := H' = H \/ ∃ a o kvs,th a /\ H a = some (.frz o (.dK kvs)) /\ H' = upd H a (.dK kvs)
abbrev XS := Value -> Option Addr -> St -> Hp -> Prop
structure Gx where
  e : XS
  th : Addr -> Prop
  cl : ∀ cv x U H H',Thw th H H' -> e cv x U H' -> e cv x U H
def PostG {α β : Type} (rel : (Addr -> Prop) -> List Addr -> Hp -> α -> β -> Prop) (B : Bd) (r : R α) (F : Addr -> Prop) (ρ : List Addr) (H : Hp) (Q : β -> Hp -> Prop) (E : XK) : Prop :=
  match r with
  | .ok d M' => ∀ F' ρ' H' v,Ext F ρ H F' ρ' H' -> SR B F' ρ' M' H' -> rel F' ρ' H' d v -> Q v H'
  | .exc c M' => ∀ F' ρ' H' cv x,Ext F ρ H F' ρ' H' -> SR B F' ρ' M' H' -> B.exc c cv -> E cv x H'
  | .bad => False
abbrev Post (B : Bd) := PostG (RD B) B
abbrev PostL (B : Bd) := PostG (RDs B) B
section
variable {B : Bd} {F F' F1 : Addr -> Prop} {ρ ρ' ρ1 : List Addr} {H H' H1 : Hp} {M M' : MH} {E : XK}
theorem PostG.weak {α β : Type} {rel : (Addr -> Prop) -> List Addr -> Hp -> α -> β -> Prop} {r : R α} {Q : β -> Hp -> Prop} (e : Ext F ρ H F1 ρ1 H1) (h : PostG rel B r F ρ H Q E) : PostG rel B r F1 ρ1 H1 Q E := by
  cases r with
  | ok d M' => exact fun F' ρ' H' v e' S r => h F' ρ' H' v (e.trans e') S r
  | exc c M' => exact fun F' ρ' H' cv x e' S r => h F' ρ' H' cv x (e.trans e') S r
  | bad => exact h
theorem PostG.imp {α β : Type} {rel : (Addr -> Prop) -> List Addr -> Hp -> α -> β -> Prop} {r : R α} {Q Q' : β -> Hp -> Prop} (h : PostG rel B r F ρ H Q E) (k : ∀ v H',Q v H' -> Q' v H') : PostG rel B r F ρ H Q' E := by
  cases r with
  | ok d M' => exact fun F' ρ' H' v e' S r => k _ _ (h F' ρ' H' v e' S r)
  | exc c M' => exact h
  | bad => exact h
theorem PostG.bind {α β α' β' : Type} {rel : (Addr -> Prop) -> List Addr -> Hp -> α -> β -> Prop} {rel' : (Addr -> Prop) -> List Addr -> Hp -> α' -> β' -> Prop} {x : R α} {f : α -> MH -> R α'} {Q : β' -> Hp -> Prop} (h : PostG rel' B (x.bind f) F ρ H Q E) :
    PostG rel B x F ρ H (fun v H' => ∃ d M' F' ρ',Ext F ρ H F' ρ' H' /\ SR B F' ρ' M' H' /\ rel F' ρ' H' d v /\ PostG rel' B (f d M') F' ρ' H' Q E) E := by
  cases x with
  | ok d M' => exact fun F' ρ' H' v e S r => ⟨d,M',F',ρ',e,S,r,PostG.weak e h⟩
  | exc c M' => exact h
  | bad => exact h
theorem PostG.run {α β : Type} {rel : (Addr -> Prop) -> List Addr -> Hp -> α -> β -> Prop} {d : α} {Q : β -> Hp -> Prop} {v : β} (h : PostG rel B (.ok d M) F ρ H Q E) (S : SR B F ρ M H) (r : rel F ρ H d v) : Q v H :=
  h F ρ H v S.refl S r
end
structure RS (B : Bd) (F : Addr -> Prop) (ρ : List Addr) (H : Hp) (UD : Sg) (U : St) : Prop where
  len : U.length = UD.length
  get : ∀ (i : Nat) (d : D),UD[i]? = some (some d) -> ∃ v,U[i]? = some (some v) /\ RD B F ρ H d v
section
variable {B : Bd} {F F' F1 : Addr -> Prop} {ρ ρ' ρ1 : List Addr} {H H' H1 : Hp} {M M' : MH} {UD : Sg} {U : St}
theorem RS.mono (e : Ext F ρ H F' ρ' H') (h : RS B F ρ H UD U) : RS B F' ρ' H' UD U :=
  ⟨h.len,fun i d q => let ⟨v,h1,h2⟩ := h.get i d q; ⟨v,h1,RD.mono e d v h2⟩⟩
theorem RS.set (h : RS B F ρ H UD U) {d : D} {v : V} (r : RD B F ρ H d v) (i : Nat) : RS B F ρ H (UD.set i (some d)) (U.set i (some v)) := by
  refine ⟨by simp [h.len],fun j d' q => ?_⟩
  rw [List.getElem?_set] at q ⊢
  split at q
  . rename_i e
    split at q
    . rename_i l
      cases q
      refine ⟨v,?_,r⟩
      rw [if_pos e,if_pos (by rw [h.len]; exact l)]
    . cases q
  . rename_i e
    rw [if_neg e]
    exact h.get j d' q
end
def T (B : Bd) (Φ : Fns) (E : Gx) (c : Fg.E) : TE := fun U H Q => ∃ (UD : Sg) (M : MH) (F : Addr -> Prop) (ρ : List Addr),
  SR B F ρ M H /\ RS B F ρ H UD U /\ Post B (ev Φ c UD M) F ρ H Q (fun cv x H' => E.e cv x U H')
def TB (B : Bd) (Φ : Fns) (E : Gx) (c : Fg.E) : TT := fun U H Q => T B Φ E c U H fun v H' => ∃ b,v = .bl b /\ Q b H'
def TL (B : Bd) (Φ : Fns) (E : Gx) (c : Es) : TA := fun U H Q => ∃ (UD : Sg) (M : MH) (F : Addr -> Prop) (ρ : List Addr),
  SR B F ρ M H /\ RS B F ρ H UD U /\ PostL B (evs Φ c UD M) F ρ H Q (fun cv x H' => E.e cv x U H')
def TP (B : Bd) (Φ : Fns) (E : Gx) (c : O) : TO := fun U H Q => ∃ (UD : Sg) (M : MH) (F : Addr -> Prop) (ρ : List Addr),
  SR B F ρ M H /\ RS B F ρ H UD U /\ PostG (fun _ _ _ (a b : Option Int) => a = b) B (evo Φ c UD M) F ρ H Q (fun cv x H' => E.e cv x U H')
section
variable {B : Bd} {Φ : Fns} {E : Gx} {F F' F1 : Addr -> Prop} {ρ ρ' ρ1 : List Addr} {H H' H1 : Hp} {M M' : MH} {UD : Sg} {U : St} {Q : VK}
theorem T.one {a : Fg.E} {g : D -> MH -> R D} {W : V -> Hp -> Prop} {X : XK} (S : SR B F ρ M H) (r : RS B F ρ H UD U) (hX : X = fun cv x H' => E.e cv x U H') (h : Post B ((ev Φ a UD M).bind g) F ρ H Q X)
    (k : ∀ x M1 F1 ρ1 H1 v,Ext F ρ H F1 ρ1 H1 -> SR B F1 ρ1 M1 H1 -> RS B F1 ρ1 H1 UD U -> RD B F1 ρ1 H1 x v -> Post B (g x M1) F1 ρ1 H1 Q X -> W v H1) : T B Φ E a U H W := by
  subst hX
  refine ⟨UD,M,F,ρ,S,r,PostG.imp (PostG.bind (rel := RD B) h) fun v H1 ⟨x,M1,F1,ρ1,e,S1,rx,h1⟩ => ?_⟩
  exact k x M1 F1 ρ1 H1 v e S1 (r.mono e) rx h1
theorem T.two {a b : Fg.E} {g : D -> D -> MH -> R D} {W : V -> V -> Hp -> Prop} {X : XK} (S : SR B F ρ M H) (r : RS B F ρ H UD U) (hX : X = fun cv x H' => E.e cv x U H')
    (h : Post B ((ev Φ a UD M).bind fun x M1 => (ev Φ b UD M1).bind fun y M2 => g x y M2) F ρ H Q X)
    (k : ∀ x y M2 F2 ρ2 H2 v w,SR B F2 ρ2 M2 H2 -> RS B F2 ρ2 H2 UD U -> RD B F2 ρ2 H2 x v -> RD B F2 ρ2 H2 y w -> Post B (g x y M2) F2 ρ2 H2 Q X -> W v w H2) :
    T B Φ E a U H fun v H1 => T B Φ E b U H1 fun w H2 => W v w H2 := by
  refine T.one S r hX h fun x M1 F1 ρ1 H1 v e1 S1 r1 rx h1 => ?_
  refine T.one S1 r1 hX h1 fun y M2 F2 ρ2 H2 w e2 S2 r2 ry h2 => ?_
  exact k x y M2 F2 ρ2 H2 v w S2 r2 (RD.mono e2 _ _ rx) ry h2
theorem TL.one {a : Es} {g : List D -> MH -> R D} {W : List V -> Hp -> Prop} {X : XK} (S : SR B F ρ M H) (r : RS B F ρ H UD U) (hX : X = fun cv x H' => E.e cv x U H') (h : Post B ((evs Φ a UD M).bind g) F ρ H Q X)
    (k : ∀ x M1 F1 ρ1 H1 v,Ext F ρ H F1 ρ1 H1 -> SR B F1 ρ1 M1 H1 -> RS B F1 ρ1 H1 UD U -> RDs B F1 ρ1 H1 x v -> Post B (g x M1) F1 ρ1 H1 Q X -> W v H1) : TL B Φ E a U H W := by
  subst hX
  refine ⟨UD,M,F,ρ,S,r,PostG.imp (PostG.bind (rel := RDs B) h) fun v H1 ⟨x,M1,F1,ρ1,e,S1,rx,h1⟩ => ?_⟩
  exact k x M1 F1 ρ1 H1 v e S1 (r.mono e) rx h1
theorem sim_v {i : Nat} (h : T B Φ E (.v i) U H Q) : tVar i U H Q := by
  obtain ⟨UD,M,F,ρ,S,r,h⟩ := h
  simp only [ev] at h
  split at h
  . rename_i d hd
    obtain ⟨v,h1,h2⟩ := r.get _ _ hd
    exact ⟨v,h1,PostG.run h S h2⟩
  . exact h.elim
def scl : D -> Option V
  | .non => some .non
  | .bl b => some (.bl b)
  | .int i => some (.int i)
  | .str x => some (.str x)
  | _ => none
theorem scl_rd {d : D} {v : V} (h : scl d = some v) : RD B F ρ H d v := by
  cases d <;> simp only [scl] at h <;> first | (cases h; simp only [RD]) | cases h
theorem sim_k {d : D} {v : V} (hv : scl d = some v) (h : T B Φ E (.k d) U H Q) : tC v U H Q := by
  obtain ⟨UD,M,F,ρ,S,r,h⟩ := h
  simp only [ev] at h
  exact PostG.run h S (scl_rd hv)
theorem newl_sim {fz : Bool} {ds : List D} {vs : List V} {X : XK} (S : SR B F ρ M H) (h : Post B (newl fz ds M) F ρ H Q X) (r : RDs B F ρ H ds vs) : ∀ p,H p = none -> Q (.ref p) (upd H p (.lst vs)) := by
  intro p hp
  cases fz with
  | true =>
    simp only [newl,if_true] at h
    obtain ⟨S',e⟩ := S.fz hp (.lst vs)
    refine h _ _ _ _ e S' ?_
    simp only [RD]
    exact ⟨p,vs,rfl,.inl ⟨.inr rfl,.inl upd_same⟩,RDs.mono e _ _ r⟩
  | false =>
    simp only [newl,Bool.false_eq_true,if_false] at h
    have e0 : Ext F ρ H F (ρ ++ [p]) (upd H p (.lst vs)) := ⟨⟨S.sep,fun _ q => q,fun a q _ => upd_ne (by rintro rfl; exact q hp),List.prefix_append _ _,fun a q => by
      rcases List.mem_append.mp q with q | q
      . exact .inl q
      . rw [List.mem_singleton.mp q]; exact .inr hp,fun _ q => .inl q⟩,fun b w u q => by rw [upd_ne (by rintro rfl; rw [hp] at q; cases q)]; exact q⟩
    obtain ⟨S',e⟩ := S.lv (o := .lst vs) (u := .lst ds) hp ⟨vs,upd_same,RDs.mono e0 _ _ r⟩
    refine h _ _ _ _ e S' ?_
    simp only [RD]
    refine ⟨p,?_,rfl⟩
    rw [<- S.len,List.getElem?_append_right (Nat.le_refl _),Nat.sub_self]; rfl
theorem tup_sim {ds : List D} {vs : List V} {X : XK} (S : SR B F ρ M H) (h : Post B (.ok (.tup ds) M) F ρ H Q X) (r : RDs B F ρ H ds vs) : ∀ p,H p = none -> Q (.ref p) (upd H p (.tup vs)) := by
  intro p hp
  obtain ⟨S',e⟩ := S.fz hp (.tup vs)
  refine h _ _ _ _ e S' ?_
  simp only [RD]
  exact ⟨p,vs,rfl,.inl ⟨.inr rfl,.inl upd_same⟩,RDs.mono e _ _ r⟩
theorem sim_tup {es : Es} (hz : ∀ {U : Sg} {M : MH} {ds M'},evs Φ es U M = .ok ds M' -> ds.length <= sizeLine) (h : T B Φ E (.tup es) U H Q) : tTup (TL B Φ E es) U H Q := by
  obtain ⟨UD,M,F,ρ,S,r,h⟩ := h
  simp only [ev] at h
  refine ⟨UD,M,F,ρ,S,r,?_⟩
  cases hx : evs Φ es UD M with
  | ok ds M1 =>
    rw [hx] at h
    intro F1 ρ1 H1 vs e S1 rv
    refine ⟨by rw [<- RDs.length rv]; exact hz hx,tup_sim (X := fun cv x H' => E.e cv x U H') S1 (PostG.weak e h) rv⟩
  | exc c M1 => rw [hx] at h; exact h
  | bad => rw [hx] at h; exact h
theorem sim_lst {fz : Bool} {es : Es} (hz : ∀ {U : Sg} {M : MH} {ds M'},evs Φ es U M = .ok ds M' -> ds.length <= sizeLine) (h : T B Φ E (.lst fz es) U H Q) : tLst (TL B Φ E es) U H Q := by
  obtain ⟨UD,M,F,ρ,S,r,h⟩ := h
  simp only [ev] at h
  refine ⟨UD,M,F,ρ,S,r,?_⟩
  cases hx : evs Φ es UD M with
  | ok ds M1 =>
    rw [hx] at h
    intro F1 ρ1 H1 vs e S1 rv
    refine ⟨by rw [<- RDs.length rv]; exact hz hx,newl_sim (X := fun cv x H' => E.e cv x U H') S1 (PostG.weak e h) rv⟩
  | exc c M1 => rw [hx] at h; exact h
  | bad => rw [hx] at h; exact h
theorem sim_dct0 (h : T B Φ E .dct0 U H Q) : tDNewK U H Q := by
  obtain ⟨UD,M,F,ρ,S,r,h⟩ := h
  simp only [ev] at h
  intro p hp
  obtain ⟨S',e⟩ := S.lv (o := .dK []) (u := .dct []) hp ⟨[],upd_same,rfl,by simp [RDs]⟩
  refine h _ _ _ _ e S' ?_
  simp only [RD]
  refine ⟨p,?_,rfl⟩
  rw [<- S.len,List.getElem?_append_right (Nat.le_refl _),Nat.sub_self]; rfl
theorem sim_nil {Q : List V -> Hp -> Prop} (h : TL B Φ E .nil U H Q) : tNil U H Q := by
  obtain ⟨UD,M,F,ρ,S,r,h⟩ := h
  simp only [evs] at h
  exact PostG.run h S RDs.nil
theorem sim_cons {e : Fg.E} {es : Es} {Q : List V -> Hp -> Prop} (h : TL B Φ E (.cons e es) U H Q) : tCons (T B Φ E e) (TL B Φ E es) U H Q := by
  obtain ⟨UD,M,F,ρ,S,r,h⟩ := h
  simp only [evs] at h
  refine ⟨UD,M,F,ρ,S,r,PostG.imp (PostG.bind (rel := RD B) h) fun v H1 ⟨x,M1,F1,ρ1,e1,S1,rx,h1⟩ => ?_⟩
  refine ⟨UD,M1,F1,ρ1,S1,r.mono e1,PostG.imp (PostG.bind (rel := RDs B) h1) fun vs H2 ⟨xs,M2,F2,ρ2,e2,S2,rxs,h2⟩ => ?_⟩
  exact PostG.run h2 S2 (RDs.cons (RD.mono e2 _ _ rx) rxs)
theorem sim_and {a b : Fg.E} (h : T B Φ E (.and a b) U H Q) : tAndV (T B Φ E a) (T B Φ E b) U H Q := by
  obtain ⟨UD,M,F,ρ,S,r,h⟩ := h
  simp only [ev] at h
  refine T.one S r rfl h fun x M1 F1 ρ1 H1 v e1 S1 r1 rx h1 => ?_
  split at h1
  . simp only [RD] at rx; subst rx
    exact ⟨true,rfl,by rw [if_pos rfl]; exact ⟨UD,M1,F1,ρ1,S1,r1,h1⟩⟩
  . simp only [RD] at rx; subst rx
    exact ⟨false,rfl,by rw [if_neg Bool.false_ne_true]; exact PostG.run h1 S1 (by simp only [RD])⟩
  . exact h1.elim
theorem sim_or {a b : Fg.E} (h : T B Φ E (.or a b) U H Q) : tOrV (T B Φ E a) (T B Φ E b) U H Q := by
  obtain ⟨UD,M,F,ρ,S,r,h⟩ := h
  simp only [ev] at h
  refine T.one S r rfl h fun x M1 F1 ρ1 H1 v e1 S1 r1 rx h1 => ?_
  split at h1
  . simp only [RD] at rx; subst rx
    exact ⟨true,rfl,by rw [if_pos rfl]; exact PostG.run h1 S1 (by simp only [RD])⟩
  . simp only [RD] at rx; subst rx
    exact ⟨false,rfl,by rw [if_neg Bool.false_ne_true]; exact ⟨UD,M1,F1,ρ1,S1,r1,h1⟩⟩
  . exact h1.elim
theorem sim_not {a : Fg.E} (h : T B Φ E (.not a) U H Q) : tNotV (T B Φ E a) U H Q := by
  obtain ⟨UD,M,F,ρ,S,r,h⟩ := h
  simp only [ev] at h
  refine T.one S r rfl h fun x M1 F1 ρ1 H1 v e1 S1 r1 rx h1 => ?_
  split at h1
  . simp only [RD] at rx; subst rx
    exact ⟨_,rfl,PostG.run h1 S1 (by simp only [RD])⟩
  . exact h1.elim
theorem simB_and {a b : Fg.E} {Q : Bool -> Hp -> Prop} (h : TB B Φ E (.and a b) U H Q) : tAnd (TB B Φ E a) (TB B Φ E b) U H Q := by
  have h' := sim_and h
  obtain ⟨UD,M,F,ρ,S,r,h⟩ := h'
  refine ⟨UD,M,F,ρ,S,r,PostG.imp h fun v H' ⟨c,e,q⟩ => ⟨c,e,?_⟩⟩
  cases c with
  | true => rw [if_pos rfl] at q ⊢; exact q
  | false => rw [if_neg Bool.false_ne_true] at q ⊢; obtain ⟨b,e,q⟩ := q; cases e; exact q
theorem simB_or {a b : Fg.E} {Q : Bool -> Hp -> Prop} (h : TB B Φ E (.or a b) U H Q) : tOr (TB B Φ E a) (TB B Φ E b) U H Q := by
  have h' := sim_or h
  obtain ⟨UD,M,F,ρ,S,r,h⟩ := h'
  refine ⟨UD,M,F,ρ,S,r,PostG.imp h fun v H' ⟨c,e,q⟩ => ⟨c,e,?_⟩⟩
  cases c with
  | true => rw [if_pos rfl] at q ⊢; obtain ⟨b,e,q⟩ := q; cases e; exact q
  | false => rw [if_neg Bool.false_ne_true] at q ⊢; exact q
theorem simB_not {a : Fg.E} {Q : Bool -> Hp -> Prop} (h : TB B Φ E (.not a) U H Q) : tNot (TB B Φ E a) U H Q := by
  have h' := sim_not h
  obtain ⟨UD,M,F,ρ,S,r,h⟩ := h'
  refine ⟨UD,M,F,ρ,S,r,PostG.imp h fun v H' ⟨c,e,q⟩ => ⟨c,e,?_⟩⟩
  obtain ⟨b,e,q⟩ := q; cases e; exact q
theorem sim_ife {c a b : Fg.E} (h : T B Φ E (.ife c a b) U H Q) : tIf (TB B Φ E c) (T B Φ E a) (T B Φ E b) U H Q := by
  obtain ⟨UD,M,F,ρ,S,r,h⟩ := h
  simp only [ev] at h
  refine T.one S r rfl h fun x M1 F1 ρ1 H1 v e1 S1 r1 rx h1 => ?_
  split at h1
  . simp only [RD] at rx; subst rx
    exact ⟨true,rfl,by dsimp only; rw [if_pos rfl]; exact ⟨UD,M1,F1,ρ1,S1,r1,h1⟩⟩
  . simp only [RD] at rx; subst rx
    exact ⟨false,rfl,by dsimp only; rw [if_neg Bool.false_ne_true]; exact ⟨UD,M1,F1,ρ1,S1,r1,h1⟩⟩
  . exact h1.elim
theorem vw_lst {d : D} {v : V} {ds : List D} (S : SR B F ρ M H) (r : RD B F ρ H d v) (h : vw M d = .lst ds) : ∃ a vs,v = .ref a /\ SqL B.K H a vs /\ RDs B F ρ H ds vs := by
  cases d with
  | lst xs => simp only [vw] at h; cases h; simp only [RD] at r; obtain ⟨a,vs,e,z,q⟩ := r; exact ⟨a,vs,e,z.sq,q⟩
  | ref n =>
    simp only [vw] at h
    split at h
    . rename_i xs hx
      cases h
      simp only [RD] at r
      obtain ⟨a,h1,h2⟩ := r
      obtain ⟨vs,h3,h4⟩ := S.obj n a _ h1 hx
      exact ⟨a,vs,h2,.inl (.inl h3),h4⟩
    . cases h
    . cases h
    . cases h
  | tup _ => simp only [vw] at h; cases h
  | dct _ _ => simp only [vw] at h; cases h
  | non => simp only [vw] at h; cases h
  | bl _ => simp only [vw] at h; cases h
  | int _ => simp only [vw] at h; cases h
  | str _ => simp only [vw] at h; cases h
theorem vw_tup {d : D} {v : V} {ds : List D} (S : SR B F ρ M H) (r : RD B F ρ H d v) (h : vw M d = .tup ds) : ∃ a vs,v = .ref a /\ SqT B.K H a vs /\ RDs B F ρ H ds vs := by
  cases d with
  | tup xs => simp only [vw] at h; cases h; simp only [RD] at r; obtain ⟨a,vs,e,z,q⟩ := r; exact ⟨a,vs,e,z.sq,q⟩
  | ref n =>
    simp only [vw] at h
    split at h <;> cases h
  | lst _ => simp only [vw] at h; cases h
  | dct _ _ => simp only [vw] at h; cases h
  | non => simp only [vw] at h; cases h
  | bl _ => simp only [vw] at h; cases h
  | int _ => simp only [vw] at h; cases h
  | str _ => simp only [vw] at h; cases h
def SqD (B : Bd) (H : Hp) (a : Addr) (kvs : List (Key × V)) : Prop := Rd H a (.dK kvs) \/ B.dk a kvs
theorem zip_keys {α β : Type} : ∀ (ks : List α) (ds : List β),ks.length = ds.length -> (ks.zip ds).map (·.1) = ks /\ (ks.zip ds).map (·.2) = ds
  | [],[],_ => ⟨rfl,rfl⟩
  | k :: ks,d :: ds,h => by
    obtain ⟨a,b⟩ := zip_keys ks ds (by simpa using h)
    simp only [List.zip_cons_cons,List.map_cons,a,b,and_self]
  | [],_ :: _,h => by simp at h
  | _ :: _,[],h => by simp at h
theorem vw_dct {d : D} {v : V} {kds : List (Ky × D)} (S : SR B F ρ M H) (r : RD B F ρ H d v) (h : vw M d = .dct kds) : ∃ a kvs,v = .ref a /\ SqD B H a kvs /\ kvs.map (·.1) = kds.map (·.1) /\ RDs B F ρ H (kds.map (·.2)) (kvs.map (·.2)) := by
  cases d with
  | dct ks ds =>
    simp only [vw] at h; cases h; simp only [RD] at r
    obtain ⟨a,kvs,e,z,q1,q2⟩ := r
    have hl : ks.length = ds.length := by rw [<- q1,List.length_map,RDs.length q2,List.length_map]
    obtain ⟨z1,z2⟩ := zip_keys ks ds hl
    refine ⟨a,kvs,e,?_,by rw [q1,z1],by rw [z2]; exact q2⟩
    rcases z with ⟨_,z⟩ | z
    . exact .inl z
    . exact .inr z
  | ref n =>
    simp only [vw] at h
    split at h
    . cases h
    . rename_i xs hx
      cases h
      simp only [RD] at r
      obtain ⟨a,h1,h2⟩ := r
      obtain ⟨kws,h3,h4,h5⟩ := S.obj n a _ h1 hx
      exact ⟨a,kws,h2,.inl (.inl h3),h4,h5⟩
    . rename_i xs hx
      cases h
      simp only [RD] at r
      obtain ⟨a,h1,h2⟩ := r
      obtain ⟨o,kws,h3,h4,h5⟩ := S.obj n a _ h1 hx
      exact ⟨a,kws,h2,.inl (.inr ⟨o,h3⟩),h4,h5⟩
    . cases h
  | tup _ => simp only [vw] at h; cases h
  | lst _ => simp only [vw] at h; cases h
  | non => simp only [vw] at h; cases h
  | bl _ => simp only [vw] at h; cases h
  | int _ => simp only [vw] at h; cases h
  | str _ => simp only [vw] at h; cases h
theorem look_val {k : Key} : ∀ {kds : List (Ky × D)} {kvs : List (Key × V)},kvs.map (·.1) = kds.map (·.1) -> RDs B F ρ H (kds.map (·.2)) (kvs.map (·.2)) ->
    (∀ d,look kds k = some d -> ∃ v,valV kvs k = some v /\ RD B F ρ H d v) /\ (look kds k = none -> valV kvs k = none) /\ ((look kds k).isSome = (valV kvs k).isSome)
  | [],kvs,h1,h2 => by
    have : kvs = [] := by cases kvs with | nil => rfl | cons _ _ => simp at h1
    subst this
    exact ⟨fun d h => by simp [look] at h,fun _ => by simp [valV],by simp [look,valV]⟩
  | (k', d') :: kds, kvs, h1, h2 => by
    cases kvs with
    | nil => simp at h1
    | cons p kvs =>
      obtain ⟨pk,pv⟩ := p
      simp only [List.map_cons,List.cons.injEq] at h1
      simp only [List.map_cons,RDs] at h2
      obtain ⟨v,ws,e,r1,r2⟩ := h2
      cases e
      obtain ⟨e1,e2⟩ := h1
      subst e1
      have ih := look_val (k := k) e2 r2
      by_cases hk : pk = k
      . subst hk
        simp only [look,valV,List.find?_cons,decide_true]
        exact ⟨fun d h => by cases h; exact ⟨_,rfl,r1⟩,fun h => by simp at h,rfl⟩
      . have hkd : decide (pk = k) = false := decide_eq_false hk
        simp only [look,valV,List.find?_cons,hkd] at ih ⊢
        exact ih
theorem small_ok {i : Int} (h : small i = true) : -(2 ^ 64) < i /\ i < 2 ^ 64 := by
  simp only [small,decide_eq_true_eq] at h
  omega
def rStr : R2 := fun x y H Q => ∃ i j,x = .str i /\ y = .str j /\ i.length + j.length <= sizeLine /\ Q (.str (i ++ j)) H
def rCatQ (K : W.Frag) : R2 := fun x y H Q => ∃ l b xs zs,x = .ref l /\ y = .ref b /\ SqL K H l xs /\ SqL K H b zs /\ xs.length + zs.length <= sizeLine /\ ∀ p,H p = none -> Q (.ref p) (upd H p (.lst (xs ++ zs)))
def rOp (K : W.Frag) : Op2 -> R2
  | .add => fun x y H Q => rI0 (fun i j => .int (i + j)) x y H Q \/ (rStr x y H Q \/ (rCatQ K x y H Q \/ rCatT K x y H Q))
  | .sub => rI0 fun i j => .int (i - j)
  | .mul => rI CMul fun i j => .int (i * j)
  | .fdiv => rI CDiv fun i j => .int (i / j)
  | .mod => rI (fun _ j => 0 < j) fun i j => .int (i % j)
  | .pow => rI CPow fun i j => .int (i ^ j.toNat)
theorem line_le : line <= sizeLine := by decide
theorem op2_sim {o : Op2} {fz : Bool} {x y : D} {v w : V} {X : XK} (S : SR B F ρ M H) (rx : RD B F ρ H x v) (ry : RD B F ρ H y w) (h : Post B (op2 o fz M x y) F ρ H Q X) : rOp B.K o v w H Q := by
  unfold op2 at h
  split at h
  . rename_i i j
    simp only [RD] at rx ry
    subst rx ry
    cases o with
    | add => simp only [num2] at h; exact .inl ⟨i,j,rfl,rfl,PostG.run h S (by simp only [RD])⟩
    | sub => simp only [num2] at h; exact ⟨i,j,rfl,rfl,PostG.run h S (by simp only [RD])⟩
    | mul =>
      simp only [num2] at h
      split at h
      . rename_i k hk
        split at hk
        . rename_i hs
          cases hk
          refine ⟨i,j,rfl,rfl,?_,PostG.run h S (by simp only [RD])⟩
          simp only [Bool.or_eq_true] at hs
          rcases hs with hs | hs
          . exact .inl (small_ok hs)
          . exact .inr (small_ok hs)
        . cases hk
      . exact h.elim
    | fdiv =>
      simp only [num2] at h
      split at h
      . rename_i k hk
        split at hk
        . rename_i hs
          cases hk
          simp only [Bool.and_eq_true,decide_eq_true_eq] at hs
          exact ⟨i,j,rfl,rfl,⟨hs.1,by have := hs.2; omega⟩,PostG.run h S (by simp only [RD])⟩
        . cases hk
      . exact h.elim
    | mod =>
      simp only [num2] at h
      split at h
      . rename_i k hk
        split at hk
        . rename_i hs
          cases hk
          exact ⟨i,j,rfl,rfl,of_decide_eq_true hs,PostG.run h S (by simp only [RD])⟩
        . cases hk
      . exact h.elim
    | pow =>
      simp only [num2] at h
      split at h
      . rename_i k hk
        split at hk
        . rename_i hs
          cases hk
          simp only [Bool.and_eq_true,decide_eq_true_eq] at hs
          exact ⟨i,j,rfl,rfl,⟨hs.1,hs.2.1,hs.2.2⟩,PostG.run h S (by simp only [RD])⟩
        . cases hk
      . exact h.elim
  . rename_i a b
    simp only [RD] at rx ry
    subst rx ry
    cases o with
    | add =>
      simp only at h
      split at h
      . rename_i hl
        exact .inr (.inl ⟨a,b,rfl,rfl,Nat.le_trans (of_decide_eq_true hl) line_le,PostG.run h S (by simp only [RD])⟩)
      . exact h.elim
    | sub => exact h.elim
    | mul => exact h.elim
    | fdiv => exact h.elim
    | mod => exact h.elim
    | pow => exact h.elim
  . cases o with
    | add =>
      simp only at h
      split at h
      . rename_i xs ys hx hy
        split at h
        . rename_i hl
          obtain ⟨a,vs,rfl,q1,r1⟩ := vw_lst S rx hx
          obtain ⟨b,ws,rfl,q2,r2⟩ := vw_lst S ry hy
          refine .inr (.inr (.inl ⟨a,b,vs,ws,rfl,rfl,q1,q2,?_,newl_sim S h (r1.append r2)⟩))
          rw [<- RDs.length r1,<- RDs.length r2]
          exact Nat.le_trans (of_decide_eq_true hl) line_le
        . exact h.elim
      . rename_i xs ys hx hy
        split at h
        . rename_i hl
          simp only [Bool.and_eq_true,Bool.not_eq_true',decide_eq_true_eq] at hl
          cases x with
          | tup xs' =>
            simp only [vw] at hx; cases hx
            simp only [RD] at rx
            obtain ⟨a,vs,rfl,z1,r1⟩ := rx
            obtain ⟨b,ws,rfl,q2,r2⟩ := vw_tup S ry hy
            refine .inr (.inr (.inr ⟨a,b,vs,ws,rfl,rfl,z1.sq,q2,?_,?_,fun e => ?_,fun _ => tup_sim S h (r1.append r2)⟩))
            . rintro rfl
              have := RDs.length r1
              cases xs with
              | nil => simp at hl
              | cons _ _ => simp at this
            . rw [<- RDs.length r1,<- RDs.length r2]
              exact Nat.le_trans hl.2 line_le
            . refine PostG.run h S ?_
              simp only [RD]
              refine ⟨a,vs,rfl,z1,?_⟩
              have := r1.append r2
              rw [e,List.append_nil] at this
              exact this
          | ref n => simp only [vw] at hx; split at hx <;> cases hx
          | lst _ => simp only [vw] at hx; cases hx
          | dct _ _ => simp only [vw] at hx; cases hx
          | non => simp only [vw] at hx; cases hx
          | bl _ => simp only [vw] at hx; cases hx
          | int _ => simp only [vw] at hx; cases hx
          | str _ => simp only [vw] at hx; cases hx
        . exact h.elim
      . exact h.elim
    | sub => exact h.elim
    | mul => exact h.elim
    | fdiv => exact h.elim
    | mod => exact h.elim
    | pow => exact h.elim
theorem sim_op {o : Op2} {fz : Bool} {a b : Fg.E} (h : T B Φ E (.op o fz a b) U H Q) : tOp (rOp B.K o) (T B Φ E a) (T B Φ E b) U H Q := by
  obtain ⟨UD,M,F,ρ,S,r,h⟩ := h
  simp only [ev] at h
  exact T.two S r rfl h fun x y M2 F2 ρ2 H2 v w S2 _ rx ry h2 => op2_sim S2 rx ry h2
theorem sim_neg {a : Fg.E} (h : T B Φ E (.neg a) U H Q) : tUn (rU fun i => .int (-i)) (T B Φ E a) U H Q := by
  obtain ⟨UD,M,F,ρ,S,r,h⟩ := h
  simp only [ev] at h
  refine T.one S r rfl h fun x M1 F1 ρ1 H1 v e1 S1 r1 rx h1 => ?_
  split at h1
  . simp only [RD] at rx; subst rx
    exact ⟨_,rfl,PostG.run h1 S1 (by simp only [RD])⟩
  . exact h1.elim
end
end Fg
end
section
set_option autoImplicit false
namespace Fg
open PySem PySem.Spec L2
def Up (B : Heap) (l : List Env) (a : Addr) (C a0 : Value) (h : Heap) : Prop := B.StaysIn h /\ B.get? a = none /\ h.FunFrames B l /\ ∃ fl,h.TracedAtW B a C a0 fl
theorem Up.of_fly {B h : Heap} {l : List Env} {a : Addr} {C a0 : Value} (x : Heap.FlyingW B l a C a0 h) : Up B l a C a0 h := ⟨x.1,x.2.1,x.2.2.1,_,x.2.2.2.at⟩
theorem Up.of_held {B h : Heap} {l : List Env} {a L : Addr} {C a0 : Value} (x : Heap.HeldW B l a C a0 L h) : Up B l a C a0 h := ⟨x.1,x.2.1,x.2.2.1,_,x.2.2.2⟩
theorem note_at {e : Value} {env env' : Env} (h : env.frame = env'.frame) : noteFrame e env = noteFrame e env' := by
  unfold noteFrame frameOf
  rw [h]
section
variable {M : Model} {A : Around} {E : Value -> Shared -> Prop} {s : Shared} {B : Heap} {env : Env} {outer : List Env} {L a : Addr} {C a0 : Value}
theorem Up.note {Q : Unit -> Shared -> Prop} (hfr : A.frames = some (env :: outer)) (hf : env.frame = some L) (up : Up B (env :: outer) a C a0 s.heap) (k : ∀ h',Heap.HeldW B (env :: outer) a C a0 L h' -> s.heap.UpToSlots h' -> Q () { s with heap := h' }) :
    wpAny M A (noteFrame (.ref a) env) Q E s := by
  obtain ⟨st,ne,hl,fl,oe,vs,T,oT,ts,q1,⟨q2,q2'⟩,q3,q4,q5,q6,q7,q8,q9⟩ := up
  by_cases same : (fl == rawInt L) = true
  . have e : fl = rawInt L := by simpa using same
    subst e
    exact wpAny_noteFrame_againW hf ⟨oe,vs,T,oT,ts,q1,⟨q2,q2'⟩,q3,q4,q5,q6,q7,q8,q9⟩ (k s.heap ⟨st,ne,hl,oe,vs,T,oT,ts,q1,⟨q2,q2'⟩,q3,q4,q5,q6,q7,q8,q9⟩ (Heap.UpToSlots.refl _))
  . subst q2
    unfold noteFrame
    simp only [hf]
    refine wpAny_bind (wpAny_field q1 q3 q4 ?_)
    rw [if_pos (by simp)]
    refine wpAny_bind (wpAny_field q7 q8 q9 ?_)
    rw [if_neg same]
    refine wpAny_bind (wpAny_setField q7 q8 (Array.getElem?_eq_some_iff.mp q9).1 ?_)
    have oth : ∀ b,b ≠ T -> (s.heap.update T (Obj.mapFields (·.setIfInBounds 3 Value.none))).get? b = s.heap.get? b := fun b hb => Heap.get?_update_other _ _ fun z => hb z.symm
    have rec_ : ∀ b o,s.heap.get? b = some o -> (∀ vs,o.data ≠ .fields vs) -> b ≠ T := fun b o hb hn z => by
      subst z; rw [q7] at hb; cases hb; exact hn ts q8
    refine wpAny_entryW (base := B) (a0 := a0) hfr ?_ hf ?_ ?_ ne q3 (Array.getElem?_eq_some_iff.mp q4).1 q2' fun h' nw => ?_
    . exact hl.of_keeps fun b o hb hn => ⟨o,by rw [oth b (rec_ b o hb hn),hb],rfl⟩
    . rw [oth a fun z => q6 z.symm]; exact q1
    . intro b o e
      rw [oth b (by rintro rfl; rw [q5] at e; cases e)]
      exact st b o e
    . obtain ⟨x1,x2,x3,x4⟩ := nw
      exact k h' ⟨x1,ne,x2,x3⟩ fun b o hb hn => x4 b o (by rw [oth b (rec_ b o hb hn),hb]) hn
theorem Up.leave {Q : Unit -> Shared -> Prop} (hfr : A.frames = some (env :: outer)) (hf : env.frame = some L) (up : Up B (env :: outer) a C a0 s.heap) (k : ∀ h',Heap.FlyingW B outer a C a0 h' -> s.heap.UpToSlots h' -> Q () { s with heap := h' }) :
    wpAny M A (leaving env (.ref a)) Q E s :=
  wpAny_bind (up.note hfr hf fun h4 held sm4 => wpAny_landsW held fun h5 fl sm5 => k h5 ⟨fl.1,fl.2.1,fl.2.2.1.2.2,fl.2.2.2⟩ (sm4.trans sm5))
end
end Fg
end
section
set_option autoImplicit false
namespace Fg
open PySem PySem.Spec L2
open PyProof.Rows (AllBare envOfC)
theorem obj_there {P : Program} {w : World} {H : Hp} {h : Heap} {a : Addr} {o : HO} (x : ObjOk P w H h a o) : ∃ ob,h.get? a = some ob := by
  cases o with
  | lst xs => obtain ⟨_,_,_,_,e⟩ := x; exact ⟨_,e⟩
  | tup xs => obtain ⟨_,_,_,_,e,_⟩ := x; exact ⟨_,e⟩
  | dK kvs => obtain ⟨_,_,_,_,o,_,_,e,_⟩ := x; exact ⟨_,e⟩
  | dT kvs => obtain ⟨_,_,_,_,o,_,_,e,_⟩ := x; exact ⟨_,e⟩
  | set S n => obtain ⟨o,_,_,_,e,_⟩ := x; exact ⟨_,e⟩
  | ins C dx fs => obtain ⟨_,_,_,e,_⟩ := x; exact ⟨_,e⟩
  | own y => obtain ⟨_,e⟩ := x; exact ⟨_,e⟩
  | xd fs => obtain ⟨_,⟨_,_,_,e,_⟩,_⟩ := x; exact ⟨_,e⟩
  | rng lo hi => obtain ⟨_,_,_,e⟩ := x; exact ⟨_,e⟩
  | frz ob u => obtain ⟨e,_⟩ := x; exact ⟨_,e⟩
  | tbl ps => exact ⟨_,(show h.get? a = some _ from x)⟩
  | met f y => exact ⟨_,(show h.get? a = some _ from x)⟩
  | ext φ => obtain ⟨_,⟨_,e⟩,_⟩ := x; exact ⟨_,e⟩
def Calm (B : Heap) (fr ex : List Addr) (H : Hp) (h₀ : Heap) : Prop := ∀ b,(H b ≠ none \/ (∃ o,h₀.get? b = some o) /\ b ∉ ex) -> b ∉ fr -> ∃ o,B.get? b = some o
theorem Calm.at {B h : Heap} {fr ex : List Addr} {H : Hp} {h₀ : Heap} (c : Calm B fr ex H h₀) (st : B.StaysIn h) {b : Addr} {o : Obj} (e : h.get? b = some o) (q : H b ≠ none \/ (∃ o,h₀.get? b = some o) /\ b ∉ ex) (hf : b ∉ fr) : B.get? b = some o := by
  obtain ⟨o',e'⟩ := c b q hf
  have := st _ _ e'
  rw [e] at this; cases this
  exact e'
def CXE (P : Program) (w : World) : CXT := fun outer H s E e s' => ∃ (H' : Hp) (a : Addr) (a0 C : Value) (B : Heap),e = .ref a /\ s'.os = s.os /\ AllBare s'.gens /\ Un (frs outer) [] H H' s.heap s'.heap /\ HOk P w H' s'.heap /\
  Heap.FlyingW B outer a C a0 s'.heap /\ Calm B (frs outer) [] H' s.heap /\ E C none H'
def Fly (X : Cx) (E : XS) (e : Value) (s : Shared) : Prop := ∃ (pins : List (Addr × Obj)) (U : St) (H : Hp) (a : Addr) (a0 C : Value) (B : Heap),e = .ref a /\ Inv X pins U H s /\
  Up B X.stack a C a0 s.heap /\ Calm B (frs X.stack) X.ex H X.s₀.heap /\ (∀ p ∈ X.pn,B.get? p.1 = some p.2) /\ E C none U H
def New (X : Cx) (E : XS) (e : Value) (s : Shared) : Prop := ∃ (pins : List (Addr × Obj)) (U : St) (H : Hp) (a : Addr) (C : Value) (vs : List Value) (h : Heap),e = .ref a /\ Inv X pins U H { s with heap := h } /\ Heap.MadeExcOf h s.heap a C vs /\ E C none U H
theorem fly_un {fs fr ex : List Addr} {H₀ H H₁ : Hp} {h₀ h h' B : Heap} (u : Un fs ex H₀ H h₀ h) (cal : Calm B fr ex H₁ h₀) (st0 : B.StaysIn h) (st : B.StaysIn h') (sm : ∀ b ∈ fr,∀ o,h.get? b = some o -> ∃ sl,h'.get? b = some { o with slots := sl })
    (frd : ∀ b ∈ fr,b < h₀.objs.size -> b ∈ fs) : Un fs ex H₀ H h₀ h' where
  keep := fun b o e n0 hb hx => st _ _ (cal.at st0 (u.keep b o e n0 hb hx) (.inr ⟨⟨_,e⟩,hx⟩) fun z => hb (frd b z (Heap.lt_size e)))
  slot := fun b o e n0 hb hx => by
    obtain ⟨sl,e1⟩ := u.slot b o e n0 hb hx
    by_cases z : b ∈ fr
    . obtain ⟨sl',e2⟩ := sm b z _ e1
      exact ⟨sl',e2⟩
    . exact ⟨sl,st _ _ (cal.at st0 e1 (.inr ⟨⟨_,e⟩,hx⟩) z)⟩
  free := u.free
  there := fun b o e hx => by
    obtain ⟨o',e1⟩ := u.there b o e hx
    by_cases z : b ∈ fr
    . obtain ⟨sl',e2⟩ := sm b z _ e1
      exact ⟨_,e2⟩
    . exact ⟨_,st _ _ (cal.at st0 e1 (.inr ⟨⟨_,e⟩,hx⟩) z)⟩
  tups := u.tups
  frzs := u.frzs
  tbls := u.tbls
theorem fly_hok {P : Program} {w : World} {fr ex : List Addr} {H : Hp} {h₀ h h' B : Heap} (k : HOk P w H h) (cal : Calm B fr ex H h₀) (st0 : B.StaysIn h) (st : B.StaysIn h') (free : ∀ b ∈ fr,H b = none) : HOk P w H h' := fun a o e =>
  (k a o e).stay (fun b u hb e' => by
    have tr : H b ≠ none := by
      rcases hb with rfl | hb
      . rw [e]; simp
      . rw [hb]; simp
    exact st _ _ (cal.at st0 e' (.inl tr) fun z => tr (free b z))) (fun _ q => q) fun _ _ q => q
section
variable {X : Cx} {pins : List (Addr × Obj)} {U : St} {H : Hp} {s : Shared}
theorem frm_data (I : Inv X pins U H s) : ∀ b ∈ frs X.stack,∀ o,s.heap.get? b = some o -> ∀ vs,o.data ≠ .fields vs := fun b hb o e vs => by
  obtain ⟨_,o',e',d⟩ := I.stack.mem hb
  rw [e] at e'; cases e'
  exact d vs
theorem frm_up {h' : Heap} (I : Inv X pins U H s) (sm : s.heap.UpToSlots h') : ∀ b ∈ frs X.stack,∀ o,s.heap.get? b = some o -> ∃ sl,h'.get? b = some { o with slots := sl } := fun b hb o e => sm b o e (frm_data I b hb o e)
theorem frm_old (I : Inv X pins U H s) : ∀ b ∈ frs X.stack,b < X.s₀.heap.objs.size -> b ∈ X.fs := fun b hb hl => by
  rcases List.mem_cons.mp (I.stkSub b hb) with e | z
  . subst e; exact absurd (Nat.lt_of_lt_of_le hl I.ok.above) (Nat.lt_irrefl _)
  . exact z
theorem old_there (I : Inv X pins U H s) {b : Addr} {o : Obj} (e : X.s₀.heap.get? b = some o) (hx : b ∉ X.ex) : ∃ o',s.heap.get? b = some o' := I.base.there b o e hx
theorem passes {E : XS} (hx : ∀ e s,Fly X E e s -> X.xe e s) (pins : List (Addr × Obj)) (U : St) (H : Hp) (s : Shared) (e : Value) (s' : Shared) (I : Inv X pins U H s) (q : CXE X.prog X.w X.stack H s (fun cv x H' => E cv x U H') e s') : X.xe e s' := by
  obtain ⟨H',a,a0,C,B,rfl,os,bare,un,hok,fl,cal,q⟩ := q
  have I' := I.call' (ch := []) os un hok bare (fun b z => absurd z (by simp))
  refine hx _ _ ⟨pins,U,H',a,a0,C,B,rfl,I',.of_fly fl,fun b hb hf => cal b (hb.imp id fun ⟨⟨o,z⟩,n⟩ => ⟨old_there I z n,by simp⟩) hf,fun p hp => ?_,q⟩
  obtain ⟨p1,p2,p3,p4,_⟩ := I'.pin p (List.mem_append_left _ hp)
  refine cal.at fl.1 p1 (.inr ⟨⟨_,(I.pin p (List.mem_append_left _ hp)).1⟩,by simp⟩) fun z => ?_
  rcases List.mem_cons.mp (I.stkSub _ z) with e | z
  . exact p3 e
  . exact p4 z
end
section
variable {P : Program} {w : World} {K : W.Frag} {mg : Str -> Option Value} {base : Heap} {N : List Str} {qual : Str} {scope : Scope} {f : Addr} {cd : Value} {A : Around} {outer : List Env} {s : Shared} {H : Hp} {E : XK}
theorem frs_cons (b : Addr) (h : b ∈ frs (envOfC qual scope s.heap.objs.size f cd :: outer)) : b = s.heap.objs.size \/ b ∈ frs outer := by
  unfold frs at h
  rw [List.filterMap_cons] at h
  exact List.mem_cons.mp h
theorem leave_un {pins : List (Addr × Obj)} {U : St} {H' : Hp} {s' : Shared} {a : Addr} {a0 C : Value} {B h' : Heap} (I : Inv (cxOf (CXE P w) P w K mg base N qual scope f cd A outer s H E) pins U H' s') (st0 : B.StaysIn s'.heap) (cal : Calm B (frs (envOfC qual scope s.heap.objs.size f cd :: outer)) [] H' s.heap)
    (q : E C none H') (fl' : Heap.FlyingW B outer a C a0 h') (sm : s'.heap.UpToSlots h') : CXE P w outer H s E (.ref a) { s' with heap := h' } := by
  refine ⟨H',a,a0,C,B,rfl,I.os,I.bare,fly_un I.base cal st0 fl'.1 (frm_up I sm) (frm_old I),fly_hok I.hok cal st0 fl'.1 I.stkFree,fl',fun b hb hf => cal b hb fun z => ?_,q⟩
  rcases frs_cons b z with e | z
  . subst e
    rcases hb with hb | ⟨⟨o,hb⟩,_⟩
    . exact hb I.free
    . exact absurd (Heap.lt_size hb) (Nat.lt_irrefl _)
  . exact hf z
theorem leave_fly (e : Value) (s' : Shared) (q : Fly (cxOf (CXE P w) P w K mg base N qual scope f cd A outer s H E) (fun cv x _ H' => E cv x H') e s') : (cxOf (CXE P w) P w K mg base N qual scope f cd A outer s H E).xe e s' := by
  obtain ⟨pins,U,H',a,a0,C,B,rfl,I,up,cal,_,q⟩ := q
  exact up.leave (L := s.heap.objs.size) I.ok.frames rfl fun h' fl' sm => leave_un I up.1 cal q fl' sm
theorem leave_new (e : Value) (s' : Shared) (q : New (cxOf (CXE P w) P w K mg base N qual scope f cd A outer s H E) (fun cv x _ H' => E cv x H') e s') : (cxOf (CXE P w) P w K mg base N qual scope f cd A outer s H E).xe e s' := by
  obtain ⟨pins,U,H',a,C,vs,h,rfl,I,made,q⟩ := q
  have hin : ∀ env ∈ (envOfC qual scope s.heap.objs.size f cd :: outer),∀ b,env.frame = some b -> b ∈ frs (envOfC qual scope s.heap.objs.size f cd :: outer) := fun env he b hb => List.mem_filterMap.mpr ⟨env,he,hb⟩
  refine wpAny_leaves_madeW (base := W.hideAll h (frs (envOfC qual scope s.heap.objs.size f cd :: outer))) I.ok.frames rfl (fun b o q => W.of_hideAll _ q) (W.funFrames_hide I.stack hin) made fun h' t fl' tup tn sm => ?_
  have st0 : (W.hideAll h (frs (envOfC qual scope s.heap.objs.size f cd :: outer))).StaysIn h := fun b o q => W.of_hideAll _ q
  have cal : Calm (W.hideAll h (frs (envOfC qual scope s.heap.objs.size f cd :: outer))) (frs (envOfC qual scope s.heap.objs.size f cd :: outer)) [] H' s.heap := fun b hb hf => by
    have : ∃ o,h.get? b = some o := by
      rcases hb with hb | ⟨⟨o,hb⟩,_⟩
      . cases e : H' b with
        | none => exact absurd e hb
        | some o => exact obj_there (I.hok b o e)
      . exact old_there I hb (by simp [cxOf])
    obtain ⟨o,e⟩ := this
    exact ⟨o,W.hideAll_get _ e hf⟩
  have sm' : h.UpToSlots h' := (Heap.UpToSlots.of_keeps made.keeps).trans sm
  refine ⟨H',a,_,C,_,rfl,I.os,I.bare,fly_un I.base cal st0 fl'.1 (frm_up I sm') (frm_old I),fly_hok I.hok cal st0 fl'.1 I.stkFree,fl',fun b hb hf => cal b hb fun z => ?_,q⟩
  rcases frs_cons b z with e | z
  . subst e
    rcases hb with hb | ⟨⟨o,hb⟩,_⟩
    . exact hb I.free
    . exact absurd (Heap.lt_size hb) (Nat.lt_irrefl _)
  . exact hf z
end
end Fg
end
section
set_option autoImplicit false
namespace Fg
open PySem PySem.Spec L2
open PyProof.Rows (AllBare envOfC)
def ExcC (K : W.Frag) (C : Addr) (bmB : List Value) (newId : String) (bm : List Value) : Prop :=
  ∃ nm q N bs hdct sn sub ab col dd k0 k1 k2 k3 k5, K.lookup C = some (excClassObj nm q C N bs bm hdct sn sub ab col dd k0 k1 k2 k3 k5 newId) /\ W.nsOkIn K N = true /\ W.nsIn K N "__init__" = some none /\ W.tailIn K bmB bm = true
variable {X : Cx} {E : XS}
theorem ps_raise {x : Str} {C : Addr} {B newId initId : String} {bmB bm : List Value} {a : Expr} {t : TA} {np cpos pos : Pos} (hm : X.mg x = some (.ref C)) (hk : X.env.kindOf x = some .globalImplicit) (hd : (x == ("__debug__" : Str)) = false)
    (EC : ExcC X.K C bmB newId bm) (FB : ExcBaseFacts B newId initId bmB) (calm : X.calm = true) (hs : starEach [a] X.env = [(false,eval a X.env)]) (ha : PA X [a] t) (hx : ∀ e s,New X E e s -> X.xe e s) :
    PS X (.Raise (some (.Call (.Name x np) [a] [] cpos)) none pos) (fun D U H => t U H fun vs H1 => vs.length <= sizeLine /\ E (.ref C) none U H1) := by
  obtain ⟨nm,q,N,bs,hdct,sn,sub,ab,col,dd,k0,k1,k2,k3,k5,lk,ok,ni,tl⟩ := EC
  intro pins s U H D I ht
  have tail : ∀ {h : Heap},X.K.In h -> PySem.OwnTail h bmB bm := fun KX => W.tail_of_in KX tl
  refine wpAny_Raise_call_subT (C := C) (nm := nm) (q := q) (N := N) (bs := bs) (bm := bm) (hdct := hdct) (sn := sn) (sub := sub) (ab := ab) (col := col) (dd := dd) (k0 := k0) (k1 := k1) (k2 := k2) (k3 := k3) (k5 := k5) FB (mN := X.base.nsMap N)
    ((tail I.kIn).hasType FB.hasBase) (I.ok.hd calm) (by rw [hs]; rfl) (W.nsMap_none_of_in I.mod.kin ok ni)
    (Calls.Name_function_global I.ok.kind hk (Calls.loadGlobal_global (by rw [I.ok.glob]; exact I.mod.glob.keeps I.bk) hm ⟨rfl,?_⟩) hd)
  have z := ha cpos pins s U H _ I ht
  rw [hs] at z ⊢
  refine Calls.evalArgs_plain (thn z fun us s2 y => ?_)
  obtain ⟨vs,H1,I1,r,hl,q⟩ := y
  refine ⟨rfl,by rw [<- r.length]; exact hl,I1.kIn _ _ lk,(Heap.Ns.of_isNs (W.isNs_of_in I.mod.kin ok)).keeps I1.bk,tail I1.kIn,fun h' e made => hx _ _ ⟨pins,U,H1,e,.ref C,us,s2.heap,rfl,I1,made,q⟩⟩
end Fg
end
section
set_option autoImplicit false
namespace Fg
open PySem PySem.Spec L2
abbrev bear (X : Cx) (pins : List (Addr × Obj)) : Cx := { X with pn := X.pn ++ pins }
theorem Cx_ok_bear {X : Cx} {pins : List (Addr × Obj)} (ok : X.Ok) : (bear X pins).Ok :=
  ⟨ok.mod,ok.kind,ok.glob,ok.blt,ok.above,ok.inj,ok.has,ok.cab,ok.hd,ok.frames,ok.stk,ok.exf,ok.bs,ok.bsz,ok.noex,ok.exfs,ok.funs,ok.frf⟩
theorem Cx_ok_unbear {X : Cx} {pins : List (Addr × Obj)} (ok : (bear X pins).Ok) : X.Ok :=
  ⟨ok.mod,ok.kind,ok.glob,ok.blt,ok.above,ok.inj,ok.has,ok.cab,ok.hd,ok.frames,ok.stk,ok.exf,ok.bs,ok.bsz,ok.noex,ok.exfs,ok.funs,ok.frf⟩
section
variable {X : Cx} {pins pins' : List (Addr × Obj)} {U : St} {H : Hp} {s : Shared}
theorem inv_bear (I : Inv X pins U H s) : Inv (bear X pins) [] U H s := ⟨Cx_ok_bear I.ok,I.os,I.bare,I.base,I.loc,I.cell,I.free,I.freeC,fun p hp => I.pin p (by simpa using hp),I.hok,I.len⟩
theorem inv_unbear (I : Inv (bear X pins) pins' U H s) : Inv X pins U H s := ⟨Cx_ok_unbear I.ok,I.os,I.bare,I.base,I.loc,I.cell,I.free,I.freeC,fun p hp => I.pin p (List.mem_append_left _ hp),I.hok,I.len⟩
theorem sp_unbear {D : Ends} {f : Flow} {s' : Shared} (h : SP (bear X pins) pins' D f s') : SP X pins D f s' := by
  cases f with
  | next => obtain ⟨U',H',I,q⟩ := h; exact ⟨U',H',inv_unbear I,q⟩
  | brk => obtain ⟨U',H',I,q⟩ := h; exact ⟨U',H',inv_unbear I,q⟩
  | cont => obtain ⟨U',H',I,q⟩ := h; exact ⟨U',H',inv_unbear I,q⟩
  | ret u => obtain ⟨v,U',H',I,r,q⟩ := h; exact ⟨v,U',H',inv_unbear I,r,q⟩
theorem fly_inv {B h' : Heap} (I : Inv X pins U H s) (cal : Calm B (frs X.stack) X.ex H X.s₀.heap) (hp : ∀ p ∈ X.pn,B.get? p.1 = some p.2) (st0 : B.StaysIn s.heap) (st : B.StaysIn h') (sm : s.heap.UpToSlots h') : Inv X [] U H { s with heap := h' } := by
  have cel : ∀ c v,s.heap.IsCell c v -> h'.IsCell c v := fun c v ⟨o,e,d⟩ => by
    obtain ⟨sl,e'⟩ := sm c o e (fun vs z => by rw [d] at z; cases z)
    exact ⟨_,e',d⟩
  refine ⟨I.ok,I.os,I.bare,fly_un I.base cal st0 st (frm_up I sm) (frm_old I),?_,fun x c e => ?_,I.free,I.freeC,fun p q => ?_,fly_hok I.hok cal st0 st I.stkFree,I.len⟩
  . obtain ⟨m,hn,hv⟩ := I.loc
    refine ⟨m,sm.ns hn,fun i x v h1 h2 h3 => ?_⟩
    obtain ⟨u,r,lk⟩ := hv i x v h1 h2 h3
    refine ⟨u,r,lk.imp id fun ⟨z,c,h4,h5⟩ => ⟨z,c,h4,cel _ _ h5⟩⟩
  . obtain ⟨v,h5⟩ := I.cell x c e
    exact ⟨v,cel _ _ h5⟩
  . have q' : p ∈ X.pn := by simpa using q
    obtain ⟨_,p2⟩ := I.pin p (List.mem_append_left _ q')
    exact ⟨st _ _ (hp p q'),p2⟩
end
abbrev suite (X : Cx) (e : Value) : Cx := { X with A := X.A.mark (some e),calm := false,xe := fun _ _ => False }
section
variable {X : Cx} {pins pins' : List (Addr × Obj)} {U : St} {H : Hp} {s : Shared} {e : Value}
theorem suite_ok (ok : X.Ok) : (suite X e).Ok :=
  ⟨ok.mod,ok.kind,ok.glob,ok.blt,ok.above,ok.inj,ok.has,ok.cab,(fun z => by cases z),ok.frames,ok.stk,ok.exf,ok.bs,ok.bsz,ok.noex,ok.exfs,ok.funs,ok.frf⟩
theorem inv_suite (I : Inv X pins U H s) : Inv (suite X e) pins U H s := ⟨suite_ok I.ok,I.os,I.bare,I.base,I.loc,I.cell,I.free,I.freeC,I.pin,I.hok,I.len⟩
theorem inv_unsuite (ok : X.Ok) (I : Inv (suite X e) pins U H s) : Inv X pins U H s := ⟨ok,I.os,I.bare,I.base,I.loc,I.cell,I.free,I.freeC,I.pin,I.hok,I.len⟩
theorem sp_unsuite (ok : X.Ok) {D : Ends} {f : Flow} {s' : Shared} (h : SP (suite X e) pins D f s') : SP X pins D f s' := by
  cases f with
  | next => obtain ⟨U',H',I,q⟩ := h; exact ⟨U',H',inv_unsuite ok I,q⟩
  | brk => obtain ⟨U',H',I,q⟩ := h; exact ⟨U',H',inv_unsuite ok I,q⟩
  | cont => obtain ⟨U',H',I,q⟩ := h; exact ⟨U',H',inv_unsuite ok I,q⟩
  | ret u => obtain ⟨v,U',H',I,r,q⟩ := h; exact ⟨v,U',H',inv_unsuite ok I,r,q⟩
end
section
variable {M : Model} {A : Around} {E : Value -> Shared -> Prop} {nm q : Str} {C N : Addr} {bs bm : List Value} {hdct : Bool} {sn : List Str} {sub : List Value} {ab : Bool} {col : Option Bool} {dd : Option Addr} {k0 k1 k2 k3 k5 : Option Value} {newId : String}
  {nm' q' : Str} {C' N' : Addr} {bs' bm' : List Value} {hdct' : Bool} {sn' : List Str} {sub' : List Value} {ab' : Bool} {col' : Option Bool} {dd' : Option Addr} {l0 l1 l2 l3 l5 : Option Value} {newId' : String}
theorem exc_matches {h : Heap} {g : Array GenState} {d : Drawn} {t : Nat} {os : OsState} {e : Addr} {oe : Obj} {b : Bool} {Q : Bool -> Shared -> Prop}
    (hC : h.get? C = some (excClassObj nm q C N bs bm hdct sn sub ab col dd k0 k1 k2 k3 k5 newId)) (hD : h.get? C' = some (excClassObj nm' q' C' N' bs' bm' hdct' sn' sub' ab' col' dd' l0 l1 l2 l3 l5 newId')) (he : h.get? e = some oe) (hcls : oe.cls = .ref C)
    (hb' : (Value.ref C' :: bm').contains (.type "BaseException") = true) (hb : (Value.ref C :: bm).contains (.ref C') = b) (hq : Q b ⟨h, g, d, t, os⟩) : wpAny M A (excMatches (.ref e) (.ref C')) Q E ⟨h, g, d, t, os⟩ := by
  have f := tc_notTuple
  unfold excMatches
  repeat (first | (with_reducible refine wpAny_loadPart_at he ?_; rw [hcls]) | with_reducible refine wpAny_loadPart_at hD ?_ | (with_reducible refine wpAny_isSubtype_exc hD ?_; rw [hb']) | (with_reducible refine wpAny_isSubtype_exc hC ?_; rw [hb]) | wp_step)
  cases b <;> (wp_walk; exact hq)
end
def pick (mro : List Value) : List (Addr × TS) -> Option TS
  | [] => none
  | (C',t) :: r => if mro.contains (.ref C') then some t else pick mro r
def EH (K : W.Frag) (rs : List (Addr × TS)) (D : Ends) : XS := fun cv x U H => ∃ C bmB newId bm t,cv = .ref C /\ ExcC K C bmB newId bm /\ pick (.ref C :: bm) rs = some t /\ t D U H
inductive PH (X : Cx) : List ExceptHandler -> List (Addr × TS) -> Prop
  | nil : PH X [] []
  | cons {x : Str} {C' : Addr} {bmB : List Value} {newId : String} {bm : List Value} {b₀ : Stmt} {b : List Stmt} {t : TS} {np pos : Pos} {hs : List ExceptHandler} {rs : List (Addr × TS)} :
      X.mg x = some (.ref C') -> Gl X x -> (x == ("__debug__" : Str)) = false -> ExcC X.K C' bmB newId bm -> bm.contains (.type "BaseException") = true -> (∀ e, PSs (suite X e) (b₀ :: b) t) -> PH X hs rs ->
      PH X (.ExceptHandler (some (.Name x np)) none (b₀ :: b) pos :: hs) ((C',t) :: rs)
theorem handle {X : Cx} {hs : List ExceptHandler} {rs : List (Addr × TS)} (ph : PH X hs rs) {C a : Addr} {a0 : Value} {B : Heap} {bmB : List Value} {newId : String} {bm : List Value} {t : TS} {D : Ends} {U : St} {H : Hp} {s : Shared} (EC : ExcC X.K C bmB newId bm) (pk : pick (.ref C :: bm) rs = some t)
    (I : Inv X [] U H s) (fl : Heap.FlyingW B X.stack a (.ref C) a0 s.heap) (cal : Calm B (frs X.stack) X.ex H X.s₀.heap) (hp : ∀ p ∈ X.pn,B.get? p.1 = some p.2) (ht : t D U H) :
    wpAny (model X.prog X.w) X.A (handleBy (.ref a) X.env hs) (SP X [] D) X.xe s := by
  induction ph with
  | nil => cases pk
  | cons hm hg hd EC' hb' hsu ph ih =>
    obtain ⟨hp',g,d,tk,os⟩ := s
    obtain ⟨oe,heo,hcl⟩ := fl.there
    obtain ⟨nm,q,N,bs,hdct,sn,sub,ab,col,dd,k0,k1,k2,k3,k5,lk,_⟩ := EC
    obtain ⟨nm',q',N',bs',hdct',sn',sub',ab',col',dd',l0,l1,l2,l3,l5,lk',_⟩ := EC'
    refine wpAny_handleBy_cons (codeAny_handlers_test (Calls.Name_function_global I.ok.kind hg (Calls.loadGlobal_global (by rw [I.ok.glob]; exact I.mod.glob.keeps I.bk) hm ?_) hd)) (by intro q; cases q)
    refine exc_matches (I.kIn _ _ lk) (I.kIn _ _ lk') heo hcl (by rw [List.contains_cons,hb',Bool.or_true]) rfl ?_
    simp only [pick] at pk
    cases hc : (Value.ref C :: bm).contains (.ref _) with
    | true =>
      rw [hc] at pk
      simp only [if_true,Option.some.injEq] at pk
      subst pk
      refine codeAny_handlers_suite (PyProof.Rows.lands_againW fl fun h6 fl6 sm6 => ?_)
      have I6 := fly_inv I cal hp fl.1 fl6.1 sm6
      exact wpAny_mono (hsu (.ref a) [] _ U H D (inv_suite I6) ht) (fun f s2 z => sp_unsuite I.ok z) fun _ _ z => z.elim
    | false =>
      rw [hc] at pk
      exact ih pk
theorem ps_try {X : Cx} {body : List Stmt} {h₀ : ExceptHandler} {hs : List ExceptHandler} {pos : Pos} {rs : List (Addr × TS)} {t : Ends -> TS} (stk : X.stack = X.env :: X.outer) (hf : X.env.frame = some X.env.locals)
    (hb : ∀ pins D,PSs ((bear X pins).wish (Fly (bear X pins) (EH X.K rs D))) body (t D)) (ph : ∀ pins,PH (bear X pins) (h₀ :: hs) rs) : PS X (.Try body (h₀ :: hs) [] [] pos) (fun D U H => t D D U H) := by
  intro pins s U H D I ht
  refine wpAny_Try_except (wpAny_mono (hb pins D [] s U H D ((inv_bear I).wish _) ht) (fun f s1 z => ?_) fun e s1 z => ?_)
  . have z' := sp_unbear (SP.unwish z)
    cases f with
    | next => exact wpAny_execs_nil z'
    | brk => exact z'
    | cont => exact z'
    | ret u => exact z'
  . obtain ⟨pins',U1,H1,a,a0,cv,B,rfl,I1,fl,cal,hp,C,bmB,newId,bm,tt,rfl,EC,pk,hts⟩ := z
    have go : ∀ h5,Heap.FlyingW B (X.env :: X.outer) a (.ref C) a0 h5 -> s1.heap.UpToSlots h5 -> wpAny (model X.prog X.w) X.A (handleBy (.ref a) X.env (h₀ :: hs)) (SP X pins D) X.xe { s1 with heap := h5 } := fun h5 fl5 sm5 => by
      have I5 := fly_inv I1 cal hp fl.1 fl5.1 sm5
      exact wpAny_mono (handle (ph pins) EC pk I5 (by show Heap.FlyingW B X.stack _ _ _ _; rw [stk]; exact fl5) cal hp hts) (fun f s2 z => sp_unbear z) fun _ _ z => z
    exact Up.note (L := X.env.locals) (env := X.env) (outer := X.outer) (by rw [I.ok.frames,stk]) hf (by rw [<- stk]; exact fl) fun h4 held sm4 => wpAny_landsW held fun h5 fl5 sm5 => go h5 fl5 (sm4.trans sm5)
end Fg
end
section
set_option autoImplicit false
namespace Fg
open PySem PySem.Spec L2
theorem Up.pass {M : Model} {A : Around} {E : Value -> Shared -> Prop} {s : Shared} {α : Type} {Q : α -> Shared -> Prop} {B : Heap} {l : List Env} {a : Addr} {C a0 : Value} {env : Env} {what : String} (up : Up B l a C a0 s.heap)
    (k : ∀ h',Up B l a C a0 h' -> s.heap.UpToSlots h' -> E (.ref a) { s with heap := h' }) : wpAny M A (passOn what (.ref a) env : Sem α) Q E s := by
  obtain ⟨st,ne,hl,fl,oe,vs,T,oT,ts,q1,q2,q3,q4,q5,q6,q7,q8,q9⟩ := up
  have q0 : 3 < ts.size := (Array.getElem?_eq_some_iff.mp q9).1
  have oth : ∀ x b,b ≠ T -> (s.heap.update T (Obj.mapFields (·.setIfInBounds 3 x))).get? b = s.heap.get? b := fun x b hb => Heap.get?_update_other _ _ (Ne.symm hb)
  have rec_ : ∀ b o,s.heap.get? b = some o -> (∀ vs,o.data ≠ .fields vs) -> b ≠ T := fun b o hb hn z => by
    rw [z,q7] at hb
    cases hb
    exact hn ts q8
  unfold passOn
  refine wpAny_bind (wpAny_field q1 q3 q4 ?_)
  rw [if_neg (by simp)]
  refine wpAny_bind ?_
  unfold setFlight
  refine wpAny_bind (wpAny_field q1 q3 q4 ?_)
  rw [if_pos (by simp)]
  refine wpAny_setField q7 q8 q0 ?_
  refine wpAny_throw (k _ ⟨fun b o e => ?_,ne,hl.of_keeps fun b o hb hn => ⟨o,(oth _ b (rec_ b o hb hn)).trans hb,rfl⟩,?_⟩ fun b o hb hn => ⟨o.slots,(oth _ b (rec_ b o hb hn)).trans hb⟩)
  . exact (oth _ b (by rintro rfl; rw [q5] at e; cases e)).trans (st b o e)
  . exact ⟨_,oe,vs,T,_,_,(oth _ a (Ne.symm q6)).trans q1,q2,q3,q4,q5,q6,Heap.get?_update_self _ q7 (Obj.isFreed_of_fields (Obj.data_mapFields q8 _)),Obj.data_mapFields q8 _,Array.getElem?_setIfInBounds_self_of_lt q0⟩
theorem Up.hide {B h h' : Heap} {l : List Env} {a c : Addr} {C a0 : Value} (up : Up B l a C a0 h) (sb : Heap.SameBut c h h') (hc : ∃ o,h.get? c = some o /\ ∀ vs,o.data ≠ .fields vs) (hfr : c ∉ frs l) : Up (B.hide c) l a C a0 h' := by
  obtain ⟨st,ne,hl,fl,oe,vs,T,oT,ts,q1,q2,q3,q4,q5,q6,q7,q8,q9⟩ := up
  obtain ⟨oc,hoc,hd⟩ := hc
  have hn : ∀ {b : Addr},B.get? b = none -> (B.hide c).get? b = none := fun {b} e => by
    cases q : (B.hide c).get? b with
    | none => rfl
    | some o => rw [Heap.of_hide q] at e; cases e
  have hac : a ≠ c := by rintro rfl; rw [hoc] at q1; cases q1; exact hd _ q3
  have hTc : T ≠ c := by rintro rfl; rw [hoc] at q7; cases q7; exact hd _ q8
  have ff : ∀ l',(∀ b ∈ frs l',b ∈ frs l) -> h.FunFrames B l' -> h'.FunFrames (B.hide c) l' := by
    intro l'
    induction l' with
    | nil => intro _ _; trivial
    | cons env r ih =>
      intro hs hl'
      obtain ⟨hk,⟨L,o,hf,hnn,ho,hdd⟩,hr⟩ := hl'
      have hL : L ∈ frs l := hs L (by unfold frs; rw [List.filterMap_cons,hf]; exact List.mem_cons_self)
      exact ⟨hk,⟨L,o,hf,hn hnn,by rw [sb.2 L (by rintro rfl; exact hfr hL)]; exact ho,hdd⟩,ih (fun b hb => hs b (by unfold frs; rw [List.filterMap_cons,hf]; exact List.mem_cons_of_mem _ hb)) hr⟩
  refine ⟨fun b o e => ?_,hn ne,ff l (fun _ z => z) hl,fl,oe,vs,T,oT,ts,by rw [sb.2 a hac]; exact q1,q2,q3,q4,hn q5,q6,by rw [sb.2 T hTc]; exact q7,q8,q9⟩
  have hbc : b ≠ c := by rintro rfl; rw [Heap.hide_self] at e; cases e
  rw [sb.2 b hbc]
  exact st b o (Heap.of_hide e)
def HasFr (X : Cx) : Prop := ∃ env outer L,X.stack = env :: outer /\ env.frame = some L /\ X.env.frame = some L
end Fg
end
section
set_option autoImplicit false
namespace Fg
open PySem PySem.Spec L2
def tCallE (sp : Sp) (Ex : XS) (t : TA) : TE := fun U H Q => t U H fun vs H1 => sp vs H1 Q fun cv x H' => Ex cv x U H'
section
variable {X : Cx} {Ex : XS} {k : Nat} {f : Addr} {fd : FuncData} {ps : List Str} {sp : Sp} {x : Str} {p pos : Pos} {e : Expr} {es : List Expr} {t : TA}
theorem runE {pins : List (Addr × Obj)} {U : St} {H : Hp} {s : Shared} {Q : VK} {us : List Value} {vs : List V} (F : FnOk X.prog X.w X.K X.mg X.base (CXE X.prog X.w) k f fd ps sp) (hr : Room k X.A) (hb : Binds X.K fd ps []) (hx : ∀ e s,Fly X Ex e s -> X.xe e s)
    (I : Inv X pins U H s) (r : Vals vs us) (h : sp vs H Q fun cv x H' => Ex cv x U H') : wpAny (model X.prog X.w) X.A (call (.ref f) us) (EP X pins U Q) X.xe s := by
  have hl : (us ++ []).length = ps.length := by rw [List.append_nil,<- r.length]; exact F.len _ _ _ _ h
  have bd := hb s us I.kIn hl
  rw [List.append_nil] at bd
  refine wpAny_call (codeAny_mono (F.run X.A X.stack s H ⟨us,[]⟩ us vs Q _ hr I.env0 bd r h) fun z s' hq => ?_)
  match z,hq with
  | .error e,hq => exact passes hx pins U H s e s' I hq
  | .ok (.ret u),hq => exact I.after hq
  | .ok .next,hq => exact hq.elim
  | .ok .brk,hq => exact hq.elim
  | .ok .cont,hq => exact hq.elim
theorem pe_callE (F : FnOk X.prog X.w X.K X.mg X.base (CXE X.prog X.w) k f fd ps sp) (hr : Room k X.A) (hg : Gl X x) (hm : X.mg x = some (.ref f)) (hk : W.keepIn X.K (.ref f) = true) (hb : Binds X.K fd ps []) (hx : ∀ e s,Fly X Ex e s -> X.xe e s)
    (ha : PA X (e :: es) t) (hdb : (x == ("__debug__" : Str)) = false) (he : starEach (e :: es) X.env = (false, eval e X.env) :: starEach es X.env) (hpl : (backTo pos (starEach es X.env)).any (·.1) = false) :
    PE X (.Call (.Name x p) (e :: es) [] pos) (tCallE sp Ex t) := fun pins s U H Q I h =>
  wpAny_Call_Name_kw (ld_glob I hg hm (W.callWith_K (h₀ := X.base) I.ok.mod.kin hk (thn (ha pos pins s U H _ I h) fun us s1 ⟨vs,H1,I1,r,q⟩ => ⟨I1.kIn,runE F hr hb hx I1 r q⟩) he hpl) hdb)
theorem pe_callE0 (F : FnOk X.prog X.w X.K X.mg X.base (CXE X.prog X.w) k f fd ps sp) (hr : Room k X.A) (hg : Gl X x) (hm : X.mg x = some (.ref f)) (hk : W.keepIn X.K (.ref f) = true) (hb : Binds X.K fd ps []) (hx : ∀ e s, Fly X Ex e s -> X.xe e s) (hdb : (x == ("__debug__" : Str)) = false) :
    PE X (.Call (.Name x p) [] [] pos) (tCallE sp Ex tNil) := fun pins s U H Q I h =>
  wpAny_Call_Name_kw (ld_glob I hg hm (W.callWith_K0 I.kIn hk (runE (us := []) F hr hb hx I .nil h)) hdb)
end
end Fg
end
section
set_option autoImplicit false
namespace Fg
open PySem PySem.Spec L2
theorem Up.back {M : Model} {A : Around} {E : Value -> Shared -> Prop} {s : Shared} {B : Heap} {l : List Env} {a : Addr} {C a0 : Value} {env : Env} (up : Up B l a C a0 s.heap)
    (k : ∀ h',Up B l a C a0 h' -> s.heap.UpToSlots h' -> E (.ref a) { s with heap := h' }) : cameBackBy M A env E (.ref a) s := by
  obtain ⟨st,ne,hl,fl,oe,vs,T,oT,ts,q1,q2,q3,q4,q5,q6,q7,q8,q9⟩ := up
  have q0 : 3 < ts.size := (Array.getElem?_eq_some_iff.mp q9).1
  have oth : ∀ x b,b ≠ T -> (s.heap.update T (Obj.mapFields (·.setIfInBounds 3 x))).get? b = s.heap.get? b := fun x b hb => Heap.get?_update_other _ _ (Ne.symm hb)
  have rec_ : ∀ b o,s.heap.get? b = some o -> (∀ vs,o.data ≠ .fields vs) -> b ≠ T := fun b o hb hn z => by
    rw [z,q7] at hb
    cases hb
    exact hn ts q8
  unfold cameBackBy
  refine wpAny_bind (wpAny_field q1 q3 q4 ?_)
  rw [if_neg (by simp)]
  unfold setFlight
  refine wpAny_bind (wpAny_field q1 q3 q4 ?_)
  rw [if_pos (by simp)]
  refine wpAny_setField q7 q8 q0 ?_
  refine k _ ⟨fun b o e => ?_,ne,hl.of_keeps fun b o hb hn => ⟨o,(oth _ b (rec_ b o hb hn)).trans hb,rfl⟩,?_⟩ fun b o hb hn => ⟨o.slots,(oth _ b (rec_ b o hb hn)).trans hb⟩
  . exact (oth _ b (by rintro rfl; rw [q5] at e; cases e)).trans (st b o e)
  . exact ⟨_,oe,vs,T,_,_,(oth _ a (Ne.symm q6)).trans q1,q2,q3,q4,q5,q6,Heap.get?_update_self _ q7 (Obj.isFreed_of_fields (Obj.data_mapFields q8 _)),Obj.data_mapFields q8 _,Array.getElem?_setIfInBounds_self_of_lt q0⟩
theorem new_note {M : Model} {A : Around} {E : Value -> Shared -> Prop} {s : Shared} {h B : Heap} {env : Env} {outer : List Env} {L a : Addr} {C : Value} {vs : List Value} {Q : Unit -> Shared -> Prop} (hfr : A.frames = some (env :: outer)) (hf : env.frame = some L)
    (made : Heap.MadeExcOf h s.heap a C vs) (st : B.StaysIn h) (hl : h.FunFrames B (env :: outer)) (k : ∀ a0 h',Up B (env :: outer) a C a0 h' -> s.heap.UpToSlots h' -> Q () { s with heap := h' }) : wpAny M A (noteFrame (.ref a) env) Q E s := by
  obtain ⟨t,he,_,_⟩ := made.there
  have ne : B.get? a = none := by
    cases q : B.get? a with
    | none => rfl
    | some o => have := st _ _ q; rw [made.new] at this; cases this
  unfold noteFrame
  simp only [hf]
  refine wpAny_bind (wpAny_field he rfl (x := .none) rfl ?_)
  rw [if_neg (by simp)]
  refine wpAny_entryW (base := B) (a0 := .ref t) hfr (hl.of_keeps fun b o hb _ => ⟨o,made.keeps b o hb,rfl⟩) hf he (fun b o e => made.keeps b o (st b o e)) ne rfl (show 1 < 6 by decide) rfl fun h' nw => ?_
  obtain ⟨x1,x2,x3,x4⟩ := nw
  exact k _ h' ⟨x1,ne,x2,_,x3⟩ x4
theorem own_passes {X : Cx} {E : XS} (fr : HasFr X) (fo : ∀ e s,X.xe e s -> Fly X E e s \/ New X E e s) (fx : ∀ e s,Fly X E e s -> X.xe e s) : PassesOwn (model X.prog X.w) X.A X.env X.xe := by
  intro e s q
  obtain ⟨env0,outer0,L,hst,hf0,hfX⟩ := fr
  rcases fo e s q with q | q
  . obtain ⟨pins,U,H,a,a0,C,B,rfl,I,up,cal,hp,q⟩ := q
    show wpAny _ X.A (noteFrame (.ref a) X.env) _ _ s
    rw [note_at (env := X.env) (env' := env0) (hfX.trans hf0.symm)]
    refine Up.note (env := env0) (outer := outer0) (by rw [I.ok.frames,hst]) hf0 (by rw [<- hst]; exact up) fun h4 held sm4 => ?_
    refine (Up.of_held held).back fun h5 up5 sm5 => fx _ _ ?_
    have J := fly_inv I cal hp up.1 up5.1 (sm4.trans sm5)
    have up' : Up B X.stack a C a0 h5 := by rw [hst]; exact up5
    exact ⟨[],U,H,a,a0,C,B,rfl,J,up',cal,hp,q⟩
  . obtain ⟨pins,U,H,a,C,vs,h,rfl,I,made,q⟩ := q
    show wpAny _ X.A (noteFrame (.ref a) X.env) _ _ s
    rw [note_at (env := X.env) (env' := env0) (hfX.trans hf0.symm)]
    have st0 : (W.hideAll h (frs X.stack)).StaysIn h := fun b o q => W.of_hideAll _ q
    have cal : Calm (W.hideAll h (frs X.stack)) (frs X.stack) X.ex H X.s₀.heap := fun b hb hf => by
      have : ∃ o,h.get? b = some o := by
        rcases hb with hb | ⟨⟨o,hb⟩,nx⟩
        . cases e : H b with
          | none => exact absurd e hb
          | some o => exact obj_there (I.hok b o e)
        . exact old_there I hb nx
      obtain ⟨o,e⟩ := this
      exact ⟨o,W.hideAll_get _ e hf⟩
    have hp : ∀ p ∈ X.pn,(W.hideAll h (frs X.stack)).get? p.1 = some p.2 := fun p hp => by
      obtain ⟨p1,p2,p3,p4,_⟩ := I.pin p (List.mem_append_left _ hp)
      refine W.hideAll_get _ p1 fun z => ?_
      rcases List.mem_cons.mp (I.stkSub _ z) with e | z
      . exact p3 e
      . exact p4 z
    have hl : h.FunFrames (W.hideAll h (frs X.stack)) X.stack := W.funFrames_hide I.stack fun env he b hb => List.mem_filterMap.mpr ⟨env,he,hb⟩
    refine new_note (env := env0) (outer := outer0) (by rw [show X.A.frames = some X.stack from I.ok.frames,hst]) hf0 made st0 (hst ▸ hl) fun a0 h4 up4 sm4 => ?_
    refine up4.back fun h5 up5 sm5 => fx _ _ ?_
    have sm : h.UpToSlots h5 := (Heap.UpToSlots.of_keeps made.keeps).trans (sm4.trans sm5)
    have J := fly_inv I cal hp st0 up5.1 sm
    have up' : Up (W.hideAll h (frs X.stack)) X.stack a C a0 h5 := by
      have z : ∀ l,l = X.stack -> Up (W.hideAll h (frs X.stack)) l a C a0 h5 -> Up (W.hideAll h (frs X.stack)) X.stack a C a0 h5 := fun l e u => e ▸ u
      exact z _ hst.symm up5
    exact ⟨[],U,H,a,a0,C,_,rfl,J,up',cal,hp,q⟩
end Fg
end
section
set_option autoImplicit false
namespace Fg
open PySem L2
mutual
def DV (K : W.Frag) (H : Hp) : D -> V -> Prop
  | .non,v => v = .non
  | .bl b,v => v = .bl b
  | .int i,v => v = .int i
  | .str x,v => v = .str x
  | .tup ds,v => ∃ a vs,v = .ref a /\ SqT K H a vs /\ DVs K H ds vs
  | .lst ds,v => ∃ a vs,v = .ref a /\ SqL K H a vs /\ DVs K H ds vs
  | .dct _ _,_ => False
  | .ref _,_ => False
def DVs (K : W.Frag) (H : Hp) : List D -> List V -> Prop
  | [],vs => vs = []
  | d :: ds,vs => ∃ v ws,vs = v :: ws /\ DV K H d v /\ DVs K H ds ws
end
section
variable {B : Bd} {Φ : Fns} {E : Gx} {F F' F1 : Addr -> Prop} {ρ ρ' ρ1 : List Addr} {H H' H1 : Hp} {M M' : MH} {UD : Sg} {U : St} {Q : VK}
mutual
theorem RD.dv : ∀ {d : D} {v : V},plain d = true -> RD B F ρ H d v -> DV B.K H d v
  | .non,v,_,h => by simp only [RD] at h; simp only [DV]; exact h
  | .bl _,v,_,h => by simp only [RD] at h; simp only [DV]; exact h
  | .int _,v,_,h => by simp only [RD] at h; simp only [DV]; exact h
  | .str _,v,_,h => by simp only [RD] at h; simp only [DV]; exact h
  | .tup ds,v,p,h => by
    simp only [RD] at h; simp only [DV]; simp only [plain] at p
    obtain ⟨a,vs,h1,h2,h3⟩ := h
    exact ⟨a,vs,h1,h2.sq,RDs.dv p h3⟩
  | .lst ds,v,p,h => by
    simp only [RD] at h; simp only [DV]; simp only [plain] at p
    obtain ⟨a,vs,h1,h2,h3⟩ := h
    exact ⟨a,vs,h1,h2.sq,RDs.dv p h3⟩
  | .dct _ _,v,p,h => by simp [plain] at p
  | .ref _,v,p,h => by simp [plain] at p
theorem RDs.dv : ∀ {ds : List D} {vs : List V},plains ds = true -> RDs B F ρ H ds vs -> DVs B.K H ds vs
  | [],vs,_,h => by simp only [RDs] at h; simp only [DVs]; exact h
  | d :: ds,vs,p,h => by
    simp only [RDs] at h; simp only [DVs]; simp only [plains,Bool.and_eq_true] at p
    obtain ⟨v,ws,h1,h2,h3⟩ := h
    exact ⟨v,ws,h1,RD.dv p.1 h2,RDs.dv p.2 h3⟩
end
theorem top_dv {d : D} {v : V} (S : SR B F ρ M H) (p : plain (top M d) = true) (h : RD B F ρ H d v) : DV B.K H (top M d) v := by
  cases d with
  | ref n =>
    cases hM : M[n]? with
    | none => simp [top,hM,plain] at p
    | some o =>
      cases o with
      | lst ds =>
        obtain ⟨a,vs,e,q,r⟩ := vw_lst (ds := ds) S h (by simp only [vw,hM])
        simp only [top,hM,plain] at p
        simp only [top,hM,DV]
        exact ⟨a,vs,e,q,RDs.dv p r⟩
      | dct _ => simp [top,hM,plain] at p
      | dwk _ => simp [top,hM,plain] at p
      | ins _ _ => simp [top,hM,plain] at p
  | tup ds => exact RD.dv p h
  | lst ds => exact RD.dv p h
  | dct _ _ => exact RD.dv p h
  | non => exact RD.dv p h
  | bl _ => exact RD.dv p h
  | int _ => exact RD.dv p h
  | str _ => exact RD.dv p h
def rEqD (K : W.Frag) (neg : Bool) : R2 := fun x y H Q => ∃ d e,DV K H d x /\ DV K H e y /\ cmpOk d e = true /\ Q (.bl (if neg then !eqD d e else eqD d e)) H
def rEqB (neg : Bool) : R2 := fun x y H Q => ∃ a b,x = .bl a /\ y = .bl b /\ Q (.bl (if neg then !(a == b) else (a == b))) H
def rDin (B : Bd) (neg : Bool) : R2 := fun x y H Q => ∃ a kvs k,y = .ref a /\ x = kV k /\ SqD B H a kvs /\ Q (.bl (if neg then !(valV kvs k).isSome else (valV kvs k).isSome)) H
def rCmp (B : Bd) : Cmp -> R2
  | .lt => rI0 fun i j => .bl (decide (i < j))
  | .le => rI0 fun i j => .bl (decide (i <= j))
  | .gt => rI0 fun i j => .bl (decide (j < i))
  | .ge => rI0 fun i j => .bl (decide (j <= i))
  | .eq => fun x y H Q => rEqB false x y H Q \/ rEqD B.K false x y H Q
  | .ne => fun x y H Q => rEqB true x y H Q \/ rEqD B.K true x y H Q
  | .isN => fun x y H Q => y = .non /\ Q (.bl (decide (x = .non))) H
  | .notN => fun x y H Q => y = .non /\ Q (.bl (!decide (x = .non))) H
  | .isin => fun x y H Q => rDin B false x y H Q \/ rIn B.K false x y H Q
  | .notin => fun x y H Q => rDin B true x y H Q \/ rIn B.K true x y H Q
theorem key_rd {d : D} {v : V} {k : Ky} (h : keyOf d = some k) (r : RD B F ρ H d v) : v = kV k := by
  cases d with
  | int i => simp only [keyOf] at h; cases h; simp only [RD] at r; exact r
  | str x => simp only [keyOf] at h; cases h; simp only [RD] at r; exact r
  | non => simp only [keyOf] at h; cases h
  | bl _ => simp only [keyOf] at h; cases h
  | tup _ => simp only [keyOf] at h; cases h
  | lst _ => simp only [keyOf] at h; cases h
  | dct _ _ => simp only [keyOf] at h; cases h
  | ref _ => simp only [keyOf] at h; cases h
theorem flat_rd {d : D} {v : V} (h : flat d = true) (r : RD B F ρ H d v) : flatV v = true := by
  cases d <;> first | (simp only [RD] at r; subst r; rfl) | (simp only [flat] at h; cases h)
theorem flat_all {ds : List D} : ∀ {vs : List V},ds.all flat = true -> RDs B F ρ H ds vs -> vs.all flatV = true := by
  induction ds with
  | nil => intro vs _ r; simp only [RDs] at r; subst r; rfl
  | cons d ds ih =>
    intro vs h r
    simp only [RDs] at r
    obtain ⟨v,ws,rfl,r1,r2⟩ := r
    simp only [List.all_cons,Bool.and_eq_true] at h ⊢
    exact ⟨flat_rd h.1 r1,ih h.2 r2⟩
theorem eqD_eqV {d e : D} {v w : V} (h1 : flat d = true) (h2 : flat e = true) (r1 : RD B F ρ H d v) (r2 : RD B F ρ H e w) : eqD d e = eqV v w := by
  cases d <;> first | (simp only [flat] at h1; cases h1; done) | skip
  all_goals (cases e <;> first | (simp only [flat] at h2; cases h2; done) | skip)
  all_goals (simp only [RD] at r1 r2; subst r1 r2; simp only [eqD,eqV])
  all_goals first | rfl | simp [Bool.beq_eq_decide_eq]
theorem any_inV {d : D} {v : V} (h1 : flat d = true) (r1 : RD B F ρ H d v) {ds : List D} : ∀ {vs : List V},ds.all flat = true -> RDs B F ρ H ds vs -> (ds.any fun e => eqD e d) = inV v vs := by
  induction ds with
  | nil => intro vs _ r; simp only [RDs] at r; subst r; rfl
  | cons e ds ih =>
    intro vs h r
    simp only [RDs] at r
    obtain ⟨w,ws,rfl,q1,q2⟩ := r
    simp only [List.all_cons,Bool.and_eq_true] at h
    simp only [List.any_cons,inV,eqD_eqV h.1 h1 q1 r1]
    have := ih h.2 q2
    simp only [inV] at this
    rw [this]
theorem in_sim {neg : Bool} {x y : D} {v w : V} {X : XK} (S : SR B F ρ M H) (rx : RD B F ρ H x v) (ry : RD B F ρ H y w)
    (h : Post B (match vw M y,keyOf x with
    | .dct kvs,some k => .ok (.bl (if neg then !(look kvs k).isSome else (look kvs k).isSome)) M
    | .lst ds,_ => if flat x && ds.all flat then .ok (.bl (if neg then !(ds.any fun d => eqD d x) else ds.any fun d => eqD d x)) M else .bad
    | .tup ds,_ => if flat x && ds.all flat then .ok (.bl (if neg then !(ds.any fun d => eqD d x) else ds.any fun d => eqD d x)) M else .bad
    | _,_ => .bad) F ρ H Q X) : rDin B neg v w H Q \/ rIn B.K neg v w H Q := by
  split at h
  . rename_i kds k hv hk
    obtain ⟨a,kvs,rfl,q,e1,e2⟩ := vw_dct S ry hv
    have := (look_val (k := k) e1 e2).2.2
    refine .inl ⟨a,kvs,k,rfl,key_rd hk rx,q,?_⟩
    rw [<- this]
    exact PostG.run h S (by simp only [RD])
  . rename_i ds hv
    split at h
    . rename_i hf
      simp only [Bool.and_eq_true] at hf
      obtain ⟨a,vs,rfl,q,r⟩ := vw_lst S ry hv
      refine .inr ⟨a,vs,rfl,.inl q,flat_rd hf.1 rx,flat_all hf.2 r,?_⟩
      rw [<- any_inV hf.1 rx hf.2 r]
      exact PostG.run h S (by simp only [RD])
    . exact h.elim
  . rename_i ds hv
    split at h
    . rename_i hf
      simp only [Bool.and_eq_true] at hf
      obtain ⟨a,vs,rfl,q,r⟩ := vw_tup S ry hv
      refine .inr ⟨a,vs,rfl,.inr q,flat_rd hf.1 rx,flat_all hf.2 r,?_⟩
      rw [<- any_inV hf.1 rx hf.2 r]
      exact PostG.run h S (by simp only [RD])
    . exact h.elim
  . exact h.elim
theorem cmp2_sim {o : Cmp} {x y : D} {v w : V} {X : XK} (S : SR B F ρ M H) (rx : RD B F ρ H x v) (ry : RD B F ρ H y w) (h : Post B (cmp2 o M x y) F ρ H Q X) : rCmp B o v w H Q := by
  have eqv : ∀ neg : Bool,Post B (if cmpOk (top M x) (top M y) then .ok (.bl (if neg then !eqD (top M x) (top M y) else eqD (top M x) (top M y))) M else .bad) F ρ H Q X -> rEqD B.K neg v w H Q := by
    intro neg h
    split at h
    . rename_i hc
      have hc' := hc
      simp only [cmpOk,Bool.and_eq_true] at hc'
      exact ⟨_,_,top_dv S hc'.1.1 rx,top_dv S hc'.1.2 ry,hc,PostG.run h S (by simp only [RD])⟩
    . exact h.elim
  unfold cmp2 at h
  split at h
  . simp only [RD] at rx ry; subst rx ry; exact ⟨_,_,rfl,rfl,PostG.run h S (by simp only [RD])⟩
  . simp only [RD] at rx ry; subst rx ry; exact ⟨_,_,rfl,rfl,PostG.run h S (by simp only [RD])⟩
  . simp only [RD] at rx ry; subst rx ry; exact ⟨_,_,rfl,rfl,PostG.run h S (by simp only [RD])⟩
  . simp only [RD] at rx ry; subst rx ry; exact ⟨_,_,rfl,rfl,PostG.run h S (by simp only [RD])⟩
  . simp only [RD] at rx ry; subst rx ry; exact .inl ⟨_,_,rfl,rfl,PostG.run h S (by simp only [RD]; rfl)⟩
  . simp only [RD] at rx ry; subst rx ry; exact .inl ⟨_,_,rfl,rfl,PostG.run h S (by simp only [RD]; rfl)⟩
  . exact .inr (eqv false h)
  . exact .inr (eqv true h)
  . simp only [RD] at rx ry; subst rx ry; exact ⟨rfl,PostG.run h S (by simp [RD])⟩
  . rename_i hn
    simp only [RD] at ry; subst ry
    refine ⟨rfl,?_⟩
    have : v ≠ .non := by
      rintro rfl
      cases x <;> simp [RD] at rx hn
    rw [decide_eq_false this]
    exact PostG.run h S (by simp only [RD])
  . simp only [RD] at rx ry; subst rx ry; exact ⟨rfl,PostG.run h S (by simp [RD])⟩
  . rename_i hn
    simp only [RD] at ry; subst ry
    refine ⟨rfl,?_⟩
    have : v ≠ .non := by
      rintro rfl
      cases x <;> simp [RD] at rx hn
    rw [decide_eq_false this]
    exact PostG.run h S (by simp only [RD]; rfl)
  . exact in_sim (neg := false) S rx ry h
  . exact in_sim (neg := true) S rx ry h
  . exact h.elim
theorem sim_cmp {o : Cmp} {a b : Fg.E} (h : T B Φ E (.cmp o a b) U H Q) : tOp (rCmp B o) (T B Φ E a) (T B Φ E b) U H Q := by
  obtain ⟨UD,M,F,ρ,S,r,h⟩ := h
  simp only [ev] at h
  exact T.two S r rfl h fun x y M2 F2 ρ2 H2 v w S2 _ rx ry h2 => cmp2_sim S2 rx ry h2
theorem ixn_eq (n : Nat) (i : Int) : ixn n i = ixN n i := rfl
theorem ati_rd {ds : List D} {vs : List V} {i : Int} {d : D} (r : RDs B F ρ H ds vs) (h : ati ds i = some d) : ∃ v,atI vs i = some v /\ RD B F ρ H d v := by
  unfold ati at h
  unfold atI
  rw [<- RDs.length r]
  cases hx : ixn ds.length i with
  | none => rw [hx] at h; cases h
  | some j =>
    rw [hx] at h
    rw [ixn_eq] at hx
    rw [hx]
    exact RDs.get r h
def rIxD (B : Bd) : R2 := fun x y H Q => ∃ a kvs k v,x = .ref a /\ y = kV k /\ SqD B H a kvs /\ valV kvs k = some v /\ Q v H
def rIxA (B : Bd) : R2 := fun x y H Q => rIxL B.K x y H Q \/ (rIxT B.K x y H Q \/ (rIxS x y H Q \/ rIxD B x y H Q))
theorem idx2_sim {x y : D} {v w : V} {X : XK} (S : SR B F ρ M H) (rx : RD B F ρ H x v) (ry : RD B F ρ H y w) (h : Post B (idx2 M x y) F ρ H Q X) : rIxA B v w H Q := by
  unfold idx2 at h
  split at h
  . simp only [RD] at rx ry; subst rx ry
    split at h
    . rename_i hl
      split at h
      . rename_i c hc
        exact .inr (.inr (.inl ⟨_,_,c,rfl,rfl,Nat.le_trans (of_decide_eq_true hl) line_le,hc,PostG.run h S (by simp only [RD])⟩))
      . exact h.elim
    . exact h.elim
  . split at h
    . rename_i ds i hv _
      split at h
      . rename_i d hd
        obtain ⟨a,vs,rfl,q,r⟩ := vw_tup S rx hv
        simp only [RD] at ry; subst ry
        obtain ⟨u,h1,h2⟩ := ati_rd r hd
        exact .inr (.inl ⟨a,vs,i,u,rfl,rfl,q,h1,PostG.run h S h2⟩)
      . exact h.elim
    . rename_i ds i hv _
      split at h
      . rename_i d hd
        obtain ⟨a,vs,rfl,q,r⟩ := vw_lst S rx hv
        simp only [RD] at ry; subst ry
        obtain ⟨u,h1,h2⟩ := ati_rd r hd
        exact .inl ⟨a,vs,i,u,rfl,rfl,q,h1,PostG.run h S h2⟩
      . exact h.elim
    . rename_i kds hv _
      split at h
      . rename_i k hk
        split at h
        . rename_i d hd
          obtain ⟨a,kvs,rfl,q,e1,e2⟩ := vw_dct S rx hv
          obtain ⟨u,h1,h2⟩ := (look_val (k := k) e1 e2).1 d hd
          exact .inr (.inr (.inr ⟨a,kvs,k,u,rfl,key_rd hk ry,q,h1,PostG.run h S h2⟩))
        . exact h.elim
      . exact h.elim
    . exact h.elim
theorem sim_idx {a b : Fg.E} (h : T B Φ E (.idx a b) U H Q) : tOp (rIxA B) (T B Φ E a) (T B Φ E b) U H Q := by
  obtain ⟨UD,M,F,ρ,S,r,h⟩ := h
  simp only [ev] at h
  exact T.two S r rfl h fun x y M2 F2 ρ2 H2 v w S2 _ rx ry h2 => idx2_sim S2 rx ry h2
theorem six_eq (n d : Nat) (o : Option Int) : six n d o = HT.sIx n d o := by cases o <;> rfl
theorem cutl_rd {ds : List D} {vs : List V} (r : RDs B F ρ H ds vs) (lo hi : Option Int) : RDs B F ρ H (cutl ds lo hi) (cutV vs lo hi) := by
  unfold cutl cutV
  rw [RDs.length r]
  simp only [six_eq]
  exact RDs.take _ (RDs.drop _ r)
def rSlS : V -> Option Int -> Option Int -> Hp -> VK -> Prop := fun x lo hi H Q => ∃ z,x = .str z /\ z.length <= sizeLine /\ Q (.str (cuts z lo hi)) H
def rSlA (B : Bd) : V -> Option Int -> Option Int -> Hp -> VK -> Prop := fun x lo hi H Q => rSlL B.K x lo hi H Q \/ (rSlT B.K x lo hi H Q \/ rSlS x lo hi H Q)
theorem sl2_sim {fz : Bool} {x : D} {v : V} {lo hi : Option Int} {X : XK} (S : SR B F ρ M H) (rx : RD B F ρ H x v) (h : Post B (sl2 fz M x lo hi) F ρ H Q X) : rSlA B v lo hi H Q := by
  unfold sl2 at h
  split at h
  . simp only [RD] at rx; subst rx
    split at h
    . rename_i hl
      exact .inr (.inr ⟨_,rfl,Nat.le_trans (of_decide_eq_true hl) line_le,PostG.run h S (by simp only [RD])⟩)
    . exact h.elim
  . split at h
    . rename_i ds hv
      cases x with
      | tup xs =>
        simp only [vw] at hv; cases hv
        simp only [RD] at rx
        obtain ⟨a,vs,rfl,z,r⟩ := rx
        split at h
        . exact h.elim
        . rename_i hf
          refine .inr (.inl ⟨a,vs,rfl,z.sq,fun q => hf ?_,tup_sim S h (cutl_rd r lo hi)⟩)
          simp only [fullS,Bool.and_eq_true,decide_eq_true_eq,six_eq,RDs.length r]
          exact q
      | ref n => simp only [vw] at hv; split at hv <;> cases hv
      | lst _ => simp only [vw] at hv; cases hv
      | dct _ _ => simp only [vw] at hv; cases hv
      | non => simp only [vw] at hv; cases hv
      | bl _ => simp only [vw] at hv; cases hv
      | int _ => simp only [vw] at hv; cases hv
      | str _ => simp only [vw] at hv; cases hv
    . rename_i ds hv
      obtain ⟨a,vs,rfl,q,r⟩ := vw_lst S rx hv
      exact .inl ⟨a,vs,rfl,q,newl_sim S h (cutl_rd r lo hi)⟩
    . exact h.elim
theorem sim_o0 {Q : Option Int -> Hp -> Prop} (h : TP B Φ E .none U H Q) : tNoPart U H Q := by
  obtain ⟨UD,M,F,ρ,S,r,h⟩ := h
  simp only [evo] at h
  exact PostG.run h S rfl
theorem sim_o1 {a : Fg.E} {Q : Option Int -> Hp -> Prop} (h : TP B Φ E (.some a) U H Q) : tPart (T B Φ E a) U H Q := by
  obtain ⟨UD,M,F,ρ,S,r,h⟩ := h
  simp only [evo] at h
  refine ⟨UD,M,F,ρ,S,r,PostG.imp (PostG.bind (rel := RD B) h) fun v H1 ⟨x,M1,F1,ρ1,e1,S1,rx,h1⟩ => ?_⟩
  split at h1
  . simp only [RD] at rx; subst rx
    exact ⟨_,rfl,PostG.run h1 S1 rfl⟩
  . exact h1.elim
theorem sim_sl {fz : Bool} {a : Fg.E} {lo hi : O} (h : T B Φ E (.sl fz a lo hi) U H Q) : tSl (rSlA B) (T B Φ E a) (TP B Φ E lo) (TP B Φ E hi) U H Q := by
  obtain ⟨UD,M,F,ρ,S,r,h⟩ := h
  simp only [ev] at h
  refine T.one S r rfl h fun x M1 F1 ρ1 H1 v e1 S1 r1 rx h1 => ?_
  refine ⟨UD,M1,F1,ρ1,S1,r1,PostG.imp (PostG.bind (rel := fun _ _ _ (a b : Option Int) => a = b) h1) fun l H2 ⟨l',M2,F2,ρ2,e2,S2,el,h2⟩ => ?_⟩
  refine ⟨UD,M2,F2,ρ2,S2,r1.mono e2,PostG.imp (PostG.bind (rel := fun _ _ _ (a b : Option Int) => a = b) h2) fun u H3 ⟨u',M3,F3,ρ3,e3,S3,eu,h3⟩ => ?_⟩
  subst el eu
  exact sl2_sim S3 (RD.mono e3 _ _ (RD.mono e2 _ _ rx)) h3
theorem vw_tup_eq {M : MH} {d : D} {ds : List D} (h : vw M d = .tup ds) : d = .tup ds := by
  cases d with
  | tup xs => simp only [vw] at h; cases h; rfl
  | ref n => simp only [vw] at h; split at h <;> cases h
  | lst _ => simp only [vw] at h; cases h
  | dct _ _ => simp only [vw] at h; cases h
  | non => simp only [vw] at h; cases h
  | bl _ => simp only [vw] at h; cases h
  | int _ => simp only [vw] at h; cases h
  | str _ => simp only [vw] at h; cases h
theorem ints_rd : ∀ {ds : List D} {vs : List V} {ns : List Int},RDs B F ρ H ds vs -> intsOf ds = some ns -> vs = ns.map V.int
  | [],vs,ns,r,h => by simp only [intsOf] at h; cases h; simp only [RDs] at r; subst r; rfl
  | d :: ds,vs,ns,r,h => by
    cases d with
    | int i =>
      simp only [intsOf] at h
      cases hx : intsOf ds with
      | none => rw [hx] at h; cases h
      | some ms =>
        rw [hx] at h; cases h
        simp only [RDs] at r
        obtain ⟨v,ws,rfl,r1,r2⟩ := r
        simp only [RD] at r1; subst r1
        rw [ints_rd r2 hx]; rfl
    | _ => simp [intsOf] at h
def rLen (B : Bd) : List V -> Hp -> VK -> Prop := fun xs H Q => (∃ z,xs = [.str z] /\ z.length <= sizeLine /\ Q (.int z.length) H) \/ ((∃ p ys,xs = [.ref p] /\ (SqL B.K H p ys \/ SqT B.K H p ys) /\ Q (.int ys.length) H) \/ (∃ a kvs,xs = [.ref a] /\ SqD B H a kvs /\ Q (.int kvs.length) H))
def rSum (B : Bd) : List V -> Hp -> VK -> Prop := fun xs H Q => ∃ (p : Addr) (ns : List Int),xs = [.ref p] /\ SqL B.K H p (ns.map V.int) /\ Q (.int ns.sum) H
def rTupOf (B : Bd) : List V -> Hp -> VK -> Prop := fun xs H Q => ∃ p ys,xs = [.ref p] /\ ((SqL B.K H p ys /\ ∀ l,H l = none -> Q (.ref l) (upd H l (.tup ys))) \/ (SqT B.K H p ys /\ Q (.ref p) H))
def rLstOf (B : Bd) : List V -> Hp -> VK -> Prop := fun xs H Q => ∃ p ys,xs = [.ref p] /\ (SqL B.K H p ys \/ SqT B.K H p ys) /\ ∀ l,H l = none -> Q (.ref l) (upd H l (.lst ys))
def rDctOf (B : Bd) : List V -> Hp -> VK -> Prop := fun xs H Q => ∃ p kvs,xs = [.ref p] /\ SqD B H p kvs /\ ∀ l,H l = none -> Q (.ref l) (upd H l (.dK kvs))
def rBl (B : Bd) : Bl -> List V -> Hp -> VK -> Prop
  | .len => rLen B
  | .sum => rSum B
  | .tuple => rTupOf B
  | .list => rLstOf B
  | .dict => rDctOf B
  | _ => fun _ _ _ => False
theorem rds1 {d : D} {vs : List V} (r : RDs B F ρ H [d] vs) : ∃ v,vs = [v] /\ RD B F ρ H d v := by
  simp only [RDs] at r
  obtain ⟨v,ws,rfl,r1,rfl⟩ := r
  exact ⟨v,rfl,r1⟩
theorem blt1_sim {b : Bl} {fz : Bool} {ds : List D} {vs : List V} {X : XK} (S : SR B F ρ M H) (r : RDs B F ρ H ds vs) (h : Post B (blt1 b fz M ds) F ρ H Q X) : rBl B b vs H Q := by
  unfold blt1 at h
  split at h
  . obtain ⟨v,rfl,r1⟩ := rds1 r
    simp only [RD] at r1; subst r1
    cases b <;> simp only at h <;> first
      | exact h.elim
      | (split at h
         . rename_i hl
           exact .inl ⟨_,rfl,Nat.le_trans (of_decide_eq_true hl) line_le,PostG.run h S (by simp only [RD])⟩
         . exact h.elim)
  . obtain ⟨v,rfl,r1⟩ := rds1 r
    split at h
    . rename_i hv
      obtain ⟨a,ws,rfl,q,rr⟩ := vw_tup S r1 hv
      exact .inr (.inl ⟨a,ws,rfl,.inr q,PostG.run h S (by simp only [RD,RDs.length rr])⟩)
    . rename_i hv
      obtain ⟨a,ws,rfl,q,rr⟩ := vw_lst S r1 hv
      exact .inr (.inl ⟨a,ws,rfl,.inl q,PostG.run h S (by simp only [RD,RDs.length rr])⟩)
    . rename_i hv
      obtain ⟨a,kvs,rfl,q,e1,e2⟩ := vw_dct S r1 hv
      refine .inr (.inr ⟨a,kvs,rfl,q,PostG.run h S ?_⟩)
      have := congrArg List.length e1
      simp only [List.length_map] at this
      simp only [RD,this]
    . rename_i hv
      split at h
      . rename_i ns hn
        obtain ⟨a,ws,rfl,q,rr⟩ := vw_lst S r1 hv
        have := ints_rd rr hn
        subst this
        exact ⟨a,ns,rfl,q,PostG.run h S (by simp only [RD])⟩
      . exact h.elim
    . rename_i hv
      obtain ⟨a,ws,rfl,q,rr⟩ := vw_lst S r1 hv
      exact ⟨a,ws,rfl,.inl ⟨q,tup_sim S h rr⟩⟩
    . rename_i hv
      have ed := vw_tup_eq hv
      subst ed
      have r1' := r1
      simp only [RD] at r1'
      obtain ⟨a,ws,rfl,q,rr⟩ := r1'
      exact ⟨a,ws,rfl,.inr ⟨q.sq,PostG.run h S r1⟩⟩
    . rename_i hv
      obtain ⟨a,ws,rfl,q,rr⟩ := vw_lst S r1 hv
      exact ⟨a,ws,rfl,.inl q,newl_sim S h rr⟩
    . rename_i hv
      obtain ⟨a,ws,rfl,q,rr⟩ := vw_tup S r1 hv
      exact ⟨a,ws,rfl,.inr q,newl_sim S h rr⟩
    . rename_i kds hv
      obtain ⟨a,kvs,rfl,q,e1,e2⟩ := vw_dct S r1 hv
      refine ⟨a,kvs,rfl,q,fun p hp => ?_⟩
      have e0 : Ext F ρ H F (ρ ++ [p]) (upd H p (.dK kvs)) := ⟨⟨S.sep,fun _ q => q,fun a q _ => upd_ne (by rintro rfl; exact q hp),List.prefix_append _ _,fun a q => by
        rcases List.mem_append.mp q with q | q
        . exact .inl q
        . rw [List.mem_singleton.mp q]; exact .inr hp,fun _ q => .inl q⟩,fun b w u q => by rw [upd_ne (by rintro rfl; rw [hp] at q; cases q)]; exact q⟩
      obtain ⟨S',e⟩ := S.lv (o := .dK kvs) (u := .dct kds) hp ⟨kvs,upd_same,e1,RDs.mono e0 _ _ e2⟩
      refine h _ _ _ _ e S' ?_
      simp only [RD]
      refine ⟨p,?_,rfl⟩
      rw [<- S.len,List.getElem?_append_right (Nat.le_refl _),Nat.sub_self]; rfl
    . exact h.elim
  . exact h.elim
theorem sim_blt {b : Bl} {fz : Bool} {es : Es} (h : T B Φ E (.blt b fz es) U H Q) : tCB (rBl B b) (TL B Φ E es) U H Q := by
  obtain ⟨UD,M,F,ρ,S,r,h⟩ := h
  simp only [ev] at h
  exact TL.one S r rfl h fun x M1 F1 ρ1 H1 v _ S1 _ rx h1 => blt1_sim S1 rx h1
end
end Fg
end
section
set_option autoImplicit false
namespace Fg
open PySem L2
def OutP (B : Bd) (o : Out) (F : Addr -> Prop) (ρ : List Addr) (H : Hp) (Dn : Ends) (E : Gx) : Prop :=
  match o with
  | .nx UD => ∀ U,RS B F ρ H UD U -> Dn.nx U H
  | .rt d => ∀ v,RD B F ρ H d v -> Dn.rt v H
  | .bk UD => ∀ U,RS B F ρ H UD U -> Dn.bk U H
  | .ct UD => ∀ U,RS B F ρ H UD U -> Dn.ct U H
  | .xc c UD => ∀ U cv x,RS B F ρ H UD U -> B.exc c cv -> E.e cv x U H
def PostS (B : Bd) (r : R Out) (F : Addr -> Prop) (ρ : List Addr) (H : Hp) (Dn : Ends) (E : Gx) : Prop :=
  match r with
  | .ok o M' => ∀ F' ρ' H',Ext F ρ H F' ρ' H' -> SR B F' ρ' M' H' -> OutP B o F' ρ' H' Dn E
  | .exc _ _ => False
  | .bad => False
def TC (B : Bd) (Φ : Fns) (E : Gx) (s : S) : TS := fun Dn U H => ∃ (UD : Sg) (M : MH) (F : Addr -> Prop) (ρ : List Addr),
  SR B F ρ M H /\ RS B F ρ H UD U /\ PostS B (ex Φ s UD M) F ρ H Dn E
def TCs (B : Bd) (Φ : Fns) (E : Gx) (s : Ss) : TS := fun Dn U H => ∃ (UD : Sg) (M : MH) (F : Addr -> Prop) (ρ : List Addr),
  SR B F ρ M H /\ RS B F ρ H UD U /\ PostS B (exs Φ s UD M) F ρ H Dn E
section
variable {B : Bd} {Φ : Fns} {E : Gx} {F F' F1 : Addr -> Prop} {ρ ρ' ρ1 : List Addr} {H H' H1 : Hp} {M M' : MH} {UD : Sg} {U : St} {Q : VK} {Dn : Ends}
theorem PostS.weak {r : R Out} (e : Ext F ρ H F1 ρ1 H1) (h : PostS B r F ρ H Dn E) : PostS B r F1 ρ1 H1 Dn E := by
  cases r with
  | ok d M' => exact fun F' ρ' H' e' S => h F' ρ' H' (e.trans e') S
  | exc c M' => exact h
  | bad => exact h
theorem PostS.use {α β : Type} {rel : (Addr -> Prop) -> List Addr -> Hp -> α -> β -> Prop} {x : R α} {f : α -> MH -> R Out} (r : RS B F ρ H UD U) (h : PostS B (x.use UD f) F ρ H Dn E) :
    PostG rel B x F ρ H (fun v H' => ∃ d M' F' ρ',Ext F ρ H F' ρ' H' /\ SR B F' ρ' M' H' /\ rel F' ρ' H' d v /\ PostS B (f d M') F' ρ' H' Dn E) (fun cv x H' => E.e cv x U H') := by
  cases x with
  | ok d M' => exact fun F' ρ' H' v e S q => ⟨d,M',F',ρ',e,S,q,PostS.weak e h⟩
  | exc c M' => exact fun F' ρ' H' cv x e S q => h F' ρ' H' e S U cv x (r.mono e) q
  | bad => exact h
theorem TC.one {a : Fg.E} {f : D -> MH -> R Out} {W : V -> Hp -> Prop} (S : SR B F ρ M H) (r : RS B F ρ H UD U) (h : PostS B ((ev Φ a UD M).use UD f) F ρ H Dn E)
    (k : ∀ x M1 F1 ρ1 H1 v,Ext F ρ H F1 ρ1 H1 -> SR B F1 ρ1 M1 H1 -> RS B F1 ρ1 H1 UD U -> RD B F1 ρ1 H1 x v -> PostS B (f x M1) F1 ρ1 H1 Dn E -> W v H1) : T B Φ E a U H W := by
  refine ⟨UD,M,F,ρ,S,r,PostG.imp (PostS.use (rel := RD B) r h) fun v H1 ⟨x,M1,F1,ρ1,e,S1,rx,h1⟩ => ?_⟩
  exact k x M1 F1 ρ1 H1 v e S1 (r.mono e) rx h1
theorem PostS.run {o : Out} (h : PostS B (.ok o M) F ρ H Dn E) (S : SR B F ρ M H) : OutP B o F ρ H Dn E := h F ρ H S.refl S
theorem sim_set {i : Nat} {e : Fg.E} (h : TC B Φ E (.set i e) Dn U H) : tAsg (T B Φ E e) (gName i) Dn U H := by
  obtain ⟨UD,M,F,ρ,S,r,h⟩ := h
  simp only [ex] at h
  exact TC.one S r h fun x M1 F1 ρ1 H1 v e1 S1 r1 rx h1 => PostS.run h1 S1 _ (r1.set rx i)
theorem sim_ex {e : Fg.E} (h : TC B Φ E (.ex e) Dn U H) : tDrop (T B Φ E e) Dn U H := by
  obtain ⟨UD,M,F,ρ,S,r,h⟩ := h
  simp only [ex] at h
  exact TC.one S r h fun x M1 F1 ρ1 H1 v e1 S1 r1 rx h1 => PostS.run h1 S1 _ r1
theorem sim_ret {e : Fg.E} (h : TC B Φ E (.ret e) Dn U H) : tRet (T B Φ E e) Dn U H := by
  obtain ⟨UD,M,F,ρ,S,r,h⟩ := h
  simp only [ex] at h
  exact TC.one S r h fun x M1 F1 ρ1 H1 v e1 S1 r1 rx h1 => PostS.run h1 S1 _ rx
theorem sim_ret0 (h : TC B Φ E .ret0 Dn U H) : tRetN Dn U H := by
  obtain ⟨UD,M,F,ρ,S,r,h⟩ := h
  simp only [ex] at h
  exact PostS.run h S _ (by simp only [RD])
theorem sim_pass (h : TC B Φ E .pass Dn U H) : tNext Dn U H := by
  obtain ⟨UD,M,F,ρ,S,r,h⟩ := h
  simp only [ex] at h
  exact PostS.run h S _ r
theorem sim_brk (h : TC B Φ E .brk Dn U H) : tBreak Dn U H := by
  obtain ⟨UD,M,F,ρ,S,r,h⟩ := h
  simp only [ex] at h
  exact PostS.run h S _ r
theorem sim_cont (h : TC B Φ E .cont Dn U H) : tCont Dn U H := by
  obtain ⟨UD,M,F,ρ,S,r,h⟩ := h
  simp only [ex] at h
  exact PostS.run h S _ r
theorem sim_ifs {c : Fg.E} {a b : Ss} (h : TC B Φ E (.ifs c a b) Dn U H) : tIfS (TB B Φ E c) (TCs B Φ E a) (TCs B Φ E b) Dn U H := by
  obtain ⟨UD,M,F,ρ,S,r,h⟩ := h
  simp only [ex] at h
  refine TC.one S r h fun x M1 F1 ρ1 H1 v e1 S1 r1 rx h1 => ?_
  split at h1
  . simp only [RD] at rx; subst rx
    exact ⟨true,rfl,by dsimp only; rw [if_pos rfl]; exact ⟨UD,M1,F1,ρ1,S1,r1,h1⟩⟩
  . simp only [RD] at rx; subst rx
    exact ⟨false,rfl,by dsimp only; rw [if_neg Bool.false_ne_true]; exact ⟨UD,M1,F1,ρ1,S1,r1,h1⟩⟩
  . exact h1.elim
theorem sim_snil (h : TCs B Φ E .nil Dn U H) : tNext Dn U H := by
  obtain ⟨UD,M,F,ρ,S,r,h⟩ := h
  simp only [exs] at h
  exact PostS.run h S _ r
theorem sim_scons {s : S} {ss : Ss} (h : TCs B Φ E (.cons s ss) Dn U H) : tSeq (TC B Φ E s) (TCs B Φ E ss) Dn U H := by
  obtain ⟨UD,M,F,ρ,S,r,h⟩ := h
  simp only [exs] at h
  refine ⟨UD,M,F,ρ,S,r,?_⟩
  cases hx : ex Φ s UD M with
  | ok o M1 =>
    rw [hx] at h
    simp only [R.bind_ok] at h
    intro F' ρ' H' e S'
    cases o with
    | nx U1 => exact fun U' r' => ⟨U1,M1,F',ρ',S',r',PostS.weak e h⟩
    | rt d => exact fun v q => h F' ρ' H' e S' v q
    | bk U1 => exact fun U' q => h F' ρ' H' e S' U' q
    | ct U1 => exact fun U' q => h F' ρ' H' e S' U' q
    | xc c U1 => exact fun U' cv x q1 q2 => h F' ρ' H' e S' U' cv x q1 q2
  | exc c M1 => rw [hx] at h; exact h
  | bad => rw [hx] at h; exact h
theorem append_sim {fz : Bool} {x : D} {ds : List D} {v : V} {vs : List V} {X : XK} (S : SR B F ρ M H) (rx : RD B F ρ H x v) (r : RDs B F ρ H ds vs) (h : Post B (mth1 .append fz M x ds) F ρ H Q X) : rAppend v vs H Q := by
  cases x with
  | ref n =>
    cases ds with
    | nil => exact h.elim
    | cons d t =>
      cases t with
      | cons _ _ => exact h.elim
      | nil =>
        simp only [mth1] at h
        split at h
        . rename_i xs hx
          split at h
          . rename_i hl
            obtain ⟨w,rfl,r1⟩ := rds1 r
            simp only [RD] at rx
            obtain ⟨a,h1,rfl⟩ := rx
            obtain ⟨ws,h2,h3⟩ := S.obj n a _ h1 hx
            refine ⟨a,ws,w,rfl,rfl,h2,?_,?_⟩
            . rw [<- RDs.length h3]; exact Nat.lt_of_lt_of_le (of_decide_eq_true hl) line_le
            . obtain ⟨S',e⟩ := S.st (o := .lst (ws ++ [w])) (u := .lst (xs ++ [d])) h1 (fun _ _ q => by rw [h2] at q; cases q) ⟨_,upd_same,RDs.mono0 (Ext0.at_ S h1) _ _ (h3.append (RDs.cons r1 RDs.nil))⟩
              exact h _ _ _ _ e S' (by simp only [RD])
          . exact h.elim
        . exact h.elim
  | tup _ => exact h.elim
  | lst _ => exact h.elim
  | dct _ _ => exact h.elim
  | non => exact h.elim
  | bl _ => exact h.elim
  | int _ => exact h.elim
  | str _ => exact h.elim
theorem put_rd {k : Key} {d : D} {v : V} (rd : RD B F ρ H d v) : ∀ {kds : List (Ky × D)} {kvs : List (Key × V)},kvs.map (·.1) = kds.map (·.1) -> RDs B F ρ H (kds.map (·.2)) (kvs.map (·.2)) ->
    (putK kvs k v).map (·.1) = (put kds k d).map (·.1) /\ RDs B F ρ H ((put kds k d).map (·.2)) ((putK kvs k v).map (·.2)) := by
  have hmap : ∀ {kds : List (Ky × D)} {kvs : List (Key × V)},kvs.map (·.1) = kds.map (·.1) -> RDs B F ρ H (kds.map (·.2)) (kvs.map (·.2)) ->
      (kvs.map fun kv => if kv.1 = k then (kv.1,v) else kv).map (·.1) = (kds.map fun kv => if kv.1 = k then (kv.1,d) else kv).map (·.1) /\
      RDs B F ρ H ((kds.map fun kv => if kv.1 = k then (kv.1,d) else kv).map (·.2)) ((kvs.map fun kv => if kv.1 = k then (kv.1,v) else kv).map (·.2)) := by
    intro kds
    induction kds with
    | nil => intro kvs h1 h2; cases kvs with | nil => exact ⟨rfl,RDs.nil⟩ | cons _ _ => simp at h1
    | cons p kds ih =>
      intro kvs h1 h2
      cases kvs with
      | nil => simp at h1
      | cons q kvs =>
        obtain ⟨pk,pd⟩ := p
        obtain ⟨qk,qv⟩ := q
        simp only [List.map_cons,List.cons.injEq] at h1
        simp only [List.map_cons,RDs] at h2
        obtain ⟨u,ws,e,r1,r2⟩ := h2
        cases e
        obtain ⟨e1,e2⟩ := h1
        subst e1
        obtain ⟨i1,i2⟩ := ih e2 r2
        by_cases hk : qk = k
        . simp only [List.map_cons,if_pos hk,i1,true_and]
          exact RDs.cons rd i2
        . simp only [List.map_cons,if_neg hk,i1,true_and]
          exact RDs.cons r1 i2
  have hany : ∀ {kds : List (Ky × D)} {kvs : List (Key × V)},kvs.map (·.1) = kds.map (·.1) -> (kvs.any fun kv => decide (kv.1 = k)) = (kds.any fun kv => decide (kv.1 = k)) := by
    intro kds
    induction kds with
    | nil => intro kvs h1; cases kvs with | nil => rfl | cons _ _ => simp at h1
    | cons p kds ih =>
      intro kvs h1
      cases kvs with
      | nil => simp at h1
      | cons q kvs =>
        simp only [List.map_cons,List.cons.injEq] at h1
        simp only [List.any_cons,h1.1,ih h1.2]
  intro kds kvs h1 h2
  unfold putK put
  rw [hany h1]
  split
  . exact hmap h1 h2
  . simp only [List.map_append,List.map_cons,List.map_nil,h1,true_and]
    exact h2.append (RDs.cons rd RDs.nil)
def Walks (B : Bd) (J : It) (src : D) (ds : List D) (F0 : Addr -> Prop) (ρ0 : List Addr) (M0 : MH) (H0 : Hp) : Prop :=
  ∀ (i : Nat) F ρ M H,Ext F0 ρ0 H0 F ρ H -> SR B F ρ M H -> still M0 src M = true ->
    (∀ d,ds[i]? = some d -> J.go i H /\ ∀ x H',J.yld i H x H' -> ∃ F',Ext F ρ H F' ρ H' /\ SR B F' ρ M H' /\ RD B F' ρ H' d x) /\ (ds.length <= i -> J.stop i H)
def TIt (B : Bd) (Φ : Fns) (E : Gx) (c : Src) : TI := fun U H R => ∃ (UD : Sg) (M : MH) (F : Addr -> Prop) (ρ : List Addr),
  SR B F ρ M H /\ RS B F ρ H UD U /\ PostG (fun F' ρ' H' (p : D × List D × Bool) (J : It) => ∀ M',evi Φ c UD M = .ok p M' -> SR B F' ρ' M' H' -> Walks B J p.1 p.2.1 F' ρ' M' H' /\
    (p.2.2 = true -> ∃ n a,p.1 = .ref n /\ ρ'[n]? = some a /\ E.th a /\ ∀ w v,H a ≠ some (.frz w v))) B (evi Φ c UD M) F ρ H R (fun cv x H' => E.e cv x U H')
def thE (th : Addr -> Prop) (D : Ends) : Ends := ⟨fun U H => ∃ H',Thw th H H' /\ D.nx U H',fun v H => ∃ H',Thw th H H' /\ D.rt v H',fun U H => ∃ H',Thw th H H' /\ D.bk U H',fun U H => ∃ H',Thw th H H' /\ D.ct U H'⟩
theorem thaw_fin {F1 : Addr -> Prop} {ρ0 ρ1 : List Addr} {H1 : Hp} {M1 : MH} {fl : Bool} {src : D} {th : Addr -> Prop} (S : SR B F1 ρ1 M1 H1) (e : Ext F ρ H F1 ρ1 H1) (hp : ρ0 <+: ρ1) (wz : fl = true -> ∃ n a,src = .ref n /\ ρ0[n]? = some a /\ th a /\ ∀ w v,H a ≠ some (.frz w v)) :
    ∃ H',Thw th H1 H' /\ SR B F1 ρ1 (unwk fl src M1) H' /\ Ext F ρ H F1 ρ1 H' /\ Ext0 F1 ρ1 H1 F1 ρ1 H' := by
  have same : SR B F1 ρ1 M1 H1 /\ Ext F ρ H F1 ρ1 H1 /\ Ext0 F1 ρ1 H1 F1 ρ1 H1 := ⟨S,e,S.refl.toExt0⟩
  cases fl with
  | false => exact ⟨H1,.inl rfl,by cases src <;> exact same⟩
  | true =>
    obtain ⟨n,a,rfl,hn,ht,hz⟩ := wz rfl
    have hn1 : ρ1[n]? = some a := by
      obtain ⟨t,rfl⟩ := hp
      obtain ⟨q,_⟩ := List.getElem?_eq_some_iff.mp hn
      rw [List.getElem?_append_left q]; exact hn
    cases hM : M1[n]? with
    | none => refine ⟨H1,.inl rfl,?_⟩; simp only [unwk,hM]; exact same
    | some o =>
      cases o with
      | dwk kvs =>
        obtain ⟨o,kws,h1,S'⟩ := S.uw hn1 hM
        refine ⟨upd H1 a (.dK kws),.inr ⟨a,o,kws,ht,h1,rfl⟩,?_,e.thaw (List.mem_of_getElem? hn1) hz S.sep,Ext0.at_ S hn1⟩
        simp only [unwk,hM]; exact S'
      | lst _ => refine ⟨H1,.inl rfl,?_⟩; simp only [unwk,hM]; exact same
      | dct _ => refine ⟨H1,.inl rfl,?_⟩; simp only [unwk,hM]; exact same
      | ins _ _ => refine ⟨H1,.inl rfl,?_⟩; simp only [unwk,hM]; exact same
theorem RS.mono0 {F' : Addr -> Prop} {ρ' : List Addr} {H' : Hp} (e : Ext0 F ρ H F' ρ' H') (h : RS B F ρ H UD U) : RS B F' ρ' H' UD U :=
  ⟨h.len,fun i d q => let ⟨v,h1,h2⟩ := h.get i d q; ⟨v,h1,RD.mono0 e d v h2⟩⟩
def gTg (tg : List Nat) (K : W.Frag) : TG := match tg with
  | [i] => gName i
  | [i,j] => fun v U H Q => ∃ a x y,v = .ref a /\ SqT K H a [x,y] /\ Q ((U.set i (some x)).set j (some y)) H
  | _ => fun _ _ _ _ => False
theorem sets_sim {tg : List Nat} {d : D} {v : V} {U1 : Sg} {N : St -> Hp -> Prop} (r : RS B F ρ H UD U) (rd : RD B F ρ H d v) (h : sets tg M d UD = some U1) (k : ∀ U',RS B F ρ H U1 U' -> N U' H) : gTg tg B.K v U H N := by
  unfold sets at h
  split at h
  . cases h; exact k _ (r.set rd _)
  . split at h
    . cases h
      simp only [RD] at rd
      obtain ⟨a,vs,rfl,z,q⟩ := rd
      simp only [RDs] at q
      obtain ⟨x,ws,rfl,r1,y,us,rfl,r2,rfl⟩ := q
      exact ⟨a,x,y,rfl,z.sq,k _ ((r.set r1 _).set r2 _)⟩
    . cases h
  . cases h
theorem sim_for {tg : List Nat} {it : Src} {b : Ss} (h : TC B Φ E (.for tg it b) Dn U H) : tFor (TIt B Φ E it) (gTg tg B.K) (TCs B Φ E b) (thE E.th Dn) U H := by
  obtain ⟨UD,M,F,ρ,S,r,h⟩ := h
  simp only [ex] at h
  refine ⟨UD,M,F,ρ,S,r,?_⟩
  cases hx : evi Φ it UD M with
  | exc c M1 => rw [hx] at h; exact fun F' ρ' H' cv x e S q => h F' ρ' H' e S U cv x (r.mono e) q
  | bad => rw [hx] at h; exact h
  | ok p M0 =>
    rw [hx] at h
    simp only [R.use_ok] at h
    intro F0 ρ0 H0 J e0 S0 hw
    obtain ⟨W,wz⟩ := hw M0 rfl S0
    obtain ⟨src,ds,fl⟩ := p
    dsimp only at h W wz
    refine ⟨fun i m U H1 => m + i = ds.length /\ ∃ UD M F1 ρ1,Ext F ρ H F1 ρ1 H1 /\ Ext F0 ρ0 H0 F1 ρ1 H1 /\ SR B F1 ρ1 M H1 /\ RS B F1 ρ1 H1 UD U /\ still M0 src M = true /\ PostS B ((loopF (exs Φ b) tg (still M0 src) (ds.drop i) UD M).fin (unwk fl src)) F ρ H Dn E,⟨ds.length,by simp,UD,M0,F0,ρ0,e0,S0.refl,S0,r.mono e0,?_,h⟩,?_⟩
    . unfold still; split <;> simp
    rintro i m U1 H1 ⟨hm,UD1,M1,F1,ρ1,eo,e1,S1,r1,st1,p1⟩
    obtain ⟨wgo,wst⟩ := W i F1 ρ1 M1 H1 e1 S1 st1
    by_cases hi : i < ds.length
    . have hd : ds.drop i = ds[i] :: ds.drop (i + 1) := List.drop_eq_getElem_cons hi
      rw [hd] at p1
      unfold loopF at p1
      obtain ⟨go,yl⟩ := wgo ds[i] (List.getElem?_eq_getElem hi)
      refine .inr ⟨go,fun U' H' => ∃ UD M F1 ρ1,Ext F ρ H F1 ρ1 H' /\ Ext F0 ρ0 H0 F1 ρ1 H' /\ SR B F1 ρ1 M H' /\ RS B F1 ρ1 H' UD U' /\ still M0 src M = true /\ PostS B ((loopF (exs Φ b) tg (still M0 src) (ds.drop (i + 1)) UD M).fin (unwk fl src)) F ρ H Dn E,fun U' H' q => ⟨m - 1,by omega,by omega,q⟩,fun x H' hy => ?_⟩
      obtain ⟨F',e2,S2,rd⟩ := yl x H' hy
      split at p1
      . exact p1.elim
      . rename_i U2 hs
        refine sets_sim (r1.mono e2) rd hs fun U' r' => ⟨U2,M1,F',ρ1,S2,r',?_⟩
        cases hb : exs Φ b U2 M1 with
        | exc c M3 => rw [hb] at p1; exact p1.elim
        | bad => rw [hb] at p1; exact p1.elim
        | ok o M3 =>
          rw [hb] at p1
          simp only [R.bind_ok] at p1
          intro F3 ρ3 H3 e3 S3
          have eo3 := (eo.trans e2).trans e3
          have e03 := (e1.trans e2).trans e3
          cases o with
          | nx U3 =>
            simp only at p1
            intro U4 r4
            split at p1
            . rename_i hst
              exact ⟨U3,M3,F3,ρ3,eo3,e03,S3,r4,hst,p1⟩
            . exact p1.elim
          | ct U3 =>
            simp only at p1
            intro U4 r4
            split at p1
            . rename_i hst
              exact ⟨U3,M3,F3,ρ3,eo3,e03,S3,r4,hst,p1⟩
            . exact p1.elim
          | bk U3 =>
            obtain ⟨H4,t4,S4,e4,x4⟩ := thaw_fin S3 eo3 e03.r wz
            exact fun U4 r4 => ⟨H4,t4,p1 F3 ρ3 H4 e4 S4 U4 (r4.mono0 x4)⟩
          | rt d =>
            obtain ⟨H4,t4,S4,e4,x4⟩ := thaw_fin S3 eo3 e03.r wz
            exact fun v q => ⟨H4,t4,p1 F3 ρ3 H4 e4 S4 v (RD.mono0 x4 _ _ q)⟩
          | xc c U3 =>
            obtain ⟨H4,t4,S4,e4,x4⟩ := thaw_fin S3 eo3 e03.r wz
            exact fun U4 cv x q1 q2 => E.cl cv x U4 H3 H4 t4 (p1 F3 ρ3 H4 e4 S4 U4 cv x (q1.mono0 x4) q2)
    . have hd : ds.drop i = [] := List.drop_eq_nil_of_le (Nat.le_of_not_lt hi)
      rw [hd] at p1
      unfold loopF at p1
      obtain ⟨H4,t4,S4,e4,x4⟩ := thaw_fin S1 eo e1.r wz
      exact .inl ⟨wst (Nat.le_of_not_lt hi),H4,t4,p1 F1 ρ1 H4 e4 S4 U1 (r1.mono0 x4)⟩
theorem sim_while {c : Fg.E} {b : Ss} (h : TC B Φ E (.while c b) Dn U H) : tWhile (TB B Φ E c) (TCs B Φ E b) Dn U H := by
  obtain ⟨UD,M,F,ρ,S,r,h⟩ := h
  simp only [ex] at h
  refine ⟨fun m U H => ∃ UD M F ρ,SR B F ρ M H /\ RS B F ρ H UD U /\ PostS B (loopW (ev Φ c) (exs Φ b) m UD M) F ρ H Dn E,⟨Φ.turns,UD,M,F,ρ,S,r,h⟩,?_⟩
  rintro m U1 H1 ⟨UD1,M1,F1,ρ1,S1,r1,p1⟩
  cases m with
  | zero => simp only [loopW] at p1; exact p1.elim
  | succ m =>
    simp only [loopW] at p1
    refine TC.one S1 r1 p1 fun x M2 F2 ρ2 H2 v e2 S2 r2 rx h2 => ?_
    split at h2
    . simp only [RD] at rx; subst rx
      refine ⟨false,rfl,?_⟩
      exact PostS.run h2 S2 _ r2
    . simp only [RD] at rx; subst rx
      refine ⟨true,rfl,?_⟩
      refine ⟨fun U' H' => ∃ UD M F ρ,SR B F ρ M H' /\ RS B F ρ H' UD U' /\ PostS B (loopW (ev Φ c) (exs Φ b) m UD M) F ρ H' Dn E,fun U' H' q => ⟨m,Nat.lt_succ_self m,q⟩,UD1,M2,F2,ρ2,S2,r2,?_⟩
      cases hb : exs Φ b UD1 M2 with
      | exc c M3 => rw [hb] at h2; exact h2
      | bad => rw [hb] at h2; exact h2
      | ok o M3 =>
        rw [hb] at h2
        simp only [R.bind_ok] at h2
        intro F3 ρ3 H3 e3 S3
        cases o with
        | nx U3 => exact fun U4 r4 => ⟨U3,M3,F3,ρ3,S3,r4,PostS.weak e3 h2⟩
        | ct U3 => exact fun U4 r4 => ⟨U3,M3,F3,ρ3,S3,r4,PostS.weak e3 h2⟩
        | bk U3 => exact fun U4 r4 => h2 F3 ρ3 H3 e3 S3 U4 r4
        | rt d => exact fun v q => h2 F3 ρ3 H3 e3 S3 v q
        | xc c U3 => exact fun U4 cv x q1 q2 => h2 F3 ρ3 H3 e3 S3 U4 cv x q1 q2
    . exact h2.elim
end
end Fg
end
section
set_option autoImplicit false
namespace Fg
open PySem PySem.Spec L2
section
variable {X : Cx} {pins : List (Addr × Obj)} {U : L2.St} {H : Hp} {s : Shared}
mutual
theorem DV.inj (I : Inv X pins U H s) : ∀ {d e : D} {x : V},DV X.K H d x -> DV X.K H e x -> d = e
  | .non,e,x,h,h' => by
    simp only [DV] at h; subst h
    cases e <;> simp only [DV] at h' <;> first | rfl | (cases h'; done) | (obtain ⟨_,_,q,_⟩ := h'; cases q)
  | .bl b,e,x,h,h' => by
    simp only [DV] at h; subst h
    cases e <;> simp only [DV] at h' <;> first | (cases h'; rfl) | (cases h'; done) | (obtain ⟨_,_,q,_⟩ := h'; cases q)
  | .int b,e,x,h,h' => by
    simp only [DV] at h; subst h
    cases e <;> simp only [DV] at h' <;> first | (cases h'; rfl) | (cases h'; done) | (obtain ⟨_,_,q,_⟩ := h'; cases q)
  | .str b,e,x,h,h' => by
    simp only [DV] at h; subst h
    cases e <;> simp only [DV] at h' <;> first | (cases h'; rfl) | (cases h'; done) | (obtain ⟨_,_,q,_⟩ := h'; cases q)
  | .tup ds,e,x,h,h' => by
    simp only [DV] at h
    obtain ⟨a,vs,rfl,h1,h2⟩ := h
    cases e with
    | tup es =>
      simp only [DV] at h'
      obtain ⟨b,ws,q,h3,h4⟩ := h'
      cases q
      have := I.tuple_inj h1 h3
      subst this
      rw [DVs.inj I h2 h4]
    | lst es =>
      simp only [DV] at h'
      obtain ⟨b,ws,q,h3,h4⟩ := h'
      cases q
      obtain ⟨its,_,t1,_⟩ := I.tuple h1
      obtain ⟨its',_,t2,_⟩ := I.list h3
      exact absurd rfl (SeqAt.ne_of_list_tuple t2.isList t1)
    | non => simp only [DV] at h'; cases h'
    | bl _ => simp only [DV] at h'; cases h'
    | int _ => simp only [DV] at h'; cases h'
    | str _ => simp only [DV] at h'; cases h'
    | dct _ _ => simp only [DV] at h'
    | ref _ => simp only [DV] at h'
  | .lst ds,e,x,h,h' => by
    simp only [DV] at h
    obtain ⟨a,vs,rfl,h1,h2⟩ := h
    cases e with
    | lst es =>
      simp only [DV] at h'
      obtain ⟨b,ws,q,h3,h4⟩ := h'
      cases q
      have := I.list_inj h1 h3
      subst this
      rw [DVs.inj I h2 h4]
    | tup es =>
      simp only [DV] at h'
      obtain ⟨b,ws,q,h3,h4⟩ := h'
      cases q
      obtain ⟨its,_,t1,_⟩ := I.list h1
      obtain ⟨its',_,t2,_⟩ := I.tuple h3
      exact absurd rfl (SeqAt.ne_of_list_tuple t1.isList t2)
    | non => simp only [DV] at h'; cases h'
    | bl _ => simp only [DV] at h'; cases h'
    | int _ => simp only [DV] at h'; cases h'
    | str _ => simp only [DV] at h'; cases h'
    | dct _ _ => simp only [DV] at h'
    | ref _ => simp only [DV] at h'
  | .dct _ _,e,x,h,h' => by simp only [DV] at h
  | .ref _,e,x,h,h' => by simp only [DV] at h
theorem DVs.inj (I : Inv X pins U H s) : ∀ {ds es : List D} {xs : List V},DVs X.K H ds xs -> DVs X.K H es xs -> ds = es
  | [],es,xs,h,h' => by
    simp only [DVs] at h; subst h
    cases es with
    | nil => rfl
    | cons _ _ => simp only [DVs] at h'; obtain ⟨_,_,q,_⟩ := h'; cases q
  | d :: ds,es,xs,h,h' => by
    simp only [DVs] at h
    obtain ⟨v,ws,rfl,h1,h2⟩ := h
    cases es with
    | nil => simp only [DVs] at h'; cases h'
    | cons e es =>
      simp only [DVs] at h'
      obtain ⟨v',ws',q,h3,h4⟩ := h'
      cases q
      rw [DV.inj I h1 h3,DVs.inj I h2 h4]
end
mutual
theorem eqD_refl {K : W.Frag} {H : Hp} : ∀ {d : D} {x : V},DV K H d x -> eqD d d = true
  | .non,_,_ => by simp only [eqD]
  | .bl b,_,_ => by simp only [eqD]; simp
  | .int i,_,_ => by simp only [eqD]; simp
  | .str x,_,_ => by simp only [eqD]; simp
  | .tup ds,_,h => by simp only [DV] at h; obtain ⟨_,_,_,_,q⟩ := h; simp only [eqD]; exact eqDs_refl q
  | .lst ds,_,h => by simp only [DV] at h; obtain ⟨_,_,_,_,q⟩ := h; simp only [eqD]; exact eqDs_refl q
  | .dct _ _,_,h => by simp only [DV] at h
  | .ref _,_,h => by simp only [DV] at h
theorem eqDs_refl {K : W.Frag} {H : Hp} : ∀ {ds : List D} {xs : List V},DVs K H ds xs -> eqDs ds ds = true
  | [],_,_ => by simp only [eqDs]
  | d :: ds,_,h => by
    simp only [DVs] at h
    obtain ⟨_,_,_,h1,h2⟩ := h
    simp only [eqDs,eqD_refl h1,eqDs_refl h2,Bool.and_self]
end
theorem DVs.length {K : W.Frag} {H : Hp} : ∀ {ds : List D} {xs : List V},DVs K H ds xs -> ds.length = xs.length
  | [],_,h => by simp only [DVs] at h; subst h; rfl
  | d :: ds,_,h => by
    simp only [DVs] at h
    obtain ⟨_,_,rfl,_,h2⟩ := h
    simp [DVs.length h2]
theorem DVs.get {K : W.Frag} {H : Hp} : ∀ {ds : List D} {xs : List V} {i : Nat} (h1 : i < ds.length),DVs K H ds xs -> ∃ v,xs[i]? = some v /\ DV K H ds[i] v
  | [],_,i,h1,_ => by simp at h1
  | d :: ds,_,i,h1,h => by
    simp only [DVs] at h
    obtain ⟨v,ws,rfl,q1,q2⟩ := h
    cases i with
    | zero => exact ⟨v,rfl,q1⟩
    | succ i =>
      simp only [List.length_cons] at h1
      obtain ⟨u,a,b⟩ := DVs.get (i := i) (by omega) q2
      exact ⟨u,by simpa using a,by simpa using b⟩
theorem dep_get : ∀ {ds : List D} {i : Nat} (h : i < ds.length),dep ds[i] <= deps ds
  | [],i,h => by simp at h
  | d :: ds,i,h => by
    cases i with
    | zero => simp only [List.getElem_cons_zero,deps]; omega
    | succ i =>
      simp only [List.length_cons] at h
      have := dep_get (ds := ds) (i := i) (by omega)
      simp only [List.getElem_cons_succ,deps]; omega
theorem all_eqDs : ∀ (ds es : List D),((List.range (min ds.length es.length)).all (fun j => match ds[j]?,es[j]? with | some a,some b => eqD a b | _,_ => false) && ds.length == es.length) = eqDs ds es
  | [],[] => by simp [eqDs]
  | [],e :: es => by simp [eqDs]
  | d :: ds,[] => by simp [eqDs]
  | d :: ds,e :: es => by
    have ih := all_eqDs ds es
    simp only [eqDs,<- ih]
    simp only [List.length_cons,Nat.succ_min_succ,List.range_succ_eq_map,List.all_cons,List.all_map,Function.comp_def]
    simp [Bool.and_assoc]
def EqB (s : Shared) (d e : D) (u w : Value) (n : Nat) : Prop := ∀ A : Around,A.units + n < cLine -> SeqAt.RcAt A s u w (eqD d e) /\ SeqAt.EqAt A s u w (eqD d e)
theorem in1_units (A : Around) : A.in1.units = A.units + 1 := rfl
theorem plains_get : ∀ {ds : List D} {i : Nat},plains ds = true -> ∀ (h : i < ds.length),plain ds[i] = true
  | [],i,_,h => by simp at h
  | d :: ds,i,p,h => by
    simp only [plains,Bool.and_eq_true] at p
    cases i with
    | zero => exact p.1
    | succ i => simp only [List.length_cons] at h; simpa using plains_get p.2 (by omega)
theorem eq_data (I : Inv X pins U H s) : ∀ (n : Nat) (d e : D) (x y : V) (u w : Value),dep d + dep e < n -> DV X.K H d x -> DV X.K H e y -> plain d = true -> plain e = true -> RelV x u -> RelV y w -> EqB s d e u w (min (dep d) (dep e) + 1)
  | 0,_,_,_,_,_,_,h,_,_,_,_,_,_ => absurd h (Nat.not_lt_zero _)
  | n + 1, d, e, x, y, u, w, hn, hd, he, pd, pe, ru, rw' => by
    have ih := eq_data I n
    intro A hA
    have hu : A.units < cLine := by omega
    cases d with
    | bl _ => simp [plain] at pd
    | dct _ _ => simp [plain] at pd
    | ref _ => simp [plain] at pd
    | non =>
      simp only [DV] at hd; subst hd; cases (show u = Value.none from ru)
      cases e with
      | bl _ => simp [plain] at pe
      | dct _ _ => simp [plain] at pe
      | ref _ => simp [plain] at pe
      | non =>
        simp only [DV] at he; subst he; cases (show w = Value.none from rw')
        simp only [eqD]; exact ⟨SeqAt.RcAt.none_none,SeqAt.EqAt.same _⟩
      | int j =>
        simp only [DV] at he; subst he; obtain ⟨t',rfl⟩ := (show ∃ t,w = Value.int j t from rw')
        simp only [eqD]; exact ⟨SeqAt.RcAt.none_int j t',SeqAt.EqAt.none_int j t'⟩
      | str j =>
        simp only [DV] at he; subst he; obtain ⟨t',rfl⟩ := (show ∃ t,w = Value.str j t from rw')
        simp only [eqD]; exact ⟨SeqAt.RcAt.none_str j t',SeqAt.EqAt.none_str j t'⟩
      | tup es =>
        simp only [DV] at he
        obtain ⟨b,ws,rfl,h3,h4⟩ := he
        cases (show w = Value.ref b from rw')
        obtain ⟨its,_,t1,_⟩ := I.tuple h3
        simp only [eqD]; exact ⟨SeqAt.RcAt.none_tuple  t1 hu,SeqAt.EqAt.none_tuple  t1 hu⟩
      | lst es =>
        simp only [DV] at he
        obtain ⟨b,ws,rfl,h3,h4⟩ := he
        cases (show w = Value.ref b from rw')
        obtain ⟨its,_,t1,_⟩ := I.list h3
        simp only [eqD]; exact ⟨SeqAt.RcAt.none_list  t1.isList hu,SeqAt.EqAt.none_list  t1.isList hu⟩
    | int i =>
      simp only [DV] at hd; subst hd; obtain ⟨t,rfl⟩ := (show ∃ t,u = Value.int i t from ru)
      cases e with
      | bl _ => simp [plain] at pe
      | dct _ _ => simp [plain] at pe
      | ref _ => simp [plain] at pe
      | non =>
        simp only [DV] at he; subst he; cases (show w = Value.none from rw')
        simp only [eqD]; exact ⟨SeqAt.RcAt.int_none i t,SeqAt.EqAt.int_none i t⟩
      | int j =>
        simp only [DV] at he; subst he; obtain ⟨t',rfl⟩ := (show ∃ t,w = Value.int j t from rw')
        have z : eqD (D.int i) (D.int j) = (i == j) := by simp only [eqD]; by_cases q : i = j <;> simp [q]
        rw [z]; exact ⟨SeqAt.RcAt.int_int i t j t',SeqAt.EqAt.int_int i t j t'⟩
      | str j =>
        simp only [DV] at he; subst he; obtain ⟨t',rfl⟩ := (show ∃ t,w = Value.str j t from rw')
        simp only [eqD]; exact ⟨SeqAt.RcAt.int_str i t j t',SeqAt.EqAt.int_str i t j t'⟩
      | tup es =>
        simp only [DV] at he
        obtain ⟨b,ws,rfl,h3,h4⟩ := he
        cases (show w = Value.ref b from rw')
        obtain ⟨its,_,t1,_⟩ := I.tuple h3
        simp only [eqD]; exact ⟨SeqAt.RcAt.int_tuple i t t1 hu,SeqAt.EqAt.int_tuple i t t1 hu⟩
      | lst es =>
        simp only [DV] at he
        obtain ⟨b,ws,rfl,h3,h4⟩ := he
        cases (show w = Value.ref b from rw')
        obtain ⟨its,_,t1,_⟩ := I.list h3
        simp only [eqD]; exact ⟨SeqAt.RcAt.int_list i t t1.isList hu,SeqAt.EqAt.int_list i t t1.isList hu⟩
    | str i =>
      simp only [DV] at hd; subst hd; obtain ⟨t,rfl⟩ := (show ∃ t,u = Value.str i t from ru)
      cases e with
      | bl _ => simp [plain] at pe
      | dct _ _ => simp [plain] at pe
      | ref _ => simp [plain] at pe
      | non =>
        simp only [DV] at he; subst he; cases (show w = Value.none from rw')
        simp only [eqD]; exact ⟨SeqAt.RcAt.str_none i t,SeqAt.EqAt.str_none i t⟩
      | int j =>
        simp only [DV] at he; subst he; obtain ⟨t',rfl⟩ := (show ∃ t,w = Value.int j t from rw')
        simp only [eqD]; exact ⟨SeqAt.RcAt.str_int i t j t',SeqAt.EqAt.str_int i t j t'⟩
      | str j =>
        simp only [DV] at he; subst he; obtain ⟨t',rfl⟩ := (show ∃ t,w = Value.str j t from rw')
        have z : eqD (D.str i) (D.str j) = (i == j) := by simp only [eqD]; by_cases q : i = j <;> simp [q]
        rw [z]; exact ⟨SeqAt.RcAt.str_str i t j t',SeqAt.EqAt.str_str i t j t'⟩
      | tup es =>
        simp only [DV] at he
        obtain ⟨b,ws,rfl,h3,h4⟩ := he
        cases (show w = Value.ref b from rw')
        obtain ⟨its,_,t1,_⟩ := I.tuple h3
        simp only [eqD]; exact ⟨SeqAt.RcAt.str_tuple i t t1 hu,SeqAt.EqAt.str_tuple i t t1 hu⟩
      | lst es =>
        simp only [DV] at he
        obtain ⟨b,ws,rfl,h3,h4⟩ := he
        cases (show w = Value.ref b from rw')
        obtain ⟨its,_,t1,_⟩ := I.list h3
        simp only [eqD]; exact ⟨SeqAt.RcAt.str_list i t t1.isList hu,SeqAt.EqAt.str_list i t t1.isList hu⟩
    | tup ds =>
      simp only [DV] at hd
      obtain ⟨a,vs,rfl,h1,h2⟩ := hd
      cases (show u = Value.ref a from ru)
      obtain ⟨its,r1,t1,_⟩ := I.tuple h1
      cases e with
      | bl _ => simp [plain] at pe
      | dct _ _ => simp [plain] at pe
      | ref _ => simp [plain] at pe
      | non =>
        simp only [DV] at he; subst he; cases (show w = Value.none from rw')
        simp only [eqD]; exact ⟨SeqAt.RcAt.tuple_none  t1 hu,SeqAt.EqAt.tuple_none  t1 hu⟩
      | int j =>
        simp only [DV] at he; subst he; obtain ⟨t',rfl⟩ := (show ∃ t,w = Value.int j t from rw')
        simp only [eqD]; exact ⟨SeqAt.RcAt.tuple_int j t' t1 hu,SeqAt.EqAt.tuple_int j t' t1 hu⟩
      | str j =>
        simp only [DV] at he; subst he; obtain ⟨t',rfl⟩ := (show ∃ t,w = Value.str j t from rw')
        simp only [eqD]; exact ⟨SeqAt.RcAt.tuple_str j t' t1 hu,SeqAt.EqAt.tuple_str j t' t1 hu⟩
      | lst es =>
        simp only [DV] at he
        obtain ⟨b,ws,rfl,h3,h4⟩ := he
        cases (show w = Value.ref b from rw')
        obtain ⟨its2,r2,t2,_⟩ := I.list h3
        simp only [eqD]; exact ⟨SeqAt.RcAt.tuple_list t1 t2.isList hu,SeqAt.EqAt.of_refs (Ne.symm (SeqAt.ne_of_list_tuple t2.isList t1)) (SeqAt.RcAt.tuple_list t1 t2.isList hu)⟩
      | tup es =>
        simp only [DV] at he
        obtain ⟨b,ws,rfl,h3,h4⟩ := he
        cases (show w = Value.ref b from rw')
        obtain ⟨its2,r2,t2,_⟩ := I.tuple h3
        have pd' : plains ds = true := by simpa [plain] using pd
        have pe' : plains es = true := by simpa [plain] using pe
        have l1 : its.length = ds.length := by rw [<- r1.length,h2.length]
        have l2 : its2.length = es.length := by rw [<- r2.length,h4.length]
        let f : Nat -> Bool := fun j => match ds[j]?,es[j]? with | some a,some b => eqD a b | _,_ => false
        have items : ∀ j (h1 : j < its.toArray.size) (h2 : j < its2.toArray.size),SeqAt.EqAt A.in1 s its.toArray[j] its2.toArray[j] (f j) := by
          intro j j1 j2
          have j1' : j < ds.length := by rw [<- l1]; simpa using j1
          have j2' : j < es.length := by rw [<- l2]; simpa using j2
          obtain ⟨v,e1,q1⟩ := h2.get j1'
          obtain ⟨v',e2,q2⟩ := h4.get j2'
          obtain ⟨z,e3,q3⟩ := r1.get e1
          obtain ⟨z',e4,q4⟩ := r2.get e2
          have i1 : its.toArray[j] = z := by
            have : its[j]? = some its[j] := List.getElem?_eq_getElem (by simpa using j1)
            rw [this] at e3; simpa using Option.some.inj e3
          have i2 : its2.toArray[j] = z' := by
            have : its2[j]? = some its2[j] := List.getElem?_eq_getElem (by simpa using j2)
            rw [this] at e4; simpa using Option.some.inj e4
          have g1 := dep_get j1'
          have g2 := dep_get j2'
          have hf : f j = eqD ds[j] es[j] := by simp only [f,List.getElem?_eq_getElem j1',List.getElem?_eq_getElem j2']
          rw [i1,i2,hf]
          simp only [dep] at hn hA
          exact (ih ds[j] es[j] v v' z z' (by omega) q1 q2 (plains_get pd' j1') (plains_get pe' j2') q3 q4 A.in1 (by rw [in1_units]; omega)).2
        have sz1 : its.toArray.size = ds.length := by simpa using l1
        have sz2 : its2.toArray.size = es.length := by simpa using l2
        have rc : SeqAt.RcAt A s (.ref a) (.ref b) (eqD (.tup ds) (.tup es)) := by
          have q := SeqAt.RcAt.tuples t1 t2 hu items
          rw [sz1,sz2,all_eqDs] at q
          simp only [eqD]; exact q
        refine ⟨rc,?_⟩
        by_cases hab : a = b
        . subst hab
          have i1 : DV X.K H (.tup ds) (.ref a) := by simp only [DV]; exact ⟨a,vs,rfl,h1,h2⟩
          have i2 : DV X.K H (.tup es) (.ref a) := by simp only [DV]; exact ⟨a,ws,rfl,h3,h4⟩
          rw [DV.inj I i1 i2,eqD_refl i2]
          exact SeqAt.EqAt.same _
        . exact SeqAt.EqAt.of_refs hab rc
    | lst ds =>
      simp only [DV] at hd
      obtain ⟨a,vs,rfl,h1,h2⟩ := hd
      cases (show u = Value.ref a from ru)
      obtain ⟨its,r1,t1,_⟩ := I.list h1
      cases e with
      | bl _ => simp [plain] at pe
      | dct _ _ => simp [plain] at pe
      | ref _ => simp [plain] at pe
      | non =>
        simp only [DV] at he; subst he; cases (show w = Value.none from rw')
        simp only [eqD]; exact ⟨SeqAt.RcAt.list_none  t1.isList hu,SeqAt.EqAt.list_none  t1.isList hu⟩
      | int j =>
        simp only [DV] at he; subst he; obtain ⟨t',rfl⟩ := (show ∃ t,w = Value.int j t from rw')
        simp only [eqD]; exact ⟨SeqAt.RcAt.list_int j t' t1.isList hu,SeqAt.EqAt.list_int j t' t1.isList hu⟩
      | str j =>
        simp only [DV] at he; subst he; obtain ⟨t',rfl⟩ := (show ∃ t,w = Value.str j t from rw')
        simp only [eqD]; exact ⟨SeqAt.RcAt.list_str j t' t1.isList hu,SeqAt.EqAt.list_str j t' t1.isList hu⟩
      | tup es =>
        simp only [DV] at he
        obtain ⟨b,ws,rfl,h3,h4⟩ := he
        cases (show w = Value.ref b from rw')
        obtain ⟨its2,r2,t2,_⟩ := I.tuple h3
        simp only [eqD]; exact ⟨SeqAt.RcAt.list_tuple t1.isList t2 hu,SeqAt.EqAt.of_refs (SeqAt.ne_of_list_tuple t1.isList t2) (SeqAt.RcAt.list_tuple t1.isList t2 hu)⟩
      | lst es =>
        simp only [DV] at he
        obtain ⟨b,ws,rfl,h3,h4⟩ := he
        cases (show w = Value.ref b from rw')
        obtain ⟨its2,r2,t2,_⟩ := I.list h3
        have pd' : plains ds = true := by simpa [plain] using pd
        have pe' : plains es = true := by simpa [plain] using pe
        have l1 : its.length = ds.length := by rw [<- r1.length,h2.length]
        have l2 : its2.length = es.length := by rw [<- r2.length,h4.length]
        let f : Nat -> Bool := fun j => match ds[j]?,es[j]? with | some a,some b => eqD a b | _,_ => false
        have items : ∀ j (h1 : j < its.toArray.size) (h2 : j < its2.toArray.size),SeqAt.EqAt A.in1 s its.toArray[j] its2.toArray[j] (f j) := by
          intro j j1 j2
          have j1' : j < ds.length := by rw [<- l1]; simpa using j1
          have j2' : j < es.length := by rw [<- l2]; simpa using j2
          obtain ⟨v,e1,q1⟩ := h2.get j1'
          obtain ⟨v',e2,q2⟩ := h4.get j2'
          obtain ⟨z,e3,q3⟩ := r1.get e1
          obtain ⟨z',e4,q4⟩ := r2.get e2
          have i1 : its.toArray[j] = z := by
            have : its[j]? = some its[j] := List.getElem?_eq_getElem (by simpa using j1)
            rw [this] at e3; simpa using Option.some.inj e3
          have i2 : its2.toArray[j] = z' := by
            have : its2[j]? = some its2[j] := List.getElem?_eq_getElem (by simpa using j2)
            rw [this] at e4; simpa using Option.some.inj e4
          have g1 := dep_get j1'
          have g2 := dep_get j2'
          have hf : f j = eqD ds[j] es[j] := by simp only [f,List.getElem?_eq_getElem j1',List.getElem?_eq_getElem j2']
          rw [i1,i2,hf]
          simp only [dep] at hn hA
          exact (ih ds[j] es[j] v v' z z' (by omega) q1 q2 (plains_get pd' j1') (plains_get pe' j2') q3 q4 A.in1 (by rw [in1_units]; omega)).2
        have sz1 : its.toArray.size = ds.length := by simpa using l1
        have sz2 : its2.toArray.size = es.length := by simpa using l2
        have rc : SeqAt.RcAt A s (.ref a) (.ref b) (eqD (.lst ds) (.lst es)) := by
          by_cases hz : ds.length = es.length
          . have q := SeqAt.RcAt.lists t1.isList t2.isList (by rw [sz1,sz2,hz]) hu items
            have z := all_eqDs ds es
            rw [show min ds.length es.length = ds.length by omega,show (ds.length == es.length) = true by simpa using hz,Bool.and_true] at z
            rw [sz1,z] at q
            simp only [eqD]; exact q
          . have q := SeqAt.RcAt.lists_lengths t1.isList t2.isList (by rw [sz1,sz2]; simpa using hz) hu
            have z := all_eqDs ds es
            rw [show (ds.length == es.length) = false by simpa using hz,Bool.and_false] at z
            simp only [eqD,<- z]; exact q
        refine ⟨rc,?_⟩
        by_cases hab : a = b
        . subst hab
          have i1 : DV X.K H (.lst ds) (.ref a) := by simp only [DV]; exact ⟨a,vs,rfl,h1,h2⟩
          have i2 : DV X.K H (.lst es) (.ref a) := by simp only [DV]; exact ⟨a,ws,rfl,h3,h4⟩
          rw [DV.inj I i1 i2,eqD_refl i2]
          exact SeqAt.EqAt.same _
        . exact SeqAt.EqAt.of_refs hab rc
theorem ne_data (I : Inv X pins U H s) : ∀ (d e : D) (x y : V) (u w : Value),DV X.K H d x -> DV X.K H e y -> plain d = true -> plain e = true -> RelV x u -> RelV y w -> ∀ A : Around,A.units + (min (dep d) (dep e) + 1) < cLine -> SeqAt.RcNeAt A s u w (!eqD d e)
  | d, e, x, y, u, w, hd, he, pd, pe, ru, rw' => by
    have ih := eq_data I (dep d + dep e)
    intro A hA
    have hu : A.units < cLine := by omega
    cases d with
    | bl _ => simp [plain] at pd
    | dct _ _ => simp [plain] at pd
    | ref _ => simp [plain] at pd
    | non =>
      simp only [DV] at hd; subst hd; cases (show u = Value.none from ru)
      cases e with
      | bl _ => simp [plain] at pe
      | dct _ _ => simp [plain] at pe
      | ref _ => simp [plain] at pe
      | non =>
        simp only [DV] at he; subst he; cases (show w = Value.none from rw')
        simp only [eqD,Bool.not_false,Bool.not_true]; exact SeqAt.RcNeAt.none_none
      | int j =>
        simp only [DV] at he; subst he; obtain ⟨t',rfl⟩ := (show ∃ t,w = Value.int j t from rw')
        simp only [eqD,Bool.not_false,Bool.not_true]; exact SeqAt.RcNeAt.none_int j t'
      | str j =>
        simp only [DV] at he; subst he; obtain ⟨t',rfl⟩ := (show ∃ t,w = Value.str j t from rw')
        simp only [eqD,Bool.not_false,Bool.not_true]; exact SeqAt.RcNeAt.none_str j t'
      | tup es =>
        simp only [DV] at he
        obtain ⟨b,ws,rfl,h3,h4⟩ := he
        cases (show w = Value.ref b from rw')
        obtain ⟨its,_,t1,_⟩ := I.tuple h3
        simp only [eqD,Bool.not_false,Bool.not_true]; exact SeqAt.RcNeAt.none_tuple  t1 hu
      | lst es =>
        simp only [DV] at he
        obtain ⟨b,ws,rfl,h3,h4⟩ := he
        cases (show w = Value.ref b from rw')
        obtain ⟨its,_,t1,_⟩ := I.list h3
        simp only [eqD,Bool.not_false,Bool.not_true]; exact SeqAt.RcNeAt.none_list  t1.isList hu
    | int i =>
      simp only [DV] at hd; subst hd; obtain ⟨t,rfl⟩ := (show ∃ t,u = Value.int i t from ru)
      cases e with
      | bl _ => simp [plain] at pe
      | dct _ _ => simp [plain] at pe
      | ref _ => simp [plain] at pe
      | non =>
        simp only [DV] at he; subst he; cases (show w = Value.none from rw')
        simp only [eqD,Bool.not_false,Bool.not_true]; exact SeqAt.RcNeAt.int_none i t
      | int j =>
        simp only [DV] at he; subst he; obtain ⟨t',rfl⟩ := (show ∃ t,w = Value.int j t from rw')
        have z : eqD (D.int i) (D.int j) = (i == j) := by simp only [eqD]; by_cases q : i = j <;> simp [q]
        rw [z]; exact SeqAt.RcNeAt.int_int i t j t'
      | str j =>
        simp only [DV] at he; subst he; obtain ⟨t',rfl⟩ := (show ∃ t,w = Value.str j t from rw')
        simp only [eqD,Bool.not_false,Bool.not_true]; exact SeqAt.RcNeAt.int_str i t j t'
      | tup es =>
        simp only [DV] at he
        obtain ⟨b,ws,rfl,h3,h4⟩ := he
        cases (show w = Value.ref b from rw')
        obtain ⟨its,_,t1,_⟩ := I.tuple h3
        simp only [eqD,Bool.not_false,Bool.not_true]; exact SeqAt.RcNeAt.int_tuple i t t1 hu
      | lst es =>
        simp only [DV] at he
        obtain ⟨b,ws,rfl,h3,h4⟩ := he
        cases (show w = Value.ref b from rw')
        obtain ⟨its,_,t1,_⟩ := I.list h3
        simp only [eqD,Bool.not_false,Bool.not_true]; exact SeqAt.RcNeAt.int_list i t t1.isList hu
    | str i =>
      simp only [DV] at hd; subst hd; obtain ⟨t,rfl⟩ := (show ∃ t,u = Value.str i t from ru)
      cases e with
      | bl _ => simp [plain] at pe
      | dct _ _ => simp [plain] at pe
      | ref _ => simp [plain] at pe
      | non =>
        simp only [DV] at he; subst he; cases (show w = Value.none from rw')
        simp only [eqD,Bool.not_false,Bool.not_true]; exact SeqAt.RcNeAt.str_none i t
      | int j =>
        simp only [DV] at he; subst he; obtain ⟨t',rfl⟩ := (show ∃ t,w = Value.int j t from rw')
        simp only [eqD,Bool.not_false,Bool.not_true]; exact SeqAt.RcNeAt.str_int i t j t'
      | str j =>
        simp only [DV] at he; subst he; obtain ⟨t',rfl⟩ := (show ∃ t,w = Value.str j t from rw')
        have z : eqD (D.str i) (D.str j) = (i == j) := by simp only [eqD]; by_cases q : i = j <;> simp [q]
        rw [z]; exact SeqAt.RcNeAt.str_str i t j t'
      | tup es =>
        simp only [DV] at he
        obtain ⟨b,ws,rfl,h3,h4⟩ := he
        cases (show w = Value.ref b from rw')
        obtain ⟨its,_,t1,_⟩ := I.tuple h3
        simp only [eqD,Bool.not_false,Bool.not_true]; exact SeqAt.RcNeAt.str_tuple i t t1 hu
      | lst es =>
        simp only [DV] at he
        obtain ⟨b,ws,rfl,h3,h4⟩ := he
        cases (show w = Value.ref b from rw')
        obtain ⟨its,_,t1,_⟩ := I.list h3
        simp only [eqD,Bool.not_false,Bool.not_true]; exact SeqAt.RcNeAt.str_list i t t1.isList hu
    | tup ds =>
      simp only [DV] at hd
      obtain ⟨a,vs,rfl,h1,h2⟩ := hd
      cases (show u = Value.ref a from ru)
      obtain ⟨its,r1,t1,_⟩ := I.tuple h1
      cases e with
      | bl _ => simp [plain] at pe
      | dct _ _ => simp [plain] at pe
      | ref _ => simp [plain] at pe
      | non =>
        simp only [DV] at he; subst he; cases (show w = Value.none from rw')
        simp only [eqD,Bool.not_false,Bool.not_true]; exact SeqAt.RcNeAt.tuple_none  t1 hu
      | int j =>
        simp only [DV] at he; subst he; obtain ⟨t',rfl⟩ := (show ∃ t,w = Value.int j t from rw')
        simp only [eqD,Bool.not_false,Bool.not_true]; exact SeqAt.RcNeAt.tuple_int j t' t1 hu
      | str j =>
        simp only [DV] at he; subst he; obtain ⟨t',rfl⟩ := (show ∃ t,w = Value.str j t from rw')
        simp only [eqD,Bool.not_false,Bool.not_true]; exact SeqAt.RcNeAt.tuple_str j t' t1 hu
      | lst es =>
        simp only [DV] at he
        obtain ⟨b,ws,rfl,h3,h4⟩ := he
        cases (show w = Value.ref b from rw')
        obtain ⟨its2,r2,t2,_⟩ := I.list h3
        simp only [eqD,Bool.not_false,Bool.not_true]; exact SeqAt.RcNeAt.tuple_list t1 t2.isList hu
      | tup es =>
        simp only [DV] at he
        obtain ⟨b,ws,rfl,h3,h4⟩ := he
        cases (show w = Value.ref b from rw')
        obtain ⟨its2,r2,t2,_⟩ := I.tuple h3
        have pd' : plains ds = true := by simpa [plain] using pd
        have pe' : plains es = true := by simpa [plain] using pe
        have l1 : its.length = ds.length := by rw [<- r1.length,h2.length]
        have l2 : its2.length = es.length := by rw [<- r2.length,h4.length]
        let f : Nat -> Bool := fun j => match ds[j]?,es[j]? with | some a,some b => eqD a b | _,_ => false
        have items : ∀ j (h1 : j < its.toArray.size) (h2 : j < its2.toArray.size),SeqAt.EqAt A.in1 s its.toArray[j] its2.toArray[j] (f j) := by
          intro j j1 j2
          have j1' : j < ds.length := by rw [<- l1]; simpa using j1
          have j2' : j < es.length := by rw [<- l2]; simpa using j2
          obtain ⟨v,e1,q1⟩ := h2.get j1'
          obtain ⟨v',e2,q2⟩ := h4.get j2'
          obtain ⟨z,e3,q3⟩ := r1.get e1
          obtain ⟨z',e4,q4⟩ := r2.get e2
          have i1 : its.toArray[j] = z := by
            have : its[j]? = some its[j] := List.getElem?_eq_getElem (by simpa using j1)
            rw [this] at e3; simpa using Option.some.inj e3
          have i2 : its2.toArray[j] = z' := by
            have : its2[j]? = some its2[j] := List.getElem?_eq_getElem (by simpa using j2)
            rw [this] at e4; simpa using Option.some.inj e4
          have g1 := dep_get j1'
          have g2 := dep_get j2'
          have hf : f j = eqD ds[j] es[j] := by simp only [f,List.getElem?_eq_getElem j1',List.getElem?_eq_getElem j2']
          rw [i1,i2,hf]
          simp only [dep] at ih hA
          exact (ih ds[j] es[j] v v' z z' (by omega) q1 q2 (plains_get pd' j1') (plains_get pe' j2') q3 q4 A.in1 (by rw [in1_units]; omega)).2
        have sz1 : its.toArray.size = ds.length := by simpa using l1
        have sz2 : its2.toArray.size = es.length := by simpa using l2
        have rc : SeqAt.RcNeAt A s (.ref a) (.ref b) (!eqD (.tup ds) (.tup es)) := by
          have q := SeqAt.RcNeAt.tuples t1 t2 hu items
          rw [sz1,sz2,all_eqDs] at q
          simp only [eqD]; exact q
        exact rc
    | lst ds =>
      simp only [DV] at hd
      obtain ⟨a,vs,rfl,h1,h2⟩ := hd
      cases (show u = Value.ref a from ru)
      obtain ⟨its,r1,t1,_⟩ := I.list h1
      cases e with
      | bl _ => simp [plain] at pe
      | dct _ _ => simp [plain] at pe
      | ref _ => simp [plain] at pe
      | non =>
        simp only [DV] at he; subst he; cases (show w = Value.none from rw')
        simp only [eqD,Bool.not_false,Bool.not_true]; exact SeqAt.RcNeAt.list_none  t1.isList hu
      | int j =>
        simp only [DV] at he; subst he; obtain ⟨t',rfl⟩ := (show ∃ t,w = Value.int j t from rw')
        simp only [eqD,Bool.not_false,Bool.not_true]; exact SeqAt.RcNeAt.list_int j t' t1.isList hu
      | str j =>
        simp only [DV] at he; subst he; obtain ⟨t',rfl⟩ := (show ∃ t,w = Value.str j t from rw')
        simp only [eqD,Bool.not_false,Bool.not_true]; exact SeqAt.RcNeAt.list_str j t' t1.isList hu
      | tup es =>
        simp only [DV] at he
        obtain ⟨b,ws,rfl,h3,h4⟩ := he
        cases (show w = Value.ref b from rw')
        obtain ⟨its2,r2,t2,_⟩ := I.tuple h3
        simp only [eqD,Bool.not_false,Bool.not_true]; exact SeqAt.RcNeAt.list_tuple t1.isList t2 hu
      | lst es =>
        simp only [DV] at he
        obtain ⟨b,ws,rfl,h3,h4⟩ := he
        cases (show w = Value.ref b from rw')
        obtain ⟨its2,r2,t2,_⟩ := I.list h3
        have pd' : plains ds = true := by simpa [plain] using pd
        have pe' : plains es = true := by simpa [plain] using pe
        have l1 : its.length = ds.length := by rw [<- r1.length,h2.length]
        have l2 : its2.length = es.length := by rw [<- r2.length,h4.length]
        let f : Nat -> Bool := fun j => match ds[j]?,es[j]? with | some a,some b => eqD a b | _,_ => false
        have items : ∀ j (h1 : j < its.toArray.size) (h2 : j < its2.toArray.size),SeqAt.EqAt A.in1 s its.toArray[j] its2.toArray[j] (f j) := by
          intro j j1 j2
          have j1' : j < ds.length := by rw [<- l1]; simpa using j1
          have j2' : j < es.length := by rw [<- l2]; simpa using j2
          obtain ⟨v,e1,q1⟩ := h2.get j1'
          obtain ⟨v',e2,q2⟩ := h4.get j2'
          obtain ⟨z,e3,q3⟩ := r1.get e1
          obtain ⟨z',e4,q4⟩ := r2.get e2
          have i1 : its.toArray[j] = z := by
            have : its[j]? = some its[j] := List.getElem?_eq_getElem (by simpa using j1)
            rw [this] at e3; simpa using Option.some.inj e3
          have i2 : its2.toArray[j] = z' := by
            have : its2[j]? = some its2[j] := List.getElem?_eq_getElem (by simpa using j2)
            rw [this] at e4; simpa using Option.some.inj e4
          have g1 := dep_get j1'
          have g2 := dep_get j2'
          have hf : f j = eqD ds[j] es[j] := by simp only [f,List.getElem?_eq_getElem j1',List.getElem?_eq_getElem j2']
          rw [i1,i2,hf]
          simp only [dep] at ih hA
          exact (ih ds[j] es[j] v v' z z' (by omega) q1 q2 (plains_get pd' j1') (plains_get pe' j2') q3 q4 A.in1 (by rw [in1_units]; omega)).2
        have sz1 : its.toArray.size = ds.length := by simpa using l1
        have sz2 : its2.toArray.size = es.length := by simpa using l2
        have rc : SeqAt.RcNeAt A s (.ref a) (.ref b) (!eqD (.lst ds) (.lst es)) := by
          by_cases hz : ds.length = es.length
          . have q := SeqAt.RcNeAt.lists t1.isList t2.isList (by rw [sz1,sz2,hz]) hu items
            have z := all_eqDs ds es
            rw [show min ds.length es.length = ds.length by omega,show (ds.length == es.length) = true by simpa using hz,Bool.and_true] at z
            rw [sz1,z] at q
            simp only [eqD]; exact q
          . have q := SeqAt.RcNeAt.lists_lengths t1.isList t2.isList (by rw [sz1,sz2]; simpa using hz) hu
            have z := all_eqDs ds es
            rw [show (ds.length == es.length) = false by simpa using hz,Bool.and_false] at z
            simp only [eqD,<- z,Bool.not_false]; exact q
        exact rc
end
end Fg
end
section
set_option autoImplicit false
namespace Fg
open PySem PySem.Spec L2
section
variable {X : Cx} {B : Bd} {pins : List (Addr × Obj)} {U : L2.St} {H : Hp} {s : Shared}
def DkOk (B : Bd) (X : Cx) : Prop := ∀ a kvs,B.dk a kvs -> ∀ h : Heap,X.K.In h -> kvs.length <= sizeLine /\ (a == sysModules) = false /\ ∃ vs,KV kvs vs /\ h.DictOf (mixKind X.prog X.w) a vs
theorem sqd {a : Addr} {kvs : List (Key × V)} (hB : DkOk B X) (I : Inv X pins U H s) (h : SqD B H a kvs) : kvs.length <= sizeLine /\ (a == sysModules) = false /\ ∃ vs,KV kvs vs /\ s.heap.DictOf (mixKind X.prog X.w) a vs := by
  rcases h with h | h
  . exact dk_rd I.hok h
  . exact hB a kvs h s.heap I.kIn
def Rm (X : Cx) : Prop := X.A.units + 150 < cLine
theorem op_eqD (hu : Rm X) : OpR X (compareOp .Eq) (rEqD X.K false) := by
  intro pins s U H x y v u Q I rx ry h
  obtain ⟨d,e,hd,he,hc,q⟩ := h
  simp only [cmpOk,Bool.and_eq_true,Bool.or_eq_true,decide_eq_true_eq] at hc
  have := (eq_data I (dep d + dep e + 1) d e x y v u (Nat.lt_succ_self _) hd he hc.1.1 hc.1.2 rx ry X.A (by unfold Rm at hu; omega)).1
  exact this X.prog X.w X.xe _ ⟨.bl (eqD d e),H,I,rfl,q⟩
theorem op_neD (hu : Rm X) : OpR X (compareOp .NotEq) (rEqD X.K true) := by
  intro pins s U H x y v u Q I rx ry h
  obtain ⟨d,e,hd,he,hc,q⟩ := h
  simp only [cmpOk,Bool.and_eq_true,Bool.or_eq_true,decide_eq_true_eq] at hc
  have := ne_data I d e x y v u hd he hc.1.1 hc.1.2 rx ry X.A (by unfold Rm at hu; omega)
  exact this X.prog X.w X.xe _ ⟨.bl (!eqD d e),H,I,rfl,q⟩
theorem op_eqB : OpR X (compareOp .Eq) (rEqB false) := by
  intro pins s U H x y v u Q I rx ry h
  obtain ⟨a,b,rfl,rfl,q⟩ := h
  refine op_eq pins s U H _ _ v u Q I rx ry ⟨rfl,?_⟩
  have e : decide (V.bl a = V.bl b) = (a == b) := dec_bl
  rw [e]; exact q
theorem op_neB : OpR X (compareOp .NotEq) (rEqB true) := by
  intro pins s U H x y v u Q I rx ry h
  obtain ⟨a,b,rfl,rfl,q⟩ := h
  refine op_ne pins s U H _ _ v u Q I rx ry ⟨rfl,?_⟩
  have e : decide (V.bl a = V.bl b) = (a == b) := dec_bl
  rw [e]; exact q
theorem op_inD (hB : DkOk B X) : OpR X (compareOp .In) (rDin B false) := by
  intro pins s U H x y v u Q I rx ry h
  obtain ⟨a,kvs,k,rfl,rfl,hd,q⟩ := h
  obtain rfl : u = Value.ref a := ry
  obtain ⟨z,hm,vs,rel,dd⟩ := sqd hB I hd
  refine wpAny_in_of (kV_is rx) hm dd.mapOf ?_
  rw [<- (rel.val k).isSome_eq]
  exact ⟨.bl (valV kvs k).isSome,H,I.tok _,rfl,q⟩
theorem op_notinD (hB : DkOk B X) : OpR X (compareOp .NotIn) (rDin B true) := by
  intro pins s U H x y v u Q I rx ry h
  obtain ⟨a,kvs,k,rfl,rfl,hd,q⟩ := h
  obtain rfl : u = Value.ref a := ry
  obtain ⟨z,hm,vs,rel,dd⟩ := sqd hB I hd
  refine wpAny_notIn_of (kV_is rx) hm dd.mapOf ?_
  rw [<- (rel.val k).isSome_eq]
  exact ⟨.bl (!(valV kvs k).isSome),H,I.tok _,rfl,q⟩
def cmpOp : Cmp -> CmpOp
  | .eq => .Eq | .ne => .NotEq | .lt => .Lt | .le => .LtE | .gt => .Gt | .ge => .GtE | .isin => .In | .notin => .NotIn | .isN => .Is | .notN => .IsNot
theorem op_cmp (hK : B.K = X.K) (hu : Rm X) (hB : DkOk B X) : ∀ o : Cmp,OpR X (compareOp (cmpOp o)) (rCmp B o)
  | .lt => op_lt
  | .le => op_le
  | .gt => op_gt
  | .ge => op_ge
  | .eq => by rw [rCmp,hK]; exact op_eqB.or (op_eqD hu)
  | .ne => by rw [rCmp,hK]; exact op_neB.or (op_neD hu)
  | .isN => op_isN
  | .notN => op_notN
  | .isin => by rw [rCmp,hK]; exact (op_inD hB).or op_in_seq
  | .notin => by rw [rCmp,hK]; exact (op_notinD hB).or op_notIn_seq
theorem op_catQ : OpR X (binaryOp .Add) (rCatQ X.K) := by
  intro pins s U H x y v u Q I rx ry h
  obtain ⟨l,b,xs,zs,rfl,rfl,hH,hB,hz,q⟩ := h
  cases rx
  cases ry
  obtain ⟨its,r,pl,z⟩ := I.list hH
  obtain ⟨its2,r2,pl2,z2⟩ := I.list hB
  obtain ⟨⟨cls,dd,data,sl⟩,ho,hc,n,hd⟩ := id pl.isList
  obtain ⟨⟨cls2,dd2,data2,sl2⟩,ho2,hc2,n2,hd2⟩ := id pl2.isList
  simp only at hc hd hc2 hd2
  subst hc hd hc2 hd2
  have l1 := r.length
  have l2 := r2.length
  have ea : its.toArray ++ its2.toArray = (its ++ its2).toArray := by simp
  refine PySem.concat_meets ⟨_,ho,rfl⟩ ⟨_,ho2,rfl⟩ PySem.noFill_list_add PySem.seq_list_add PySem.F.slot_list_add PySem.F.entry_list_add (PySem.F.args_list_add_2 _ _) (PyProof.Rows.list_addW l b its.toArray its2.toArray n n2 dd dd2 sl sl2 (by simp only [List.size_toArray]; omega)) ⟨ho,ho2,?_⟩
  rw [ea]
  exact ⟨.ref _,_,I.lnew (t' := s.toks) (r.append r2) (by rw [List.length_append]; omega),rfl,q _ I.fresh⟩
def binOp : Op2 -> Operator
  | .add => .Add | .sub => .Sub | .mul => .Mult | .fdiv => .FloorDiv | .mod => .Mod | .pow => .Pow
theorem op_bin (hK : B.K = X.K) : ∀ o : Op2,OpR X (binaryOp (binOp o)) (rOp B.K o)
  | .add => by rw [rOp,hK]; exact op_add.or (op_add_str.or (op_catQ.or op_catT))
  | .sub => op_sub
  | .mul => op_mul
  | .fdiv => op_fdiv
  | .mod => op_mod
  | .pow => op_pow
theorem ix_dct (hB : DkOk B X) : IxR X (rIxD B) := by
  intro value slice pins s U H x y v u Q I rx ry h hs
  obtain ⟨a,kvs,k,w,rfl,rfl,hd,hv,q⟩ := h
  obtain rfl : v = Value.ref a := rx
  obtain ⟨z,hm,vs,rel,dd⟩ := sqd hB I hd
  obtain ⟨w',hw,rw'⟩ := RelO.some_of (v := w) (o := valueAt vs k) (by rw [<- hv]; exact rel.val k)
  exact PyProof.Rows.tail_any dd.typeIs PySem.F.slot_dict_getitem.lookup (wpAny_getItem_of (kV_is ry) dd.mapOf hw ⟨w,H,I.tok _,rw',q⟩) hs
theorem ix_all (hK : B.K = X.K) (hB : DkOk B X) : IxR X (rIxA B) := by
  unfold rIxA; rw [hK]; exact ix_list.or (ix_tup.or (ix_str.or (ix_dct hB)))
theorem call_lenA (hK : B.K = X.K) (hB : DkOk B X) : CallR X (.builtin "len") (rLen B) := by
  unfold rLen; rw [hK]
  refine call_len_str.or (call_len_seq.or ?_)
  intro pins s U H xs us Q I r h
  obtain ⟨a,kvs,rfl,ha,q⟩ := h
  obtain ⟨u,rfl,ru⟩ := vals1 r
  cases ru
  obtain ⟨z,hd,vs,rel,dd⟩ := sqd hB I ha
  refine call_len_dict hd dd (by rw [<- rel.length]; rw [sizeLine_eq] at z; omega) ?_
  rw [<- rel.length]
  exact ⟨.int kvs.length,H,I.tok _,⟨_,rfl⟩,q⟩
theorem vals_ints : ∀ {ns : List Int} {us : List Value},Vals (ns.map V.int) us -> (∀ v ∈ us,∃ a t,v = Value.int a t) /\ numsOf us = ns
  | [],us,h => by cases h; exact ⟨fun v hv => by simp at hv,rfl⟩
  | n :: ns,us,h => by
    cases h with
    | cons r t =>
      obtain ⟨tk,rfl⟩ := (show ∃ t,_ = Value.int n t from r)
      obtain ⟨i1,i2⟩ := vals_ints t
      refine ⟨fun v hv => ?_,by simp only [numsOf,i2]⟩
      rcases List.mem_cons.mp hv with rfl | hv
      . exact ⟨_,_,rfl⟩
      . exact i1 v hv
theorem call_sumA (hK : B.K = X.K) (hc : X.calm = true) : CallR X (.builtin "sum") (rSum B) := by
  intro pins s U H xs us Q I r h
  obtain ⟨p,ns,rfl,hl,q⟩ := h
  obtain ⟨u,rfl,ru⟩ := vals1 r
  cases ru
  rw [hK] at hl
  obtain ⟨its,r',pl,hz⟩ := I.list hl
  obtain ⟨i1,i2⟩ := vals_ints r'
  obtain ⟨xs,hx⟩ := AllInts.items (vs := its.toArray) (fun v hv => i1 v (by simpa using hv))
  have hsum : preSum (numAt xs) xs.size = ns.sum := by
    rw [preSum_eq,List.take_of_length_le (by simp),<- nums_intItems,<- hx,<- i2]
  refine sum_intListG (I.ok.hd hc) (by rw [<- hx]; exact pl.isList) fun h' tk t' kp => ?_
  rw [hsum]
  exact ⟨.int ns.sum,H,I.kept (t' := tk) kp,⟨_,rfl⟩,q⟩
theorem call_tupA (hK : B.K = X.K) : CallR X (.type "tuple") (rTupOf B) := by unfold rTupOf; rw [hK]; exact call_tuple_of
theorem call_lstA (hK : B.K = X.K) : CallR X (.type "list") (rLstOf B) := by unfold rLstOf; rw [hK]; exact call_list_of
theorem call_dctA (hB : DkOk B X) : CallR X (.type "dict") (rDctOf B) := by
  intro pins s U H xs us Q I r h
  obtain ⟨p,kvs,rfl,ha,q⟩ := h
  obtain ⟨u,rfl,ru⟩ := vals1 r
  cases ru
  obtain ⟨z,hd,vs,rel,dd⟩ := sqd hB I ha
  refine kt_call_dict hd dd (by rw [<- rel.length]; exact z) fun h' dd' hs => ?_
  refine ⟨.ref s.heap.objs.size,_,I.laid (a := s.heap.objs.size) (o := .dK kvs) (t' := s.toks) (fun b q hq => ?_) (Nat.le_refl _) (dk_new z (beq_eq_false_iff_ne.mpr (Ne.symm (Nat.ne_of_lt I.big))) rel dd'),rfl,q _ (I.hok.fresh (Nat.le_refl _))⟩
  exact (hs.2 b (Nat.ne_of_lt (Heap.lt_size hq))).trans (Heap.get?_push_of_some _ hq)
inductive TyN (B : Bd) (H : Hp) : V -> String -> Prop where
  | non : TyN B H .non "NoneType"
  | bl (b : Bool) : TyN B H (.bl b) "bool"
  | int (i : Int) : TyN B H (.int i) "int"
  | str (x : Str) : TyN B H (.str x) "str"
  | lst {a : Addr} {xs : List V} : SqL B.K H a xs -> TyN B H (.ref a) "list"
  | tup {a : Addr} {xs : List V} : SqT B.K H a xs -> TyN B H (.ref a) "tuple"
  | dct {a : Addr} {kvs : List (Key × V)} : SqD B H a kvs -> TyN B H (.ref a) "dict"
def tyS : Ty -> String
  | .int => "int" | .str => "str" | .bool => "bool" | .list => "list" | .tuple => "tuple" | .dict => "dict"
def tyB (T : String) (t : Ty) : Bool := T == tyS t || (T == "bool" && match t with | .int => true | _ => false)
def rIsi (B : Bd) : List V -> Hp -> VK -> Prop := fun xs H Q => ∃ x T t,xs = [x,.ty (tyS t)] /\ TyN B H x T /\ Q (.bl (tyB T t)) H
theorem kit_all (K : W.Frag) : ∀ t : Ty, W.kitOne K (.type "NoneType") (.type (tyS t)) = some (tyB "NoneType" t) /\ W.kitOne K (.type "bool") (.type (tyS t)) = some (tyB "bool" t) /\ W.kitOne K (.type "int") (.type (tyS t)) = some (tyB "int" t) /\ W.kitOne K (.type "str") (.type (tyS t)) = some (tyB "str" t) /\
    W.kitOne K (.type "list") (.type (tyS t)) = some (tyB "list" t) /\ W.kitOne K (.type "tuple") (.type (tyS t)) = some (tyB "tuple" t) /\ W.kitOne K (.type "dict") (.type (tyS t)) = some (tyB "dict" t) := by
  intro t
  cases t <;> (refine ⟨?_,?_,?_,?_,?_,?_,?_⟩ <;> kernel_rfl)
theorem call_isi (hK : B.K = X.K) (hB : DkOk B X) : CallR X (.builtin "isinstance") (rIsi B) := by
  intro pins s U H xs us Q I r h
  obtain ⟨x,T,t,rfl,ty,q⟩ := h
  cases r with
  | cons rx r =>
    cases r with
    | cons rt r =>
      cases r
      obtain rfl := (show _ = Value.type (tyS t) from rt)
      have fin : ∀ tk,EP X pins U Q (.bool (tyB T t)) { s with toks := tk } := fun tk => ⟨.bl (tyB T t),H,I.tok _,rfl,q⟩
      obtain ⟨k1,k2,k3,k4,k5,k6,k7⟩ := kit_all X.K t
      cases ty with
      | non => cases (show _ = Value.none from rx); exact W.kia_one W.kitx_none I.kIn True.intro k1 (fun z => nomatch z) fin
      | bl b => cases (show _ = Value.bool b from rx); exact W.kia_one W.kitx_bool I.kIn True.intro k2 (fun z => nomatch z) fin
      | int i => obtain ⟨tk,q⟩ := (show ∃ t,_ = Value.int i t from rx); cases q; exact W.kia_one W.kitx_int I.kIn True.intro k3 (fun z => nomatch z) fin
      | str y => obtain ⟨tk,q⟩ := (show ∃ t,_ = Value.str y t from rx); cases q; exact W.kia_one W.kitx_str I.kIn True.intro k4 (fun z => nomatch z) fin
      | lst hl =>
        cases rx
        rw [hK] at hl
        obtain ⟨its,_,pl,_⟩ := I.list hl
        obtain ⟨o,ho,hc,_⟩ := pl.isList
        exact W.kia_one W.kitx_list I.kIn ⟨o,ho,hc⟩ k5 (fun z => nomatch z) fin
      | tup hl =>
        cases rx
        rw [hK] at hl
        obtain ⟨its,_,pl,_⟩ := I.tuple hl
        obtain ⟨o,ho,hc,_⟩ := pl
        exact W.kia_one W.kitx_tuple I.kIn ⟨o,ho,hc⟩ k6 (fun z => nomatch z) fin
      | dct hd =>
        cases rx
        obtain ⟨z,hm,vs,rel,dd⟩ := sqd hB I hd
        obtain ⟨o,ho,hc⟩ := dd.typeIs
        exact W.kia_one W.kitx_dict I.kIn ⟨o,ho,hc⟩ k7 (fun z => nomatch z) fin
end
end Fg
end
section
set_option autoImplicit false
namespace Fg
open PySem PySem.Spec L2
theorem pick_range {α : Type} (xs : List α) (a : Nat) : ∀ c : Nat,((List.range c).map fun k => a + k).filterMap (fun i => xs[i]?) = (xs.drop a).take c
  | 0 => by simp
  | c + 1 => by
    rw [List.range_succ,List.map_append,List.filterMap_append,pick_range xs a c,List.take_add_one]
    simp [List.getElem?_drop]
    cases h : xs[a + c]? <;> simp [h]
theorem clip_six (n d : Nat) (hd : d <= n) (o : Option Int) : (match o with
    | none => ((d : Nat) : Int)
    | some i => max 0 (min (if i < 0 then i + (n : Int) else i) (n : Int))) = ((six n d o : Nat) : Int) := by
  cases o with
  | none => rfl
  | some i => simp only [six]; split <;> omega
theorem six_le (n d : Nat) (hd : d <= n) (o : Option Int) : six n d o <= n := by
  cases o with
  | none => exact hd
  | some i => simp only [six]; split <;> omega
theorem rng_eq (a b : Nat) : sliceRange (a : Int) (b : Int) 1 = (List.range (b - a)).map fun k => a + k := by
  unfold sliceRange
  simp only [show (1 : Int) > 0 by decide,if_true]
  have ec : (if (a : Int) < (b : Int) then ((b : Int) - (a : Int) + 1 - 1) / 1 else 0).toNat = b - a := by
    split <;> omega
  rw [ec]
  apply List.map_congr_left
  intro k _
  omega
theorem ind_eq (l u : Option Int) (n : Nat) : Builtin.Str.strSliceIndices l u 1 n = (List.range (six n n u - six n 0 l)).map fun k => six n 0 l + k := by
  rw [<- rng_eq,<- clip_six n 0 (Nat.zero_le _) l,<- clip_six n n (Nat.le_refl _) u]
  unfold Builtin.Str.strSliceIndices
  cases l <;> cases u <;> rfl
theorem slice_cuts (x : Str) (l u : Option Int) : Txt.slice x l u = cuts x l u := by
  have hn : x.cps.toList.length = x.length := by simp [Str.length]
  have key : (Builtin.Str.strSliceIndices l u 1 x.length).filterMap (x.cps[·]?) = cutl x.cps.toList l u := by
    rw [ind_eq]
    have := pick_range x.cps.toList (six x.length 0 l) (six x.length x.length u - six x.length 0 l)
    unfold cutl
    rw [hn,<- this]
    congr 1
    funext i
    simp
  unfold Txt.slice
  split
  . rename_i hc
    simp only [Bool.and_eq_true,beq_iff_eq] at hc
    have hc2 := hc.2
    rw [ind_eq] at hc2
    simp only [List.length_map,List.length_range] at hc2
    have b1 := six_le x.length x.length (Nat.le_refl _) u
    unfold cuts cutl
    rw [hn]
    by_cases h0 : x.length = 0
    . obtain ⟨⟨l⟩⟩ := x
      simp [Str.length] at h0
      subst h0
      simp
    . have a0 : six x.length 0 l = 0 := by omega
      rw [a0,List.drop_zero,List.take_of_length_le (by rw [hn]; omega)]
  . show Str.mk _ = Str.mk _
    rw [key]
section
variable {X : Cx} {B : Bd}
theorem sl_str : SlR X rSlS := by
  intro pins s U H x v vl vu lo hi sl Q I rx hs pl pu h
  obtain ⟨z,rfl,hz,q⟩ := h
  obtain ⟨t,rfl⟩ := (show ∃ t,v = Value.str z t from rx)
  refine ⟨"str", _, PySem.F.slot_str_getitem.lookup, typeIs_str _ _ _, ?_⟩
  have fin : ∀ (l u : Option Int) (t' : Tok) (k : Nat),l = lo -> u = hi -> EP X pins U Q (.str (Txt.slice z l u) t') { s with toks := k } := by
    intro l u t' k e3 e4
    exact ⟨.str (cuts z lo hi),H,I.tok _,⟨t',by rw [slice_cuts,e3,e4]⟩,q⟩
  obtain ⟨o,ho,hc,hd⟩ := hs
  cases pl with
  | none =>
    cases pu with
    | none => exact wpAny_getItem_str_slice (l := none) (u := none) (st := none) ⟨o,ho,hc,hd⟩ rfl (post_val_or_str ⟨Nat.le_trans (Txt.slice_le z none none) hz,fun t' k => fin none none t' k rfl rfl⟩)
    | int j tj => exact wpAny_getItem_str_slice (l := none) (u := some (j,tj)) (st := none) ⟨o,ho,hc,hd⟩ rfl (post_val_or_str ⟨Nat.le_trans (Txt.slice_le z none (some j)) hz,fun t' k => fin none (some j) t' k rfl rfl⟩)
  | int i ti =>
    cases pu with
    | none => exact wpAny_getItem_str_slice (l := some (i,ti)) (u := none) (st := none) ⟨o,ho,hc,hd⟩ rfl (post_val_or_str ⟨Nat.le_trans (Txt.slice_le z (some i) none) hz,fun t' k => fin (some i) none t' k rfl rfl⟩)
    | int j tj => exact wpAny_getItem_str_slice (l := some (i,ti)) (u := some (j,tj)) (st := none) ⟨o,ho,hc,hd⟩ rfl (post_val_or_str ⟨Nat.le_trans (Txt.slice_le z (some i) (some j)) hz,fun t' k => fin (some i) (some j) t' k rfl rfl⟩)
theorem sl_all (hK : B.K = X.K) : SlR X (rSlA B) := by
  unfold rSlA; rw [hK]; exact sl_list.or (sl_tup.or sl_str)
end
end Fg
end
section
set_option autoImplicit false
namespace Fg
open PySem PySem.Spec L2
theorem forIn_yield_fold {α β : Type} (g : β -> α -> β) : ∀ {l : List α} {f : α -> β -> Sem (ForInStep β)} (_ : ∀ x ∈ l,∀ c,f x c = pure (.yield (g c x))) (c : β),forIn l c f = pure (l.foldl g c)
  | [],f,_,c => rfl
  | x :: l,f,h,c => by
    rw [List.forIn_cons,h x List.mem_cons_self,pure_bind]
    exact forIn_yield_fold g (fun y hy => h y (List.mem_cons_of_mem _ hy)) _
def clStep (env : Env) (cs : List (Str × Addr)) (x : Str × NameKind) : List (Str × Addr) := if x.2 == .free then (x.1,(env.cells.lookup x.1).getD 0) :: cs else cs
theorem closure_eq {scope : Scope} {env : Env} (h : ∀ x,(x,NameKind.free) ∈ scope.names -> ∃ c,env.cells.lookup x = some c) : closureFor scope env = pure (scope.names.foldl (clStep env) []) := by
  unfold closureFor
  dsimp only
  rw [forIn_yield_fold (clStep env) (fun x hx c => ?_)]
  . rfl
  obtain ⟨n,k⟩ := x
  by_cases hk : k = .free
  . subst hk
    obtain ⟨a,ha⟩ := h n hx
    simp only [clStep,cellOf,ha,beq_self_eq_true,if_true,Option.getD_some]
    rfl
  . have hb : (k == NameKind.free) = false := by simpa using hk
    simp only [clStep,hb,Bool.false_eq_true,if_false]
theorem cl_mem {env : Env} : ∀ (names : List (Str × NameKind)) (cs : List (Str × Addr)) (p : Str × Addr),(∀ x,(x,NameKind.free) ∈ names -> ∃ c,env.cells.lookup x = some c) -> p ∈ names.foldl (clStep env) cs -> p ∈ cs \/ env.cells.lookup p.1 = some p.2
  | [],cs,p,_,h => .inl h
  | (n, k) :: r, cs, p, hc, h => by
    rw [List.foldl_cons] at h
    rcases cl_mem r _ p (fun x hx => hc x (List.mem_cons_of_mem _ hx)) h with q | q
    . unfold clStep at q
      split at q
      . rename_i hk
        have hk' : k = .free := by simpa using hk
        subst hk'
        rcases List.mem_cons.mp q with q | q
        . obtain ⟨a,ha⟩ := hc n List.mem_cons_self
          right
          rw [q]
          show env.cells.lookup n = some ((env.cells.lookup n).getD 0)
          rw [ha]; rfl
        . exact .inl q
      . exact .inl q
    . exact .inr q
theorem cl_keep {env : Env} : ∀ (names : List (Str × NameKind)) (cs : List (Str × Addr)) (x : Str),(∃ c,(x,c) ∈ cs) -> ∃ c,(x,c) ∈ names.foldl (clStep env) cs
  | [],cs,x,h => h
  | (n,k) :: r,cs,x,⟨c,h⟩ => by
    rw [List.foldl_cons]
    refine cl_keep r _ x ⟨c,?_⟩
    unfold clStep
    split
    . exact List.mem_cons_of_mem _ h
    . exact h
theorem cl_has {env : Env} : ∀ (names : List (Str × NameKind)) (cs : List (Str × Addr)) (x : Str),(x,NameKind.free) ∈ names -> ∃ c,(x,c) ∈ names.foldl (clStep env) cs
  | (n, k) :: r, cs, x, h => by
    rw [List.foldl_cons]
    rcases List.mem_cons.mp h with h | h
    . cases h
      refine cl_keep r _ n ⟨(env.cells.lookup n).getD 0,?_⟩
      unfold clStep
      rw [if_pos (by rfl)]
      exact List.mem_cons_self
    . exact cl_has r _ x h
theorem lookup_of_mem {β : Type} : ∀ {l : List (Str × β)} {x : Str} {c : β},(x,c) ∈ l -> ∃ d,l.lookup x = some d
  | (n, k) :: r, x, c, h => by
    rw [List.lookup_cons]
    cases e : x == n with
    | true => exact ⟨k,rfl⟩
    | false =>
      rcases List.mem_cons.mp h with h | h
      . cases h; simp at e
      . exact lookup_of_mem h
theorem lookup_relabel {env : Env} : ∀ {names : List (Str × NameKind)} {x : Str},(names.map fun (n,k) => if (k == NameKind.free && env.scope.kind == .function && env.kindOf n == some .cell) then (n,NameKind.cell) else (n,k)).lookup x =
    (names.lookup x).map fun k => if (k == NameKind.free && env.scope.kind == .function && env.kindOf x == some .cell) then NameKind.cell else k
  | [],x => rfl
  | (n, k) :: r, x => by
    have ih := @lookup_relabel env r x
    show List.lookup x ((if (k == NameKind.free && env.scope.kind == .function && env.kindOf n == some .cell) = true then (n,NameKind.cell) else (n,k)) :: _) = _
    cases hx : x == n with
    | true =>
      have e : x = n := by simpa using hx
      subst e
      by_cases hc : (k == NameKind.free && env.scope.kind == .function && env.kindOf x == some .cell) = true
      . rw [if_pos hc]; simp only [List.lookup_cons,hx,Option.map_some,if_pos hc]
      . rw [if_neg hc]
        simp only [List.lookup_cons,hx,Option.map_some,if_neg hc]
    | false =>
      by_cases hc : (k == NameKind.free && env.scope.kind == .function && env.kindOf n == some .cell) = true
      . rw [if_pos hc]; simp only [List.lookup_cons,hx]; exact ih
      . rw [if_neg hc]; simp only [List.lookup_cons,hx]; exact ih
def blk (X : Cx) (scope : Scope) (cl : List (Str × Addr)) (N : List Str) (fp : List Addr) (s : Shared) (H : Hp) (C : Addr) : Cx :=
  { X with N := N,s₀ := s,H₀ := H,env := compEnvC scope cl C X.env,outer := X.stack,stack := X.stack,ex := fp,fn := fun _ => false,pn := [],xe := fun _ _ => False }
abbrev blkE (X : Cx) (scope : Scope) (cl : List (Str × Addr)) (N : List Str) (fp : List Addr) (s : Shared) (H : Hp) (C : Addr) (E : XK) : Cx := (blk X scope cl N fp s H C).wish (Fly (blk X scope cl N fp s H C) fun cv x _ H' => E cv x H')
def PTs (X : Cx) (ifs : List Expr) (t : TT) : Prop :=
  ∀ (pins : List (Addr × Obj)) (s : Shared) (U : St) (H : Hp) (Q : Bool -> Hp -> Prop),Inv X pins U H s -> t U H Q ->
    wpAny (model X.prog X.w) X.A (forIn ifs true fun c r => if r = true then do let ok <- isTrue c X.env (eval c X.env); pure (ForInStep.yield ok) else pure (ForInStep.yield r)) (L2.TP X pins U Q) X.xe s
theorem pts_nil {X : Cx} : PTs X [] (fun _ H Q => Q true H) := fun pins s U H Q I h => wpAny_tests_nil ⟨H,I,h⟩
theorem pts_one {X : Cx} {c : Expr} {t : TT} (h : PT X c t) : PTs X [c] t := fun pins s U H Q I q => wpAny_tests_one (h pins s U H Q I q)
def capV (cp : List Nat) (n : Nat) (U : St) : St := cp.map (fun i => (U[i]?).join) ++ List.replicate n none
def tComp (wi : TI) (g : TG) (tc : St -> TT) (te : St -> TE) (cp : List Nat) (n : Nat) : TE := fun U H Q => wi U H fun J H1 => ∀ D,H1 D = none -> ∃ W : Nat -> Nat -> St -> Hp -> Prop,(∃ m,W 0 m (capV cp n U) (upd H1 D (.lst []))) /\ ∀ i m U' H',W i m U' H' ->
  (J.stop i H' /\ Q (.ref D) H') \/ (J.go i H' /\ ∀ x H2,J.yld i H' x H2 -> g x U' H2 fun U2 H3 => tc U U2 H3 fun b H4 =>
    if b = true then te U U2 H4 fun v H5 => ∃ ys,H5 D = some (.lst ys) /\ ys.length < sizeLine /\ ∃ m',m' < m /\ W (i + 1) m' U2 (upd H5 D (.lst (ys ++ [v]))) else ∃ m',m' < m /\ W (i + 1) m' U2 H4)
theorem codeAny_compLoop_go {prog : Program} {w : World} {A : Around} {R : Result -> Shared -> Prop} {s : Shared} {elt target iter : Expr} {ifs : List Expr} {scope : Scope} {pos : Pos} {it acc : Value} {env : Env} (I : Nat -> Shared -> Prop) (EX : Value -> Shared -> Prop) (hE : ∀ e s,EX e s -> notedBy (model prog w) A env (fun x s' => R (.error x) s') e s)
    (turn : ∀ n s,I n s -> wpAny (model prog w) A (pyNext it) (fun r s₁ => match r with
      | none => R (.ok .next) s₁
      | some v => wpAny (model prog w) A (letOwnedTupleGo target it v) (fun _ s₁' => wpAny (model prog w) A (assign target env v) (fun _ s₂ =>
          wpAny (model prog w) A (forIn ifs true fun c r => if r = true then do let ok <- isTrue c env (eval c env); pure (ForInStep.yield ok) else pure (ForInStep.yield r)) (fun ok s₃ =>
            if ok = true then wpAny (model prog w) A (eval elt env) (fun x s₄ =>
              wpAny (model prog w) A (call (.builtin "list.append") [acc, x]) (fun _ s₅ => ∃ m, m < n /\ I m s₅) EX s₄) EX s₃
            else ∃ m,m < n /\ I m s₃) EX s₂) EX s₁') EX s₁) EX s)
    (n : Nat) (h : I n s) : codeAny (model prog w) A (.compLoop (.ListComp elt [⟨target,iter,ifs,0⟩] scope pos) 0 it acc env) R s := by
  refine codeAny_loop rfl I (fun n s hI => ?_) n h
  show wpAny _ A ((compTurn (.ListComp elt [⟨target,iter,ifs,0⟩] scope pos) 0 it acc env).onRaise (fun x => do noteFrame x env; theTreesLotGoes x)) _ _ s
  refine wpAny_noted ?_
  rw [compTurn_list]
  refine wpAny_bind (wpAny_standAt (wpAny_bind (wpAny_mono (turn n s hI) (fun r s₁ h₁ => ?_) hE)))
  cases r with
  | none => exact wpAny_pure h₁
  | some v =>
    refine wpAny_bind (wpAny_mono h₁ (fun _ s₁' h₁' => ?_) hE)
    refine wpAny_bind (wpAny_mono h₁' (fun _ s₂ h₂ => wpAny_bind (wpAny_mono h₂ (fun ok s₃ h₃ => ?_) hE)) hE)
    cases ok with
    | false => exact wpAny_pure ⟨rfl,h₃⟩
    | true =>
      exact wpAny_bind (wpAny_bind (wpAny_mono h₃ (fun x s₄ h₄ => wpAny_bind (wpAny_mono h₄ (fun _ s₅ h₅ => wpAny_pure (wpAny_pure ⟨rfl,h₅⟩)) hE)) hE))
section
variable {X : Cx} {pins : List (Addr × Obj)} {U : St} {H : Hp} {s : Shared}
structure CompSc (X : Cx) (scope : Scope) (N : List Str) (cp : List Nat) (n : Nat) : Prop where
  free : ∀ x,(x,NameKind.free) ∈ scope.names -> X.env.kindOf x = some .cell \/ X.env.kindOf x = some .free
  cell : ∀ y ∈ scope.names,y.2 ≠ .cell
  kind : scope.kind = .function
  names : ∀ y ∈ scope.names,y.2 = .local -> scope.names.lookup y.1 = some .local
  len : N.length = cp.length + n
  cap : ∀ (i j : Nat) (x : Str),N[i]? = some x -> cp[i]? = some j -> X.N[j]? = some x /\ scope.names.lookup x = some .free
theorem blk_ok {scope : Scope} {N : List Str} {cp : List Nat} {n : Nat} {fp : List Addr} {C : Addr} (S : CompSc X scope N cp n) (I : Inv X pins U H s) (hf : ∀ b ∈ fp,FpOk X pins H b) (hC : s.heap.objs.size < C) (hfC : ∀ b ∈ fp,b < s.heap.objs.size) :
    (blk X scope (scope.names.foldl (clStep X.env) []) N fp s H C).Ok := by
  have hex : ∀ x,(x,NameKind.free) ∈ scope.names -> ∃ c,X.env.cells.lookup x = some c := fun x hx => I.ok.has x (S.free x hx)
  have hcl : ∀ x c,(scope.names.foldl (clStep X.env) []).lookup x = some c -> X.env.cells.lookup x = some c := fun x c e => by
    rcases cl_mem scope.names [] (x,c) hex (PySem.mem_of_lookup e) with q | q
    . cases q
    . exact q
  refine ⟨I.ok.mod,S.kind,I.ok.glob,I.ok.blt,Nat.le_of_lt hC,fun x y c h1 h2 => I.ok.inj x y c (hcl x c h1) (hcl y c h2),fun x hx => ?_,fun x c h _ => (Bool.false_ne_true h).elim,I.ok.hd,I.ok.frames,.inl rfl,fun b hb => ⟨Nat.ne_of_lt (Nat.lt_trans (hfC b hb) hC),fun x c e => (hf b hb).2.2.2.2.1 x c (hcl x c e)⟩,
    fun b o e => I.bs b o e,Nat.le_trans I.ok.bsz I.sz,fun b o e hb => ?_,fun b hb hs => ?_,I.stack,I.stkFree⟩
  . have q : (x,NameKind.free) ∈ scope.names := by
      have hx : (relabel scope X.env).names.lookup x = some .cell \/ (relabel scope X.env).names.lookup x = some .free := hx
      unfold relabel at hx
      dsimp only at hx
      rw [lookup_relabel] at hx
      cases e : scope.names.lookup x with
      | none => rw [e] at hx; simp at hx
      | some k =>
        rw [e] at hx
        have hm := PySem.mem_of_lookup e
        cases k with
        | free => exact hm
        | cell => exact (S.cell _ hm rfl).elim
        | «local» => simp at hx
        | globalImplicit => simp at hx
        | globalExplicit => simp at hx
    obtain ⟨c,hc⟩ := cl_has (env := X.env) scope.names [] x q
    exact lookup_of_mem hc
  . rcases (hf b hb).2.2.2.1 with z | z
    . exact I.ok.noex b o e z
    . exact absurd (Nat.lt_of_lt_of_le (Heap.lt_size e) (Nat.le_trans I.ok.bsz z)) (Nat.lt_irrefl _)
  . rcases List.mem_cons.mp (I.stkSub b hs) with z | z
    . exact (hf b hb).2.1 z
    . exact (hf b hb).2.2.1 z
theorem blk_start {scope : Scope} {N : List Str} {cp : List Nat} {n : Nat} {fp : List Addr} {C D : Addr} {h1 : Heap} {t1 : Nat} (S : CompSc X scope N cp n) (I : Inv X pins U H s) (hf : ∀ b ∈ fp,FpOk X pins H b) (hfC : ∀ b ∈ fp,b < s.heap.objs.size)
    (hD : D = s.heap.objs.size) (hC : C = s.heap.objs.size + 1) {m : Str -> Option Value} (hns : h1.Ns C m) (old : ∀ b o, s.heap.get? b = some o -> h1.get? b = some o) (hacc : h1.get? D = some { cls := .type "list", data := .seq ([] : List Value).toArray 0 }) :
    Inv (blk X scope (scope.names.foldl (clStep X.env) []) N fp s H C) [] (capV cp n U) (upd H D (.lst [])) { s with heap := h1,toks := t1 } := by
  have hex : ∀ x,(x,NameKind.free) ∈ scope.names -> ∃ c,X.env.cells.lookup x = some c := fun x hx => I.ok.has x (S.free x hx)
  have hcl : ∀ x c,(scope.names.foldl (clStep X.env) []).lookup x = some c -> X.env.cells.lookup x = some c := fun x c e => by
    rcases cl_mem scope.names [] (x,c) hex (PySem.mem_of_lookup e) with q | q
    . cases q
    . exact q
  have fD : H D = none := I.hok.fresh (by rw [hD]; exact Nat.le_refl _)
  have fC : H C = none := I.hok.fresh (by rw [hC]; exact Nat.le_succ _)
  have cellK : ∀ x c v,X.env.cells.lookup x = some c -> s.heap.IsCell c v -> h1.IsCell c v := fun x c v e ⟨o,ho,hd⟩ => ⟨o,old c o ho,hd⟩
  refine ⟨blk_ok S I hf (by rw [hC]; exact Nat.lt_succ_self _) hfC,rfl,I.bare,?_,⟨m,hns,fun i x v e1 e2 e3 => ?_⟩,fun x c e => ?_,?_,fun x c e => ?_,fun p hp => absurd (show p ∈ ([] : List (Addr × Obj)) from hp) (by simp),?_,?_⟩
  . exact Un.laid (fun b u e => old b u e) (by rw [hD]; exact Nat.le_refl _) fD
  . -- a captured name
    have hi : i < cp.length := by
      by_cases hi : i < cp.length
      . exact hi
      . unfold capV at e2
        rw [List.getElem?_append_right (by simpa using hi),List.getElem?_replicate] at e2
        split at e2 <;> cases e2
    have hcp : cp[i]? = some cp[i] := List.getElem?_eq_getElem hi
    obtain ⟨hX,hfr⟩ := S.cap i cp[i] x e1 hcp
    have e2' : U[cp[i]]? = some (some v) := by
      unfold capV at e2
      rw [List.getElem?_append_left (by simpa using hi),List.getElem?_map,hcp] at e2
      simp only [Option.map_some,Option.some.injEq] at e2
      cases q : U[cp[i]]? with
      | none => rw [q] at e2; cases e2
      | some o => rw [q] at e2; simp only [Option.join_some] at e2; rw [e2]
    have hmem := PySem.mem_of_lookup hfr
    have hk := S.free x hmem
    obtain ⟨m0,_,hl⟩ := I.loc
    obtain ⟨u,r,lk⟩ := hl cp[i] x v hX e2' (by rcases hk with q | q; exact .inr (.inl q); exact .inr (.inr q))
    refine ⟨u,r,.inr ⟨?_,?_⟩⟩
    . show (relabel scope X.env).names.lookup x = some .cell \/ (relabel scope X.env).names.lookup x = some .free
      unfold relabel
      dsimp only
      rw [lookup_relabel,hfr]
      simp only [Option.map_some]
      split
      . exact .inl rfl
      . exact .inr rfl
    . obtain ⟨c,hc⟩ := cl_has (env := X.env) scope.names [] x hmem
      obtain ⟨d,hd⟩ := lookup_of_mem hc
      refine ⟨d,hd,?_⟩
      rcases lk with ⟨k,_⟩ | ⟨_,c',hc',z⟩
      . rcases hk with q | q <;> (rw [q] at k; cases k)
      . have := hcl x d hd
        rw [hc'] at this; cases this
        exact cellK x d _ hc' z
  . obtain ⟨v,z⟩ := I.cell x c (hcl x c e)
    exact ⟨v,cellK x c v (hcl x c e) z⟩
  . show upd H D (.lst []) C = none
    rw [upd_ne (by rw [hC,hD]; exact Nat.succ_ne_self _)]; exact fC
  . show upd H D (.lst []) c = none
    rw [upd_ne (ne_of_lt' (I.cell x c (hcl x c e)) hD)]
    exact I.freeC x c (hcl x c e)
  . exact I.hok.laid old (by rw [hD]; exact Nat.le_refl _) ⟨Nat.zero_le _,[],0,.nil,hacc⟩
  . unfold capV
    show _ = N.length
    rw [List.length_append,List.length_map,List.length_replicate,S.len]
where
  ne_of_lt' {h : Heap} {c D : Addr} (z : ∃ v,h.IsCell c v) (hD : D = h.objs.size) : c ≠ D := by
    obtain ⟨v,q⟩ := z
    rw [hD]
    exact Nat.ne_of_lt q.lt
variable {elt tg iter : Expr} {ifs : List Expr} {scope : Scope} {pos ppos : Pos} {wi : TI} {g : TG} {tc : St -> TT} {te : St -> TE} {Ex : XS} {cp : List Nat} {n : Nat} {N : List Str}
theorem comp_core {use : Option (Value -> Sem Unit)} {Q' : Value -> Shared -> Prop} {Q : VK} (hc : X.calm = true) (S : CompSc X scope N cp n) (hi : PI X tg iter wi)
    (hfr : HasFr X) (hx : ∀ e s,Fly X Ex e s -> X.xe e s) (hb : ∀ U cl fp s H C,PG (blkE X scope cl N fp s H C fun cv x H' => Ex cv x U H') tg g /\ PTs (blkE X scope cl N fp s H C fun cv x H' => Ex cv x U H') ifs (tc U) /\ PE (blkE X scope cl N fp s H C fun cv x H' => Ex cv x U H') elt (te U)) (hs : ∀ x,foldedSetIterable iter X.env x = pure x)
    (I : Inv X pins U H s) (h : tComp wi g tc te cp n U H Q)
    (fin : ∀ s' C D H' f,Inv X pins U H' s' -> FpOk X pins H' C -> (∃ m,s'.heap.Ns C m) -> Q (.ref D) H' -> compPost (model X.prog X.w) X.A X.xe use Q' (.ref D) C (.ok f) s') :
    wpAny (model X.prog X.w) X.A (comprehension (.ListComp elt [⟨tg,iter,ifs,0⟩] scope pos) scope X.env ppos (newList []) false (eval iter X.env) use) Q' X.xe s := by
  have hex : ∀ x,(x,NameKind.free) ∈ scope.names -> ∃ c,X.env.cells.lookup x = some c := fun x hx => I.ok.has x (S.free x hx)
  refine wpAny_comprehension_free rfl hs (closure_eq hex) S.kind S.names (thn (hi pins s U H _ I h) fun v s1 h1 => thn h1 fun itv s2 h2 => ?_)
  obtain ⟨it,fp,tn,J,H2,e,I2,T,st2,f2,hW⟩ := h2
  subst e
  refine wpAny_newObj_type (wpAny_newFunctionEnv S.cell (by intro y hy; simp at hy) (fun h₁ hns₁ hsb₁ => ?_) S.kind)
  dsimp only at hns₁ hsb₁ ⊢
  generalize hH2 : s2.heap.push { cls := .type "list", dict := none, data := .seq ([] : List Value).toArray } = G at hns₁ hsb₁ ⊢
  have hC : G.objs.size = s2.heap.objs.size + 1 := by rw [<- hH2,Heap.size_push]
  have hfC : ∀ b ∈ fp,b < s2.heap.objs.size := fun b hb => by
    obtain ⟨o,e,_⟩ := T.obj _ _ st2 b hb
    exact Heap.lt_size e
  have hDC : s2.heap.objs.size ≠ G.objs.size := by rw [hC]; exact Nat.ne_of_lt (Nat.lt_succ_self _)
  have old : ∀ b o,s2.heap.get? b = some o -> h₁.get? b = some o := fun b o e => hsb₁.extBut b o (by rw [hC]; exact Nat.ne_of_lt (Nat.lt_succ_of_lt (Heap.lt_size e))) (Heap.get?_push_of_some _ (hH2 ▸ Heap.get?_push_of_some _ e))
  have hacc : h₁.get? s2.heap.objs.size = some { cls := .type "list", data := .seq ([] : List Value).toArray 0 } := hsb₁.extBut _ _ hDC (Heap.get?_push_of_some _ (hH2 ▸ Heap.get?_push_size _ rfl))
  have st1 : tn 0 h₁ := T.keep _ _ _ st2 fun b hb o e => old b o e
  obtain ⟨W,⟨m0,w0⟩,turn⟩ := hW s2.heap.objs.size (I2.hok.fresh (Nat.le_refl _))
  have I0' := blk_start (t1 := s2.toks + ([] : List (Str × Value)).length) S I2 f2 hfC rfl hC hns₁ old hacc
  have I0 := I0'.wish (Fly (blk X scope (scope.names.foldl (clStep X.env) []) N fp s2 H2 G.objs.size) fun cv x _ H' => Ex cv x U H')
  obtain ⟨hg,ht,he⟩ := hb U (scope.names.foldl (clStep X.env) []) fp s2 H2 G.objs.size
  have fp0 : ∀ b ∈ fp,upd H2 s2.heap.objs.size (.lst []) b = none := fun b hb => by rw [upd_ne (Nat.ne_of_lt (hfC b hb))]; exact (f2 b hb).1
  have hex' : ∀ x c,(scope.names.foldl (clStep X.env) []).lookup x = some c -> X.env.cells.lookup x = some c := fun x c e => by
    rcases cl_mem scope.names [] (x,c) hex (PySem.mem_of_lookup e) with q | q
    . cases q
    . exact q
  have stat : ∀ {H' : Hp},(∀ b ∈ fp,H' b = none) -> ∀ b ∈ fp,FpOk (blkE X scope (scope.names.foldl (clStep X.env) []) N fp s2 H2 G.objs.size (fun cv x H' => Ex cv x U H')) [] H' b := fun {H'} hn b hb =>
    ⟨hn b hb,Nat.ne_of_lt (Nat.lt_trans (hfC b hb) (by rw [hC]; exact Nat.lt_succ_self _)),fun z => (List.mem_cons.mp (I2.stkSub b z)).elim (f2 b hb).2.1 (f2 b hb).2.2.1,.inl hb,fun x c e => (f2 b hb).2.2.2.2.1 x c (hex' x c e),fun p hp => absurd (show p ∈ ([] : List (Addr × Obj)) from hp) (by simp)⟩
  have loop : ∀ s3 : Shared,s3 = { s2 with heap := h₁,toks := s2.toks + ([] : List (Str × Value)).length } -> codeAny (model X.prog X.w) X.A (.compLoop (.ListComp elt [⟨tg,iter,ifs,0⟩] scope pos) 0 (.ref it) (.ref s2.heap.objs.size) (compEnvC scope (scope.names.foldl (clStep X.env) []) G.objs.size X.env))
      (compPost (model X.prog X.w) X.A X.xe use Q' (.ref s2.heap.objs.size) G.objs.size) s3 := by
    rintro s3 rfl
    refine codeAny_compLoop_go (fun n s' => ∃ i U' H',Inv (blkE X scope (scope.names.foldl (clStep X.env) []) N fp s2 H2 G.objs.size (fun cv x H' => Ex cv x U H')) [] U' H' s' /\ tn i s'.heap /\ (∀ b ∈ fp,H' b = none) /\ W i n U' H') (Fly (blk X scope (scope.names.foldl (clStep X.env) []) N fp s2 H2 G.objs.size) fun cv x _ H' => Ex cv x U H') ?hE ?_ m0 ⟨0,_,_,I0,st1,fp0,w0⟩
    case hE =>
      rintro e s3 ⟨pins3,U3,H3,a,a0,cv,B,rfl,I3,up,cal,_,q⟩
      obtain ⟨env0,outer0,L,hst,hf0,hfX⟩ := hfr
      show wpAny (model X.prog X.w) X.A (noteFrame (.ref a) _) _ _ s3
      rw [note_at (env := compEnvC scope (scope.names.foldl (clStep X.env) []) G.objs.size X.env) (env' := env0) (hfX.trans hf0.symm)]
      have up' : Up B (env0 :: outer0) a cv a0 s3.heap := by rw [<- hst]; exact up
      refine up'.note (by rw [I.ok.frames,hst]) hf0 fun h4 held sm4 => ?_
      obtain ⟨m,hm,_⟩ := id I3.loc
      have hcC : G.objs.size ∉ frs X.stack := fun z => by
        rcases List.mem_cons.mp (I2.stkSub _ z) with e | z
        . have z := I2.lt
          rw [<- e,hC] at z
          exact absurd z (Nat.not_lt.mpr (Nat.le_succ _))
        . exact I2.nofs (by rw [hC]; exact Nat.le_succ _) z
      refine ⟨m,sm4.ns hm,fun h5 sb5 cenv _ => ?_⟩
      have hm4 := sm4.ns hm
      have upH : Up B X.stack a cv a0 h4 := by rw [hst]; exact .of_held held
      have up5 := upH.hide sb5 (by
        obtain ⟨o,es,ep,ho,hd,_⟩ := hm4
        exact ⟨o,ho,fun vs z => by rw [hd] at z; cases z⟩) hcC
      refine up5.pass fun h6 up6 sm6 => hx _ _ ?_
      have st0 : (B.hide G.objs.size).StaysIn s3.heap := fun b o e => up.1 b o (Heap.of_hide e)
      have cal2 : Calm (B.hide G.objs.size) (frs X.stack) fp H3 s2.heap := fun b hb hf => by
        obtain ⟨o,e⟩ := cal b hb hf
        refine ⟨o,?_⟩
        rw [Heap.hide_ne]
        . exact e
        . rintro rfl
          rcases hb with hb | ⟨⟨o',hb⟩,_⟩
          . exact hb I3.free
          . have z := Heap.lt_size hb
            rw [hC] at z
            exact absurd z (Nat.not_lt.mpr (Nat.le_succ _))
      have fru : ∀ b ∈ frs X.stack,∀ o,s3.heap.get? b = some o -> ∃ sl,h6.get? b = some { o with slots := sl } := fun b hb o e => by
        have hd := frm_data I3 b hb o e
        obtain ⟨sl,e4⟩ := sm4 b o e hd
        have e5 : h5.get? b = some { o with slots := sl } := by rw [sb5.2 b (by rintro rfl; exact hcC hb)]; exact e4
        obtain ⟨sl',e6⟩ := sm6 b _ e5 hd
        exact ⟨sl',e6⟩
      have un6 := fly_un I3.base cal2 st0 up6.1 fru (fun b hb _ => hb)
      have hok6 := fly_hok I3.hok cal2 st0 up6.1 I3.stkFree
      have J := I2.call' (s' := { s3 with heap := h6 }) I3.os un6 hok6 I3.bare fun b hb => ⟨(f2 b hb).2.2.2.1,(f2 b hb).2.1,(f2 b hb).2.2.2.2.1,(f2 b hb).2.2.2.2.2⟩
      have calX : Calm (B.hide G.objs.size) (frs X.stack) X.ex H3 X.s₀.heap := by
        intro b hb hf
        refine cal2 b ?_ hf
        rcases hb with hb | ⟨⟨o,z⟩,nx⟩
        . exact .inl hb
        . refine .inr ⟨old_there I2 z nx,fun zf => ?_⟩
          rcases (f2 b zf).2.2.2.1 with y | y
          . exact nx y
          . exact absurd (Nat.lt_of_lt_of_le (Heap.lt_size z) y) (Nat.lt_irrefl _)
      have pnX : ∀ p ∈ X.pn,(B.hide G.objs.size).get? p.1 = some p.2 := by
        intro p hp
        obtain ⟨p1,p2,p3,p4,_⟩ := I2.pin p (List.mem_append_left _ hp)
        have pf : p.1 ∉ fp := fun z => (f2 _ z).2.2.2.2.2 p (List.mem_append_left _ hp) rfl
        have ps : p.1 ∉ frs X.stack := fun z => by
          rcases List.mem_cons.mp (I2.stkSub _ z) with e | z
          . exact p3 e
          . exact p4 z
        exact cal2.at st0 (I3.base.keep p.1 p.2 p1 p2 ps pf) (.inr ⟨⟨_,p1⟩,pf⟩) ps
      exact ⟨pins,U,H3,a,a0,cv,B.hide G.objs.size,rfl,J,up6,calX,pnX,q⟩
    rintro n s3 ⟨i,U3,H3,I3,st3,fr3,w3⟩
    rcases turn i n U3 H3 w3 with ⟨stop,qn⟩ | ⟨go,step⟩
    . refine thn (T.done (blkE X scope (scope.names.foldl (clStep X.env) []) N fp s2 H2 G.objs.size (fun cv x H' => Ex cv x U H')) rfl rfl rfl hc i [] s3 U3 H3 _ I3 (stat fr3) st3 stop) fun r s4 ⟨hr,I4⟩ => ?_
      subst hr
      refine fin s4 _ _ H3 _ (I2.call' I4.os I4.base I4.hok I4.bare fun b hb => ⟨(f2 b hb).2.2.2.1,(f2 b hb).2.1,(f2 b hb).2.2.2.2.1,(f2 b hb).2.2.2.2.2⟩) (I2.fpOk (by rw [hC]; exact Nat.le_succ _) I4.free) ?_ qn
      obtain ⟨m,hm,_⟩ := I4.loc
      exact ⟨m,hm⟩
    . refine thn (T.item (blkE X scope (scope.names.foldl (clStep X.env) []) N fp s2 H2 G.objs.size (fun cv x H' => Ex cv x U H')) rfl rfl rfl hc i [] s3 U3 H3 _ I3 (stat fr3) st3 go) fun r s4 ⟨u,hr,h4⟩ => ?_
      subst hr
      refine thn h4 fun _ s5 ⟨x,H5,I5,r5,y5,st5,fr5⟩ => ?_
      have I5' := I5.pinned (stat fr5) (T.obj _ _ st5)
      refine thn (hg _ s5 U3 H5 x u _ I5' r5 (step x H5 y5)) fun _ s6 ⟨U6,H6,I6,q6⟩ => ?_
      refine thn (ht _ s6 U6 H6 _ I6 q6) fun ok s7 ⟨H7,I7,q7⟩ => ?_
      have again : ∀ {U8 : St} {H8 : Hp} {s8 : Shared} {m' : Nat},Inv (blkE X scope (scope.names.foldl (clStep X.env) []) N fp s2 H2 G.objs.size (fun cv x H' => Ex cv x U H')) ([] ++ pinsAt fp s5.heap) U8 H8 s8 -> m' < n -> W (i + 1) m' U8 H8 ->
          ∃ m,m < n /\ ∃ i U' H',Inv (blkE X scope (scope.names.foldl (clStep X.env) []) N fp s2 H2 G.objs.size (fun cv x H' => Ex cv x U H')) [] U' H' s8 /\ tn i s8.heap /\ (∀ b ∈ fp,H' b = none) /\ W i m U' H' := fun {U8 H8 s8 m'} I8 hm w8 => by
        refine ⟨m',hm,i + 1,U8,H8,I8.unpinned,T.keep _ _ _ st5 fun b hb o e => (I8.pin (b,o) (List.mem_append_right _ (List.mem_append_right _ (mem_pinsAt hb e)))).1,fun b hb => ?_,w8⟩
        obtain ⟨o,e,d⟩ := T.obj _ _ st5 b hb
        exact (I8.pin (b,o) (List.mem_append_right _ (List.mem_append_right _ (mem_pinsAt hb e)))).2.1
      cases ok with
      | false =>
        rw [if_neg Bool.false_ne_true] at q7 ⊢
        obtain ⟨m',hm,w7⟩ := q7
        exact again I7 hm w7
      | true =>
        rw [if_pos rfl] at q7 ⊢
        refine thn (he _ s7 U6 H7 _ I7 q7) fun xv s8 ⟨v,H8,I8,r8,ys,hy,hz,m',hm,w8⟩ => ?_
        refine thn (mt_append (X := (blkE X scope (scope.names.foldl (clStep X.env) []) N fp s2 H2 G.objs.size (fun cv x H' => Ex cv x U H'))) _ s8 U6 H8 (.ref s2.heap.objs.size) [v] (.ref s2.heap.objs.size) [xv] (fun _ H' => H' = upd H8 s2.heap.objs.size (.lst (ys ++ [v]))) I8 rfl (.cons r8 .nil) ⟨_,ys,v,rfl,rfl,hy,hz,rfl⟩) fun a s9 ⟨_,H9,I9,_,e9⟩ => ?_
        subst e9
        exact again I9 hm w8
  exact codeAny_compStart_list (loop _ rfl) (T.self X.A 0 _ _ _ st1 (loop _ rfl))
theorem pe_comp (hc : X.calm = true) (S : CompSc X scope N cp n) (hi : PI X tg iter wi)
    (hfr : HasFr X) (hx : ∀ e s,Fly X Ex e s -> X.xe e s) (hb : ∀ U cl fp s H C,PG (blkE X scope cl N fp s H C fun cv x H' => Ex cv x U H') tg g /\ PTs (blkE X scope cl N fp s H C fun cv x H' => Ex cv x U H') ifs (tc U) /\ PE (blkE X scope cl N fp s H C fun cv x H' => Ex cv x U H') elt (te U)) (hs : ∀ x,foldedSetIterable iter X.env x = pure x) :
    PE X (.ListComp elt [⟨tg,iter,ifs,0⟩] scope pos) (tComp wi g tc te cp n) := by
  intro pins s U H Q I h
  rw [eval_ListComp]
  refine comp_core (use := none) hc S hi hfr hx hb hs I h fun s' C D H' f I' fC ⟨m,hm⟩ q => ⟨m,hm,fun h' hs' => ?_⟩
  exact ⟨.ref D,H',I'.turned (fun b o hb e => (hs'.2 b hb).trans e) fC.1 fC.2.1 fC.2.2.2.1 fC.2.2.2.2.1 fC.2.2.2.2.2,rfl,q⟩
theorem ps_setc {i : Nat} {y : Str} {py spos : Pos} (hN : X.N.Nodup) (hy : X.N[i]? = some y) (hk : X.env.scope.names.lookup y = some .local) (hc : X.calm = true) (S : CompSc X scope N cp n) (hi : PI X tg iter wi)
    (hfr : HasFr X) (hx : ∀ e s,Fly X Ex e s -> X.xe e s) (hb : ∀ U cl fp s H C,PG (blkE X scope cl N fp s H C fun cv x H' => Ex cv x U H') tg g /\ PTs (blkE X scope cl N fp s H C fun cv x H' => Ex cv x U H') ifs (tc U) /\ PE (blkE X scope cl N fp s H C fun cv x H' => Ex cv x U H') elt (te U)) (hs : ∀ x,foldedSetIterable iter X.env x = pure x)
    (hsw : swapsWith (.ListComp elt [⟨tg,iter,ifs,0⟩] scope pos) (some (.Name y py)) spos.line X.env = pure true) :
    PS X (.Assign [.Name y py] (.ListComp elt [⟨tg,iter,ifs,0⟩] scope pos) spos) (tAsg (tComp wi g tc te cp n) (gName i)) := by
  intro pins s U H Dn I h
  rw [exec_Assign_Name_used _ _ _ _ hsw]
  refine wpAny_bind (wpAny_standAt (wpAny_bind ?_))
  show wpAny _ X.A (do let _ <- comprehension (.ListComp elt [⟨tg,iter,ifs,0⟩] scope pos) scope X.env _ (newList []) false (eval iter X.env) (some (assign (.Name y py) X.env))) _ _ s
  refine wpAny_bind (wpAny_mono (comp_core (use := some (assign (.Name y py) X.env)) (Q' := fun _ s' => SP X pins Dn .next s') hc S hi hfr hx hb hs I h fun s' C D H' f I' fC ⟨m,hm⟩ q => ?_) (fun _ s' hq => wpAny_pure (wpAny_pure hq)) fun _ _ e => e)
  show wpAny _ X.A (assign (.Name y py) X.env (.ref D)) _ _ s'
  refine wpAny_assign_Name (store_ok2 I' hN hy (.inl hk) (v := .ref D) rfl (fun s2 I2 ⟨a,hsb,ha⟩ => ?_) (.inr hk))
  have hCa : C ≠ a := by
    rcases ha with rfl | ha
    . exact fC.2.1
    . exact fun z => fC.2.2.2.2.1 _ _ ha z.symm
  refine ⟨m,hm.sameBut hsb hCa,fun h' hs' => ⟨_,H',I2.turned (fun b o hb e => (hs'.2 b hb).trans e) fC.1 fC.2.1 fC.2.2.2.1 fC.2.2.2.2.1 fC.2.2.2.2.2,q⟩⟩
end
end Fg
end
section
set_option autoImplicit false
namespace Fg
open PySem L2
def Itd (a : Addr) (o : Obj) (kvs : List (Key × V)) : It :=
  ⟨fun i H => H a = some (.frz o (.dK kvs)) /\ i < kvs.length,fun i H x H' => H' = H /\ ∃ kv,kvs[i]? = some kv /\ x = kV kv.1,fun i H => H a = some (.frz o (.dK kvs)) /\ kvs.length <= i⟩
def iAny (B : Bd) (th : Addr -> Prop) (tl : TE) : TI := fun U H R => tl U H fun x H1 =>
  (∃ a,x = .ref a /\ (∃ xs,SqL B.K H1 a xs) /\ R (Itl B.K a) H1) \/ (∃ a,x = .ref a /\ (∃ xs,SqT B.K H1 a xs) /\ R (Itt B.K a) H1) \/
  (∃ a kvs,x = .ref a /\ H1 a = some (.dK kvs) /\ ∀ o,th a -> R (Itd a o kvs) (upd H1 a (.frz o (.dK kvs)))) \/
  (∃ a o kvs,x = .ref a /\ H1 a = some (.frz o (.dK kvs)) /\ R (Itd a o kvs) H1)
section
variable {B : Bd} {Φ : Fns} {E : Gx} {F F' F0 F1 : Addr -> Prop} {ρ ρ' ρ0 ρ1 : List Addr} {H H' H0 H1 : Hp} {M M' M0 : MH} {UD : Sg} {U : L2.St} {Q : VK} {Dn : Ends}
theorem walks_lst {a : Addr} {src : D} {ds : List D} (h : ∀ F ρ M H,Ext F0 ρ0 H0 F ρ H -> SR B F ρ M H -> still M0 src M = true -> ∃ vs,SqL B.K H a vs /\ RDs B F ρ H ds vs) : Walks B (Itl B.K a) src ds F0 ρ0 M0 H0 := by
  intro i F ρ M H e S st
  obtain ⟨vs,q,rd⟩ := h F ρ M H e S st
  refine ⟨fun d hd => ?_,fun hl => ⟨vs,q,by rw [<- RDs.length rd]; exact hl⟩⟩
  obtain ⟨v,hv,rv⟩ := RDs.get rd hd
  refine ⟨⟨vs,v,q,hv⟩,fun x H' ⟨e',hy⟩ => ?_⟩
  subst e'
  have z := hy vs q
  rw [hv] at z; cases z
  exact ⟨F,S.refl,S,rv⟩
theorem walks_tup {a : Addr} {src : D} {ds : List D} (h : ∀ F ρ M H,Ext F0 ρ0 H0 F ρ H -> SR B F ρ M H -> still M0 src M = true -> ∃ vs,SqT B.K H a vs /\ RDs B F ρ H ds vs) : Walks B (Itt B.K a) src ds F0 ρ0 M0 H0 := by
  intro i F ρ M H e S st
  obtain ⟨vs,q,rd⟩ := h F ρ M H e S st
  refine ⟨fun d hd => ?_,fun hl => ⟨vs,q,by rw [<- RDs.length rd]; exact hl⟩⟩
  obtain ⟨v,hv,rv⟩ := RDs.get rd hd
  refine ⟨⟨vs,v,q,hv⟩,fun x H' ⟨e',hy⟩ => ?_⟩
  subst e'
  have z := hy vs q
  rw [hv] at z; cases z
  exact ⟨F,S.refl,S,rv⟩
theorem kyD_rd {k : Key} : RD B F ρ H (kyD k) (kV k) := by cases k <;> simp only [kyD,kV,RD]
theorem walks_dct {a : Addr} {o : Obj} {src : D} {kds : List (Ky × D)} {kws : List (Key × V)} (hz : H0 a = some (.frz o (.dK kws))) (hk : kws.map (·.1) = kds.map (·.1)) : Walks B (Itd a o kws) src (kds.map fun kv => kyD kv.1) F0 ρ0 M0 H0 := by
  intro i F ρ M H e S st
  have hl : kws.length = kds.length := by have := congrArg List.length hk; simpa using this
  have hH := e.z a o _ hz
  refine ⟨fun d hd => ?_,fun hi => ⟨hH,by rw [hl]; simpa using hi⟩⟩
  rw [List.getElem?_map] at hd
  cases hx : kds[i]? with
  | none => rw [hx] at hd; cases hd
  | some kd =>
    rw [hx] at hd
    simp only [Option.map_some,Option.some.injEq] at hd
    subst hd
    obtain ⟨hi,_⟩ := List.getElem?_eq_some_iff.mp hx
    refine ⟨⟨hH,by rw [hl]; exact hi⟩,fun x H' ⟨e',kw,hkw,hx'⟩ => ?_⟩
    subst e' hx'
    have e1 : (kws.map (·.1))[i]? = some kw.1 := by rw [List.getElem?_map,hkw]; rfl
    rw [hk,List.getElem?_map,hx] at e1
    simp only [Option.map_some,Option.some.injEq] at e1
    rw [<- e1]
    exact ⟨F,S.refl,S,kyD_rd⟩
theorem sim_it {a : Fg.E} {Rr : It -> Hp -> Prop} (h : TIt B Φ E (.e a) U H Rr) : iAny B E.th (T B Φ E a) U H Rr := by
  obtain ⟨UD,M,F,ρ,S,r,h⟩ := h
  refine ⟨UD,M,F,ρ,S,r,?_⟩
  cases hx : ev Φ a UD M with
  | exc c M1 =>
    have he : evi Φ (.e a) UD M = .exc c M1 := by simp only [evi,hx,R.bind_exc]
    rw [he] at h; exact h
  | bad =>
    have he : evi Φ (.e a) UD M = .bad := by simp only [evi,hx,R.bind_bad]
    rw [he] at h; exact h
  | ok d M1 =>
    intro F1 ρ1 H1 v e1 S1 rd
    cases hi : itemsOf M1 d with
    | none =>
      have he : evi Φ (.e a) UD M = .bad := by simp only [evi,hx,R.bind_ok,hi]
      rw [he] at h; exact h.elim
    | some ds =>
      have he : evi Φ (.e a) UD M = .ok (d,ds,wk M1 d) (walk M1 d) := by simp only [evi,hx,R.bind_ok,hi]
      rw [he] at h
      cases d with
      | non => simp [itemsOf,vw] at hi
      | bl _ => simp [itemsOf,vw] at hi
      | int _ => simp [itemsOf,vw] at hi
      | str _ => simp [itemsOf] at hi
      | dct _ _ => simp [itemsOf] at hi
      | lst xs =>
        simp only [itemsOf,vw,Option.some.injEq] at hi; subst hi
        simp only [RD] at rd
        obtain ⟨b,vs,rfl,z,q⟩ := id rd
        refine .inl ⟨b,rfl,⟨vs,z.sq⟩,h F1 ρ1 H1 _ e1 S1 fun M' eq S' => ⟨?_,fun z => by simp [wk] at z⟩⟩
        refine walks_lst fun F ρ M H e S st => ?_
        have rd' := RD.mono e (.lst xs) (.ref b) (by simp only [RD]; exact rd)
        simp only [RD] at rd'
        obtain ⟨b',vs',eb,z',q'⟩ := rd'
        cases eb
        exact ⟨vs',z'.sq,q'⟩
      | tup xs =>
        simp only [itemsOf,vw,Option.some.injEq] at hi; subst hi
        simp only [RD] at rd
        obtain ⟨b,vs,rfl,z,q⟩ := id rd
        refine .inr (.inl ⟨b,rfl,⟨vs,z.sq⟩,h F1 ρ1 H1 _ e1 S1 fun M' eq S' => ⟨?_,fun z => by simp [wk] at z⟩⟩)
        refine walks_tup fun F ρ M H e S st => ?_
        have rd' := RD.mono e (.tup xs) (.ref b) (by simp only [RD]; exact rd)
        simp only [RD] at rd'
        obtain ⟨b',vs',eb,z',q'⟩ := rd'
        cases eb
        exact ⟨vs',z'.sq,q'⟩
      | ref n =>
        simp only [RD] at rd
        obtain ⟨b,hb,rfl⟩ := rd
        cases hM : M1[n]? with
        | none => simp [itemsOf,vw,hM] at hi
        | some o =>
          cases o with
          | ins _ _ => simp [itemsOf,vw,hM] at hi
          | lst xs =>
            simp only [itemsOf,vw,hM,Option.some.injEq] at hi; subst hi
            have hw : walk M1 (.ref n) = M1 := by simp only [walk,hM]
            have hk : wk M1 (.ref n) = false := by simp only [wk,hM]
            rw [hw,hk] at h
            obtain ⟨vs,h1,q⟩ := S1.obj n b _ hb hM
            refine .inl ⟨b,rfl,⟨vs,.inl (.inl h1)⟩,h F1 ρ1 H1 _ e1 S1 fun M' eq S' => ⟨?_,fun z => by simp at z⟩⟩
            injection eq with eq1 eq2
            subst eq2
            refine walks_lst fun F ρ M H e S st => ?_
            simp only [still,decide_eq_true_eq] at st
            obtain ⟨vs',h1',q'⟩ := S.obj n b _ (e.at hb) (st.trans hM)
            exact ⟨vs',.inl (.inl h1'),q'⟩
          | dct kds =>
            simp only [itemsOf,vw,hM,Option.some.injEq] at hi; subst hi
            have hw : walk M1 (.ref n) = M1.set n (.dwk kds) := by simp only [walk,hM]
            have hk : wk M1 (.ref n) = true := by simp only [wk,hM]
            rw [hw,hk] at h
            obtain ⟨kws,h1,h2,q⟩ := S1.obj n b _ hb hM
            refine .inr (.inr (.inl ⟨b,kws,rfl,h1,fun ob hth => ?_⟩))
            obtain ⟨S2,e2⟩ := S1.wk ob hb hM h1
            refine h F1 ρ1 _ _ (e1.trans e2) S2 fun M' eq S' => ⟨walks_dct upd_same h2,fun _ => ⟨n,b,rfl,hb,hth,fun w v z => ?_⟩⟩
            have := e1.z b w v z
            rw [h1] at this; cases this
          | dwk kds =>
            simp only [itemsOf,vw,hM,Option.some.injEq] at hi; subst hi
            have hw : walk M1 (.ref n) = M1 := by simp only [walk,hM]
            have hk : wk M1 (.ref n) = false := by simp only [wk,hM]
            rw [hw,hk] at h
            obtain ⟨ob,kws,h1,h2,q⟩ := S1.obj n b _ hb hM
            exact .inr (.inr (.inr ⟨b,ob,kws,rfl,h1,h F1 ρ1 H1 _ e1 S1 fun M' eq S' => ⟨walks_dct h1 h2,fun z => by simp at z⟩⟩))
theorem walks_rng {lo : Int} {n : Nat} {src : D} : Walks B (Itr lo n) src ((List.range n).map fun (i : Nat) => D.int (lo + (i : Int))) F0 ρ0 M0 H0 := by
  intro i F ρ M H e S st
  refine ⟨fun d hd => ?_,fun hi => (show n <= i by simpa using hi)⟩
  have hi : i < n := by
    obtain ⟨q,_⟩ := List.getElem?_eq_some_iff.mp hd
    simpa using q
  refine ⟨hi,fun x H' ⟨e',hx⟩ => ?_⟩
  subst e' hx
  simp [hi] at hd
  subst hd
  exact ⟨F,S.refl,S,by simp only [RD]⟩
theorem okR_b {j : Int} (h : okR j = true) : -(2 ^ 62) <= j /\ j < 2 ^ 62 := by
  simp only [okR,decide_eq_true_eq] at h; omega
theorem sim_rng {a : Fg.E} {Rr : It -> Hp -> Prop} (h : TIt B Φ E (.rng a) U H Rr) : iRng1 (tCons (T B Φ E a) tNil) U H Rr := by
  obtain ⟨UD,M,F,ρ,S,r,h⟩ := h
  refine ⟨UD,M,F,ρ,S,r,?_⟩
  cases hx : ev Φ a UD M with
  | exc c M1 =>
    have he : evi Φ (.rng a) UD M = .exc c M1 := by simp only [evi,hx,R.bind_exc]
    rw [he] at h; exact h
  | bad =>
    have he : evi Φ (.rng a) UD M = .bad := by simp only [evi,hx,R.bind_bad]
    rw [he] at h; exact h
  | ok d M1 =>
    intro F1 ρ1 H1 v e1 S1 rd
    cases d with
    | int j =>
      simp only [RD] at rd; subst rd
      cases hr : okR j with
      | false =>
        have he : evi Φ (.rng a) UD M = .bad := by simp [evi,hx,hr]
        rw [he] at h; exact h.elim
      | true =>
        have he : evi Φ (.rng a) UD M = .ok (.non,rngs 0 j,false) M1 := by simp [evi,hx,hr]
        rw [he] at h
        obtain ⟨b1,b2⟩ := okR_b hr
        refine ⟨j,rfl,b1,b2,h F1 ρ1 H1 _ e1 S1 fun M' eq S' => ⟨?_,fun z => by simp at z⟩⟩
        have q : rngs 0 j = (List.range j.toNat).map fun (i : Nat) => D.int (0 + (i : Int)) := by simp [rngs]
        dsimp only
        rw [q]
        exact walks_rng
    | non => have he : evi Φ (.rng a) UD M = .bad := by simp [evi,hx]
             rw [he] at h; exact h.elim
    | bl _ => have he : evi Φ (.rng a) UD M = .bad := by simp [evi,hx]
              rw [he] at h; exact h.elim
    | str _ => have he : evi Φ (.rng a) UD M = .bad := by simp [evi,hx]
               rw [he] at h; exact h.elim
    | tup _ => have he : evi Φ (.rng a) UD M = .bad := by simp [evi,hx]
               rw [he] at h; exact h.elim
    | lst _ => have he : evi Φ (.rng a) UD M = .bad := by simp [evi,hx]
               rw [he] at h; exact h.elim
    | dct _ _ => have he : evi Φ (.rng a) UD M = .bad := by simp [evi,hx]
                 rw [he] at h; exact h.elim
    | ref _ => have he : evi Φ (.rng a) UD M = .bad := by simp [evi,hx]
               rw [he] at h; exact h.elim
end
end Fg
end
section
set_option autoImplicit false
namespace Fg
open PySem L2
def EB (E : Gx) (U : L2.St) : Gx := ⟨fun cv x _ H => E.e cv x U H,fun _ => False,fun cv x _ H H' t h => by
  rcases t with rfl | ⟨_,_,_,z,_⟩
  . exact h
  . exact z.elim⟩
def TBo (B : Bd) (Φ : Fns) (E : Gx) : O -> TT
  | .none => fun _ H Q => Q true H
  | .some e => TB B Φ E e
section
variable {B : Bd} {Φ : Fns} {E : Gx} {F F' F0 F1 : Addr -> Prop} {ρ ρ' ρ0 ρ1 : List Addr} {H H' H0 H1 : Hp} {M M' M0 : MH} {UD : Sg} {U : L2.St} {Q : VK} {Dn : Ends}
theorem Ext.fresh (S : SR B F ρ M H) {p : Addr} (h : H p = none) (o : HO) : Ext F ρ H F ρ (upd H p o) :=
  ⟨⟨S.sep,fun _ q => q,fun a q _ => upd_ne (by rintro rfl; exact q h),List.prefix_refl _,fun _ q => .inl q,fun _ q => .inl q⟩,fun b w u q => by rw [upd_ne (by rintro rfl; rw [h] at q; cases q)]; exact q⟩
theorem Ext.over (e : Ext F ρ H F' ρ' H') {p : Addr} (h : H p = none) (o : HO) : Ext F ρ H F' ρ' (upd H' p o) :=
  ⟨⟨e.s,e.f,fun a q nb => by rw [upd_ne (by rintro rfl; exact q h)]; exact e.h a q nb,e.r,e.n,e.g⟩,fun b w u q => by rw [upd_ne (by rintro rfl; rw [h] at q; cases q)]; exact e.z b w u q⟩
theorem RS.cap (r : RS B F ρ H UD U) (caps : List Nat) (n : Nat) : RS B F ρ H (capt UD caps ++ List.replicate n none) (capV caps n U) := by
  refine ⟨by simp [capt,capV],fun i d q => ?_⟩
  by_cases hi : i < caps.length
  . have hc : caps[i]? = some caps[i] := List.getElem?_eq_getElem hi
    rw [List.getElem?_append_left (by simpa [capt] using hi)] at q
    simp only [capt,List.getElem?_map,hc,Option.map_some,Option.some.injEq] at q
    cases hs : UD[caps[i]]? with
    | none => rw [hs] at q; cases q
    | some o =>
      rw [hs] at q
      simp only [Option.join_some] at q
      subst q
      obtain ⟨v,h1,h2⟩ := r.get _ _ hs
      refine ⟨v,?_,h2⟩
      unfold capV
      rw [List.getElem?_append_left (by simpa using hi),List.getElem?_map,hc]
      simp [h1]
  . rw [List.getElem?_append_right (by simpa [capt] using Nat.le_of_not_lt hi),List.getElem?_replicate] at q
    split at q <;> cases q
theorem RS.mono1 (e : Ex1 F ρ H F' ρ' H') (h : RS B F ρ H UD U) : RS B F' ρ' H' UD U :=
  ⟨h.len,fun i d q => let ⟨v,h1,h2⟩ := h.get i d q; ⟨v,h1,RD.mono1 e d v h2⟩⟩
theorem sim_comp {fz : Bool} {caps tg : List Nat} {elt : Fg.E} {it : Src} {cond : O} (h : T B Φ E (.comp fz caps tg elt it cond) U H Q) :
    tComp (TIt B Φ E it) (gTg tg B.K) (fun U => TBo B Φ (EB E U) cond) (fun U => T B Φ (EB E U) elt) caps tg.length U H (fun v H' => ∃ H'',Thw E.th H' H'' /\ Q v H'') := by
  obtain ⟨UD,M,F,ρ,S,r,h⟩ := h
  simp only [ev] at h
  refine ⟨UD,M,F,ρ,S,r,?_⟩
  cases hx : evi Φ it UD M with
  | exc c M1 => rw [hx] at h; exact h
  | bad => rw [hx] at h; exact h
  | ok p M0 =>
    rw [hx] at h
    simp only [R.bind_ok] at h
    intro F0 ρ0 H0 J e0 S0 hw
    obtain ⟨W,wz⟩ := hw M0 rfl S0
    obtain ⟨src,ds,fl⟩ := p
    dsimp only at h W wz
    intro Da hDa
    obtain ⟨nD,nF⟩ := S0.new hDa
    have hDo : H Da = none := by
      cases q : H Da with
      | none => rfl
      | some u =>
        exfalso
        by_cases hr : Da ∈ ρ
        . exact nD (e0.r.subset hr)
        . have := e0.h Da (by rw [q]; simp) hr
          rw [hDa,q] at this; cases this
    let loop := fun (i : Nat) (U' : Sg) (M' : MH) (acc : List D) => ((loopC (evc Φ cond) (ev Φ elt) tg (still M0 src) (ds.drop i) U' M' acc).fin (unwk fl src)).bind fun ds M2 => newl fz ds M2
    let WW : Nat -> Nat -> L2.St -> Hp -> Prop := fun i m U' H' => m + i = ds.length /\ ∃ (UD' : Sg) (M1 : MH) (F1 : Addr -> Prop) (ρ1 : List Addr) (acc : List D) (vs : List V),Ext F ρ H F1 ρ1 H' /\ Ext F0 ρ0 H0 F1 ρ1 H' /\ SR B F1 ρ1 M1 H' /\ RS B F1 ρ1 H' UD' U' /\ still M0 src M1 = true /\ Da ∉ ρ1 /\ ¬ F1 Da /\ H' Da = some (.lst vs) /\ RDs B F1 ρ1 H' acc vs /\
      Post B (loop i UD' M1 acc) F ρ H Q (fun cv x H' => E.e cv x U H')
    have x0 := Ex1.side (ρ := ρ0) (H := H0) nF (.lst [])
    refine ⟨WW,⟨ds.length,by simp,_,M0,F0,ρ0,[],[],e0.over hDo _,Ext.fresh S0 hDa _,S0.side nD nF _,((r.mono e0).cap caps tg.length).mono1 x0,?_,nD,nF,upd_same,RDs.nil,h⟩,?_⟩
    . unfold still; split <;> simp
    rintro i m U1 H1 ⟨hm,UD1,M1,F1,ρ1,acc,vs,eo,e1,S1,r1,st1,d1,f1,hD1,ra,p1⟩
    obtain ⟨wgo,wst⟩ := W i F1 ρ1 M1 H1 e1 S1 st1
    by_cases hi : i < ds.length
    . have hd : ds.drop i = ds[i] :: ds.drop (i + 1) := List.drop_eq_getElem_cons hi
      simp only [loop] at p1
      rw [hd] at p1
      unfold loopC at p1
      obtain ⟨go,yl⟩ := wgo ds[i] (List.getElem?_eq_getElem hi)
      refine .inr ⟨go,fun x H2 hy => ?_⟩
      obtain ⟨F2,e2,S2,rd⟩ := yl x H2 hy
      have keep : ∀ {F3 : Addr -> Prop} {ρ3 : List Addr} {H3 : Hp},Ext F1 ρ1 H1 F3 ρ3 H3 -> Da ∉ ρ3 /\ ¬ F3 Da /\ H3 Da = some (.lst vs) /\ RDs B F3 ρ3 H3 acc vs := fun {F3 ρ3 H3} e => by
        have hne : H1 Da ≠ none := by rw [hD1]; simp
        refine ⟨fun z => (e.n Da z).elim d1 hne,fun z => ?_,(e.h Da hne d1).trans hD1,RDs.mono e _ _ ra⟩
        rcases e.g Da z with q | q | q
        . exact f1 q
        . exact hne q
        . exact d1 q
      split at p1
      . exact p1.elim
      . rename_i U2 hs
        refine sets_sim (r1.mono e2) rd hs fun U' r' => ?_
        have eltS : ∀ {F3 : Addr -> Prop} {ρ3 : List Addr} {H3 : Hp} {M3 : MH},Ext F1 ρ1 H1 F3 ρ3 H3 -> SR B F3 ρ3 M3 H3 -> RS B F3 ρ3 H3 U2 U' ->
            Post B ((((ev Φ elt U2 M3).bind fun x M2 => if still M0 src M2 = true then (if decide (acc.length < line) = true then loopC (evc Φ cond) (ev Φ elt) tg (still M0 src) (ds.drop (i + 1)) U2 M2 (acc ++ [x]) else .bad) else .bad).fin (unwk fl src)).bind fun ds M2 => newl fz ds M2) F ρ H Q (fun cv x H' => E.e cv x U H') ->
            T B Φ (EB E U) elt U' H3 fun v H5 => ∃ ys,H5 Da = some (.lst ys) /\ ys.length < sizeLine /\ ∃ m',m' < m /\ WW (i + 1) m' U' (upd H5 Da (.lst (ys ++ [v]))) := by
          intro F3 ρ3 H3 M3 e3 S3 r3 p3
          refine ⟨U2,M3,F3,ρ3,S3,r3,?_⟩
          cases hv : ev Φ elt U2 M3 with
          | bad => rw [hv] at p3; exact p3
          | exc c M4 =>
            rw [hv] at p3
            intro F4 ρ4 H4 cv x e4 S4 q4
            obtain ⟨H5,t5,S5,e5,x5⟩ := thaw_fin S4 ((eo.trans e3).trans e4) ((e1.trans e3).trans e4).r wz
            exact E.cl _ _ _ _ _ t5 (p3 F4 ρ4 H5 cv x e5 S5 q4)
          | ok d M4 =>
            rw [hv] at p3
            simp only [R.bind_ok] at p3
            intro F4 ρ4 H4 v e4 S4 q4
            split at p3
            . rename_i hst
              split at p3
              . rename_i hlt
                obtain ⟨k1,k2,k3,k4⟩ := keep (e3.trans e4)
                have hl4 := RDs.length k4
                have x4 := Ex1.side (ρ := ρ4) (H := H4) k2 (.lst (vs ++ [v]))
                refine ⟨vs,k3,by rw [<- hl4]; exact Nat.lt_of_lt_of_le (of_decide_eq_true hlt) line_le,m - 1,by omega,by omega,U2,M4,F4,ρ4,acc ++ [d],vs ++ [v],((eo.trans e3).trans e4).over hDo _,((e1.trans e3).trans e4).over hDa _,S4.side k1 k2 _,((r3.mono e4)).mono1 x4,hst,k1,k2,upd_same,RDs.mono1 x4 _ _ (k4.append (RDs.cons q4 RDs.nil)),p3⟩
              . exact p3.elim
            . exact p3.elim
        cases cond with
        | none =>
          have hc : evc Φ .none U2 M1 = .ok (.bl true) M1 := by simp only [evc]
          rw [hc] at p1
          simp only [R.bind_ok] at p1
          unfold TBo
          dsimp only
          rw [if_pos rfl]
          exact eltS e2 S2 r' p1
        | some c =>
          have hc0 : evc Φ (.some c) U2 M1 = ev Φ c U2 M1 := by simp only [evc]
          rw [hc0] at p1
          refine ⟨U2,M1,F2,ρ1,S2,r',?_⟩
          cases hc : ev Φ c U2 M1 with
          | bad => rw [hc] at p1; exact p1
          | exc k M4 =>
            rw [hc] at p1
            intro F4 ρ4 H4 cv x e4 S4 q4
            obtain ⟨H5,t5,S5,e5,x5⟩ := thaw_fin S4 ((eo.trans e2).trans e4) ((e1.trans e2).trans e4).r wz
            exact E.cl _ _ _ _ _ t5 (p1 F4 ρ4 H5 cv x e5 S5 q4)
          | ok t M4 =>
            rw [hc] at p1
            simp only [R.bind_ok] at p1
            intro F4 ρ4 H4 v e4 S4 q4
            split at p1
            . simp only [RD] at q4; subst q4
              refine ⟨true,rfl,?_⟩
              dsimp only
              rw [if_pos rfl]
              exact eltS (e2.trans e4) S4 (r'.mono e4) p1
            . simp only [RD] at q4; subst q4
              refine ⟨false,rfl,?_⟩
              dsimp only
              rw [if_neg Bool.false_ne_true]
              split at p1
              . rename_i hst
                obtain ⟨k1,k2,k3,k4⟩ := keep (e2.trans e4)
                exact ⟨m - 1,by omega,by omega,U2,M4,F4,ρ4,acc,vs,(eo.trans e2).trans e4,(e1.trans e2).trans e4,S4,r'.mono e4,hst,k1,k2,k3,k4,p1⟩
              . exact p1.elim
            . exact p1.elim
    . have hd : ds.drop i = [] := List.drop_eq_nil_of_le (Nat.le_of_not_lt hi)
      simp only [loop] at p1
      rw [hd] at p1
      unfold loopC at p1
      obtain ⟨H4,t4,S4,e4,x4⟩ := thaw_fin S1 eo e1.r wz
      refine .inl ⟨wst (Nat.le_of_not_lt hi),H4,t4,?_⟩
      have p2 : Post B (newl fz acc (unwk fl src M1)) F ρ H Q (fun cv x H' => E.e cv x U H') := p1
      have ra4 := RDs.mono0 x4 _ _ ra
      have hD4 : H4 Da = some (.lst vs) := by
        have := x4.h Da (by rw [hD1]; simp) d1
        exact this.trans hD1
      cases fz with
      | true =>
        simp only [newl,if_true] at p2
        have xt : Ex1 F1 ρ1 H4 (fun a => F1 a \/ a = Da) ρ1 H4 := ⟨fun _ q => .inl q,fun _ _ _ => rfl,List.prefix_refl _⟩
        refine p2 (fun a => F1 a \/ a = Da) ρ1 H4 (.ref Da) ⟨⟨e4.s,fun a q => .inl (e4.f a q),e4.h,e4.r,e4.n,fun a q => q.elim (e4.g a) fun z => .inr (.inl (z ▸ hDo))⟩,e4.z⟩ (S4.take d1 (by rw [hD4]; simp)) ?_
        simp only [RD]
        exact ⟨Da,vs,rfl,.inl ⟨.inr rfl,.inl hD4⟩,RDs.mono1 xt _ _ ra4⟩
      | false =>
        simp only [newl,Bool.false_eq_true,if_false] at p2
        have xt : Ex1 F1 ρ1 H4 F1 (ρ1 ++ [Da]) H4 := ⟨fun _ q => q,fun _ _ _ => rfl,List.prefix_append _ _⟩
        refine p2 F1 (ρ1 ++ [Da]) H4 (.ref Da) ⟨⟨e4.s,e4.f,e4.h,e4.r.trans (List.prefix_append _ _),fun a q => (List.mem_append.mp q).elim (e4.n a) fun z => .inr (by rw [List.mem_singleton.mp z]; exact hDo),e4.g⟩,e4.z⟩ (S4.hold (u := .lst acc) d1 f1 ⟨vs,hD4,RDs.mono1 xt _ _ ra4⟩) ?_
        simp only [RD]
        refine ⟨Da,?_,rfl⟩
        rw [<- S4.len,List.getElem?_append_right (Nat.le_refl _),Nat.sub_self]; rfl
end
end Fg
end
section
set_option autoImplicit false
namespace Fg
open PySem L2
section
variable {B : Bd} {Φ : Fns} {E : Gx} {F F' F0 F1 : Addr -> Prop} {ρ ρ' ρ0 ρ1 : List Addr} {H H' H0 H1 : Hp} {M M' M0 : MH} {UD : Sg} {U : L2.St} {Q : VK} {Dn : Ends}
theorem sim_g {i : Nat} {v : V} (hg : ∀ d,Φ.glob i = some d -> ∀ F ρ H,RD B F ρ H d v) (h : T B Φ E (.g i) U H Q) : tC v U H Q := by
  obtain ⟨UD,M,F,ρ,S,r,h⟩ := h
  simp only [ev] at h
  split at h
  . rename_i d hd
    exact PostG.run h S (hg d hd F ρ H)
  . exact h.elim
def spF (B : Bd) (Φ : Fns) (f n : Nat) : Sp := fun vs H Q E => vs.length = n /\ ∃ ds M F ρ,SR B F ρ M H /\ RDs B F ρ H ds vs /\ Post B (Φ.call f ds M) F ρ H Q E
theorem sim_call {f n : Nat} {es : Es} (hn : ∀ {U : Sg} {M : MH} {ds : List D} {M' : MH},evs Φ es U M = .ok ds M' -> ds.length = n) (h : T B Φ E (.call f es) U H Q)   : tCallE (spF B Φ f n) E.e (TL B Φ E es) U H Q := by
  obtain ⟨UD,M,F,ρ,S,r,h⟩ := h
  simp only [ev] at h
  refine ⟨UD,M,F,ρ,S,r,?_⟩
  cases hx : evs Φ es UD M with
  | exc c M1 => rw [hx] at h; exact h
  | bad => rw [hx] at h; exact h
  | ok ds M1 =>
    rw [hx] at h
    simp only [R.bind_ok] at h
    intro F1 ρ1 H1 vs e1 S1 q1
    exact ⟨by rw [<- RDs.length q1]; exact hn hx,ds,M1,F1,ρ1,S1,q1,PostG.weak e1 h⟩
theorem ty_sim {x : D} {v : V} {t : Ty} (S : SR B F ρ M H) (rx : RD B F ρ H x v) (ho : okT M x = true) : ∃ T,TyN B H v T /\ tyB T t = isT M t x := by
  cases x with
  | non => simp only [RD] at rx; subst rx; exact ⟨_,.non,by cases t <;> rfl⟩
  | bl b => simp only [RD] at rx; subst rx; exact ⟨_,.bl b,by cases t <;> rfl⟩
  | int i => simp only [RD] at rx; subst rx; exact ⟨_,.int i,by cases t <;> rfl⟩
  | str x => simp only [RD] at rx; subst rx; exact ⟨_,.str x,by cases t <;> rfl⟩
  | tup ds => simp only [RD] at rx; obtain ⟨a,vs,rfl,z,_⟩ := rx; exact ⟨_,.tup z.sq,by cases t <;> rfl⟩
  | lst ds => simp only [RD] at rx; obtain ⟨a,vs,rfl,z,_⟩ := rx; exact ⟨_,.lst z.sq,by cases t <;> rfl⟩
  | dct ks ds =>
    simp only [RD] at rx; obtain ⟨a,vs,rfl,z,_⟩ := rx
    refine ⟨_,.dct (kvs := vs) ?_,by cases t <;> rfl⟩
    rcases z with ⟨_,z⟩ | z
    . exact .inl z
    . exact .inr z
  | ref n =>
    simp only [RD] at rx
    obtain ⟨a,h1,rfl⟩ := rx
    cases hM : M[n]? with
    | none => simp [okT,hM] at ho
    | some o =>
      cases o with
      | lst ds => obtain ⟨vs,h3,_⟩ := S.obj n a _ h1 hM; exact ⟨_,.lst (.inl (.inl h3)),by simp only [isT,hM]; cases t <;> rfl⟩
      | dct kvs => obtain ⟨kws,h3,_⟩ := S.obj n a _ h1 hM; exact ⟨_,.dct (.inl (.inl h3)),by simp only [isT,hM]; cases t <;> rfl⟩
      | dwk kvs => obtain ⟨o,kws,h3,_⟩ := S.obj n a _ h1 hM; exact ⟨_,.dct (.inl (.inr ⟨o,h3⟩)),by simp only [isT,hM]; cases t <;> rfl⟩
      | ins _ _ => simp [okT,hM] at ho
theorem sim_isi {a : Fg.E} {t : Ty} (h : T B Φ E (.isi a t) U H Q) : tCB (rIsi B) (tCons (T B Φ E a) (tCons (tC (.ty (tyS t))) tNil)) U H Q := by
  obtain ⟨UD,M,F,ρ,S,r,h⟩ := h
  simp only [ev] at h
  refine T.one S r rfl h fun x M1 F1 ρ1 H1 v e1 S1 r1 rx h1 => ?_
  split at h1
  . rename_i ho
    obtain ⟨T',ty,e⟩ := ty_sim (t := t) S1 rx ho
    refine ⟨v,T',t,rfl,ty,?_⟩
    rw [e]
    exact PostG.run h1 S1 (by simp only [RD])
  . exact h1.elim
theorem sim_append {fz : Bool} {a : Fg.E} {es : Es} (h : T B Φ E (.mth .append fz a es) U H Q) : tBM B.K "list" rAppend (T B Φ E a) (TL B Φ E es) U H Q := by
  obtain ⟨UD,M,F,ρ,S,r,h⟩ := h
  simp only [ev] at h
  refine T.one S r rfl h fun x M1 F1 ρ1 H1 v e1 S1 r1 rx h1 => ?_
  split at h1
  . rename_i ho
    refine ⟨?_,TL.one S1 r1 rfl h1 fun ds M2 F2 ρ2 H2 vs e2 S2 r2 rds h2 => append_sim S2 (RD.mono e2 _ _ rx) rds h2⟩
    cases x with
    | ref n =>
      simp only [RD] at rx
      obtain ⟨b,hb,rfl⟩ := rx
      cases hM : M1[n]? with
      | none => simp [mtOk,hM] at ho
      | some o =>
        cases o with
        | lst xs => obtain ⟨vs,h3,_⟩ := S1.obj n b _ hb hM; exact .inl ⟨rfl,vs,.inl (.inl h3)⟩
        | dct _ => simp [mtOk,hM] at ho
        | dwk _ => simp [mtOk,hM] at ho
        | ins _ _ => simp [mtOk,hM] at ho
    | non => simp [mtOk] at ho
    | bl _ => simp [mtOk] at ho
    | int _ => simp [mtOk] at ho
    | str _ => simp [mtOk] at ho
    | tup _ => simp [mtOk] at ho
    | lst _ => simp [mtOk] at ho
    | dct _ _ => simp [mtOk] at ho
  . exact h1.elim
def rSetA (x y v : V) (H : Hp) (Q : Hp -> Prop) : Prop := rSetL x y v H Q \/ ∃ a H4,x = .ref a /\ DPut H a y v H4 /\ Q H4
def sSetA (to ti tv : TE) : TS := fun D U H => tv U H fun v H1 => to U H1 fun x H2 => ti U H2 fun y H3 => rSetA x y v H3 fun H4 => D.nx U H4
theorem set_sim {x y d : D} {v w u : V} (S : SR B F ρ M H) (rx : RD B F ρ H x v) (ry : RD B F ρ H y w) (rd : RD B F ρ H d u) {K : Hp -> Prop} (h : ∀ M',setI M x y d = .ok () M' -> ∀ H',Ext F ρ H F ρ H' -> SR B F ρ M' H' -> K H') (hb : ∃ M',setI M x y d = .ok () M') : rSetA v w u H K := by
  obtain ⟨M',hb⟩ := hb
  have hK := h M' hb
  unfold setI at hb
  split at hb
  . rename_i n
    simp only [RD] at rx
    obtain ⟨a,h1,rfl⟩ := rx
    split at hb
    . rename_i xs i hM
      split at hb
      . rename_i j hj
        cases hb
        simp only [RD] at ry; subst ry
        obtain ⟨vs,h2,h3⟩ := S.obj n a _ h1 hM
        refine .inl ⟨a,vs,i,j,rfl,rfl,h2,by rw [<- RDs.length h3,<- ixn_eq]; exact hj,?_⟩
        obtain ⟨S',e⟩ := S.st (o := .lst (vs.set j u)) (u := .lst (xs.set j d)) h1 (fun _ _ q => by rw [h2] at q; cases q) ⟨_,upd_same,RDs.mono0 (Ext0.at_ S h1) _ _ (h3.set j rd)⟩
        exact hK _ e S'
      . cases hb
    . rename_i kvs hM
      split at hb
      . rename_i k hk
        split at hb
        . rename_i hl
          cases hb
          obtain ⟨kws,h2,h3,h4⟩ := S.obj n a _ h1 hM
          have hlen : kws.length = kvs.length := by have := congrArg List.length h3; simpa using this
          rw [key_rd hk ry]
          refine .inr ⟨a,_,rfl,DPut.k h2 (by rw [hlen]; exact Nat.lt_of_lt_of_le (of_decide_eq_true hl) line_le),?_⟩
          obtain ⟨p1,p2⟩ := put_rd (k := k) rd h3 h4
          obtain ⟨S',e⟩ := S.st (o := .dK (putK kws k u)) (u := .dct (put kvs k d)) h1 (fun _ _ q => by rw [h2] at q; cases q) ⟨_,upd_same,p1,RDs.mono0 (Ext0.at_ S h1) _ _ p2⟩
          exact hK _ e S'
        . cases hb
      . cases hb
    . cases hb
  . cases hb
theorem setI_ok {x y d : D} : (∃ M',setI M x y d = .ok () M') \/ setI M x y d = .bad := by
  unfold setI
  split
  . split
    . split
      . exact .inl ⟨_,rfl⟩
      . exact .inr rfl
    . split
      . split
        . exact .inl ⟨_,rfl⟩
        . exact .inr rfl
      . exact .inr rfl
    . exact .inr rfl
  . exact .inr rfl
theorem sim_seti {a b e : Fg.E} (h : TC B Φ E (.seti a b e) Dn U H) : sSetA (T B Φ E a) (T B Φ E b) (T B Φ E e) Dn U H := by
  obtain ⟨UD,M,F,ρ,S,r,h⟩ := h
  simp only [ex] at h
  refine TC.one S r h fun x M1 F1 ρ1 H1 v e1 S1 r1 rx h1 => ?_
  refine TC.one S1 r1 h1 fun y M2 F2 ρ2 H2 w e2 S2 r2 ry h2 => ?_
  refine TC.one S2 r2 h2 fun z M3 F3 ρ3 H3 u e3 S3 r3 rz h3 => ?_
  have rx3 := RD.mono e3 _ _ (RD.mono e2 _ _ rx)
  have ry3 := RD.mono e3 _ _ ry
  rcases setI_ok (M := M3) (x := y) (y := z) (d := x) with ⟨M',hb⟩ | hb
  . refine set_sim S3 ry3 rz rx3 (fun M4 hq H4 e4 S4 => ?_) ⟨M',hb⟩
    rw [hq] at h3
    exact h3 F3 ρ3 H4 e4 S4 U (r3.mono e4)
  . rw [hb] at h3; exact h3.elim
end
end Fg
end
section
set_option autoImplicit false
namespace Fg
open PySem PySem.Spec L2
section
variable {B : Bd} {Φ : Fns} {E : Gx} {F F' F0 F1 : Addr -> Prop} {ρ ρ' ρ0 ρ1 : List Addr} {H H' H0 H1 : Hp} {M M' M0 : MH} {UD : Sg} {U : L2.St} {Q : VK} {Dn : Ends}
theorem fld_rel {f : Str} : ∀ {fs : List (Str × D)} {fws : List (Str × V)},fws.map (·.1) = fs.map (·.1) -> RDs B F ρ H (fs.map (·.2)) (fws.map (·.2)) ->
    (∀ d,fs.lookup f = some d -> ∃ v,fws.lookup f = some v /\ RD B F ρ H d v) /\ (fs.lookup f = none -> fws.lookup f = none)
  | [],fws,h1,h2 => by
    have : fws = [] := by cases fws with | nil => rfl | cons _ _ => simp at h1
    subst this
    exact ⟨fun d h => by simp at h,fun _ => rfl⟩
  | (g, d') :: fs, fws, h1, h2 => by
    cases fws with
    | nil => simp at h1
    | cons p fws =>
      obtain ⟨pk,pv⟩ := p
      simp only [List.map_cons,List.cons.injEq] at h1
      simp only [List.map_cons,RDs] at h2
      obtain ⟨v,ws,e,r1,r2⟩ := h2
      cases e
      obtain ⟨e1,e2⟩ := h1
      subst e1
      have ih := fld_rel (f := f) e2 r2
      by_cases hk : f = pk
      . subst hk
        simp only [List.lookup,beq_self_eq_true]
        exact ⟨fun d h => by cases h; exact ⟨_,rfl,r1⟩,fun h => by cases h⟩
      . have hb : (f == pk) = false := beq_eq_false_iff_ne.mpr hk
        simp only [List.lookup,hb]
        exact ih
theorem put_rel {f : Str} {d : D} {v : V} (r : RD B F ρ H d v) : ∀ {fs : List (Str × D)} {fws : List (Str × V)},fws.map (·.1) = fs.map (·.1) -> RDs B F ρ H (fs.map (·.2)) (fws.map (·.2)) ->
    (putF f v fws).map (·.1) = (putM f d fs).map (·.1) /\ RDs B F ρ H ((putM f d fs).map (·.2)) ((putF f v fws).map (·.2))
  | [],fws,h1,h2 => by
    have : fws = [] := by cases fws with | nil => rfl | cons _ _ => simp at h1
    subst this
    exact ⟨rfl,RDs.cons r RDs.nil⟩
  | (g, d') :: fs, fws, h1, h2 => by
    cases fws with
    | nil => simp at h1
    | cons p fws =>
      obtain ⟨pk,pv⟩ := p
      simp only [List.map_cons,List.cons.injEq] at h1
      simp only [List.map_cons,RDs] at h2
      obtain ⟨w,ws,e,r1,r2⟩ := h2
      cases e
      obtain ⟨e1,e2⟩ := h1
      subst e1
      obtain ⟨i1,i2⟩ := put_rel (f := f) r e2 r2
      by_cases hk : pk = f
      . simp only [putF,putM,if_pos hk,List.map_cons]
        exact ⟨by rw [e2],RDs.cons r r2⟩
      . simp only [putF,putM,if_neg hk,List.map_cons]
        exact ⟨by rw [i1],RDs.cons r1 i2⟩
theorem sim_fld {K : W.Frag} {a : Fg.E} {f : Str} (hC : ∀ c C,B.cls c = some C -> Cls K C /\ NoAttr K C f) (h : T B Φ E (.fld a f) U H Q) : tFld K (T B Φ E a) f U H Q := by
  obtain ⟨UD,M,F,ρ,S,r,h⟩ := h
  simp only [ev] at h
  refine T.one S r rfl h fun x M1 F1 ρ1 H1 v e1 S1 r1 rx h1 => ?_
  split at h1
  . rename_i n
    split at h1
    . rename_i c fs hM
      split at h1
      . rename_i d hd
        simp only [RD] at rx
        obtain ⟨b,hb,rfl⟩ := rx
        obtain ⟨C,dx,fws,hc,hH,hk,hr⟩ := S1.obj n b _ hb hM
        obtain ⟨w,hw,rw⟩ := (fld_rel hk hr).1 d hd
        exact ⟨b,C,dx,fws,w,rfl,hH,(hC c C hc).1,(hC c C hc).2,hw,PostG.run h1 S1 rw⟩
      . exact h1.elim
    . exact h1.elim
  . exact h1.elim
theorem sim_setf {K : W.Frag} {a e : Fg.E} {f : Str} (hC : ∀ c C,B.cls c = some C -> Cls K C /\ NoAttr K C f) (h : TC B Φ E (.setf a f e) Dn U H) : sFld K (T B Φ E a) (T B Φ E e) f Dn U H := by
  obtain ⟨UD,M,F,ρ,S,r,h⟩ := h
  simp only [ex] at h
  refine TC.one S r h fun x M1 F1 ρ1 H1 v e1 S1 r1 rx h1 => ?_
  refine TC.one S1 r1 h1 fun y M2 F2 ρ2 H2 w e2 S2 r2 ry h2 => ?_
  have rx2 := RD.mono e2 _ _ rx
  split at h2
  . rename_i n
    split at h2
    . rename_i c fs hM
      split at h2
      . rename_i hl
        simp only [RD] at ry
        obtain ⟨b,hb,rfl⟩ := ry
        obtain ⟨C,dx,fws,hc,hH,hk,hr⟩ := S2.obj n b _ hb hM
        have hlen : fws.length = fs.length := by have := congrArg List.length hk; simpa using this
        obtain ⟨p1,p2⟩ := put_rel (f := f) rx2 hk hr
        obtain ⟨S',e⟩ := S2.st (o := .ins C dx (putF f v fws)) (u := .ins c (putM f x fs)) hb (fun _ _ q => by rw [hH] at q; cases q) ⟨C,dx,_,hc,upd_same,p1,RDs.mono0 (Ext0.at_ S2 hb) _ _ p2⟩
        exact ⟨b,C,dx,fws,rfl,hH,(hC c C hc).1,(hC c C hc).2,by rw [hlen]; exact of_decide_eq_true hl,h2 F2 ρ2 _ e S' U (r2.mono e)⟩
      . exact h2.elim
    . exact h2.elim
  . exact h2.elim
def tMethE (C : Addr) (m : Str) (sp : Sp) (Ex : XS) (ta : TE) (t : TA) : TE := fun U H Q => ta U H fun x H1 => ∃ a dx fs,x = .ref a /\ H1 a = some (.ins C dx fs) /\ fs.lookup m = none /\
  t U H1 fun vs H2 => sp (x :: vs) H2 Q fun cv y H' => Ex cv y U H'
def tMakeE (C : Addr) (sp : Sp) (Ex : XS) (t : TA) : TE := fun U H Q => t U H fun vs H1 => ∀ x dx,H1 x = none -> H1 dx = none -> dx ≠ x ->
  sp (.ref x :: vs) (upd (upd H1 dx (.own x)) x (.ins C dx [])) (fun v H2 => v = .non /\ Q (.ref x) H2) fun cv y H' => Ex cv y U H'
theorem sim_umt {c m n : Nat} {nm : Str} {a : Fg.E} {es : Es} {C : Addr} (hC : B.cls c = some C) (hn : ∀ {U : Sg} {M : MH} {ds : List D} {M' : MH},evs Φ es U M = .ok ds M' -> ds.length + 1 = n) (h : T B Φ E (.umt c m nm a es) U H Q) :
    tMethE C nm (spF B Φ m n) E.e (T B Φ E a) (TL B Φ E es) U H Q := by
  obtain ⟨UD,M,F,ρ,S,r,h⟩ := h
  simp only [ev] at h
  refine T.one S r rfl h fun x M1 F1 ρ1 H1 v e1 S1 r1 rx h1 => ?_
  split at h1
  . rename_i i
    split at h1
    . rename_i c' fs hM
      split at h1
      . rename_i hq
        simp only [Bool.and_eq_true,decide_eq_true_eq,Option.isNone_iff_eq_none] at hq
        obtain ⟨rfl,hno⟩ := hq
        have rx0 := rx
        simp only [RD] at rx
        obtain ⟨b,hb,rfl⟩ := rx
        obtain ⟨C',dx,fws,hc,hH,hk,hr⟩ := S1.obj i b _ hb hM
        rw [hC] at hc; cases hc
        refine ⟨b,dx,fws,rfl,hH,(fld_rel hk hr).2 hno,UD,M1,F1,ρ1,S1,r1,?_⟩
        cases hx : evs Φ es UD M1 with
        | exc c M2 => rw [hx] at h1; exact h1
        | bad => rw [hx] at h1; exact h1
        | ok ds M2 =>
          rw [hx] at h1
          simp only [R.bind_ok] at h1
          intro F2 ρ2 H2 vs e2 S2 q2
          exact ⟨by rw [List.length_cons,<- RDs.length q2]; exact hn hx,.ref i :: ds,M2,F2,ρ2,S2,RDs.cons (RD.mono e2 _ _ rx0) q2,PostG.weak e2 h1⟩
      . exact h1.elim
    . exact h1.elim
  . exact h1.elim
def spI (B : Bd) (Φ : Fns) (f n : Nat) : Sp := fun vs H Q E => vs.length = n /\ ∃ ds M F ρ,SR B F ρ M H /\ RDs B F ρ H ds vs /\ Post B (Φ.ini f ds M) F ρ H Q E
theorem SR.own (S : SR B F ρ M H) {p : Addr} (h : H p = none) (o : HO) : SR B F ρ M (upd H p o) /\ Ext F ρ H F ρ (upd H p o) := by
  obtain ⟨np,nf⟩ := S.new h
  exact ⟨S.side np nf o,⟨⟨S.sep,fun a q => q,fun a q _ => upd_ne (by rintro rfl; exact q h),List.prefix_refl _,fun a q => .inl q,fun a q => .inl q⟩,fun b w u q => by rw [upd_ne (by rintro rfl; rw [h] at q; cases q)]; exact q⟩⟩
theorem sim_new {c i n : Nat} {es : Es} {C : Addr} (hC : B.cls c = some C) (hn : ∀ {U : Sg} {M : MH} {ds : List D} {M' : MH},evs Φ es U M = .ok ds M' -> ds.length + 1 = n) (h : T B Φ E (.new c i es) U H Q) :
    tMakeE C (spI B Φ i n) E.e (TL B Φ E es) U H Q := by
  obtain ⟨UD,M,F,ρ,S,r,h⟩ := h
  simp only [ev] at h
  refine ⟨UD,M,F,ρ,S,r,?_⟩
  cases hx : evs Φ es UD M with
  | exc c M1 => rw [hx] at h; exact h
  | bad => rw [hx] at h; exact h
  | ok ds M1 =>
    rw [hx] at h
    simp only [R.bind_ok] at h
    intro F1 ρ1 H1 vs e1 S1 q1 x dx hx0 hdx hne
    obtain ⟨S2,e2⟩ := S1.own hdx (.own x)
    have hx2 : upd H1 dx (.own x) x = none := by rw [upd_ne (Ne.symm hne)]; exact hx0
    obtain ⟨S3,e3⟩ := S2.lv (o := .ins C dx []) (u := .ins c []) hx2 ⟨C,dx,[],hC,upd_same,rfl,RDs.nil⟩
    have at_ : (ρ1 ++ [x])[M1.length]? = some x := by rw [<- S1.len,List.getElem?_append_right (Nat.le_refl _),Nat.sub_self]; rfl
    have e23 := e2.trans e3
    refine ⟨by rw [List.length_cons,<- RDs.length q1]; exact hn hx,.ref M1.length :: ds,M1 ++ [.ins c []],F1,ρ1 ++ [x],S3,RDs.cons (by simp only [RD]; exact ⟨x,at_,rfl⟩) (RDs.mono e23 _ _ q1),?_⟩
    refine PostG.imp (PostG.bind (rel := RD B) (PostG.weak (e1.trans e23) h)) fun v H' ⟨d,M',F',ρ',ext,S',rd,h2⟩ => ?_
    split at h2
    . simp only [RD] at rd
      exact ⟨rd,PostG.run h2 S' (by simp only [RD]; exact ⟨x,ext.at at_,rfl⟩)⟩
    . exact h2.elim
theorem sim_newN {c i : Nat} {es : Es} (hb : ∀ ds M,Φ.ini i ds M = .bad) (h : T B Φ E (.new c i es) U H Q) : TL B Φ E es U H fun _ _ => False := by
  obtain ⟨UD,M,F,ρ,S,r,h⟩ := h
  simp only [ev] at h
  refine ⟨UD,M,F,ρ,S,r,?_⟩
  cases hx : evs Φ es UD M with
  | exc c M1 => rw [hx] at h; exact h
  | bad => rw [hx] at h; exact h
  | ok ds M1 =>
    rw [hx] at h
    simp only [R.bind_ok,hb,R.bind_bad] at h
    exact h.elim
theorem sim_max {a b : Fg.E} (h : T B Φ E (.mx true a b) U H Q) : tCB (fun xs H Q => ∃ i j,xs = [.int i,.int j] /\ Q (.int (if j > i then j else i)) H) (tCons (T B Φ E a) (tCons (T B Φ E b) tNil)) U H Q := by
  obtain ⟨UD,M,F,ρ,S,r,h⟩ := h
  simp only [ev] at h
  refine T.two S r rfl h fun x y M2 F2 ρ2 H2 v w S2 _ rx ry h2 => ?_
  split at h2
  . rename_i i j
    simp only [RD] at rx ry
    subst rx ry
    exact ⟨i,j,rfl,PostG.run h2 S2 (by simp only [RD,if_true])⟩
  . exact h2.elim
theorem sim_min {a b : Fg.E} (h : T B Φ E (.mx false a b) U H Q) : tCB (fun xs H Q => ∃ i j,xs = [.int i,.int j] /\ Q (.int (if j < i then j else i)) H) (tCons (T B Φ E a) (tCons (T B Φ E b) tNil)) U H Q := by
  obtain ⟨UD,M,F,ρ,S,r,h⟩ := h
  simp only [ev] at h
  refine T.two S r rfl h fun x y M2 F2 ρ2 H2 v w S2 _ rx ry h2 => ?_
  split at h2
  . rename_i i j
    simp only [RD] at rx ry
    subst rx ry
    exact ⟨i,j,rfl,PostG.run h2 S2 (by simp only [RD,Bool.false_eq_true,if_false])⟩
  . exact h2.elim
def lrV (i j : Int) : List V := (List.range (j - i).toNat).map fun (n : Nat) => V.int (i + (n : Int))
def tLrg (t : TA) : TE := fun U H Q => t U H fun vs H1 => ∃ i j : Int,vs = [.int i,.int j] /\ (-(2 ^ 62) <= i /\ i < 2 ^ 62 /\ -(2 ^ 62) <= j /\ j < 2 ^ 62) /\ (j - i).toNat <= sizeLine /\ ∀ p,H1 p = none -> Q (.ref p) (upd H1 p (.lst (lrV i j)))
theorem rngs_rd {i j : Int} : RDs B F ρ H (rngs i j) (lrV i j) := by
  unfold rngs lrV
  generalize List.range (j - i).toNat = l
  induction l with
  | nil => exact RDs.nil
  | cons n l ih => exact RDs.cons (by simp only [RD]) ih
theorem sim_lrg {fz : Bool} {a b : Fg.E} (h : T B Φ E (.lrg fz a b) U H Q) : tLrg (tCons (T B Φ E a) (tCons (T B Φ E b) tNil)) U H Q := by
  obtain ⟨UD,M,F,ρ,S,r,h⟩ := h
  simp only [ev] at h
  refine T.two S r rfl h fun x y M2 F2 ρ2 H2 v w S2 _ rx ry h2 => ?_
  split at h2
  . rename_i i j
    split at h2
    . rename_i hq
      simp only [okR,Bool.and_eq_true,decide_eq_true_eq] at hq
      simp only [RD] at rx ry
      subst rx ry
      exact ⟨i,j,rfl,⟨by omega,by omega,by omega,by omega⟩,Nat.le_trans hq.2.2 line_le,newl_sim S2 h2 rngs_rd⟩
    . exact h2.elim
  . exact h2.elim
end
section
variable {X : Cx} {Ex : XS} {k : Nat} {f C : Addr} {fd : FuncData} {ps : List Str} {sp : Sp} {x m : Str} {p pos apos : Pos} {e o : Expr} {es : List Expr} {ta : TE} {t : TA}
theorem pe_methE {pl : Sem Bool} (he : PE X o ta) (c : Cls X.K C) (hm : Meth X.K C m f) (F : FnOk X.prog X.w X.K X.mg X.base (CXE X.prog X.w) k f fd ps sp) (hr : Room k X.A) (hb : Binds X.K fd ps []) (hx : ∀ e s,Fly X Ex e s -> X.xe e s) (ha : PA X (e :: es) t)
    (hst : starEach (e :: es) X.env = (false,eval e X.env) :: starEach es X.env) (hpl : (backTo pos (starEach es X.env)).any (·.1) = false)
    (ht : eval (.Call (.Attribute o m apos) (e :: es) [] pos) X.env = (do
      let ov <- eval o X.env
      standAt apos.atName
      let (f,first) <- holding [ov] (getMethod ov m pl)
      callWith pos f first (backTo pos (starEach (e :: es) X.env)) (backToKw pos (keywordEach [] X.env)))) :
    PE X (.Call (.Attribute o m apos) (e :: es) [] pos) (tMethE C m sp Ex ta t) := by
  intro pins s U H Q I h
  refine PySem.W.methodCall_KW (pl := pl) (thn (he pins s U H _ I h) fun u s1 ⟨x,H1,I1,rx,a,dx,fs,ex,ea,l,q⟩ => ?_) ht
  subst ex
  obtain rfl : u = Value.ref a := rx
  refine getmeth_ok I1 ea c hm l ?_
  refine PySem.W.callWith_K (first := [.ref a]) (h₀ := X.base) I.ok.mod.kin hm.kp (thn (ha pos pins s1 U H1 _ I1 q) fun us s2 ⟨vs,H2,I2,r,q2⟩ => ⟨I2.kIn,?_⟩) hst hpl
  exact runE (us := .ref a :: us) (vs := .ref a :: vs) F hr hb hx I2 (.cons rfl r) q2
theorem pe_methE0 {pl : Sem Bool} (he : PE X o ta) (c : Cls X.K C) (hm : Meth X.K C m f) (F : FnOk X.prog X.w X.K X.mg X.base (CXE X.prog X.w) k f fd ps sp) (hr : Room k X.A) (hb : Binds X.K fd ps []) (hx : ∀ e s,Fly X Ex e s -> X.xe e s)
    (ht : eval (.Call (.Attribute o m apos) [] [] pos) X.env = (do
      let ov <- eval o X.env
      standAt apos.atName
      let (f,first) <- holding [ov] (getMethod ov m pl)
      callWith pos f first (backTo pos (starEach [] X.env)) (backToKw pos (keywordEach [] X.env)))) :
    PE X (.Call (.Attribute o m apos) [] [] pos) (tMethE C m sp Ex ta tNil) := by
  intro pins s U H Q I h
  refine PySem.W.methodCall_KW (pl := pl) (thn (he pins s U H _ I h) fun u s1 ⟨x,H1,I1,rx,a,dx,fs,ex,ea,l,q⟩ => ?_) ht
  subst ex
  obtain rfl : u = Value.ref a := rx
  refine getmeth_ok I1 ea c hm l ?_
  exact PySem.W.callWith_K0 (first := [.ref a]) I1.kIn hm.kp (runE (us := [.ref a]) (vs := [.ref a]) F hr hb hx I1 (.cons rfl .nil) q)
theorem run_makeE {pins : List (Addr × Obj)} {U : L2.St} {H : Hp} {s : Shared} {Q : VK} {us : List Value} {vs : List V} (M : Mk X.K C f) (F : FnOk X.prog X.w X.K X.mg X.base (CXE X.prog X.w) k f fd ps sp) (hr : Room (k + 1) X.A) (hb : Binds X.K fd ps [])
    (hx : ∀ e s,Fly X Ex e s -> X.xe e s) (I : Inv X pins U H s) (r : Vals vs us)
    (h : ∀ x dx,H x = none -> H dx = none -> dx ≠ x -> sp (.ref x :: vs) (upd (upd H dx (.own x)) x (.ins C dx [])) (fun v H2 => v = .non /\ Q (.ref x) H2) fun cv y H' => Ex cv y U H') :
    wpAny (model X.prog X.w) X.A (call (.ref C) us) (EP X pins U Q) X.xe s := by
  have hq := h (s.heap.objs.size + 1) s.heap.objs.size (I.hok.fresh (Nat.le_succ _)) (I.hok.fresh (Nat.le_refl _)) (Nat.ne_of_lt (Nat.lt_succ_self _))
  have I2 := Inv.made (C := C) I
  have r2 : Vals (V.ref (s.heap.objs.size + 1) :: vs) (Value.ref (s.heap.objs.size + 1) :: us) := .cons rfl r
  have hl : ((Value.ref (s.heap.objs.size + 1) :: us) ++ []).length = ps.length := by
    rw [List.append_nil,<- r2.length]; exact F.len _ _ _ _ hq
  have bd := hb _ (Value.ref (s.heap.objs.size + 1) :: us) I2.kIn hl
  rw [List.append_nil] at bd
  refine wpAny_call (make_map (f := f) I.kIn M.makes M.init (beq_iff_eq.mp M.fn) (codeAny_mono (F.run _ X.stack _ _ ⟨Value.ref (s.heap.objs.size + 1) :: us,[]⟩ (Value.ref (s.heap.objs.size + 1) :: us) _ _ _ (hr.make C us [])
    (I2.env0.make C us []) bd r2 hq) fun r s' hq' => ?_))
  match r,hq' with
  | .error e,hq' => exact passes hx pins U _ _ e s' I2 hq'
  | .ok (.ret u),hq' =>
    obtain ⟨v,H',I3,rv,ev,q3⟩ := I2.after hq'
    subst ev
    exact ⟨rv,⟨V.ref (s.heap.objs.size + 1),H',I3,rfl,q3⟩⟩
  | .ok .next,hq' => exact hq'.elim
  | .ok .brk,hq' => exact hq'.elim
  | .ok .cont,hq' => exact hq'.elim
theorem pe_makeE (M : Mk X.K C f) (F : FnOk X.prog X.w X.K X.mg X.base (CXE X.prog X.w) k f fd ps sp) (hr : Room (k + 1) X.A) (hg : Gl X x) (hm : X.mg x = some (.ref C)) (hb : Binds X.K fd ps []) (hx : ∀ e s,Fly X Ex e s -> X.xe e s)
    (ha : PA X (e :: es) t) (hdb : (x == ("__debug__" : Str)) = false) (he : starEach (e :: es) X.env = (false, eval e X.env) :: starEach es X.env) (hpl : (backTo pos (starEach es X.env)).any (·.1) = false) :
    PE X (.Call (.Name x p) (e :: es) [] pos) (tMakeE C sp Ex t) := by
  intro pins s U H Q I h
  refine wpAny_Call_Name_kw (ld_glob I hg hm ?_ hdb)
  refine PySem.W.callWith_K (h₀ := X.base) I.ok.mod.kin M.kp (thn (ha pos pins s U H _ I h) fun us s1 ⟨vs,H1,I1,r,q⟩ => ⟨I1.kIn,?_⟩) he hpl
  exact run_makeE M F hr hb hx I1 r q
theorem pe_makeE0 (M : Mk X.K C f) (F : FnOk X.prog X.w X.K X.mg X.base (CXE X.prog X.w) k f fd ps sp) (hr : Room (k + 1) X.A) (hg : Gl X x) (hm : X.mg x = some (.ref C)) (hb : Binds X.K fd ps []) (hx : ∀ e s, Fly X Ex e s -> X.xe e s) (hdb : (x == ("__debug__" : Str)) = false) :
    PE X (.Call (.Name x p) [] [] pos) (tMakeE C sp Ex tNil) := by
  intro pins s U H Q I h
  refine wpAny_Call_Name_kw (ld_glob I hg hm ?_ hdb)
  exact PySem.W.callWith_K0 I.kIn M.kp (run_makeE (us := []) M F hr hb hx I .nil h)
theorem pe_makeN {f : Addr} (M : Mk X.K C f) (hg : Gl X x) (hm : X.mg x = some (.ref C)) (ha : PA X (e :: es) t) (hdb : (x == ("__debug__" : Str)) = false) (he : starEach (e :: es) X.env = (false, eval e X.env) :: starEach es X.env) (hpl : (backTo pos (starEach es X.env)).any (·.1) = false) :
    PE X (.Call (.Name x p) (e :: es) [] pos) (fun U H _ => t U H fun _ _ => False) := by
  intro pins s U H Q I h
  refine wpAny_Call_Name_kw (ld_glob I hg hm ?_ hdb)
  exact PySem.W.callWith_K (h₀ := X.base) I.ok.mod.kin M.kp (thn (ha pos pins s U H _ I h) fun us s1 ⟨vs,H1,I1,r,q⟩ => q.elim) he hpl
theorem vals_items {i : Int} {acc : Array Value} {n : Nat} (h : ItemsOf (fun (j : Nat) v => ∃ t,v = .int (i + (j : Int) * 1) t) acc n) : Vals ((List.range n).map fun (j : Nat) => V.int (i + (j : Int))) acc.toList := by
  obtain ⟨h1,h2⟩ := h
  have gen : ∀ (l : List Value) (a : Nat),(∀ (j : Nat) v,l[j]? = some v -> ∃ t,v = .int (i + ((a + j : Nat) : Int) * 1) t) -> Vals ((List.range' a l.length).map fun (j : Nat) => V.int (i + (j : Int))) l := by
    intro l
    induction l with
    | nil => intro a _; exact .nil
    | cons v l ih =>
      intro a q
      obtain ⟨t,e⟩ := q 0 v rfl
      refine .cons ⟨t,?_⟩ (ih (a + 1) fun j w hw => ?_)
      . rw [e]; simp
      . obtain ⟨t,e⟩ := q (j + 1) w (by simpa using hw)
        exact ⟨t,by rw [e]; congr 3; omega⟩
  have := gen acc.toList 0 fun j v hv => by
    have := h2 j v (by simpa using hv)
    simpa using this
  rw [<- h1,List.range_eq_range']
  simpa using this
theorem pe_lrg {a b : Expr} {p1 p2 q1 q2 : Pos} (hc : X.calm = true) (hgl : Gl X "list") (hml : X.mg "list" = none) (hgr : Gl X "range") (hmr : X.mg "range" = none) (ha : PA X [a, b] t) (hs : starEach [a, b] X.env = [(false, eval a X.env), (false, eval b X.env)]) (hs2 : starEach [b] X.env = [(false, eval b X.env)]) :
    PE X (.Call (.Name "list" p1) [.Call (.Name "range" p2) [a, b] [] q2] [] q1) (tLrg t) := by
  intro pins s U H Q I h
  refine wpAny_Call_Name_kw (ld_blt I hgl hml (show bootBuiltins ("list" : Str) = some (.type "list") by decide +kernel) ?_ (by decide) (by decide))
  refine PyProof.Rows.callWith_type1 ?_ rfl rfl
  show wpAny _ _ (spliced ((false, eval (.Call (.Name "range" p2) [a, b] [] q2) X.env) :: backTo q1 (starEach [] X.env))) _ _ s
  refine Calls.spliced_cons ?_
  refine wpAny_Call_Name_kw (ld_blt I hgr hmr PyProof.Rows.boot_range (PyProof.Rows.callWith_type1 (thn (ha q2 pins s U H _ I h) fun us s1 ⟨vs,H1,I1,r1,q1⟩ => ?_) (by rw [hs,hs2]) (by rw [hs2]; rfl)) (by decide) (by decide))
  obtain ⟨i,j,e,⟨b1,b2,b3,b4⟩,hz,q⟩ := q1
  subst e
  cases r1 with
  | cons r rr =>
    cases rr with
    | cons r' rr =>
      cases rr
      obtain ⟨t,rfl⟩ := r
      obtain ⟨t',rfl⟩ := r'
      refine call_range_2 ?_
      refine Calls.spliced_nil ?_
      have I2 : Inv X pins U H1 { s1 with heap := s1.heap.push { cls := .type "range", data := .fields #[.int i t, .int j t', .int 1 s1.toks] }, toks := s1.toks + 1 } := I1.kept fun b o e => Heap.get?_push_of_some _ e
      have hn : Builtin.Range.rangeSize i j 1 = (((j - i).toNat : Nat) : Int) := by rw [rangeSize_one]; split <;> omega
      refine call_list_range (n := (j - i).toNat) (I2.ok.hd hc) (IsRange.new ..) (small_one b1 b2 b3 b4) hn hz fun h' tk acc' c' hk hS' hacc => ?_
      have va := vals_items hacc
      refine ⟨.ref _,_,I2.laid (h' := h') (t' := tk) (o := .lst (lrV i j)) hk (Nat.le_refl _) ⟨by unfold lrV; rw [List.length_map,List.length_range]; exact hz,acc'.toList,c',va,by simpa using hS'⟩,rfl,q _ (I2.hok.fresh (Nat.le_refl _))⟩
end
end Fg
end
section
set_option autoImplicit false
namespace Fg
open PySem PySem.Spec L2
def rAll (K : W.Frag) : List V -> Hp -> VK -> Prop := fun xs H Q => ∃ (p : Addr) (bs : List Bool),xs = [.ref p] /\ SqL K H p (bs.map V.bl) /\ Q (.bl (bs.all id)) H
theorem vals_bools : ∀ {bs : List Bool} {us : List Value},Vals (bs.map V.bl) us -> us = bs.map Value.bool
  | [],us,h => by cases h; rfl
  | b :: bs,us,h => by
    cases h with
    | cons r t =>
      rw [show _ = Value.bool b from r,vals_bools t]; rfl
theorem all_range (bs : List Bool) : ((List.range bs.length).all fun i => bs.getD i false) = bs.all id := by
  rw [Bool.eq_iff_iff,List.all_eq_true,List.all_eq_true]
  constructor
  . intro h b hb
    obtain ⟨i,hi,e⟩ := List.mem_iff_getElem.mp hb
    have := h i (List.mem_range.mpr hi)
    rw [List.getD_eq_getElem?_getD,List.getElem?_eq_getElem hi,e] at this
    exact this
  . intro h i hi
    have hi := List.mem_range.mp hi
    rw [List.getD_eq_getElem?_getD,List.getElem?_eq_getElem hi]
    exact h _ (List.getElem_mem hi)
theorem call_all1 {X : Cx} (hc : X.calm = true) : CallR X (.builtin "all") (rAll X.K) := by
  intro pins s U H xs us Q I r h
  obtain ⟨p,bs,rfl,hq,q⟩ := h
  obtain ⟨u,rfl,rx⟩ := vals1 r
  cases rx
  obtain ⟨its,rv,pl,hz⟩ := I.list hq
  have e := vals_bools rv
  subst e
  have lt : p < s.heap.objs.size := by obtain ⟨o,g,_⟩ := pl.isList; exact Heap.lt_size g
  refine call_all_walk (wpAny_pyIter_list pl.isList ⟨_,_,_,_,_,_,fun i => bs.getD i false,rfl,Walks.list (A := X.A.in1) (I.ok.hd hc) s.heap.objs.size p (Nat.ne_of_lt lt) (bs.map Value.bool).toArray,⟨⟨_,Heap.get?_push_size _ rfl,rfl,rfl⟩,pl.isList.push _⟩,?_,fun h' tk hk => ?_⟩)
  . intro i v s' Q' E' hP hQ
    have hP' : (bs.map Value.bool)[i]? = some v := by simpa using hP
    rw [List.getElem?_map] at hP'
    cases hb : bs[i]? with
    | none => rw [hb] at hP'; cases hP'
    | some b =>
      rw [hb] at hP'
      cases hP'
      dsimp only at hQ
      rw [List.getD_eq_getElem?_getD,hb] at hQ
      exact wpAny_pure hQ
  . have kp : ∀ c o,s.heap.get? c = some o -> h'.get? c = some o := fun c o g => hk c o (by simp; exact Nat.ne_of_lt (Heap.lt_size g)) (Heap.get?_push_of_some _ g)
    refine ⟨.bl _,H,I.kept (t' := tk) kp,rfl,?_⟩
    have sz : (bs.map Value.bool).toArray.size = bs.length := by simp
    rw [sz,all_range]
    exact q
section
variable {B : Bd} {Φ : Fns} {E : Gx} {F F' F0 F1 : Addr -> Prop} {ρ ρ' ρ0 ρ1 : List Addr} {H H' H0 H1 : Hp} {M M' M0 : MH} {UD : Sg} {U : L2.St} {Q : VK} {Dn : Ends}
theorem bools_rd : ∀ {ds : List D} {bs : List Bool} {vs : List V},boolsOf ds = some bs -> RDs B F ρ H ds vs -> vs = bs.map V.bl
  | [],bs,vs,h,r => by simp only [boolsOf] at h; cases h; simp only [RDs] at r; exact r
  | .bl b :: ds,bs,vs,h,r => by
    simp only [boolsOf] at h
    cases hb : boolsOf ds with
    | none => rw [hb] at h; cases h
    | some bs' =>
      rw [hb] at h
      cases h
      simp only [RDs] at r
      obtain ⟨v,ws,rfl,r1,r2⟩ := r
      simp only [RD] at r1
      rw [r1,bools_rd hb r2]; rfl
  | .non :: ds,bs,vs,h,r => by simp [boolsOf] at h
  | .int _ :: ds,bs,vs,h,r => by simp [boolsOf] at h
  | .str _ :: ds,bs,vs,h,r => by simp [boolsOf] at h
  | .tup _ :: ds,bs,vs,h,r => by simp [boolsOf] at h
  | .lst _ :: ds,bs,vs,h,r => by simp [boolsOf] at h
  | .dct _ _ :: ds,bs,vs,h,r => by simp [boolsOf] at h
  | .ref _ :: ds,bs,vs,h,r => by simp [boolsOf] at h
theorem sim_all1 {a : Fg.E} (h : T B Φ E (.all1 a) U H Q) : tCB (rAll B.K) (tCons (T B Φ E a) tNil) U H Q := by
  obtain ⟨UD,M,F,ρ,S,r,h⟩ := h
  simp only [ev] at h
  refine T.one S r rfl h fun x M1 F1 ρ1 H1 v e1 S1 r1 rx h1 => ?_
  split at h1
  . rename_i ds hv
    split at h1
    . rename_i bs hb
      obtain ⟨a,vs,rfl,q1,q2⟩ := vw_lst S1 rx hv
      have e := bools_rd hb q2
      subst e
      exact ⟨a,bs,rfl,q1,PostG.run h1 S1 (by simp only [RD])⟩
    . exact h1.elim
  . exact h1.elim
end
end Fg
end
section
set_option autoImplicit false
namespace Fg
open PySem PySem.Spec L2
section
variable {X : Cx} {B : Bd} {pins : List (Addr × Obj)} {U : L2.St} {H H' : Hp} {s : Shared}
def thX (X : Cx) : Addr -> Prop := fun a => ∀ o u,X.H₀ a ≠ some (.frz o u)
theorem inv_thaw (I : Inv X pins U H s) (h : Thw (thX X) H H') : Inv X pins U H' s := by
  rcases h with rfl | ⟨a,o,kvs,th,ha,rfl⟩
  . exact I
  have ne : ∀ b,H b = none -> b ≠ a := fun b q z => by subst z; rw [ha] at q; cases q
  refine ⟨I.ok,I.os,I.bare,⟨I.base.keep,I.base.slot,fun b ob e n hx => ?_,I.base.there,fun b xs e => ?_,fun b ob u e => ?_,fun b ps e => ?_⟩,I.loc,I.cell,?_,fun x c e => ?_,fun p hp => ?_,fun b u e => ?_,I.len⟩
  . have := I.base.free b ob e n hx
    rw [upd_ne (ne b this)]; exact this
  . have := I.base.tups b xs e
    rw [upd_ne (by rintro rfl; rw [ha] at this; cases this)]; exact this
  . have := I.base.frzs b ob u e
    rw [upd_ne (by rintro rfl; exact th ob u e)]; exact this
  . obtain ⟨more,q⟩ := I.base.tbls b ps e
    exact ⟨more,by rw [upd_ne (by rintro rfl; rw [ha] at q; cases q)]; exact q⟩
  . rw [upd_ne (ne _ I.free)]; exact I.free
  . rw [upd_ne (ne _ (I.freeC x c e))]; exact I.freeC x c e
  . obtain ⟨h1,h2,h3⟩ := I.pin p hp
    exact ⟨h1,by rw [upd_ne (ne _ h2)]; exact h2,h3⟩
  . by_cases hb : b = a
    . subst hb
      rw [upd_same] at e; cases e
      exact (I.hok b _ ha).2
    . rw [upd_ne hb] at e
      exact (I.hok b u e).stay (fun _ _ _ q => q) (fun c q => by rw [upd_ne (by rintro rfl; rw [ha] at q; cases q)]; exact q) fun c xs q => by rw [upd_ne (by rintro rfl; rw [ha] at q; cases q)]; exact q
theorem pe_thaw {e : Expr} {t : TE} (h : PE X e t) : PE X e (fun U H Q => t U H fun v H' => ∃ H'',Thw (thX X) H' H'' /\ Q v H'') := by
  intro pins s U H Q I q
  refine thn (h pins s U H _ I q) fun u s' ⟨v,H',I',r,H'',t',q'⟩ => ⟨v,H'',inv_thaw I' t',r,q'⟩
theorem ps_thaw {st : Stmt} {t : TS} (h : PS X st t) : PS X st (fun D U H => t (thE (thX X) D) U H) := by
  intro pins s U H D I q
  refine thn (h pins s U H _ I q) fun f s' q' => ?_
  cases f with
  | next => obtain ⟨U',H',I',H'',t',q'⟩ := q'; exact ⟨U',H'',inv_thaw I' t',q'⟩
  | brk => obtain ⟨U',H',I',H'',t',q'⟩ := q'; exact ⟨U',H'',inv_thaw I' t',q'⟩
  | cont => obtain ⟨U',H',I',H'',t',q'⟩ := q'; exact ⟨U',H'',inv_thaw I' t',q'⟩
  | ret u => obtain ⟨v,U',H',I',r,H'',t',q'⟩ := q'; exact ⟨v,U',H'',inv_thaw I' t',r,q'⟩
theorem key_rel {k : Key} {u : Value} (h : keyIs k u = true) : RelV (kV k) u := by
  rcases keyIs_shape h with ⟨i,t,rfl,rfl⟩ | ⟨x,t,rfl,rfl⟩
  . exact ⟨t,rfl⟩
  . exact ⟨t,rfl⟩
theorem kv_get {kvs : List (Key × V)} {vs : List (Key × Value)} (h : KV kvs vs) {i : Nat} {kv : Key × V} (e : kvs[i]? = some kv) : ∃ w,vs[i]? = some (kv.1,w) := by
  induction h generalizing i with
  | nil => simp at e
  | @cons p q ps qs hpq _ ih =>
    cases i with
    | zero =>
      simp only [List.getElem?_cons_zero,Option.some.injEq] at e ⊢
      subst e
      exact ⟨q.2,by rw [hpq.1]⟩
    | succ i => simpa using ih (by simpa using e)
def epO (o : Obj) (n : Nat) : Prop := ∃ es,o.data = .dict es n
theorem turn_dict {P : Program} {w : World} {K : PySem.W.Frag} {tg : Expr} (a it : Addr) (o : Obj) (kvs : List (Key × V)) (ep : Nat) (he : epO o ep) : Turn P w K tg (Itd a o kvs) [it] it (fun i h => h.IsKeyIter it a i kvs.length ep) where
  mem := by simp
  obj := fun i h st b hb => by
    have e : b = it := by simpa using hb
    subst e
    obtain ⟨o,e,c,d⟩ := st
    exact ⟨o,e,fun v z => by rw [d] at z; cases z⟩
  keep := fun i h h' st k => st.at fun o e => k it (by simp) o e
  item := by
    intro X hP hw hK hc i pins s U H E I hf st hg
    subst hP hw hK
    obtain ⟨hH,hi⟩ := hg
    obtain ⟨ho,z,hm,vs,rel,dd⟩ := (show ObjOk X.prog X.w H s.heap a (.frz o (.dK kvs)) from I.hok a _ hH)
    obtain ⟨o',es,ep',h1,h2,h3,h4⟩ := id dd
    rw [ho] at h1; cases h1
    obtain ⟨es',hd'⟩ := he
    rw [hd'] at h3; cases h3
    have dat : s.heap.DictAt (mixKind X.prog X.w) a vs ep := ⟨o,es,ho,h2,hd',h4⟩
    have hx : kvs[i]? = some kvs[i] := List.getElem?_eq_getElem hi
    obtain ⟨wv,hv⟩ := kv_get rel hx
    obtain ⟨f0,f1,f2,f3,f4,f5⟩ := hf it (by simp)
    have hl : kvs.length = vs.length := rel.length
    rw [hl] at st
    refine wpAny_pyNext_dict_item st dat hv fun key h' hk st' sb => ?_
    have I1 : Inv X pins U H { s with heap := h' } := I.turned (t' := s.toks) (fun b o hb e => (sb.2 b hb).trans e) f0 f1 f3 f4 f5
    obtain ⟨oi,e,c,d⟩ := id st'
    refine ⟨key,rfl,go_of (s := { s with heap := h' }) e c d (by decide) ⟨kV kvs[i].1,H,I1,key_rel hk,⟨rfl,kvs[i],hx,rfl⟩,by rw [hl]; exact st',fun b hb => (hf b hb).1⟩⟩
  done := by
    intro X hP hw hK hc i pins s U H E I hf st hg
    subst hP hw hK
    obtain ⟨hH,hi⟩ := hg
    obtain ⟨ho,z,hm,vs,rel,dd⟩ := (show ObjOk X.prog X.w H s.heap a (.frz o (.dK kvs)) from I.hok a _ hH)
    obtain ⟨o',es,ep',h1,h2,h3,h4⟩ := id dd
    rw [ho] at h1; cases h1
    obtain ⟨es',hd'⟩ := he
    rw [hd'] at h3; cases h3
    have dat : s.heap.DictAt (mixKind X.prog X.w) a vs ep := ⟨o,es,ho,h2,hd',h4⟩
    have hl : kvs.length = vs.length := rel.length
    rw [hl] at st
    obtain ⟨f0,f1,f2,f3,f4,f5⟩ := hf it (by simp)
    exact wpAny_pyNext_dict_end (I.ok.hd hc) st dat (List.getElem?_eq_none_iff.mpr (by omega)) fun h' eb => ⟨rfl,I.turned (t' := s.toks) (fun b o hb e => eb b o hb e) f0 f1 f3 f4 f5⟩
  self := fun _ _ _ _ _ st h => wpAny_pyIter_keyiter st h
theorem dict_it {tg : Expr} {R : It -> Hp -> Prop} {a : Addr} {o : Obj} {kvs : List (Key × V)} {E : Value -> Shared -> Prop} (I : Inv X pins U H s) (hH : H a = some (.frz o (.dK kvs))) (q : R (Itd a o kvs) H) : wpAny (model X.prog X.w) X.A (pyIter (.ref a)) (PIE X pins U tg R) E s := by
  obtain ⟨ho,z,hm,vs,rel,dd⟩ := (show ObjOk X.prog X.w H s.heap a (.frz o (.dK kvs)) from I.hok a _ hH)
  obtain ⟨o',es,ep,h1,h2,h3,h4⟩ := id dd
  rw [ho] at h1; cases h1
  have dat : s.heap.DictAt (mixKind X.prog X.w) a vs ep := ⟨o,es,ho,h2,h3,h4⟩
  have hl : kvs.length = vs.length := rel.length
  refine wpAny_pyIter_dict hm dat ?_
  refine ⟨s.heap.objs.size,[s.heap.objs.size],_,_,H,rfl,I.kept (t' := s.toks) fun b o e => Heap.get?_push_of_some _ e,turn_dict a _ o kvs ep ⟨es,h3⟩,⟨_,Heap.get?_push_size _ rfl,rfl,by rw [hl]; rfl⟩,fun b hb => ?_,q⟩
  have e : b = s.heap.objs.size := by simpa using hb
  subst e
  exact I.fpOk (Nat.le_refl _) (I.hok.fresh (Nat.le_refl _))
theorem pi_any {tg l : Expr} {tl : TE} (hK : B.K = X.K) (hl : PE X l tl) : PI X tg l (iAny B (thX X) tl) := by
  intro pins s U H R I h
  refine thn (hl pins s U H _ I h) fun v s1 ⟨x,H1,I1,r1,q1⟩ => ?_
  rw [hK] at q1
  rcases q1 with ⟨a,e,⟨xs,hq⟩,q⟩ | ⟨a,e,⟨xs,hq⟩,q⟩ | ⟨a,kvs,e,hq,q⟩ | ⟨a,o,kvs,e,hq,q⟩
  . subst e
    cases r1
    obtain ⟨its,rv,p,hz⟩ := I1.list hq
    refine wpAny_pyIter_list p.isList ?_
    refine ⟨s1.heap.objs.size,[s1.heap.objs.size],_,_,H1,rfl,I1.kept (t' := s1.toks) fun b o e => Heap.get?_push_of_some _ e,turn_list a _,⟨_,Heap.get?_push_size _ rfl,rfl,rfl⟩,fun b hb => ?_,q⟩
    have e : b = s1.heap.objs.size := by simpa using hb
    subst e
    exact I1.fpOk (Nat.le_refl _) (I1.hok.fresh (Nat.le_refl _))
  . subst e
    cases r1
    obtain ⟨its,rv,p,hz⟩ := I1.tuple hq
    refine wpAny_pyIter_tuple (show s1.heap.IsTuple a its.toArray from p) ?_
    refine ⟨s1.heap.objs.size,[s1.heap.objs.size],_,_,H1,rfl,I1.kept (t' := s1.toks) fun b o e => Heap.get?_push_of_some _ e,turn_tuple a _,⟨_,Heap.get?_push_size _ rfl,rfl,rfl⟩,fun b hb => ?_,q⟩
    have e : b = s1.heap.objs.size := by simpa using hb
    subst e
    exact I1.fpOk (Nat.le_refl _) (I1.hok.fresh (Nat.le_refl _))
  . subst e
    cases r1
    have ob := (show ObjOk X.prog X.w H1 s1.heap a (.dK kvs) from I1.hok a _ hq)
    obtain ⟨z,hm,vs,rel,dd⟩ := id ob
    obtain ⟨o,es,ep,h1,h2,h3,h4⟩ := id dd
    have th : thX X a := fun w u hz => by
      have := I1.base.frzs a w u hz
      rw [hq] at this; cases this
    have I2 : Inv X pins U (upd H1 a (.frz o (.dK kvs))) s1 := I1.write (x := a) (e := a) (t' := s1.toks) (h' := s1.heap) (by rw [hq]; trivial) (.inl rfl) (fun b u _ e => e) ⟨o,h1⟩ ⟨h1,ob⟩
    exact dict_it I2 upd_same (q o th)
  . subst e
    cases r1
    exact dict_it I1 hq q
theorem ps_seta {o i value : Expr} {to ti tv : TE} {pos pos' : Pos} (hu : Rm X) (ho : PE X o to) (hi : PE X i ti) (hv : PE X value tv) (hs : swapsWith value (some (.Subscript o i pos')) pos.line X.env = pure false) :
    PS X (.Assign [.Subscript o i pos'] value pos) (sSetA to ti tv) := by
  intro pins s U H D I h
  refine wpAny_Assign_Subscript (thn (hv pins s U H _ I h) fun r s1 ⟨v,H1,I1,rv,q1⟩ => thn (ho pins s1 U H1 _ I1 q1) fun u s2 ⟨x,H2,I2,rx,q2⟩ => thn (hi pins s2 U H2 _ I2 q2) fun iv s3 ⟨y,H3,I3,ry,q3⟩ => ?_) hs
  rcases q3 with q3 | ⟨a,H4,ex,g,q3⟩
  . exact thn (set_list pins s3 U H3 x y v u iv r _ I3 rx ry rv q3) fun _ s4 ⟨H4,I4,q4⟩ => ⟨U,H4,I4,q4⟩
  . subst ex
    obtain rfl : u = Value.ref a := rx
    exact d_setItem (by unfold Rm at hu; omega) I3 g ry rv fun s4 I4 => ⟨U,H4,I4,q3⟩
end
end Fg
end
section
set_option autoImplicit false
namespace Fg
open PySem PySem.Spec L2
def TM (B : Bd) (Φ : Fns) (E : Gx) (c : Es) : L2.St -> Hp -> (Hp -> Prop) -> Prop := fun U H Q => ∃ (UD : Sg) (M : MH) (F : Addr -> Prop) (ρ : List Addr),
  SR B F ρ M H /\ RS B F ρ H UD U /\ PostG (fun _ _ _ (_ : Unit) (_ : Unit) => True) B (evm Φ c UD M) F ρ H (fun _ H' => Q H') (fun cv x H' => E.e cv x U H')
section
variable {B : Bd} {Φ : Fns} {E : Gx} {F F' F0 F1 : Addr -> Prop} {ρ ρ' ρ0 ρ1 : List Addr} {H H' H0 H1 : Hp} {M M' M0 : MH} {UD : Sg} {U : L2.St} {Dn : Ends}
theorem TM.nil {Q : Hp -> Prop} (h : TM B Φ E .nil U H Q) : Q H := by
  obtain ⟨UD,M,F,ρ,S,r,h⟩ := h
  simp only [evm] at h
  exact PostG.run (v := ()) h S True.intro
theorem TM.cons {e : Fg.E} {es : Es} {Q : Hp -> Prop} (h : TM B Φ E (.cons e es) U H Q) : T B Φ E e U H fun v H1 => (∃ x : Str,v = .str x /\ x.length <= 100000) /\ TM B Φ E es U H1 Q := by
  obtain ⟨UD,M,F,ρ,S,r,h⟩ := h
  simp only [evm] at h
  refine ⟨UD,M,F,ρ,S,r,PostG.imp (PostG.bind (rel := RD B) h) fun v H1 ⟨x,M1,F1,ρ1,e1,S1,rx,h1⟩ => ?_⟩
  split at h1
  . rename_i hs
    cases x with
    | str y =>
      simp only [RD] at rx
      simp only [shortS,decide_eq_true_eq] at hs
      exact ⟨⟨y,rx,hs⟩,UD,M1,F1,ρ1,S1,r.mono e1,h1⟩
    | non => simp [shortS] at hs
    | bl _ => simp [shortS] at hs
    | int _ => simp [shortS] at hs
    | tup _ => simp [shortS] at hs
    | lst _ => simp [shortS] at hs
    | dct _ _ => simp [shortS] at hs
    | ref _ => simp [shortS] at hs
  . exact h1.elim
end
inductive PJ (X : Cx) (B : Bd) (Φ : Fns) (E : Gx) : List Expr -> Es -> Prop
  | nil : PJ X B Φ E [] .nil
  | lit {y : Str} {j : Nat} {p : Pos} {r : List Expr} {es : Es} : y.length <= 100000 -> PJ X B Φ E r es -> PJ X B Φ E (.Constant (.str y) j p :: r) es
  | fld {v : Expr} {p : Pos} {r : List Expr} {e : Fg.E} {es : Es} : PE X v (T B Φ E e) -> PJ X B Φ E r es -> PJ X B Φ E (.FormattedValue v (-1) none p :: r) (.cons e es)
section
variable {X : Cx} {B : Bd} {Φ : Fns} {E : Gx}
theorem PJ.run {ps : List Expr} {es : Es} (h : PJ X B Φ E ps es) : ∀ {pins : List (Addr × Obj)} {s : Shared} {U : L2.St} {H : Hp} {Q : Hp -> Prop} {out : Str},Inv X pins U H s -> out.length + 100000 * ps.length <= sizeLine -> TM B Φ E es U H Q ->
    wpAny (model X.prog X.w) X.A (joinParts out (evalEach ps X.env)) (EP X pins U fun v H' => ∃ y,v = .str y /\ Q H') X.xe s := by
  induction h with
  | nil =>
    intro pins s U H Q out I hl q
    refine PyProof.Rows.joinParts_nil ⟨.str out,H,I.tok _,⟨_,rfl⟩,out,rfl,q.nil⟩ (by simpa using hl)
  | lit hy _ ih =>
    rename_i y j p r es _
    intro pins s U H Q out I hl q
    simp only [List.length_cons] at hl
    refine PyProof.Rows.joinParts_cons ?_
    refine thn (pe_str pins s U H (fun v H' => v = .str y /\ H' = H) I ⟨rfl,rfl⟩) fun u s1 ⟨v,H1,I1,rv,e1,e2⟩ => ?_
    subst e1 e2
    obtain ⟨t,rfl⟩ := rv
    have hlen : (out ++ y).length <= out.length + 100000 := by rw [strLen_append]; omega
    exact ⟨by omega,ih I1 (by omega) q⟩
  | fld hv _ ih =>
    intro pins s U H Q out I hl q
    simp only [List.length_cons] at hl
    refine PyProof.Rows.joinParts_cons (PyProof.Rows.FormattedValue_plain ?_)
    refine thn (hv pins s U H _ I q.cons) fun u s1 ⟨v,H1,I1,rv,⟨x,e1,e2⟩,q1⟩ => ?_
    subst e1
    obtain ⟨t,rfl⟩ := rv
    refine PyProof.Rows.formatField_str (fun t' tk => ?_) (by omega)
    have hlen : (out ++ x).length <= out.length + 100000 := by rw [strLen_append]; omega
    exact ⟨by omega,ih (I1.tok tk) (by omega) q1⟩
theorem pe_msg {ps : List Expr} {es : Es} {pos : Pos} (h : PJ X B Φ E ps es) (h2 : 2 <= ps.length) (hl : ps.length <= 100) : PE X (.JoinedStr ps pos) (fun U H Q => TM B Φ E es U H fun H' => ∀ y : Str,Q (.str y) H') := by
  intro pins s U H Q I q
  match ps,h2,h,hl with
  | v₁ :: v₂ :: rest,_,h,hl =>
    refine PyProof.Rows.JoinedStr_many ?_
    refine wpAny_mono (h.run (Q := fun H' => ∀ y : Str,Q (.str y) H') I (by
      show 0 + 100000 * (v₁ :: v₂ :: rest).length <= 2 ^ 24
      omega) q) (fun u s1 ⟨v,H1,I1,rv,y,e,q1⟩ => ⟨v,H1,I1,rv,by rw [e]; exact q1 y⟩) fun _ _ z => z
end
section
variable {B : Bd} {Φ : Fns} {E : Gx} {F F' F0 F1 : Addr -> Prop} {ρ ρ' ρ0 ρ1 : List Addr} {H H' H0 H1 : Hp} {M M' M0 : MH} {UD : Sg} {U : L2.St} {Dn : Ends}
theorem sim_raise {c : Nat} {es : Es} {C : Addr} (hc : B.exc c (.ref C)) (h : TC B Φ E (.raise c es) Dn U H) : TM B Φ E es U H fun H' => E.e (.ref C) none U H' := by
  obtain ⟨UD,M,F,ρ,S,r,h⟩ := h
  simp only [ex] at h
  refine ⟨UD,M,F,ρ,S,r,PostG.imp (PostS.use (rel := fun _ _ _ (_ : Unit) (_ : Unit) => True) r h) fun v H1 ⟨x,M1,F1,ρ1,e,S1,rx,h1⟩ => ?_⟩
  exact PostS.run h1 S1 U _ none (r.mono e) hc
def HsR (B : Bd) (Φ : Fns) (E : Gx) (adr : Nat -> Option Addr) : Hs -> Option (List (Addr × TS))
  | .nil => some []
  | .cons [c] b hs => match adr c,HsR B Φ E adr hs with
    | some C,some r => some ((C,TCs B Φ E b) :: r)
    | _,_ => none
  | .cons _ _ _ => none
theorem sim_exh {adr : Nat -> Option Addr} {mro : List Value} {c : Nat} (hsub : ∀ d D,adr d = some D -> mro.contains (.ref D) = Φ.sub c d) : ∀ {hs : Hs} {rs : List (Addr × TS)},HsR B Φ E adr hs = some rs -> SR B F ρ M H -> RS B F ρ H UD U -> PostS B (exh Φ hs c UD M) F ρ H Dn E ->
    ∃ t,pick mro rs = some t /\ t Dn U H
  | .nil,rs,h,S,r,p => by simp only [exh] at p; exact p.elim
  | .cons cs b hs,rs,h,S,r,p => by
    unfold HsR at h
    split at h
    . rename_i heq; cases heq
    . rename_i c' b' hs' heq
      cases heq
      split at h
      . rename_i C r' hC hr
        cases h
        simp only [exh,List.any_cons,List.any_nil,Bool.or_false] at p
        simp only [pick,hsub _ _ hC]
        split at p
        . rename_i hq
          rw [if_pos hq]
          exact ⟨_,rfl,UD,M,F,ρ,S,r,p⟩
        . rename_i hq
          rw [if_neg hq]
          exact sim_exh hsub hr S r p
      . cases h
    . cases h
end
end Fg
end
section
set_option autoImplicit false
namespace Fg
open PySem PySem.Spec L2
def IsIt (l : Bool) (h : Heap) (it a : Addr) (k : Nat) : Prop := match l with | true => h.IsListIter it a k | false => h.IsTupleIter it a k
def IsSq (l : Bool) (h : Heap) (a : Addr) (xs : Array Value) : Prop := match l with | true => h.IsList a xs | false => h.IsTuple a xs
theorem IsIt.at {l : Bool} {h h' : Heap} {it a : Addr} {k : Nat} (x : IsIt l h it a k) (e : ∀ o,h.get? it = some o -> h'.get? it = some o) : IsIt l h' it a k := by
  cases l <;> (obtain ⟨o,h1,h2⟩ := x; exact ⟨o,e o h1,h2⟩)
theorem IsSq.at {l : Bool} {h h' : Heap} {a : Addr} {xs : Array Value} (x : IsSq l h a xs) (e : ∀ o,h.get? a = some o -> h'.get? a = some o) : IsSq l h' a xs := by
  cases l <;> (obtain ⟨o,h1,h2⟩ := x; exact ⟨o,e o h1,h2⟩)
section
variable {prog : Program} {w : World} {A : Around} {E : Value -> Shared -> Prop} {s : Shared}
theorem tup_next {it t : Addr} {i : Nat} {xs : Array Value} {v : Value} {Q : Value -> Shared -> Prop} (it0 : s.heap.IsTupleIter it t i) (tp : s.heap.IsTuple t xs) (hv : xs[i]? = some v)
    (k : ∀ h',h'.IsTupleIter it t (i + 1) -> Heap.SameBut it s.heap h' -> Q v { s with heap := h' }) : wpAny (model prog w) A (Builtin.SmallTypes.nextOf (.ref it)) Q E s := by
  obtain ⟨oi,gi,ci,di⟩ := id it0
  obtain ⟨ot,gt,_,nt,dt⟩ := tp
  unfold Builtin.SmallTypes.nextOf; refine wpAny_bind (wpAny_callSpecial?_slot (name := Str.ofString "__next__") it0.typeIs F.slot_tuple_iterator_next (wpAny_call_entry F.slot_tuple_iterator_next it0.typeIs F.entry_tuple_iterator_next ?_ (F.args_tuple_iterator_next_1 _)))
  show wpAny _ _ (field (.ref it) 0 >>= _) _ _ s; refine wpAny_bind (wpAny_field gi di (x := .ref t) rfl ?_)
  show wpAny _ _ (if (Value.ref t == Value.none) = true then _ else _) _ _ s; rw [if_neg (show ¬ ((Value.ref t == Value.none) = true) from Bool.false_ne_true)]
  show wpAny _ _ (field (.ref it) 1 >>= _) _ _ s; refine wpAny_bind (wpAny_field gi di (x := .int i 0) rfl ?_)
  show wpAny _ _ (seqItems? (.ref t) >>= _) _ _ s; refine wpAny_bind (wpAny_seqItems gt dt ?_)
  simp only [Int.toNat_natCast,hv]; refine wpAny_bind (wpAny_setField gi di (by simp) (wpAny_pure ⟨v,rfl,wpAny_pure (k _ ?_ (Heap.SameBut.update ..))⟩))
  exact ⟨_,Heap.get?_update_self _ gi (Obj.isFreed_of_fields (Obj.data_mapFields di _)),(Obj.cls_mapFields ..).trans ci,by rw [Obj.data_mapFields di]; simp [rawInt]⟩
theorem tup_stop {it t : Addr} {i : Nat} {xs : Array Value} {Q : Value -> Shared -> Prop} (hh : A.handled = none) (it0 : s.heap.IsTupleIter it t i) (tp : s.heap.IsTuple t xs) (hv : xs[i]? = none)
    (k : ∀ h' e, Heap.ExtBut it s.heap h' -> (∃ o, h'.get? e = some o /\ o.cls = .type "StopIteration") -> E (.ref e) { s with heap := h' }) : wpAny (model prog w) A (Builtin.SmallTypes.nextOf (.ref it)) Q E s := by
  obtain ⟨oi,gi,ci,di⟩ := id it0
  obtain ⟨ot,gt,_,nt,dt⟩ := tp
  unfold Builtin.SmallTypes.nextOf; refine wpAny_bind (wpAny_callSpecial?_slot (name := Str.ofString "__next__") it0.typeIs F.slot_tuple_iterator_next (wpAny_call_entry F.slot_tuple_iterator_next it0.typeIs F.entry_tuple_iterator_next ?_ (F.args_tuple_iterator_next_1 _)))
  show wpAny _ _ (field (.ref it) 0 >>= _) _ _ s; refine wpAny_bind (wpAny_field gi di (x := .ref t) rfl ?_)
  show wpAny _ _ (if (Value.ref t == Value.none) = true then _ else _) _ _ s; rw [if_neg (show ¬ ((Value.ref t == Value.none) = true) from Bool.false_ne_true)]
  show wpAny _ _ (field (.ref it) 1 >>= _) _ _ s; refine wpAny_bind (wpAny_field gi di (x := .int i 0) rfl ?_)
  show wpAny _ _ (seqItems? (.ref t) >>= _) _ _ s; refine wpAny_bind (wpAny_seqItems gt dt ?_)
  simp only [Int.toNat_natCast,hv]; refine wpAny_bind (wpAny_rule (wpAny_bind (wpAny_setField gi di (by simp) ?_)))
  show wpAny _ _ (newExc (.type "StopIteration") [] >>= _) _ _ _; refine wpAny_bind ?_
  simp only [newExc,newTuple]; refine wpAny_bind (wpAny_newObj_type ?_ (by size_fits))
  refine wpAny_bind (m := firstArgMember _ _) (wpAny_of_eq (a := Value.none) (by first | rfl | (simp only [firstArgMember]; rfl)) ?_); refine wpAny_newObj_type ?_ (by size_fits)
  simp only [raiseNew]; refine wpAny_bind (wpAny_handled ?_)
  first | rw [show A.in1.handled = none from hh] | rw [hh]
  refine wpAny_bind (wpAny_pure (wpAny_throw ?_)); exact k _ _ (((Heap.SameBut.update ..).extBut.push _).push _) ⟨_,Heap.get?_push_size _ rfl,rfl⟩
theorem sq_next {l : Bool} {it a : Addr} {i : Nat} {xs : Array Value} {v : Value} {Q : Value -> Shared -> Prop} (it0 : IsIt l s.heap it a i) (sq : IsSq l s.heap a xs) (hv : xs[i]? = some v)
    (k : ∀ h',IsIt l h' it a (i + 1) -> Heap.SameBut it s.heap h' -> Q v { s with heap := h' }) : wpAny (model prog w) A (Builtin.SmallTypes.nextOf (.ref it)) Q E s := by
  cases l with
  | true => exact wpAny_nextOf_list_item it0 sq hv k
  | false => exact tup_next it0 sq hv k
theorem sq_stop {l : Bool} {it a : Addr} {i : Nat} {xs : Array Value} {Q : Value -> Shared -> Prop} (hh : A.handled = none) (it0 : IsIt l s.heap it a i) (sq : IsSq l s.heap a xs) (hv : xs[i]? = none)
    (k : ∀ h' e, Heap.ExtBut it s.heap h' -> (∃ o, h'.get? e = some o /\ o.cls = .type "StopIteration") -> E (.ref e) { s with heap := h' }) : wpAny (model prog w) A (Builtin.SmallTypes.nextOf (.ref it)) Q E s := by
  cases l with
  | true => exact wpAny_nextOf_list_end hh it0 sq hv k
  | false => exact tup_stop hh it0 sq hv k
structure Zp (l m : Bool) (h : Heap) (z TI TO i j a b : Addr) (n : Nat) (xs ys : Array Value) (f : Value) : Prop where
  z : IsZip h z TI TO f
  ti : IsPair h TI (.ref i) (.ref j)
  to : ∃ u v,IsPair h TO u v
  i1 : IsIt l h i a n
  i2 : IsIt m h j b n
  s1 : IsSq l h a xs
  s2 : IsSq m h b ys
theorem zip_item {l m : Bool} {z TI TO i j a b : Addr} {n : Nat} {xs ys : Array Value} {x y : Value} {Q : Value -> Shared -> Prop} (D : ZipApart z TI TO i j a b) (Z : Zp l m s.heap z TI TO i j a b n xs ys .none) (hx : xs[n]? = some x) (hy : ys[n]? = some y)
    (k : ∀ h',Zp l m h' z TI TO i j a b (n + 1) xs ys (rawInt s.heap.objs.size) -> IsPair h' s.heap.objs.size x y -> h'.objs.size = s.heap.objs.size + 1 -> (∀ c o,c ≠ z -> c ≠ TO -> c ≠ i -> c ≠ j -> s.heap.get? c = some o -> h'.get? c = some o) -> Q (.ref s.heap.objs.size) { s with heap := h' }) :
    wpAny (model prog w) A (Builtin.«zip.__next__» ⟨[.ref z], []⟩) (fun fin s' => ∃ v, fin = .done (.ret v) /\ Q v s') E s := by
  obtain ⟨gz,gi,⟨u,v,go⟩,t1,t2,q1,q2⟩ := Z
  show wpAny _ _ (field (.ref z) 2 >>= _) _ _ _; refine wpAny_bind (wpAny_field gz rfl (x := .bool false) rfl ?_)
  show wpAny _ _ (field (.ref z) 3 >>= _) _ _ _; refine wpAny_bind (wpAny_field gz rfl (x := .ref TI) rfl (wpAny_bind (wpAny_seqItems gi rfl ?_)))
  show wpAny _ _ (Builtin.SmallTypes.ownedTupleIsFree (.ref z) >>= _) _ _ _; refine wpAny_bind ?_
  unfold Builtin.SmallTypes.ownedTupleIsFree; refine wpAny_bind (wpAny_field gz rfl (x := .none) rfl (wpAny_pure ?_))
  simp only [if_true]; refine wpAny_bind (wpAny_rule (wpAny_bind (wpAny_field gz rfl (x := .ref TO) rfl (wpAny_bind (wpAny_setField_rec gz (by simp) fun h1 z1 b1 => ?_)))))
  replace z1 : IsZip h1 z TI TO .ellipsis := z1
  refine wpAny_bind ?_; simp only [List.zipIdx_cons,List.zipIdx_nil,List.forIn_cons,List.forIn_nil]
  refine wpAny_bind (wpAny_bind (wpAny_onRaise ?_)); show wpAny _ _ (Builtin.SmallTypes.nextOf (.ref i) >>= _) _ _ _
  refine wpAny_bind (sq_next (t1.at fun o e => b1.extBut _ _ D.i1z e) (q1.at fun o e => b1.extBut _ _ D.l1z e) hx fun h2 t1' b2 => wpAny_pure ?_)
  have go2 : IsPair h2 TO u v := b2.extBut _ _ D.TOi1 (b1.extBut _ _ D.TOz go)
  refine wpAny_bind (wpAny_seqItems go2 rfl (wpAny_bind (wpAny_updateSeq_pair go2 fun h3 go3 b3 => wpAny_bind (wpAny_letGo (wpAny_pure ?_)))))
  replace go3 : IsPair h3 TO x v := go3
  refine wpAny_bind (wpAny_bind (wpAny_onRaise ?_)); show wpAny _ _ (Builtin.SmallTypes.nextOf (.ref j) >>= _) _ _ _
  refine wpAny_bind (sq_next (t2.at fun o e => b3.extBut _ _ D.TOi2.symm (b2.extBut _ _ D.i12.symm (b1.extBut _ _ D.i2z e))) (q2.at fun o e => b3.extBut _ _ D.l2TO (b2.extBut _ _ D.l2i1 (b1.extBut _ _ D.l2z e))) hy fun h4 t2' b4 => wpAny_pure ?_)
  have go4 : IsPair h4 TO x v := b4.extBut _ _ D.TOi2 go3
  refine wpAny_bind (wpAny_seqItems go4 rfl (wpAny_bind (wpAny_updateSeq_pair go4 fun h5 go5 b5 => wpAny_bind (wpAny_letGo (wpAny_pure (wpAny_pure ?_))))))
  replace go5 : IsPair h5 TO x y := go5
  refine wpAny_bind (wpAny_seqItems go5 rfl (wpAny_bind (wpAny_newTuple ?_)))
  have sz : h5.objs.size = s.heap.objs.size := by rw [b5.1,b4.1,b3.1,b2.1,b1.1]
  have z5 : IsZip h5 z TI TO .ellipsis := b5.extBut _ _ D.TOz.symm (b4.extBut _ _ D.i2z.symm (b3.extBut _ _ D.TOz.symm (b2.extBut _ _ D.i1z.symm z1)))
  have k5 : ∀ c o,c ≠ z -> c ≠ TO -> c ≠ i -> c ≠ j -> s.heap.get? c = some o -> h5.get? c = some o := fun c o c1 c2 c3 c4 e => b5.extBut _ _ c2 (b4.extBut _ _ c4 (b3.extBut _ _ c2 (b2.extBut _ _ c3 (b1.extBut _ _ c1 e))))
  have e1 : IsIt l h5 i a (n + 1) := t1'.at fun o e => b5.extBut _ _ D.TOi1.symm (b4.extBut _ _ D.i12 (b3.extBut _ _ D.TOi1.symm e))
  have e2 : IsIt m h5 j b (n + 1) := t2'.at fun o e => b5.extBut _ _ D.TOi2.symm e
  show wpAny _ _ (Builtin.SmallTypes.ownedTupleHandOut (.ref z) (.ref h5.objs.size) >>= _) _ _ _; refine wpAny_bind ?_
  unfold Builtin.SmallTypes.ownedTupleHandOut
  have z6 : IsZip (h5.push { cls := .type "tuple", data := .seq #[x, y] }) z TI TO .ellipsis := Heap.get?_push_of_some _ z5
  refine wpAny_bind (wpAny_setField_rec z6 (by simp) fun h7 z7 b7 => ?_)
  replace z7 : IsZip h7 z TI TO (rawInt h5.objs.size) := z7
  refine wpAny_setField_rec z7 (by simp) fun h8 z8 b8 => ?_
  replace z8 : IsZip h8 z TI TO (rawInt h5.objs.size) := z8
  have zl : z < h5.objs.size := Heap.lt_size z5
  have up : ∀ c o,c ≠ z -> h5.get? c = some o -> h8.get? c = some o := fun c o c1 e => b8.extBut _ _ c1 (b7.extBut _ _ c1 (Heap.get?_push_of_some _ e))
  have p8 : IsPair h8 h5.objs.size x y := b8.extBut _ _ (Nat.ne_of_gt zl) (b7.extBut _ _ (Nat.ne_of_gt zl) (Heap.get?_push_size _ rfl))
  have s8 : h8.objs.size = h5.objs.size + 1 := by rw [b8.1,b7.1,Heap.size_push]
  rw [sz] at z8 p8 s8
  refine wpAny_pure ⟨_,rfl,?_⟩
  show Q (.ref h5.objs.size) _
  rw [sz]
  exact k h8 ⟨z8,up _ _ D.TIz (k5 _ _ D.TIz D.TITO D.TIi1 D.TIi2 gi),⟨_,_,up _ _ D.TOz go5⟩,e1.at fun o e => up _ _ D.i1z e,e2.at fun o e => up _ _ D.i2z e,q1.at fun o e => up _ _ D.l1z (k5 _ _ D.l1z D.l1TO D.l1i1 D.l1i2 e),q2.at fun o e => up _ _ D.l2z (k5 _ _ D.l2z D.l2TO D.l2i1 D.l2i2 e)⟩ p8 s8 fun c o c1 c2 c3 c4 e => up c o c1 (k5 c o c1 c2 c3 c4 e)
theorem zip_stop {l m : Bool} {z TI TO i j a b : Addr} {n : Nat} {xs ys : Array Value} {Q : PySem.Fin -> Shared -> Prop} (hh : A.handled = none) (D : ZipApart z TI TO i j a b) (Z : Zp l m s.heap z TI TO i j a b n xs ys .none) (hn : xs[n]? = none \/ ys[n]? = none)
    (k : ∀ h' e, (∀ c o, c ≠ z -> c ≠ TO -> c ≠ i -> c ≠ j -> s.heap.get? c = some o -> h'.get? c = some o) -> (∃ o, h'.get? e = some o /\ o.cls = .type "StopIteration") -> E (.ref e) { s with heap := h' }) :
    wpAny (model prog w) A (Builtin.«zip.__next__» ⟨[.ref z], []⟩) Q E s := by
  obtain ⟨gz,gi,⟨u,v,go⟩,t1,t2,q1,q2⟩ := Z
  show wpAny _ _ (field (.ref z) 2 >>= _) _ _ _; refine wpAny_bind (wpAny_field gz rfl (x := .bool false) rfl ?_)
  show wpAny _ _ (field (.ref z) 3 >>= _) _ _ _; refine wpAny_bind (wpAny_field gz rfl (x := .ref TI) rfl (wpAny_bind (wpAny_seqItems gi rfl ?_)))
  show wpAny _ _ (Builtin.SmallTypes.ownedTupleIsFree (.ref z) >>= _) _ _ _; refine wpAny_bind ?_
  unfold Builtin.SmallTypes.ownedTupleIsFree; refine wpAny_bind (wpAny_field gz rfl (x := .none) rfl (wpAny_pure ?_))
  simp only [if_true]; refine wpAny_bind (wpAny_rule (wpAny_bind (wpAny_field gz rfl (x := .ref TO) rfl (wpAny_bind (wpAny_setField_rec gz (by simp) fun h1 z1 b1 => ?_)))))
  replace z1 : IsZip h1 z TI TO .ellipsis := z1
  refine wpAny_bind ?_; simp only [List.zipIdx_cons,List.zipIdx_nil,List.forIn_cons,List.forIn_nil]
  refine wpAny_bind (wpAny_bind (wpAny_onRaise ?_)); show wpAny _ _ (Builtin.SmallTypes.nextOf (.ref i) >>= _) _ _ _
  have off : ∀ {h : Heap} {e : Addr}, IsZip h z TI TO .ellipsis -> (∃ o, h.get? e = some o /\ o.cls = .type "StopIteration") -> e ≠ z := fun g ⟨o, g1, g2⟩ q => by subst q; rw [g] at g1; cases g1; simp at g2
  cases hx : xs[n]? with
  | none =>
    refine wpAny_bind (sq_stop hh (t1.at fun o e => b1.extBut _ _ D.i1z e) (q1.at fun o e => b1.extBut _ _ D.l1z e) hx fun h2 e b2 he => ?_)
    have z2 : IsZip h2 z TI TO .ellipsis := b2 _ _ D.i1z.symm z1
    obtain ⟨oe,he1,he2⟩ := id he
    exact wpAny_setField_rec z2 (by simp) fun h3 _ b3 => k h3 e (fun c o c1 _ c3 _ q => b3.extBut _ _ c1 (b2 _ _ c3 (b1.extBut _ _ c1 q))) ⟨oe,b3.extBut _ _ (off z2 he) he1,he2⟩
  | some x =>
    have hy : ys[n]? = none := hn.resolve_left (by rw [hx]; simp)
    refine wpAny_bind (sq_next (t1.at fun o e => b1.extBut _ _ D.i1z e) (q1.at fun o e => b1.extBut _ _ D.l1z e) hx fun h2 t1' b2 => wpAny_pure ?_)
    have go2 : IsPair h2 TO u v := b2.extBut _ _ D.TOi1 (b1.extBut _ _ D.TOz go)
    refine wpAny_bind (wpAny_seqItems go2 rfl (wpAny_bind (wpAny_updateSeq_pair go2 fun h3 go3 b3 => wpAny_bind (wpAny_letGo (wpAny_pure ?_)))))
    refine wpAny_bind (wpAny_bind (wpAny_onRaise ?_)); show wpAny _ _ (Builtin.SmallTypes.nextOf (.ref j) >>= _) _ _ _
    refine wpAny_bind (sq_stop hh (t2.at fun o e => b3.extBut _ _ D.TOi2.symm (b2.extBut _ _ D.i12.symm (b1.extBut _ _ D.i2z e))) (q2.at fun o e => b3.extBut _ _ D.l2TO (b2.extBut _ _ D.l2i1 (b1.extBut _ _ D.l2z e))) hy fun h4 e b4 he => ?_)
    have z4 : IsZip h4 z TI TO .ellipsis := b4 _ _ D.i2z.symm (b3.extBut _ _ D.TOz.symm (b2.extBut _ _ D.i1z.symm z1))
    obtain ⟨oe,he1,he2⟩ := id he
    exact wpAny_setField_rec z4 (by simp) fun h5 _ b5 => k h5 e (fun c o c1 c2 c3 c4 q => b5.extBut _ _ c1 (b4 _ _ c4 (b3.extBut _ _ c2 (b2.extBut _ _ c3 (b1.extBut _ _ c1 q))))) ⟨oe,b5.extBut _ _ (off z4 he) he1,he2⟩
end
end Fg
end
section
set_option autoImplicit false
namespace Fg
open PySem PySem.Spec L2
section
variable {X : Cx} {pins : List (Addr × Obj)} {U : L2.St} {H : Hp} {s : Shared} {h' : Heap}
theorem turnL {t' : Nat} {ch : List Addr} (I : Inv X pins U H s) (f : ∀ b ∈ ch,FpOk X pins H b) (k : ∀ b o,b ∉ ch -> s.heap.get? b = some o -> h'.get? b = some o) : Inv X pins U H { s with heap := h',toks := t' } := by
  have off : ∀ b u,H b = some u -> b ∉ ch := fun b u e z => by rw [(f b z).1] at e; cases e
  refine I.step (g' := s.gens) (d' := s.drawn) (ch := ch) (fun b hb => ?_) (fun b o _ _ hc e _ => k b o hc e) (fun b o _ _ hc e _ => ⟨o.slots,k b o hc e⟩) (fun _ _ _ _ n => n) (fun b o hc e => ⟨o,k b o hc e⟩) (fun _ _ e => e) (fun _ _ _ e => e) (fun b ps e => ⟨#[],by rw [e]; simp⟩) (fun m hm => ?_) (fun b u e => ?_) I.bare
  . obtain ⟨_,f1,_,f3,f4,f5⟩ := f b hb
    exact ⟨f3,f1,f4,f5⟩
  . obtain ⟨o,es,ep,ho,r⟩ := hm
    exact ⟨o,es,ep,k _ o (fun z => (f _ z).2.1 rfl) ho,r⟩
  . refine (I.hok b u e).stay (fun c v hc q => k c v ?_ q) (fun _ q => q) fun _ _ q => q
    rcases hc with z | z
    . rw [z]; exact off b u e
    . exact off c _ z
theorem track {a : Addr} {o : HO} (I : Inv X pins U H s) (f : FpOk X pins H a) (new : ObjOk X.prog X.w (upd H a o) s.heap a o) : Inv X pins U (upd H a o) s := by
  obtain ⟨f0,f1,f2,f3,f4,f5⟩ := f
  have ne : ∀ b u,H b = some u -> b ≠ a := fun b u e z => by rw [z,f0] at e; cases e
  refine I.step (g' := s.gens) (d' := s.drawn) (t' := s.toks) (h' := s.heap) (ch := [a]) (fun b hb => ?_) (fun b o _ _ _ e _ => e) (fun b o _ _ _ e _ => ⟨o.slots,e⟩) (fun b o hc _ n => by rw [upd_ne (by simpa using hc)]; exact n) (fun b o _ e => ⟨o,e⟩) (fun b xs e => by rw [upd_ne (ne b _ e)]; exact e) (fun b o u e => by rw [upd_ne (ne b _ e)]; exact e) (fun b ps e => ⟨#[],by rw [upd_ne (ne b _ e),e]; simp⟩) (fun m hm => hm) (fun b u e => ?_) I.bare
  . have e : b = a := by simpa using hb
    subst e
    exact ⟨f3,f1,f4,f5⟩
  . by_cases hb : b = a
    . subst hb; rw [upd_same] at e; cases e; exact new
    . rw [upd_ne hb] at e
      exact (I.hok b u e).stay (fun c v _ q => q) (fun c q => by rw [upd_ne (ne c _ q)]; exact q) fun c xs q => by rw [upd_ne (ne c _ q)]; exact q
end
def itO (l : Bool) (a : Addr) : Obj := { cls := .type (match l with | true => "list_iterator" | false => "tuple_iterator"), data := .fields #[.ref a, .int 0 0] }
abbrev zg2 (h : Heap) (l m : Bool) (a b : Addr) : Heap := (h.push (itO l a)).push (itO m b)
abbrev zg3 (h : Heap) (l m : Bool) (a b : Addr) : Heap := (zg2 h l m a b).push { cls := .type "tuple", data := .seq #[.ref h.objs.size, .ref (h.push (itO l a)).objs.size] }
abbrev zg4 (h : Heap) (l m : Bool) (a b : Addr) : Heap := (zg3 h l m a b).push { cls := .type "tuple", data := .seq #[.none, .none] }
abbrev zg5 (h : Heap) (l m : Bool) (a b : Addr) : Heap := (zg4 h l m a b).push { cls := .type "zip", data := .fields #[.none, .bool false, .bool false, .ref (zg2 h l m a b).objs.size, .ref (zg3 h l m a b).objs.size] }
set_option maxHeartbeats 4000000 in
theorem zip_meets (l m : Bool) (a b : Addr) (xs ys : Array Value) : Meets (Builtin.«zip.__new__» ⟨[.type "zip", .ref a, .ref b], []⟩) (fun _ R s => IsSq l s.heap a xs /\ IsSq m s.heap b ys /\ R (.ok (.ret (.ref (zg4 s.heap l m a b).objs.size))) { s with heap := zg5 s.heap l m a b }) :=
  .of_wp fun prog w A R s h => by
    obtain ⟨hp,g,d,tk,os⟩ := s
    obtain ⟨q1,q2,h⟩ := h
    have hsub := sub_zip
    have q2' : IsSq m (hp.push (itO l a)) b ys := q2.at fun o e => Heap.get?_push_of_some _ e
    rcases l with _ | _ <;> rcases m with _ | _ <;> simp only [zg5,zg4,zg3,zg2,itO] at h
    . have u1 : Heap.IsTuple (Shared.heap ⟨hp,g,d,tk,os⟩) a xs := q1
      have u2 : Heap.IsTuple (Shared.heap ⟨hp.push { cls := .type "tuple_iterator", data := .fields #[.ref a, .int 0 0] }, g, d, tk, os⟩) b ys := q2'
      wp_walk using wpAny_pyIter_tuple u1,wpAny_pyIter_tuple u2
      exact ⟨_,rfl,h⟩
    . have u1 : Heap.IsTuple (Shared.heap ⟨hp,g,d,tk,os⟩) a xs := q1
      have u2 : Heap.IsList (Shared.heap ⟨hp.push { cls := .type "tuple_iterator", data := .fields #[.ref a, .int 0 0] }, g, d, tk, os⟩) b ys := q2'
      wp_walk using wpAny_pyIter_tuple u1,wpAny_pyIter_list u2
      exact ⟨_,rfl,h⟩
    . have u1 : Heap.IsList (Shared.heap ⟨hp,g,d,tk,os⟩) a xs := q1
      have u2 : Heap.IsTuple (Shared.heap ⟨hp.push { cls := .type "list_iterator", data := .fields #[.ref a, .int 0 0] }, g, d, tk, os⟩) b ys := q2'
      wp_walk using wpAny_pyIter_list u1,wpAny_pyIter_tuple u2
      exact ⟨_,rfl,h⟩
    . have u1 : Heap.IsList (Shared.heap ⟨hp,g,d,tk,os⟩) a xs := q1
      have u2 : Heap.IsList (Shared.heap ⟨hp.push { cls := .type "list_iterator", data := .fields #[.ref a, .int 0 0] }, g, d, tk, os⟩) b ys := q2'
      wp_walk using wpAny_pyIter_list u1,wpAny_pyIter_list u2
      exact ⟨_,rfl,h⟩
structure Zt (l m : Bool) (z TI TO i j a b : Addr) (n : Nat) (h : Heap) : Prop where
  z : IsZip h z TI TO .none
  ti : IsPair h TI (.ref i) (.ref j)
  to : ∃ u v,IsPair h TO u v
  i1 : IsIt l h i a n
  i2 : IsIt m h j b n
section
variable {prog : Program} {w : World} {A : Around} {E : Value -> Shared -> Prop} {s : Shared}
theorem zip_call {l m : Bool} {a b : Addr} {xs ys : Array Value} {Q : Value -> Shared -> Prop} (q1 : IsSq l s.heap a xs) (q2 : IsSq m s.heap b ys)
    (k : ∀ h',Zt l m (s.heap.objs.size + 4) (s.heap.objs.size + 2) (s.heap.objs.size + 3) s.heap.objs.size (s.heap.objs.size + 1) a b 0 h' -> (∀ c o,s.heap.get? c = some o -> h'.get? c = some o) -> Q (.ref (s.heap.objs.size + 4)) { s with heap := h' }) :
    wpAny (model prog w) A (call (.type "zip") [.ref a, .ref b]) Q E s := by
  refine callType_new F.called_zip (by decide) (F.typeCall_zip_2 _ _) (F.newCall_zip_2 _ _) (fun obj => F.args_object_init_3 obj _ _) F.entry_zip_new (zip_meets l m a b xs ys) ⟨q1,q2,?_⟩
  have n1 : (s.heap.push (itO l a)).objs.size = s.heap.objs.size + 1 := Heap.size_push ..
  have n2 : (zg2 s.heap l m a b).objs.size = s.heap.objs.size + 2 := by rw [Heap.size_push,n1]
  have n3 : (zg3 s.heap l m a b).objs.size = s.heap.objs.size + 3 := by rw [Heap.size_push,n2]
  have n4 : (zg4 s.heap l m a b).objs.size = s.heap.objs.size + 4 := by rw [Heap.size_push,n3]
  have g5 : (zg5 s.heap l m a b).get? (zg4 s.heap l m a b).objs.size = some _ := Heap.get?_push_size _ rfl
  have g4 : (zg5 s.heap l m a b).get? (zg3 s.heap l m a b).objs.size = some _ := Heap.get?_push_of_some _ (Heap.get?_push_size _ rfl)
  have g3 : (zg5 s.heap l m a b).get? (zg2 s.heap l m a b).objs.size = some _ := Heap.get?_push_of_some _ (Heap.get?_push_of_some _ (Heap.get?_push_size _ rfl))
  have g2 : (zg5 s.heap l m a b).get? (s.heap.push (itO l a)).objs.size = some (itO m b) := Heap.get?_push_of_some _ (Heap.get?_push_of_some _ (Heap.get?_push_of_some _ (Heap.get?_push_size _ rfl)))
  have g1 : (zg5 s.heap l m a b).get? s.heap.objs.size = some (itO l a) := Heap.get?_push_of_some _ (Heap.get?_push_of_some _ (Heap.get?_push_of_some _ (Heap.get?_push_of_some _ (Heap.get?_push_size _ rfl))))
  show _ /\ _
  rw [n2,n3,n4] at g5
  rw [n1,n2] at g3
  rw [n3] at g4
  rw [n1] at g2
  rw [n4]
  have mk : ∀ (l : Bool) (it c : Addr),(zg5 s.heap l m a b).get? it = some (itO l c) -> True := fun _ _ _ _ => trivial
  refine ⟨⟨_,g5,rfl⟩,k _ ⟨g5,g3,⟨_,_,g4⟩,?_,?_⟩ fun c o x => Heap.get?_push_of_some _ (Heap.get?_push_of_some _ (Heap.get?_push_of_some _ (Heap.get?_push_of_some _ (Heap.get?_push_of_some _ x))))⟩
  . cases l <;> exact ⟨_,g1,rfl,rfl⟩
  . cases m <;> exact ⟨_,g2,rfl,rfl⟩
theorem zip_next {l m : Bool} {z TI TO i j a b : Addr} {n : Nat} {xs ys : Array Value} {x y : Value} {Q : Option Value -> Shared -> Prop} (D : ZipApart z TI TO i j a b) (Z : Zt l m z TI TO i j a b n s.heap) (q1 : IsSq l s.heap a xs) (q2 : IsSq m s.heap b ys) (hx : xs[n]? = some x) (hy : ys[n]? = some y)
    (k : ∀ h',Zp l m h' z TI TO i j a b (n + 1) xs ys (rawInt s.heap.objs.size) -> IsPair h' s.heap.objs.size x y -> h'.objs.size = s.heap.objs.size + 1 -> (∀ c o,c ≠ z -> c ≠ TO -> c ≠ i -> c ≠ j -> s.heap.get? c = some o -> h'.get? c = some o) -> Q (some (.ref s.heap.objs.size)) { s with heap := h' }) :
    wpAny (model prog w) A (pyNext (.ref z)) Q E s := by
  have ty : s.TypeIs (.ref z) "zip" := ⟨_, Z.z, rfl⟩
  unfold pyNext; exact wpAny_bind (wpAny_attempt (wpAny_callSpecial?_slot (name := Str.ofString "__next__") ty F.slot_zip_next (wpAny_call_entry F.slot_zip_next ty F.entry_zip_next (zip_item D ⟨Z.z, Z.ti, Z.to, Z.i1, Z.i2, q1, q2⟩ hx hy fun h' c1 c2 c3 c4 => wpAny_pure (k h' c1 c2 c3 c4)) (F.args_zip_next_1 _))))
theorem zip_done {l m : Bool} {z TI TO i j a b : Addr} {n : Nat} {xs ys : Array Value} {Q : Option Value -> Shared -> Prop} (hh : A.handled = none) (D : ZipApart z TI TO i j a b) (Z : Zt l m z TI TO i j a b n s.heap) (q1 : IsSq l s.heap a xs) (q2 : IsSq m s.heap b ys) (hn : xs[n]? = none \/ ys[n]? = none)
    (k : ∀ h',(∀ c o,c ≠ z -> c ≠ TO -> c ≠ i -> c ≠ j -> s.heap.get? c = some o -> h'.get? c = some o) -> Q none { s with heap := h' }) : wpAny (model prog w) A (pyNext (.ref z)) Q E s := by
  have ty : s.TypeIs (.ref z) "zip" := ⟨_, Z.z, rfl⟩
  unfold pyNext; refine wpAny_bind (wpAny_attempt (wpAny_callSpecial?_slot (name := Str.ofString "__next__") ty F.slot_zip_next (wpAny_call_entry F.slot_zip_next ty F.entry_zip_next (zip_stop hh D ⟨Z.z, Z.ti, Z.to, Z.i1, Z.i2, q1, q2⟩ hn fun h' e hk he => ?_) (F.args_zip_next_1 _))))
  obtain ⟨o,ho,hc⟩ := he
  exact wpAny_bind (wpAny_isInstance (T := "StopIteration") (b := true) ⟨o, ho, hc⟩ isSubtype_stop (wpAny_pure (k _ hk)))
end
def SqB (l : Bool) (K : W.Frag) (H : Hp) (a : Addr) (xs : List V) : Prop := match l with | true => SqL K H a xs | false => SqT K H a xs
theorem SqB.at {l : Bool} {X : Cx} {pins : List (Addr × Obj)} {U : L2.St} {H : Hp} {s : Shared} {a : Addr} {xs : List V} (I : Inv X pins U H s) (q : SqB l X.K H a xs) : ∃ its : List Value,Vals xs its /\ IsSq l s.heap a its.toArray := by
  cases l with
  | true => obtain ⟨its,rv,p,_⟩ := I.list q; exact ⟨its,rv,p.isList⟩
  | false => obtain ⟨its,rv,p,_⟩ := I.tuple q; exact ⟨its,rv,p⟩
theorem SqB.inj {l : Bool} {X : Cx} {pins : List (Addr × Obj)} {U : L2.St} {H : Hp} {s : Shared} {a : Addr} {xs ys : List V} (I : Inv X pins U H s) (q : SqB l X.K H a xs) (q' : SqB l X.K H a ys) : xs = ys := by
  cases l with
  | true => exact I.list_inj q q'
  | false => exact I.tuple_inj q q'
def Itz (l m : Bool) (K : W.Frag) (a b : Addr) : It :=
  ⟨fun i H => ∃ xs ys x y,SqB l K H a xs /\ SqB m K H b ys /\ xs[i]? = some x /\ ys[i]? = some y,
   fun i H v H' => ∃ T x y,v = .ref T /\ H T = none /\ H' = upd H T (.tup [x,y]) /\ (∀ xs,SqB l K H a xs -> xs[i]? = some x) /\ ∀ ys,SqB m K H b ys -> ys[i]? = some y,
   fun i H => ∃ xs ys,SqB l K H a xs /\ SqB m K H b ys /\ (xs.length <= i \/ ys.length <= i)⟩
theorem turn_zip {P : Program} {w : World} {K : W.Frag} {elts : List Expr} {k1 : Nat} {pos : Pos} {l m : Bool} {z TI TO i j a b : Addr} (D : ZipApart z TI TO i j a b) : Turn P w K (.Tuple elts k1 pos) (Itz l m K a b) [z,TI,TO,i,j] z (fun n h => Zt l m z TI TO i j a b n h) where
  mem := by simp
  obj := fun n h st c hc => by
    obtain ⟨gz,gi,⟨u,v,go⟩,t1,t2⟩ := st
    simp only [List.mem_cons,List.not_mem_nil,or_false] at hc
    rcases hc with rfl | rfl | rfl | rfl | rfl
    . exact ⟨_,gz,fun v e => by cases (show Data.fields _ = Data.cell v from e)⟩
    . exact ⟨_,gi,fun v e => by cases (show Data.seq _ _ = Data.cell v from e)⟩
    . exact ⟨_,go,fun v e => by cases (show Data.seq _ _ = Data.cell v from e)⟩
    . cases l <;> (obtain ⟨o,e,c,d⟩ := t1; exact ⟨o,e,fun v z => by rw [d] at z; cases z⟩)
    . cases m <;> (obtain ⟨o,e,c,d⟩ := t2; exact ⟨o,e,fun v z => by rw [d] at z; cases z⟩)
  keep := fun n h h' st k => by
    obtain ⟨gz,gi,⟨u,v,go⟩,t1,t2⟩ := st
    exact ⟨k z (by simp) _ gz,k TI (by simp) _ gi,⟨u,v,k TO (by simp) _ go⟩,t1.at fun o e => k i (by simp) o e,t2.at fun o e => k j (by simp) o e⟩
  item := by
    intro X hP hw hK hc n pins s U H E I hf st hg
    subst hP hw hK
    obtain ⟨xs,ys,x,y,q1,q2,hx,hy⟩ := hg
    obtain ⟨its,rv,p1⟩ := q1.at I
    obtain ⟨jts,rw_,p2⟩ := q2.at I
    obtain ⟨u,hu,ru⟩ := rv.get hx
    obtain ⟨v,hv,rv'⟩ := rw_.get hy
    have fT : FpOk X pins H s.heap.objs.size := I.fpOk (Nat.le_refl _) (I.hok.fresh (Nat.le_refl _))
    refine zip_next D st p1 p2 (x := u) (y := v) (by simpa using hu) (by simpa using hv) fun h1 Z pT sz kp => ⟨_,rfl,?_⟩
    refine wpAny_letOwnedTupleGo_zip Z.z fun h2 z2 b2 => ?_
    have zl : z < s.heap.objs.size := Heap.lt_size st.z
    have keep : ∀ c o,c ∉ [z,TO,i,j] -> s.heap.get? c = some o -> h2.get? c = some o := fun c o hc e => b2.extBut _ _ (fun q => hc (by simp [q])) (kp c o (fun q => hc (by simp [q])) (fun q => hc (by simp [q])) (fun q => hc (by simp [q])) (fun q => hc (by simp [q])) e)
    have sub : ∀ c ∈ [z,TO,i,j],c ∈ [z,TI,TO,i,j] := fun c hc => by simp at hc ⊢; rcases hc with q | q | q | q <;> simp [q]
    have I2 : Inv X pins U H { s with heap := h2 } := turnL (t' := s.toks) I (fun c hc => hf c (sub c hc)) keep
    have gT : IsPair h2 s.heap.objs.size u v := b2.extBut _ _ (Nat.ne_of_gt zl) pT
    have I3 : Inv X pins U (upd H s.heap.objs.size (.tup [x,y])) { s with heap := h2 } := track I2 fT ⟨by show 2 <= 2 ^ 24; decide,[u,v],.cons ru (.cons rv' .nil),⟨_,gT,rfl,_,rfl⟩⟩
    refine ⟨.ref s.heap.objs.size,_,I3,rfl,⟨_,x,y,rfl,fT.1,rfl,fun xs' q => by rw [q.inj I q1]; exact hx,fun ys' q => by rw [q.inj I q2]; exact hy⟩,⟨z2,b2.extBut _ _ D.TIz Z.ti,let ⟨u,v,g⟩ := Z.to; ⟨u,v,b2.extBut _ _ D.TOz g⟩,Z.i1.at fun o e => b2.extBut _ _ D.i1z e,Z.i2.at fun o e => b2.extBut _ _ D.i2z e⟩,fun c hc => ?_⟩
    have lt : ∀ c ∈ [z,TI,TO,i,j],c < s.heap.objs.size := fun c hc => by
      obtain ⟨gz,gi,⟨u,v,go⟩,t1,t2⟩ := id st
      simp only [List.mem_cons,List.not_mem_nil,or_false] at hc
      rcases hc with q | q | q | q | q <;> subst q
      . exact zl
      . exact Heap.lt_size gi
      . exact Heap.lt_size go
      . cases l <;> (obtain ⟨o,e,_⟩ := t1; exact Heap.lt_size e)
      . cases m <;> (obtain ⟨o,e,_⟩ := t2; exact Heap.lt_size e)
    rw [upd_ne (Nat.ne_of_lt (lt c hc))]
    exact (hf c hc).1
  done := by
    intro X hP hw hK hc n pins s U H E I hf st hg
    subst hP hw hK
    obtain ⟨xs,ys,q1,q2,hn⟩ := hg
    obtain ⟨its,rv,p1⟩ := q1.at I
    obtain ⟨jts,rw_,p2⟩ := q2.at I
    have l1 := rv.length
    have l2 := rw_.length
    refine zip_done (I.ok.hd hc) D st p1 p2 (hn.imp (fun q => by simp; omega) fun q => by simp; omega) fun h1 kp => ⟨rfl,?_⟩
    have sub : ∀ c ∈ [z,TO,i,j],c ∈ [z,TI,TO,i,j] := fun c hc => by simp at hc ⊢; rcases hc with q | q | q | q <;> simp [q]
    exact turnL (t' := s.toks) I (fun c hc => hf c (sub c hc)) fun c o hc e => kp c o (fun q => hc (by simp [q])) (fun q => hc (by simp [q])) (fun q => hc (by simp [q])) (fun q => hc (by simp [q])) e
  self := fun _ _ _ _ _ st h => wpAny_pyIter_zip st.z h
def iZip (K : W.Frag) (t : TA) : TI := fun U H R => t U H fun vs H1 => ∃ l m a b xs ys,vs = [.ref a,.ref b] /\ SqB l K H1 a xs /\ SqB m K H1 b ys /\ R (Itz l m K a b) H1
theorem sq_ne {l : Bool} {h : Heap} {a : Addr} {xs : Array Value} (q : IsSq l h a xs) : a < h.objs.size := by
  cases l <;> (obtain ⟨o,e,_⟩ := q; exact Heap.lt_size e)
theorem apart_of {n c d : Nat} (h1 : c < n) (h2 : d < n) : ZipApart (n + 4) (n + 2) (n + 3) n (n + 1) c d := by
  constructor <;> (intro (e : (_ : Nat) = _); omega)
theorem pi_zip {X : Cx} {a b : Expr} {t : TA} {p pos pt : Pos} {elts : List Expr} {k1 : Nat} (hg : Gl X "zip") (hm : X.mg "zip" = none) (ha : PA X [a, b] t) (hs : starEach [a, b] X.env = [(false, eval a X.env), (false, eval b X.env)]) (hs2 : starEach [b] X.env = [(false, eval b X.env)]) :
    PI X (.Tuple elts k1 pt) (.Call (.Name "zip" p) [a, b] [] pos) (iZip X.K t) := by
  intro pins s U H R I h
  refine PyProof.Rows.Call_ (ld_blt I hg hm (show bootBuiltins ("zip" : Str) = some (.type "zip") by decide +kernel) (PyProof.Rows.callWith_type1 (thn (ha pos pins s U H _ I h) fun us s1 ⟨vs, H1, I1, r1, q1⟩ => ?_) (by rw [hs, hs2]) (by rw [hs2]; rfl)))
  obtain ⟨l,m,c,d,xs,ys,e,s1',s2',q⟩ := q1
  subst e
  cases r1 with
  | cons r rr =>
    cases rr with
    | cons r' rr =>
      cases rr
      cases r
      cases r'
      obtain ⟨its,rv,p1⟩ := s1'.at I1
      obtain ⟨jts,rw_,p2⟩ := s2'.at I1
      have c1 := sq_ne p1
      have c2 := sq_ne p2
      refine zip_call p1 p2 fun h' Z kp => ?_
      have I2 : Inv X pins U H1 { s1 with heap := h' } := I1.kept (t' := s1.toks) kp
      refine wpAny_pyIter_zip Z.z ⟨_,[s1.heap.objs.size + 4,s1.heap.objs.size + 2,s1.heap.objs.size + 3,s1.heap.objs.size,s1.heap.objs.size + 1],_,_,H1,rfl,I2,turn_zip (apart_of c1 c2),Z,fun x hx => ?_,q⟩
      have ge : s1.heap.objs.size <= x := by
        simp only [List.mem_cons,List.not_mem_nil,or_false] at hx
        rcases hx with rfl | rfl | rfl | rfl | rfl
        . exact Nat.le_add_right _ _
        . exact Nat.le_add_right _ _
        . exact Nat.le_add_right _ _
        . exact Nat.le_refl _
        . exact Nat.le_add_right _ _
      exact I1.fpOk ge (I1.hok.fresh ge)
section
variable {B : Bd} {Φ : Fns} {E : Gx} {F F' F0 F1 : Addr -> Prop} {ρ ρ' ρ0 ρ1 : List Addr} {H H' H0 H1 : Hp} {M M' M0 : MH} {UD : Sg} {U : L2.St} {Q : VK} {Dn : Ends}
theorem frzn_sq {d : D} {v : V} {ds : List D} (h : frzn d = some ds) (r : RD B F ρ H d v) : ∃ l a vs,v = .ref a /\ SqB l B.K H a vs /\ RDs B F ρ H ds vs /\ ∀ F' ρ' H',Ext F ρ H F' ρ' H' -> SqB l B.K H' a vs /\ RDs B F' ρ' H' ds vs := by
  cases d with
  | tup xs =>
    cases h
    have r0 := r
    simp only [RD] at r
    obtain ⟨a,vs,e,z,q⟩ := r
    refine ⟨false,a,vs,e,z.sq,q,fun F' ρ' H' ex => ⟨?_,RDs.mono ex _ _ q⟩⟩
    rcases z with ⟨f,z⟩ | z
    . exact .inl (ex.toExt0.ex1.rd f z)
    . exact .inr z
  | lst xs =>
    cases h
    simp only [RD] at r
    obtain ⟨a,vs,e,z,q⟩ := r
    refine ⟨true,a,vs,e,z.sq,q,fun F' ρ' H' ex => ⟨?_,RDs.mono ex _ _ q⟩⟩
    rcases z with ⟨f,z⟩ | z
    . exact .inl (ex.toExt0.ex1.rd f z)
    . exact .inr z
  | non => cases h
  | bl _ => cases h
  | int _ => cases h
  | str _ => cases h
  | dct _ _ => cases h
  | ref _ => cases h
theorem zips_get {ds es : List D} {i : Nat} {d : D} (h : (zips ds es)[i]? = some d) : ∃ x y,ds[i]? = some x /\ es[i]? = some y /\ d = .tup [x,y] := by
  unfold zips at h
  rw [List.getElem?_map] at h
  cases hz : (ds.zip es)[i]? with
  | none => rw [hz] at h; cases h
  | some p =>
    rw [hz] at h
    cases h
    obtain ⟨h1,h2⟩ := List.getElem?_zip_eq_some.mp hz
    exact ⟨p.1,p.2,h1,h2,rfl⟩
theorem sim_zip {a b : Fg.E} {Rr : It -> Hp -> Prop} (h : TIt B Φ E (.zip a b) U H Rr) : iZip B.K (tCons (T B Φ E a) (tCons (T B Φ E b) tNil)) U H Rr := by
  obtain ⟨UD,M,F,ρ,S,r,h⟩ := h
  show T B Φ E a U H fun v H1 => T B Φ E b U H1 fun w H2 => ∃ l m c d xs ys,[v,w] = [.ref c,.ref d] /\ SqB l B.K H2 c xs /\ SqB m B.K H2 d ys /\ Rr (Itz l m B.K c d) H2
  refine ⟨UD,M,F,ρ,S,r,?_⟩
  cases hx : ev Φ a UD M with
  | exc c M1 => have he : evi Φ (.zip a b) UD M = .exc c M1 := by simp only [evi,hx,R.bind_exc]
                rw [he] at h; exact h
  | bad => have he : evi Φ (.zip a b) UD M = .bad := by simp only [evi,hx,R.bind_bad]
           rw [he] at h; exact h
  | ok x M1 =>
    intro F1 ρ1 H1 v e1 S1 rx
    refine ⟨UD,M1,F1,ρ1,S1,r.mono e1,?_⟩
    cases hy : ev Φ b UD M1 with
    | exc c M2 =>
      have he : evi Φ (.zip a b) UD M = .exc c M2 := by simp only [evi,hx,hy,R.bind_ok,R.bind_exc]
      rw [he] at h
      exact fun F' ρ' H' cv x e' S r => h F' ρ' H' cv x (e1.trans e') S r
    | bad => have he : evi Φ (.zip a b) UD M = .bad := by simp only [evi,hx,hy,R.bind_ok,R.bind_bad]
             rw [he] at h; exact h.elim
    | ok y M2 =>
      intro F2 ρ2 H2 w e2 S2 ry
      have rx2 := RD.mono e2 _ _ rx
      cases hfx : frzn x with
      | none => have he : evi Φ (.zip a b) UD M = .bad := by simp [evi,hx,hy,hfx]
                rw [he] at h; exact h.elim
      | some ds =>
        cases hfy : frzn y with
        | none => have he : evi Φ (.zip a b) UD M = .bad := by simp [evi,hx,hy,hfx,hfy]
                  rw [he] at h; exact h.elim
        | some es =>
          have he : evi Φ (.zip a b) UD M = .ok (.non,zips ds es,false) M2 := by simp [evi,hx,hy,hfx,hfy]
          rw [he] at h
          obtain ⟨l,c,xs,rfl,q1,rd1,k1⟩ := frzn_sq hfx rx2
          obtain ⟨m,d,ys,rfl,q2,rd2,k2⟩ := frzn_sq hfy ry
          refine ⟨l,m,c,d,xs,ys,rfl,q1,q2,h F2 ρ2 H2 _ (e1.trans e2) S2 fun M' hM S' => ?_⟩
          cases hM
          refine ⟨fun i F ρ M H ex S _ => ⟨fun d0 hd => ?_,fun hl => ?_⟩,fun z => by cases z⟩
          . obtain ⟨u,v,hu,hv,rfl⟩ := zips_get hd
            obtain ⟨q1',r1'⟩ := k1 _ _ _ ex
            obtain ⟨q2',r2'⟩ := k2 _ _ _ ex
            obtain ⟨u',hu',ru⟩ := RDs.get r1' hu
            obtain ⟨v',hv',rv⟩ := RDs.get r2' hv
            refine ⟨⟨xs,ys,u',v',q1',q2',hu',hv'⟩,fun z H' hz => ?_⟩
            obtain ⟨T,x',y',rfl,hT,rfl,z1,z2⟩ := hz
            have ex' := z1 xs q1'
            have ey' := z2 ys q2'
            rw [hu'] at ex'
            rw [hv'] at ey'
            cases ex'
            cases ey'
            obtain ⟨S3,e3⟩ := S.fz hT (.tup [u',v'])
            refine ⟨_,e3,S3,?_⟩
            simp only [RD]
            exact ⟨T,[u',v'],rfl,.inl ⟨.inr rfl,.inl upd_same⟩,RDs.cons (RD.mono e3 _ _ ru) (RDs.cons (RD.mono e3 _ _ rv) RDs.nil)⟩
          . obtain ⟨q1',r1'⟩ := k1 _ _ _ ex
            obtain ⟨q2',r2'⟩ := k2 _ _ _ ex
            refine ⟨xs,ys,q1',q2',?_⟩
            have h1 := RDs.length r1'
            have h2 := RDs.length r2'
            unfold zips at hl
            simp only [List.length_map,List.length_zip] at hl
            omega
end
end Fg
end
section
set_option autoImplicit false
namespace Fg
open PySem PySem.Spec L2
structure Gm where
  fns : List (Str × Nat × Nat)
  cst : List (Str × Nat)
  blts : List Str
  cls : List (Str × Nat × Nat × Nat) := []
  mts : List ((Nat × Str) × Nat × Nat) := []
  flds : List Str := []
  exc : List (Str × Nat) := []
  rz : Bool := true
inductive Nd where
  | e (a : Expr) (c : E)
  | t (a : Expr) (c : E)
  | es (a : List Expr) (c : Es)
  | o (a : Option Expr) (c : O)
  | i (a : Expr) (c : Src)
  | s (a : Stmt) (c : S)
  | ss (a : List Stmt) (c : Ss)
  | m (a : List Expr) (c : Es)
def nD (x : Str) : Bool := !(x == ("__debug__" : Str)) && !(x == ("__classdict__" : Str))
def visB (sc : Scope) (x : Str) : Bool := match sc.names.lookup x with | some .local => true | some .cell => true | some .free => true | _ => false
def locB (sc : Scope) (x : Str) : Bool := match sc.names.lookup x with | some .local => true | some .cell => true | _ => false
def gloB (sc : Scope) (x : Str) : Bool := match sc.names.lookup x with | some .globalImplicit => true | _ => false
def nStar : Expr -> Bool | .Starred _ _ => false | _ => true
def nComp : Expr -> Bool | .ListComp _ _ _ _ => false | .SetComp _ _ _ _ => false | .DictComp _ _ _ _ _ => false | _ => true
def nSet : Expr -> Bool | .Set _ _ _ => false | _ => true
def nSl : Expr -> Bool | .Slice _ _ _ _ => false | _ => true
def nTst : Expr -> Bool | .UnaryOp _ _ _ => false | .BoolOp _ _ _ => false | .IfExp _ _ _ _ => false | .Compare _ _ _ _ => false | _ => true
def nCal : Expr -> Bool | .Call _ _ _ _ => false | _ => true
def cstB : Const -> D -> Bool
  | .int i,.int j => decide (i = j)
  | .str x,.str y => decide (x = y)
  | .bool a,.bl b => decide (a = b)
  | .none,.non => true
  | _,_ => false
def bltS : Bl -> Option Str
  | .len => some "len" | .sum => some "sum" | .tuple => some "tuple" | .list => some "list" | .dict => some "dict" | _ => none
def relS (scope sc : Scope) : Scope :=
  { scope with names := scope.names.map fun (n,k) => if (k == .free && sc.kind == .function && sc.names.lookup n == some .cell) then (n,.cell) else (n,k) }
def tgB (N : List Str) (sc : Scope) : Expr -> List Nat -> Bool
  | .Name x _,[i] => decide (N[i]? = some x) && (match sc.names.lookup x with | some .local => true | _ => false)
  | .Tuple [.Name x _,.Name y _] _ _,[i,j] => decide (N[i]? = some x) && decide (N[j]? = some y) && (match sc.names.lookup x with | some .local => true | _ => false) && (match sc.names.lookup y with | some .local => true | _ => false)
  | _,_ => false
def isZ : Src -> Bool | .zip _ _ => true | _ => false
def isTup : Expr -> Bool | .Tuple _ _ _ => true | _ => false
def isCal : Expr -> Bool | .Call _ _ _ _ => true | _ => false
def compN (N : List Str) (caps : List Nat) (tn : List Str) : List Str := (caps.map fun i => (N[i]?).getD ("" : Str)) ++ tn
def tnames : Expr -> List Str
  | .Name x _ => [x]
  | .Tuple [.Name x _,.Name y _] _ _ => [x,y]
  | _ => []
def compB (N : List Str) (sc scope : Scope) (caps : List Nat) (tn : List Str) : Bool :=
  (scope.names.all fun y => match y.2 with
    | .free => (match sc.names.lookup y.1 with | some .cell => true | some .free => true | _ => false)
    | .cell => false
    | .local => (match scope.names.lookup y.1 with | some .local => true | _ => false)
    | _ => true) && (scope.kind == .function) &&
  (caps.all fun i => match N[i]? with
    | some x => (match scope.names.lookup x with | some .free => true | _ => false)
    | none => false) && decide ((compN N caps tn).Nodup)
def swapB (sc scope : Scope) (x : Str) (px pv : Pos) : Bool :=
  ((if sc.kind.isAnnotationScope then .function else sc.kind) == .function) && sc.names.lookup x == some .local && px.line == pv.line && !(scope.names.any fun (n,k) => n == x && (k == .local || k == .cell))
def one? : Expr -> Option Expr
  | .BoolOp _ [v] _ => some v
  | _ => none
def hdB (G : Gm) (N : List Str) (sc : Scope) : List ExceptHandler -> Hs -> Bool
  | [],.nil => true
  | .ExceptHandler (some (.Name x _)) none [.Assign [.Name y _] (.Constant k _ _) _] _ :: r,.cons [c] (.cons (.set i (.k d)) .nil) hs =>
    gloB sc x && nD x && decide (G.exc.lookup x = some c) && decide (N[i]? = some y) && locB sc y && cstB k d && hdB G N sc r hs
  | _,_ => false
def chk (G : Gm) : Nat -> Bool -> List Str -> Scope -> Nd -> Bool
  | 0,_,_,_,_ => false
  | n + 1, b, N, sc, nd => match nd with
    | .e a c => match one? a with
     | some v => chk G n b N sc (.e v c)
     | none => match c with
      | .bad => true
      | .v i => match a with
        | .Name x _ => decide (N[i]? = some x) && visB sc x && nD x
        | _ => false
      | .k d => match a with
        | .Constant k _ _ => cstB k d
        | _ => false
      | .g i => match a with
        | .Name x _ => gloB sc x && decide (G.cst.lookup x = some i) && nD x
        | _ => false
      | .tup cs => match a with
        | .Tuple as _ _ => decide (as.length <= 100) && chk G n b N sc (.es as cs)
        | _ => false
      | .lst _ cs => match a with
        | .List as _ => decide (as.length <= 100) && chk G n b N sc (.es as cs)
        | _ => false
      | .dct0 => match a with
        | .Dict [] [] _ => true
        | _ => false
      | .op o _ x y => match a with
        | .BinOp l p r _ => decide (p = binOp o) && chk G n b N sc (.e l x) && chk G n b N sc (.e r y)
        | _ => false
      | .neg x => match a with
        | .UnaryOp .USub l _ => chk G n b N sc (.e l x)
        | _ => false
      | .not x => match a with
        | .UnaryOp .Not l _ => chk G n b N sc (.e l x)
        | _ => false
      | .and x y => match a with
        | .BoolOp .And (v :: w :: r) p => chk G n b N sc (.e v x) && chk G n b N sc (.e (.BoolOp .And (w :: r) p) y)
        | _ => false
      | .or x y => match a with
        | .BoolOp .Or (v :: w :: r) p => chk G n b N sc (.e v x) && chk G n b N sc (.e (.BoolOp .Or (w :: r) p) y)
        | _ => false
      | .cmp o x y => match a with
        | .Compare l [p] [r] _ => decide (p = cmpOp o) && !(behindInMarks p r) && chk G n b N sc (.e l x) && chk G n b N sc (.e r y)
        | _ => false
      | .ife t x y => match a with
        | .IfExp u l r _ => chk G n b N sc (.t u t) && chk G n b N sc (.e l x) && chk G n b N sc (.e r y)
        | _ => false
      | .idx x y => match a with
        | .Subscript l r _ => nSl r && chk G n b N sc (.e l x) && chk G n b N sc (.e r y)
        | _ => false
      | .sl _ x lo hi => match a with
        | .Subscript l (.Slice u v none _) _ => chk G n b N sc (.e l x) && chk G n b N sc (.o u lo) && chk G n b N sc (.o v hi)
        | _ => false
      | .call f cs => match a with
        | .Call (.Name x _) as [] _ => gloB sc x && nD x && decide (G.fns.lookup x = some (f,as.length)) && as.all nStar && chk G n b N sc (.es as cs)
        | _ => false
      | .isi x t => match a with
        | .Call (.Name y _) [l, .Name z _] [] _ => decide (y = "isinstance") && decide (z = Str.ofString (tyS t)) && gloB sc y && gloB sc z && G.blts.contains y && G.blts.contains z && nStar l && chk G n b N sc (.e l x)
        | _ => false
      | .blt k _ cs => match a with
        | .Call (.Name y _) [l] [] _ => decide (bltS k = some y) && gloB sc y && G.blts.contains y && nStar l && chk G n b N sc (.es [l] cs)
        | _ => false
      | .mth .append _ x cs => match a with
        | .Call (.Attribute o y ap) [l] [] cp => decide (y = "append") && nCal o && nStar l && (ap.endLine == cp.line) && chk G n b N sc (.e o x) && chk G n b N sc (.es [l] cs)
        | _ => false
      | .comp _ caps tg elt it cond => match a with
        | .ListComp el [⟨tn,iter,ifs,0⟩] scope _ => !b && (!isZ it || isTup tn) && nSet iter && compB N sc scope caps (tnames tn) && chk G n b N sc (.i iter it) &&
          tgB (compN N caps (tnames tn)) (relS scope sc) tn tg && chk G n true (compN N caps (tnames tn)) (relS scope sc) (.e el elt) &&
          (match ifs,cond with
            | [],.none => true
            | [c],.some d => chk G n true (compN N caps (tnames tn)) (relS scope sc) (.t c d)
            | _,_ => false)
        | _ => false
      | .fld x f => match a with
        | .Attribute l y _ => decide (y = f) && G.flds.contains f && nCal l && chk G n b N sc (.e l x)
        | _ => false
      | .umt c m nm x cs => match a with
        | .Call (.Attribute o y ap) as [] cp => decide (y = nm) && nCal o && (ap.endLine == cp.line) && decide (as.length < 29) && decide (G.mts.lookup (c,nm) = some (m,as.length + 1)) && as.all nStar && chk G n b N sc (.e o x) && chk G n b N sc (.es as cs)
        | _ => false
      | .new c i cs => match a with
        | .Call (.Name x _) as [] _ => gloB sc x && nD x && decide (G.cls.lookup x = some (c,i,as.length + 1)) && as.all nStar && chk G n b N sc (.es as cs)
        | _ => false
      | .mx hi x y => match a with
        | .Call (.Name z _) [l, r] [] _ => decide (z = if hi then "max" else "min") && gloB sc z && G.blts.contains z && nStar l && nStar r && chk G n b N sc (.e l x) && chk G n b N sc (.e r y)
        | _ => false
      | .all1 x => match a with
        | .Call (.Name z _) [l] [] _ => decide (z = "all") && gloB sc z && G.blts.contains z && nStar l && chk G n b N sc (.e l x)
        | _ => false
      | .lrg _ x y => match a with
        | .Call (.Name z _) [.Call (.Name u _) [l, r] [] _] [] _ => decide (z = "list") && decide (u = "range") && gloB sc z && gloB sc u && G.blts.contains z && G.blts.contains u && nStar l && nStar r && chk G n b N sc (.e l x) && chk G n b N sc (.e r y)
        | _ => false
      | _ => false
    | .t a c => match one? a with
     | some v => chk G n b N sc (.t v c)
     | none => match c with
      | .bad => true
      | .cmp o x y => match a with
        | .Compare l [p] [r] _ => decide (p = cmpOp o) && !(behindInMarks p r) && chk G n b N sc (.e l x) && chk G n b N sc (.e r y)
        | _ => false
      | .not x => match a with
        | .UnaryOp .Not l _ => chk G n b N sc (.t l x)
        | _ => false
      | .and x y => match a with
        | .BoolOp .And (v :: w :: r) p => chk G n b N sc (.t v x) && chk G n b N sc (.t (.BoolOp .And (w :: r) p) y)
        | _ => false
      | .or x y => match a with
        | .BoolOp .Or (v :: w :: r) p => chk G n b N sc (.t v x) && chk G n b N sc (.t (.BoolOp .Or (w :: r) p) y)
        | _ => false
      | c => nTst a && chk G n b N sc (.e a c)
    | .es as cs => match cs with
      | .nil => match as with
        | [] => true
        | _ => false
      | .cons c cs => match as with
        | a :: as => nStar a && chk G n b N sc (.e a c) && chk G n b N sc (.es as cs)
        | _ => false
    | .o a c => match c with
      | .none => match a with
        | none => true
        | _ => false
      | .some c => match a with
        | some a => chk G n b N sc (.e a c)
        | _ => false
    | .i a c => match c with
      | .e c => nSet a && chk G n b N sc (.e a c)
      | .rng c => match a with
        | .Call (.Name y _) [l] [] _ => decide (y = "range") && gloB sc y && G.blts.contains y && nStar l && chk G n b N sc (.e l c)
        | _ => false
      | .zip c d => match a with
        | .Call (.Name y _) [l, r] [] _ => decide (y = "zip") && gloB sc y && G.blts.contains y && nStar l && nStar r && chk G n b N sc (.e l c) && chk G n b N sc (.e r d)
        | _ => false
      | _ => false
    | .s a c => match c with
      | .bad => true
      | .set i c => match a with
        | .Assign [.Name x px] e p => decide (N[i]? = some x) && locB sc x && !b && (match c with
          | .comp _ caps tg elt it cond => (match e with
            | .ListComp el [⟨tn,iter,ifs,0⟩] scope lp => (if swapB sc scope x px lp then (!isZ it || isTup tn) && nSet iter && compB N sc scope caps (tnames tn) && chk G n b N sc (.i iter it) &&
              tgB (compN N caps (tnames tn)) (relS scope sc) tn tg && chk G n true (compN N caps (tnames tn)) (relS scope sc) (.e el elt) &&
              (match ifs,cond with
                | [],.none => true
                | [c],.some d => chk G n true (compN N caps (tnames tn)) (relS scope sc) (.t c d)
                | _,_ => false) && (match sc.names.lookup x with | some .local => true | _ => false) else chk G n b N sc (.e e c))
            | _ => false)
          | c => nComp e && chk G n b N sc (.e e c))
        | _ => false
      | .seti x y c => match a with
        | .Assign [.Subscript o i _] e _ => nComp e && chk G n b N sc (.e e c) && chk G n b N sc (.e o x) && chk G n b N sc (.e i y)
        | _ => false
      | .unp tg c => match a with
        | .Assign [tn] e _ => !b && isTup tn && tgB N sc tn tg && isCal e && chk G n b N sc (.e e c)
        | _ => false
      | .setf x f c => match a with
        | .Assign [.Attribute o y _] e _ => decide (y = f) && G.flds.contains f && nComp e && chk G n b N sc (.e e c) && chk G n b N sc (.e o x)
        | _ => false
      | .ex c => match a with
        | .Expr e _ => nComp e && chk G n b N sc (.e e c)
        | _ => false
      | .ret c => match a with
        | .Return (some e) _ => chk G n b N sc (.e e c)
        | _ => false
      | .ret0 => match a with
        | .Return none _ => true
        | _ => false
      | .ifs c x y => match a with
        | .If t l r _ => chk G n b N sc (.t t c) && chk G n b N sc (.ss l x) && chk G n b N sc (.ss r y)
        | _ => false
      | .for tg it x => match a with
        | .For tn iter body [] _ => !b && (!isZ it || isTup tn) && nSet iter && chk G n b N sc (.i iter it) && tgB N sc tn tg && chk G n b N sc (.ss body x)
        | _ => false
      | .while c x => match a with
        | .While t body [] _ => chk G n b N sc (.t t c) && chk G n b N sc (.ss body x)
        | _ => false
      | .raise c es => !b && G.rz && (match a with
        | .Raise (some (.Call (.Name x _) [m] [] _)) none _ => gloB sc x && nD x && decide (G.exc.lookup x = some c) && (match m with
          | .Constant (.str _) _ _ => (match es with
            | .nil => true
            | _ => false)
          | .JoinedStr vs _ => decide (2 <= vs.length) && decide (vs.length <= 100) && chk G n b N sc (.m vs es)
          | _ => false)
        | _ => false)
      | .try x hs els => !b && (match els with
        | .nil => true
        | _ => false) && (match a with
        | .Try bd (h₀ :: hr) [] [] _ => chk { G with rz := false } n b N sc (.ss bd x) && hdB G N sc (h₀ :: hr) hs
        | _ => false)
      | .brk => match a with
        | .Break _ => true
        | _ => false
      | .cont => match a with
        | .Continue _ => true
        | _ => false
      | .pass => match a with
        | .Pass _ => true
        | _ => false
    | .ss as cs => match cs with
      | .nil => match as with
        | [] => true
        | _ => false
      | .cons c cs => match as with
        | a :: as => chk G n b N sc (.s a c) && chk G n b N sc (.ss as cs)
        | _ => false
    | .m as cs => match as with
      | [] => match cs with
        | .nil => true
        | _ => false
      | a :: as => match a with
        | .Constant (.str y) _ _ => decide (y.length <= 100000) && chk G n b N sc (.m as cs)
        | .FormattedValue v k none _ => match cs with
          | .cons e es => decide (k = -1) && chk G n b N sc (.e v e) && chk G n b N sc (.m as es)
          | _ => false
        | _ => false
end Fg
end
section
set_option autoImplicit false
namespace Fg
open PySem PySem.Spec L2
section
variable {X : Cx}
theorem PE.weak {e : Expr} {t t' : TE} (h : PE X e t) (w : ∀ U H Q,t' U H Q -> t U H Q) : PE X e t' := fun pins s U H Q I q => h pins s U H Q I (w U H Q q)
theorem PT.weak {e : Expr} {t t' : TT} (h : PT X e t) (w : ∀ U H Q,t' U H Q -> t U H Q) : PT X e t' := fun pins s U H Q I q => h pins s U H Q I (w U H Q q)
theorem PW.weak {e : Expr} {t t' : TT} (h : PW X e t) (w : ∀ U H Q,t' U H Q -> t U H Q) : PW X e t' := fun wh pins s U H Q I q => h wh pins s U H Q I (w U H Q q)
theorem PA.weak {e : List Expr} {t t' : TA} (h : PA X e t) (w : ∀ U H Q,t' U H Q -> t U H Q) : PA X e t' := fun pos pins s U H Q I q => h pos pins s U H Q I (w U H Q q)
theorem PO.weak {e : Option Expr} {t t' : TO} (h : PO X e t) (w : ∀ U H Q,t' U H Q -> t U H Q) : PO X e t' := fun pins s U H Q I q => h pins s U H Q I (w U H Q q)
theorem PI.weak {tg e : Expr} {t t' : TI} (h : PI X tg e t) (w : ∀ U H Q,t' U H Q -> t U H Q) : PI X tg e t' := fun pins s U H Q I q => h pins s U H Q I (w U H Q q)
theorem PS.weak {e : Stmt} {t t' : TS} (h : PS X e t) (w : ∀ D U H,t' D U H -> t D U H) : PS X e t' := fun pins s U H D I q => h pins s U H D I (w D U H q)
theorem PSs.weak {e : List Stmt} {t t' : TS} (h : PSs X e t) (w : ∀ D U H,t' D U H -> t D U H) : PSs X e t' := fun pins s U H D I q => h pins s U H D I (w D U H q)
end
theorem star_cons {e : Expr} {es : List Expr} {env : Env} (h : nStar e = true) : starEach (e :: es) env = (false,eval e env) :: starEach es env := by
  cases e <;> first | rfl | (simp [nStar] at h)
theorem star_any {env : Env} {pos : Pos} : ∀ {es : List Expr},es.all nStar = true -> (backTo pos (starEach es env)).any (·.1) = false
  | [],_ => rfl
  | e :: es,h => by
    simp only [List.all_cons,Bool.and_eq_true] at h
    rw [star_cons h.1]
    have := star_any (env := env) (pos := pos) h.2
    simpa [backTo] using this
theorem star_all {env : Env} {pos : Pos} : ∀ {es : List Expr},es.all nStar = true -> (backTo pos (starEach es env)).all (fun x => !x.1) = true
  | [],_ => rfl
  | e :: es,h => by
    simp only [List.all_cons,Bool.and_eq_true] at h
    rw [star_cons h.1]
    have := star_all (env := env) (pos := pos) h.2
    simpa [backTo] using this
theorem meth_tree {o : Expr} {name : Str} {apos pos : Pos} {args : List Expr} {env : Env} (hbase : attributeBase o name env (eval o env) = eval o env) (hst : args.all nStar = true) (hl : args.length < 29) (hline : (apos.endLine == pos.line) = true) :
    eval (.Call (.Attribute o name apos) args [] pos) env = (do
      let ov <- eval o env
      standAt apos.atName
      let (f,first) <- holding [ov] (getMethod ov name (do return (<- importBound o env).getD true))
      callWith pos f first (backTo pos (starEach args env)) (backToKw pos (keywordEach [] env))) := by
  have hform : methodCallForm (args.length + ([] : List Keyword).length) (backTo pos (starEach args env)) (backToKw pos (keywordEach [] env)) = true := by
    unfold methodCallForm
    rw [star_all hst]
    simp [backToKw,keywordEach]
    omega
  have hpos : methodCallPos true o env apos pos = pure pos := by unfold methodCallPos; simp [hline]
  rw [arm_eval_Call,hbase]
  unfold methodCall
  rw [hform]
  simp only [hpos]
  rfl
theorem set_plain {e : Expr} {env : Env} (h : nSet e = true) : ∀ x,foldedSetIterable e env x = pure x := by
  intro x; cases e <;> first | rfl | (simp [nSet] at h)
theorem sl_plain {e : Expr} (h : nSl e = true) : PlainIx e := by
  intro o i; cases e <;> first | rfl | (simp [nSl] at h)
theorem no_swap {e : Expr} {t : Option Expr} {l : Nat} {env : Env} (h : nComp e = true) : swapsWith e t l env = pure false := by
  cases e <;> first | rfl | (simp [nComp] at h)
theorem tst_plain {e : Expr} {env : Env} (h : nTst e = true) : ∀ whole,isTrue e env whole = (do let v <- whole; standAt e.pos; holding [v] (truthy v)) := by
  intro w; cases e <;> first | rfl | (simp [nTst] at h)
theorem base_plain {e : Expr} {n : Str} {env : Env} (h : nCal e = true) : attributeBase e n env (eval e env) = eval e env := by
  cases e <;> first | rfl | (simp [nCal] at h)
theorem boot_sum : bootBuiltins ("sum" : Str) = some (.builtin "sum") := by decide +kernel
theorem boot_tuple : bootBuiltins ("tuple" : Str) = some (.type "tuple") := by decide +kernel
theorem boot_list : bootBuiltins ("list" : Str) = some (.type "list") := by decide +kernel
theorem boot_dict : bootBuiltins ("dict" : Str) = some (.type "dict") := by decide +kernel
theorem boot_isinstance : bootBuiltins ("isinstance" : Str) = some (.builtin "isinstance") := by decide +kernel
theorem boot_ty : ∀ t : Ty,bootBuiltins (Str.ofString (tyS t)) = some (.type (tyS t)) := by
  intro t; cases t <;> decide +kernel
theorem ty_nn : ∀ t : Ty, Str.ofString (tyS t) ≠ ("__name__" : Str) /\ (Str.ofString (tyS t) == ("__debug__" : Str)) = false := by
  intro t; cases t <;> decide
def esLen : Es -> Nat
  | .nil => 0
  | .cons _ es => esLen es + 1
theorem evs_esLen {Φ : Fns} : ∀ {es : Es} {U : Sg} {M : MH} {ds : List D} {M' : MH},evs Φ es U M = .ok ds M' -> ds.length = esLen es
  | .nil,U,M,ds,M',h => by simp only [evs] at h; cases h; rfl
  | .cons e es,U,M,ds,M',h => by
    simp only [evs] at h
    cases h1 : ev Φ e U M with
    | ok x M1 =>
      rw [h1] at h
      simp only [R.bind_ok] at h
      cases h2 : evs Φ es U M1 with
      | ok xs M2 =>
        rw [h2] at h
        simp only [R.bind_ok] at h
        cases h
        simp [esLen,evs_esLen h2]
      | exc c M2 => rw [h2] at h; cases h
      | bad => rw [h2] at h; cases h
    | exc c M1 => rw [h1] at h; cases h
    | bad => rw [h1] at h; cases h
theorem chk_len {G : Gm} {b : Bool} {N : List Str} {sc : Scope} : ∀ {n : Nat} {as : List Expr} {cs : Es},chk G n b N sc (.es as cs) = true -> esLen cs = as.length /\ as.all nStar = true
  | 0,_,_,h => by simp [chk] at h
  | n + 1,as,.nil,h => by
    cases as with
    | nil => exact ⟨rfl,rfl⟩
    | cons _ _ => simp [chk] at h
  | n + 1,as,.cons c cs,h => by
    cases as with
    | nil => simp [chk] at h
    | cons a as =>
      simp only [chk,Bool.and_eq_true] at h
      obtain ⟨h1,h2⟩ := chk_len h.2
      exact ⟨by simp [esLen,h1],by simp [h.1.1,h2]⟩
inductive Thws (th : Addr -> Prop) : Hp -> Hp -> Prop
  | refl (H : Hp) : Thws th H H
  | step {H H1 H2 : Hp} : Thw th H H1 -> Thws th H1 H2 -> Thws th H H2
def GX : Bool -> Cx -> XS -> Gx
  | true,_,w => ⟨w,fun _ => False,fun cv x U H H' t h => by
    rcases t with rfl | ⟨_,_,_,z,_⟩
    . exact h
    . exact z.elim⟩
  | false,X,w => ⟨fun cv x U H => ∃ H',Thws (thX X) H H' /\ w cv x U H',thX X,fun cv x U H H' t ⟨H2,h1,h2⟩ => ⟨H2,.step t h1,h2⟩⟩
theorem thws_inv {X : Cx} {pins : List (Addr × Obj)} {U : L2.St} {H H' : Hp} {s : Shared} (I : Inv X pins U H s) (t : Thws (thX X) H H') : Inv X pins U H' s := by
  induction t with
  | refl => exact I
  | step t _ ih => exact ih (inv_thaw I t)
theorem thws_none {th : Addr -> Prop} {H H' : Hp} (t : Thws th H H') {b : Addr} (h : H' b ≠ none) : H b ≠ none := by
  induction t with
  | refl => exact h
  | step t _ ih =>
    have := ih h
    rcases t with rfl | ⟨a,o,kvs,_,h1,rfl⟩
    . exact this
    . by_cases e : b = a
      . subst e; rw [h1]; simp
      . rw [upd_ne e] at this; exact this
theorem fly_thaw {X : Cx} {w : XS} {e : Value} {s : Shared} (h : Fly X (GX false X w).e e s) : Fly X w e s := by
  obtain ⟨pins,U,H,a,a0,C,B,h1,I,up,cal,hp,H',t,q⟩ := h
  exact ⟨pins,U,H',a,a0,C,B,h1,thws_inv I t,up,fun b hb hf => cal b (hb.imp (thws_none t) id) hf,hp,q⟩
theorem new_thaw {X : Cx} {w : XS} {e : Value} {s : Shared} (h : New X (GX false X w).e e s) : New X w e s := by
  obtain ⟨pins,U,H,a,C,vs,hh,h1,I,made,H',t,q⟩ := h
  exact ⟨pins,U,H',a,C,vs,hh,h1,thws_inv I t,made,q⟩
structure XOk (G : Gm) (B : Bd) (Φ : Fns) (k : Nat) (X : Cx) (N : List Str) (sc : Scope) (b : Bool) (w : XS) : Prop where
  hN : X.N = N
  nd : N.Nodup
  hsc : X.env.scope = sc
  K : B.K = X.K
  calm : X.calm = true
  rm : Room k X.A
  dk : DkOk B X
  fo : ∀ e s,X.xe e s -> Fly X (GX b X w).e e s \/ New X (GX b X w).e e s
  fx : ∀ e s,Fly X (GX b X w).e e s -> X.xe e s
  nx : b = false -> G.rz = true -> ∀ e s,New X (GX b X w).e e s -> X.xe e s
  fr : HasFr X
  fn : b = false -> ∀ x,X.fn x = true
  fns : ∀ f i m,G.fns.lookup f = some (i,m) -> ∃ fa fd ps,X.mg f = some (.ref fa) /\ W.keepIn X.K (.ref fa) = true /\ Binds X.K fd ps [] /\ FnOk X.prog X.w X.K X.mg X.base (CXE X.prog X.w) k fa fd ps (spF B Φ i m)
  cst : ∀ x i,G.cst.lookup x = some i -> ∃ v u,X.mg x = some u /\ RelV v u /\ ∀ d,Φ.glob i = some d -> ∀ F ρ H,RD B F ρ H d v
  blt : ∀ x,G.blts.contains x = true -> X.mg x = none
  cls : ∀ c C,B.cls c = some C -> Cls X.K C /\ ∀ f,G.flds.contains f = true -> NoAttr X.K C f
  mts : ∀ c nm i m,G.mts.lookup (c,nm) = some (i,m) -> ∃ C fa fd ps,B.cls c = some C /\ Meth X.K C nm fa /\ Binds X.K fd ps [] /\ FnOk X.prog X.w X.K X.mg X.base (CXE X.prog X.w) k fa fd ps (spF B Φ i m)
  mks : ∀ x c i m,G.cls.lookup x = some (c,i,m) -> ∃ C fa fd ps,X.mg x = some (.ref C) /\ B.cls c = some C /\ Mk X.K C fa /\ Binds X.K fd ps [] /\
    ((∃ j,k = j + 1 /\ FnOk X.prog X.w X.K X.mg X.base (CXE X.prog X.w) j fa fd ps (spI B Φ i m)) \/ ∀ ds M,Φ.ini i ds M = .bad)
  exc : ∀ x c, G.exc.lookup x = some c -> ∃ C bmB newId bm base initId, X.mg x = some (.ref C) /\ B.xad c = some C /\ B.exc c (.ref C) /\ ExcC X.K C bmB newId bm /\ ExcBaseFacts base newId initId bmB /\ bm.contains (.type "BaseException") = true
  exq : ∀ c cv,B.exc c cv -> ∃ C bmB newId bm,cv = .ref C /\ ExcC X.K C bmB newId bm /\ ∀ d D,B.xad d = some D -> (Value.ref C :: bm).contains (.ref D) = Φ.sub c d
  st : b = false -> X.stack = X.env :: X.outer /\ X.env.frame = some X.env.locals
section
variable {G : Gm} {B : Bd} {Φ : Fns} {k : Nat} {X : Cx} {N : List Str} {sc : Scope} {b : Bool} {w : XS}
theorem XOk.rm' (O : XOk G B Φ k X N sc b w) : Rm X := by have := O.rm.un; unfold Rm; omega
theorem XOk.glo (O : XOk G B Φ k X N sc b w) {x : Str} (h : gloB sc x = true) : Gl X x := by
  show X.env.scope.names.lookup x = some .globalImplicit
  rw [O.hsc]
  unfold gloB at h
  split at h
  . assumption
  . cases h
theorem XOk.vis (O : XOk G B Φ k X N sc b w) {x : Str} (h : visB sc x = true) : Vis X.env.scope x := by
  unfold Vis
  rw [O.hsc]
  unfold visB at h
  split at h
  . rename_i q; exact .inl q
  . rename_i q; exact .inr (.inl q)
  . rename_i q; exact .inr (.inr q)
  . cases h
theorem XOk.loc (O : XOk G B Φ k X N sc b w) {x : Str} (h : locB sc x = true) : L2.Loc X.env.scope x := by
  unfold L2.Loc
  rw [O.hsc]
  unfold locB at h
  split at h
  . rename_i q; exact .inl q
  . rename_i q; exact .inr q
  . cases h
theorem nD_of {x : Str} (h : nD x = true) : (x == ("__debug__" : Str)) = false /\ (x == ("__classdict__" : Str)) = false := by
  simp only [nD,Bool.and_eq_true,Bool.not_eq_true'] at h; exact h
theorem XOk.blk (O : XOk G B Φ k X N sc b w) {scope : Scope} {N' : List Str} (hn : N'.Nodup) (cl : List (Str × Addr)) (fp : List Addr) (s : Shared) (H : Hp) (C : Addr) (E : XK) : XOk G B Φ k (blkE X scope cl N' fp s H C E) N' (relS scope sc) true (fun cv x _ H' => E cv x H') :=
  ⟨rfl,hn,by show relabel scope X.env = relS scope sc; rw [<- O.hsc]; rfl,O.K,O.calm,O.rm,O.dk,(fun e s ⟨p,U,H,a,a0,C,B,h1,I,h⟩ => .inl ⟨p,U,H,a,a0,C,B,h1,I.wish _,h⟩),(fun e s ⟨p,U,H,a,a0,C,B,h1,I,h⟩ => ⟨p,U,H,a,a0,C,B,h1,I.unwish,h⟩),(fun h => by cases h),(by
    obtain ⟨env,outer,L,h1,h2,h3⟩ := O.fr
    exact ⟨env,outer,L,h1,h2,h3⟩),(fun h => by cases h),O.fns,O.cst,O.blt,O.cls,O.mts,O.mks,O.exc,O.exq,(fun h => by cases h)⟩
theorem XOk.comp (O : XOk G B Φ k X N sc b w) {scope : Scope} {caps : List Nat} {tn : List Str} {n : Nat} (h : compB N sc scope caps tn = true) (hn : tn.length = n) : CompSc X scope (compN N caps tn) caps n /\ (compN N caps tn).Nodup := by
  simp only [compB,Bool.and_eq_true,List.all_eq_true,decide_eq_true_eq] at h
  obtain ⟨⟨⟨h1,h2⟩,h3⟩,h4⟩ := h
  refine ⟨⟨fun x hx => ?_,fun y hy z => ?_,by simpa using h2,fun y hy z => ?_,by simp [compN,hn],fun i j x e1 e2 => ?_⟩,h4⟩
  . have := h1 _ hx
    show X.env.scope.names.lookup x = some .cell \/ X.env.scope.names.lookup x = some .free
    rw [O.hsc]
    simp only at this
    split at this
    . rename_i q; exact .inl q
    . rename_i q; exact .inr q
    . cases this
  . have := h1 _ hy
    rw [z] at this
    simp at this
  . have := h1 _ hy
    rw [z] at this
    simp only at this
    split at this
    . assumption
    . cases this
  . have hj : j ∈ caps := List.mem_of_getElem? e2
    have := h3 j hj
    have hi : i < caps.length := (List.getElem?_eq_some_iff.mp e2).1
    unfold compN at e1
    rw [List.getElem?_append_left (by simpa using hi),List.getElem?_map,e2] at e1
    simp only [Option.map_some,Option.some.injEq] at e1
    split at this
    . rename_i y hy
      rw [hy] at e1
      simp only [Option.getD_some] at e1
      subst e1
      rw [O.hN]
      refine ⟨hy,?_⟩
      split at this
      . assumption
      . cases this
    . cases this
theorem XOk.tg (O : XOk G B Φ k X N sc b w) {tn : Expr} {tg : List Nat} (h : tgB N sc tn tg = true) : PG X tn (gTg tg B.K) /\ (tnames tn).length = tg.length := by
  unfold tgB at h
  split at h
  . rename_i x p i
    simp only [Bool.and_eq_true,decide_eq_true_eq] at h
    have hl : X.env.scope.names.lookup x = some .local := by
      rw [O.hsc]
      have := h.2
      split at this
      . assumption
      . cases this
    exact ⟨pg_name (by rw [O.hN]; exact O.nd) (by rw [O.hN]; exact h.1) (.inl hl) (.inr hl),rfl⟩
  . rename_i x px y py k1 pt i j
    simp only [Bool.and_eq_true,decide_eq_true_eq] at h
    obtain ⟨⟨⟨h1,h2⟩,h3⟩,h4⟩ := h
    have lx : X.env.scope.names.lookup x = some .local := by
      rw [O.hsc]
      split at h3
      . assumption
      . cases h3
    have ly : X.env.scope.names.lookup y = some .local := by
      rw [O.hsc]
      split at h4
      . assumption
      . cases h4
    have nd : X.N.Nodup := by rw [O.hN]; exact O.nd
    have p := pg_tup (X := X) (pos := pt) (k := k1) (n := 2) O.calm (pgs_cons (pg_name (pos := px) nd (by rw [O.hN]; exact h1) (.inl lx) (.inr lx)) (pgs_cons (pg_name (pos := py) nd (by rw [O.hN]; exact h2) (.inl ly) (.inr ly)) pgs_nil))
    refine ⟨fun pins s U H v u Q I r q => p pins s U H v u Q I r ?_,rfl⟩
    obtain ⟨a,x',y',e,sq,q⟩ := q
    rw [O.K] at sq
    exact ⟨a,[x',y'],e,sq,rfl,x',[y'],rfl,y',[],rfl,rfl,q⟩
  . cases h
end
end Fg
end
section
set_option autoImplicit false
namespace Fg
open PySem PySem.Spec L2
section
variable {G : Gm} {B : Bd} {Φ : Fns} {k : Nat}
structure Snd (G : Gm) (B : Bd) (Φ : Fns) (k n : Nat) (X : Cx) (N : List Str) (sc : Scope) (b : Bool) (w : XS) : Prop where
  e : ∀ a c,chk G n b N sc (.e a c) = true -> PE X a (T B Φ (GX b X w) c)
  t : ∀ a c,chk G n b N sc (.t a c) = true -> PT X a (TB B Φ (GX b X w) c) /\ (∀ op v p,a = .BoolOp op v p -> PW X a (TB B Φ (GX b X w) c))
  es : ∀ a c,chk G n b N sc (.es a c) = true -> PA X a (TL B Φ (GX b X w) c)
  o : ∀ a c,chk G n b N sc (.o a c) = true -> PO X a (TP B Φ (GX b X w) c)
  i : b = false -> ∀ a c tg,(!isZ c || isTup tg) = true -> chk G n b N sc (.i a c) = true -> PI X tg a (TIt B Φ (GX b X w) c)
  s : ∀ a c,chk G n b N sc (.s a c) = true -> PS X a (TC B Φ (GX b X w) c)
  ss : ∀ a c,chk G n b N sc (.ss a c) = true -> PSs X a (TCs B Φ (GX b X w) c)
  m : ∀ a c,chk G n b N sc (.m a c) = true -> PJ X B Φ (GX b X w) a c
theorem T_bad {E : Gx} {U : L2.St} {H : Hp} {Q : VK} (h : T B Φ E .bad U H Q) : False := by
  obtain ⟨UD,M,F,ρ,S,r,h⟩ := h
  simp only [ev] at h
  exact h
theorem TC_bad {E : Gx} {Dn : Ends} {U : L2.St} {H : Hp} (h : TC B Φ E .bad Dn U H) : False := by
  obtain ⟨UD,M,F,ρ,S,r,h⟩ := h
  simp only [ex] at h
  exact h
variable {X : Cx} {N : List Str} {sc : Scope} {b : Bool} {n : Nat} {w : XS}
theorem snd_cst {a : Const} {d : D} {j : Nat} {p : Pos} {E : Gx} (h : cstB a d = true) : PE X (.Constant a j p) (T B Φ E (.k d)) := by
  unfold cstB at h
  split at h
  . rw [of_decide_eq_true h]; exact PE.weak pe_int fun _ _ _ => sim_k rfl
  . rw [of_decide_eq_true h]; exact PE.weak pe_str fun _ _ _ => sim_k rfl
  . rw [of_decide_eq_true h]; exact PE.weak pe_bl fun _ _ _ => sim_k rfl
  . exact PE.weak pe_non fun _ _ _ => sim_k rfl
  . cases h
theorem snd_comp (O : XOk G B Φ k X N sc false w) (ih : Snd G B Φ k n X N sc false w) (ihb : ∀ X' N' sc' w',XOk G B Φ k X' N' sc' true w' -> Snd G B Φ k n X' N' sc' true w') {caps tg : List Nat} {elt : Fg.E} {it : Src} {cond : Fg.O} {el tn iter : Expr} {ifs : List Expr} {scope : Scope}
    (h0 : (!isZ it || isTup tn) = true) (h1 : nSet iter = true) (h2 : compB N sc scope caps (tnames tn) = true) (h3 : chk G n false N sc (.i iter it) = true) (h4 : tgB (compN N caps (tnames tn)) (relS scope sc) tn tg = true) (h5 : chk G n true (compN N caps (tnames tn)) (relS scope sc) (.e el elt) = true)
    (h6 : (match ifs,cond with
            | [],.none => true
            | [c],.some d => chk G n true (compN N caps (tnames tn)) (relS scope sc) (.t c d)
            | _,_ => false) = true) :
    CompSc X scope (compN N caps (tnames tn)) caps tg.length /\ PI X tn iter (TIt B Φ (GX false X w) it) /\
      (∀ U cl fp s H C,PG (blkE X scope cl (compN N caps (tnames tn)) fp s H C fun cv x H' => (GX false X w).e cv x U H') tn (gTg tg B.K) /\ PTs (blkE X scope cl (compN N caps (tnames tn)) fp s H C fun cv x H' => (GX false X w).e cv x U H') ifs (TBo B Φ (EB (GX false X w) U) cond) /\ PE (blkE X scope cl (compN N caps (tnames tn)) fp s H C fun cv x H' => (GX false X w).e cv x U H') el (T B Φ (EB (GX false X w) U) elt)) /\ ∀ x,foldedSetIterable iter X.env x = pure x := by
  have hlen : (tnames tn).length = tg.length := by
    unfold tgB at h4
    split at h4
    . rfl
    . rfl
    . cases h4
  obtain ⟨C1,C2⟩ := O.comp h2 hlen
  refine ⟨C1,ih.i rfl iter it tn h0 h3,fun U cl fp s H C => ?_,set_plain h1⟩
  have OB := O.blk (scope := scope) C2 cl fp s H C fun cv x H' => (GX false X w).e cv x U H'
  have S := ihb _ _ _ _ OB
  refine ⟨(OB.tg h4).1,?_,S.e el elt h5⟩
  split at h6
  . exact pts_nil
  . rename_i c d
    exact pts_one (S.t c d h6).1
  . cases h6
theorem snd_e (O : XOk G B Φ k X N sc b w) (ih : Snd G B Φ k n X N sc b w) (ihb : ∀ X' N' sc' w',XOk G B Φ k X' N' sc' true w' -> Snd G B Φ k n X' N' sc' true w') (a : Expr) (c : Fg.E) (h : chk G (n + 1) b N sc (.e a c) = true) : PE X a (T B Φ (GX b X w) c) := by
  simp only [chk] at h
  split at h
  . rename_i v hv
    unfold one? at hv
    split at hv
    . cases hv
      exact pe_one (ih.e _ _ h)
    . cases hv
  . cases c with
    | bad => exact fun _ _ _ _ _ _ q => (T_bad q).elim
    | v i =>
      simp only at h
      split at h
      . simp only [Bool.and_eq_true,decide_eq_true_eq] at h
        exact PE.weak (pe_var (by rw [O.hN]; exact h.1.1) (O.vis h.1.2) (nD_of h.2).1 (nD_of h.2).2) fun _ _ _ => sim_v
      . cases h
    | k d =>
      simp only at h
      split at h
      . exact snd_cst h
      . cases h
    | g i =>
      simp only at h
      split at h
      . simp only [Bool.and_eq_true,decide_eq_true_eq] at h
        obtain ⟨v,u,q1,q2,q3⟩ := O.cst _ _ h.1.2
        exact PE.weak (pe_glob (O.glo h.1.1) q1 q2 (nD_of h.2).1) fun _ _ _ => sim_g q3
      . cases h
    | tup cs =>
      simp only at h
      split at h
      . simp only [Bool.and_eq_true,decide_eq_true_eq] at h
        obtain ⟨hl,_⟩ := chk_len h.2
        refine PE.weak (pe_tup (ih.es _ _ h.2)) fun _ _ _ => sim_tup fun q => ?_
        rw [evs_esLen q,hl]; exact Nat.le_trans h.1 (by decide)
      . cases h
    | lst fz cs =>
      simp only at h
      split at h
      . simp only [Bool.and_eq_true,decide_eq_true_eq] at h
        obtain ⟨hl,_⟩ := chk_len h.2
        refine PE.weak (pe_lst (ih.es _ _ h.2)) fun _ _ _ => sim_lst fun q => ?_
        rw [evs_esLen q,hl]; exact Nat.le_trans h.1 (by decide)
      . cases h
    | dct0 =>
      simp only at h
      split at h
      . exact PE.weak pe_dnewK fun _ _ _ => sim_dct0
      . cases h
    | op o fz x y =>
      simp only at h
      split at h
      . simp only [Bool.and_eq_true,decide_eq_true_eq] at h
        obtain ⟨⟨h1,h2⟩,h3⟩ := h
        subst h1
        exact PE.weak (pe_op (op_bin O.K o) (ih.e _ _ h2) (ih.e _ _ h3)) fun _ _ _ => sim_op
      . cases h
    | neg x =>
      simp only at h
      split at h
      . exact PE.weak (pe_un un_neg (ih.e _ _ h)) fun _ _ _ => sim_neg
      . cases h
    | not x =>
      simp only at h
      split at h
      . exact PE.weak (pe_not (ih.e _ _ h)) fun _ _ _ => sim_not
      . cases h
    | and x y =>
      simp only at h
      split at h
      . simp only [Bool.and_eq_true] at h
        exact PE.weak (pe_and (ih.e _ _ h.1) (ih.e _ _ h.2)) fun _ _ _ => sim_and
      . cases h
    | or x y =>
      simp only at h
      split at h
      . simp only [Bool.and_eq_true] at h
        exact PE.weak (pe_or (ih.e _ _ h.1) (ih.e _ _ h.2)) fun _ _ _ => sim_or
      . cases h
    | cmp o x y =>
      simp only at h
      split at h
      . simp only [Bool.and_eq_true,decide_eq_true_eq,Bool.not_eq_true'] at h
        obtain ⟨⟨⟨h1,h2⟩,h3⟩,h4⟩ := h
        subst h1
        exact PE.weak (pe_cmpR (op_cmp O.K O.rm' O.dk o) (ih.e _ _ h3) (ih.e _ _ h4) h2) fun _ _ _ => sim_cmp
      . cases h
    | ife t x y =>
      simp only at h
      split at h
      . simp only [Bool.and_eq_true] at h
        exact PE.weak (pe_ifExp (ih.t _ _ h.1.1).1 (ih.e _ _ h.1.2) (ih.e _ _ h.2)) fun _ _ _ => sim_ife
      . cases h
    | idx x y =>
      simp only at h
      split at h
      . simp only [Bool.and_eq_true] at h
        exact PE.weak (pe_ix (ix_all O.K O.dk) (ih.e _ _ h.1.2) (ih.e _ _ h.2) (sl_plain h.1.1)) fun _ _ _ => sim_idx
      . cases h
    | sl fz x lo hi =>
      simp only at h
      split at h
      . simp only [Bool.and_eq_true] at h
        exact PE.weak (pe_slice (sl_all O.K) (ih.e _ _ h.1.1) (ih.o _ _ h.1.2) (ih.o _ _ h.2)) fun _ _ _ => sim_sl
      . cases h
    | call f cs =>
      simp only at h
      split at h
      . rename_i x p as pos _
        simp only [Bool.and_eq_true,decide_eq_true_eq] at h
        obtain ⟨⟨⟨⟨h1,h2⟩,h3⟩,h4⟩,h5⟩ := h
        obtain ⟨fa,fd,ps,q1,q2,q3,q4⟩ := O.fns _ _ _ h3
        obtain ⟨hl,_⟩ := chk_len h5
        cases as with
        | nil =>
          refine PE.weak (pe_callE0 q4 O.rm (O.glo h1) q1 q2 q3 O.fx (nD_of h2).1) fun _ _ _ q => ?_
          have := sim_call (fun z => by rw [evs_esLen z,hl]) q
          cases cs with
          | nil => exact sim_nil this
          | cons _ _ => simp [esLen] at hl
        | cons e es =>
          simp only [List.all_cons,Bool.and_eq_true] at h4
          exact PE.weak (pe_callE q4 O.rm (O.glo h1) q1 q2 q3 O.fx (ih.es _ _ h5) (nD_of h2).1 (star_cons h4.1) (star_any h4.2)) fun _ _ _ => sim_call (fun z => by rw [evs_esLen z,hl])
      . cases h
    | isi x t =>
      simp only at h
      split at h
      . simp only [Bool.and_eq_true,decide_eq_true_eq] at h
        obtain ⟨⟨⟨⟨⟨⟨⟨h1,h2⟩,h3⟩,h4⟩,h5⟩,h6⟩,h7⟩,h8⟩ := h
        subst h1 h2
        refine PE.weak (pe_callB (call_isi O.K O.dk) (O.glo h3) (O.blt _ h5) boot_isinstance (pa_cons (ih.e _ _ h8) (pa_cons (pe_bltn (v := .ty (tyS t)) (O.glo h4) (O.blt _ h6) (boot_ty t) rfl (ty_nn t).1 (ty_nn t).2) pa_nil) (star_cons h7)) (by decide) (by decide) (star_cons h7)) fun _ _ _ => sim_isi
      . cases h
    | blt kd fz cs =>
      simp only at h
      split at h
      . simp only [Bool.and_eq_true,decide_eq_true_eq] at h
        obtain ⟨⟨⟨⟨h1,h2⟩,h3⟩,h4⟩,h5⟩ := h
        have pa := ih.es _ _ h5
        cases kd <;> simp only [bltS] at h1 <;> first | (cases h1; done) | cases h1
        . exact PE.weak (pe_callB (call_lenA O.K O.dk) (O.glo h2) (O.blt _ h3) PySem.boot_len pa (by decide) (by decide) (star_cons h4)) fun _ _ _ => sim_blt
        . exact PE.weak (pe_callB (call_sumA O.K O.calm) (O.glo h2) (O.blt _ h3) boot_sum pa (by decide) (by decide) (star_cons h4)) fun _ _ _ => sim_blt
        . exact PE.weak (pe_callTy (call_tupA O.K) (O.glo h2) (O.blt _ h3) boot_tuple pa (by decide) (by decide) (star_cons h4)) fun _ _ _ => sim_blt
        . exact PE.weak (pe_callTy (call_lstA O.K) (O.glo h2) (O.blt _ h3) boot_list pa (by decide) (by decide) (star_cons h4)) fun _ _ _ => sim_blt
        . exact PE.weak (pe_callTy (call_dctA O.dk) (O.glo h2) (O.blt _ h3) boot_dict pa (by decide) (by decide) (star_cons h4)) fun _ _ _ => sim_blt
      . cases h
    | mth m fz x cs =>
      cases m <;> simp only at h <;> first | (cases h; done) | skip
      split at h
      . simp only [Bool.and_eq_true,decide_eq_true_eq] at h
        obtain ⟨⟨⟨⟨⟨h1,h2⟩,h3⟩,h4⟩,h5⟩,h6⟩ := h
        subst h1
        refine PE.weak (pe_bm PySem.F.plainAttrs_list PySem.F.slot_list_append PySem.F.type_list_append mt_append (ih.e _ _ h5) (ih.es _ _ h6) (base_plain h2) ?_ h4 (star_cons h3)) fun _ _ _ q => ?_
        . rw [star_cons h3]; rfl
        . have := sim_append q
          rw [O.K] at this
          exact this
      . cases h
    | comp fz caps tg elt it cond =>
      simp only at h
      split at h
      . simp only [Bool.and_eq_true,Bool.not_eq_true'] at h
        obtain ⟨⟨⟨⟨⟨⟨⟨h0,hz⟩,h1⟩,h2⟩,h3⟩,h4⟩,h5⟩,h6⟩ := h
        subst h0
        obtain ⟨C1,C2,C3,C4⟩ := snd_comp O ih ihb hz h1 h2 h3 h4 h5 h6
        exact PE.weak (pe_thaw (pe_comp O.calm C1 C2 O.fr O.fx C3 C4)) fun _ _ _ => sim_comp
      . cases h
    | chain _ _ _ _ _ => cases h
    | tru _ => cases h
    | fld x f =>
      simp only at h
      split at h
      . simp only [Bool.and_eq_true,decide_eq_true_eq] at h
        obtain ⟨⟨⟨h1,h2⟩,h3⟩,h4⟩ := h
        subst h1
        exact PE.weak (pe_fld (ih.e _ _ h4) (base_plain h3)) fun _ _ _ => sim_fld fun c C hc => ⟨(O.cls c C hc).1,(O.cls c C hc).2 _ h2⟩
      . cases h
    | umt c m nm x cs =>
      simp only at h
      split at h
      . rename_i o y ap as cp _
        simp only [Bool.and_eq_true,decide_eq_true_eq] at h
        obtain ⟨⟨⟨⟨⟨⟨⟨h1,h2⟩,h3⟩,h4⟩,h5⟩,h6⟩,h7⟩,h8⟩ := h
        subst h1
        obtain ⟨C,fa,fd,ps,q1,q2,q3,q4⟩ := O.mts _ _ _ _ h5
        obtain ⟨hl,_⟩ := chk_len h8
        cases as with
        | nil =>
          refine PE.weak (pe_methE0 (ih.e _ _ h7) (O.cls _ _ q1).1 q2 q4 O.rm q3 O.fx (meth_tree (base_plain h2) h6 h4 h3)) fun _ _ _ q => ?_
          have := sim_umt (n := 1) q1 (fun z => by rw [evs_esLen z,hl]; rfl) q
          cases cs with
          | nil =>
            obtain ⟨UD,M,F,ρ,S,r,z⟩ := this
            exact ⟨UD,M,F,ρ,S,r,PostG.imp z fun v H' ⟨a,dx,fs,z1,z2,z3,z4⟩ => ⟨a,dx,fs,z1,z2,z3,sim_nil z4⟩⟩
          | cons _ _ => simp [esLen] at hl
        | cons e es =>
          simp only [List.all_cons,Bool.and_eq_true] at h6
          exact PE.weak (pe_methE (ih.e _ _ h7) (O.cls _ _ q1).1 q2 q4 O.rm q3 O.fx (ih.es _ _ h8) (star_cons h6.1) (star_any h6.2) (meth_tree (base_plain h2) (by simp [h6.1,h6.2]) h4 h3)) fun _ _ _ => sim_umt q1 (fun z => by rw [evs_esLen z,hl])
      . cases h
    | new c i cs =>
      simp only at h
      split at h
      . rename_i x p as pos _
        simp only [Bool.and_eq_true,decide_eq_true_eq] at h
        obtain ⟨⟨⟨⟨h1,h2⟩,h3⟩,h4⟩,h5⟩ := h
        obtain ⟨C,fa,fd,ps,q1,q2,q3,q4,q5⟩ := O.mks _ _ _ _ h3
        obtain ⟨hl,_⟩ := chk_len h5
        rcases q5 with ⟨j,rfl,q5⟩ | q5
        . cases as with
          | nil =>
            refine PE.weak (pe_makeE0 q3 q5 O.rm (O.glo h1) q1 q4 O.fx (nD_of h2).1) fun _ _ _ q => ?_
            have := sim_new (n := 1) q2 (fun z => by rw [evs_esLen z,hl]; rfl) q
            cases cs with
            | nil => exact sim_nil this
            | cons _ _ => simp [esLen] at hl
          | cons e es =>
            simp only [List.all_cons,Bool.and_eq_true] at h4
            exact PE.weak (pe_makeE q3 q5 O.rm (O.glo h1) q1 q4 O.fx (ih.es _ _ h5) (nD_of h2).1 (star_cons h4.1) (star_any h4.2)) fun _ _ _ => sim_new q2 (fun z => by rw [evs_esLen z,hl])
        . cases as with
          | nil =>
            intro pins s U H Q I q
            have := sim_newN q5 q
            cases cs with
            | nil => exact (sim_nil this).elim
            | cons _ _ => simp [esLen] at hl
          | cons e es =>
            simp only [List.all_cons,Bool.and_eq_true] at h4
            exact PE.weak (pe_makeN q3 (O.glo h1) q1 (ih.es _ _ h5) (nD_of h2).1 (star_cons h4.1) (star_any h4.2)) fun _ _ _ => sim_newN q5
      . cases h
    | mx hi x y =>
      simp only at h
      split at h
      . simp only [Bool.and_eq_true,decide_eq_true_eq] at h
        obtain ⟨⟨⟨⟨⟨⟨h1,h2⟩,h3⟩,h4⟩,h5⟩,h6⟩,h7⟩ := h
        have pa := pa_cons (ih.e _ _ h6) (pa_cons (ih.e _ _ h7) pa_nil (star_cons h5)) (star_cons h4)
        cases hi with
        | true =>
          subst h1
          exact PE.weak (pe_callB (call_max2 O.calm) (O.glo h2) (O.blt _ h3) PyProof.Rows.boot_max pa (by decide) (by decide) (star_cons h4) (star_any (es := [_]) (by simp [h5]))) fun _ _ _ => sim_max
        | false =>
          subst h1
          exact PE.weak (pe_callB (call_min2 O.calm) (O.glo h2) (O.blt _ h3) PyProof.Rows.boot_min pa (by decide) (by decide) (star_cons h4) (star_any (es := [_]) (by simp [h5]))) fun _ _ _ => sim_min
      . cases h
    | all1 x =>
      simp only at h
      split at h
      . simp only [Bool.and_eq_true,decide_eq_true_eq] at h
        obtain ⟨⟨⟨⟨h1,h2⟩,h3⟩,h4⟩,h5⟩ := h
        subst h1
        refine PE.weak (pe_callB (call_all1 O.calm) (O.glo h2) (O.blt _ h3) (show bootBuiltins ("all" : Str) = some (.builtin "all") by decide +kernel) (pa_cons (ih.e _ _ h5) pa_nil (star_cons h4)) (by decide) (by decide) (star_cons h4)) fun _ _ _ q => ?_
        have := sim_all1 q
        rw [O.K] at this
        exact this
      . cases h
    | lrg fz x y =>
      simp only at h
      split at h
      . simp only [Bool.and_eq_true,decide_eq_true_eq] at h
        obtain ⟨⟨⟨⟨⟨⟨⟨⟨⟨h1,h2⟩,h3⟩,h4⟩,h5⟩,h6⟩,h7⟩,h8⟩,h9⟩,h10⟩ := h
        subst h1 h2
        have pa := pa_cons (ih.e _ _ h9) (pa_cons (ih.e _ _ h10) pa_nil (star_cons h8)) (star_cons h7)
        exact PE.weak (pe_lrg O.calm (O.glo h3) (O.blt _ h5) (O.glo h4) (O.blt _ h6) pa (by rw [star_cons h7,star_cons h8]; rfl) (by rw [star_cons h8]; rfl)) fun _ _ _ => sim_lrg
      . cases h
end
end Fg
end
section
set_option autoImplicit false
namespace Fg
open PySem PySem.Spec L2
section
variable {G : Gm} {B : Bd} {Φ : Fns} {k : Nat} {X : Cx} {N : List Str} {sc : Scope} {b : Bool} {n : Nat} {w : XS}
theorem snd_t (O : XOk G B Φ k X N sc b w) (ih : Snd G B Φ k n X N sc b w) (a : Expr) (c : Fg.E) (h : chk G (n + 1) b N sc (.t a c) = true) :
    PT X a (TB B Φ (GX b X w) c) /\ (∀ op v p,a = .BoolOp op v p -> PW X a (TB B Φ (GX b X w) c)) := by
  simp only [chk] at h
  split at h
  . rename_i v hv
    unfold one? at hv
    split at hv
    . rename_i op w p
      cases hv
      have pt := (ih.t _ _ h).1
      have pw : PW X (.BoolOp op [v] p) (TB B Φ (GX b X w) c) := by
        cases op
        . exact pw_and1 pt
        . exact pw_or1 pt
      exact ⟨pw.pt,fun _ _ _ _ => pw⟩
    . cases hv
  . rename_i hone
    have notB : ∀ {P : Prop},nTst a = true -> (∀ op v p,a = .BoolOp op v p -> P) := fun hq op v p e => by subst e; simp [nTst] at hq
    have plain : nTst a = true -> chk G n b N sc (.e a c) = true -> PT X a (TB B Φ (GX b X w) c) /\ (∀ op v p,a = .BoolOp op v p -> PW X a (TB B Φ (GX b X w) c)) := fun h1 h2 =>
      ⟨pt_val (ih.e _ _ h2) (tst_plain h1),notB h1⟩
    have pln : (nTst a && chk G n b N sc (.e a c)) = true -> PT X a (TB B Φ (GX b X w) c) /\ (∀ op v p,a = .BoolOp op v p -> PW X a (TB B Φ (GX b X w) c)) := fun hq => by
      simp only [Bool.and_eq_true] at hq; exact plain hq.1 hq.2
    cases c with
    | bad => exact ⟨fun _ _ _ _ _ _ q => (T_bad q).elim,fun _ _ _ _ _ _ _ _ _ _ _ q => (T_bad q).elim⟩
    | cmp o x y =>
      simp only at h
      split at h
      . simp only [Bool.and_eq_true,decide_eq_true_eq,Bool.not_eq_true'] at h
        obtain ⟨⟨⟨h1,h2⟩,h3⟩,h4⟩ := h
        subst h1
        exact ⟨PT.weak (pt_cmpR (op_cmp O.K O.rm' O.dk o) (ih.e _ _ h3) (ih.e _ _ h4) h2) fun _ _ _ => sim_cmp,fun _ _ _ e => by cases e⟩
      . cases h
    | not x =>
      simp only at h
      split at h
      . exact ⟨PT.weak (pt_not (ih.t _ _ h).1) fun _ _ _ => simB_not,fun _ _ _ e => by cases e⟩
      . cases h
    | and x y =>
      simp only at h
      split at h
      . simp only [Bool.and_eq_true] at h
        have pw := PW.weak (pw_and (ih.t _ _ h.1).1 ((ih.t _ _ h.2).2 _ _ _ rfl)) fun _ _ _ => simB_and
        exact ⟨pw.pt,fun _ _ _ _ => pw⟩
      . cases h
    | or x y =>
      simp only at h
      split at h
      . simp only [Bool.and_eq_true] at h
        have pw := PW.weak (pw_or (ih.t _ _ h.1).1 ((ih.t _ _ h.2).2 _ _ _ rfl)) fun _ _ _ => simB_or
        exact ⟨pw.pt,fun _ _ _ _ => pw⟩
      . cases h
    | v i => exact pln h
    | k d => exact pln h
    | g i => exact pln h
    | tup cs => exact pln h
    | lst fz cs => exact pln h
    | dct0 => exact pln h
    | op o fz x y => exact pln h
    | neg x => exact pln h
    | chain _ _ _ _ _ => exact pln h
    | tru _ => exact pln h
    | ife _ _ _ => exact pln h
    | idx _ _ => exact pln h
    | sl _ _ _ _ => exact pln h
    | call _ _ => exact pln h
    | isi _ _ => exact pln h
    | blt _ _ _ => exact pln h
    | mth _ _ _ _ => exact pln h
    | comp _ _ _ _ _ _ => exact pln h
    | fld _ _ => exact pln h
    | umt _ _ _ _ _ => exact pln h
    | new _ _ _ => exact pln h
    | mx _ _ _ => exact pln h
    | lrg _ _ _ => exact pln h
    | all1 _ => exact pln h
theorem snd_i (O : XOk G B Φ k X N sc b w) (ih : Snd G B Φ k n X N sc b w) (hb : b = false) (a : Expr) (c : Src) (tg : Expr) (hz : (!isZ c || isTup tg) = true) (h : chk G (n + 1) b N sc (.i a c) = true) : PI X tg a (TIt B Φ (GX b X w) c) := by
  subst hb
  simp only [chk] at h
  cases c with
  | e c =>
    simp only [Bool.and_eq_true] at h
    exact PI.weak (pi_any O.K (ih.e _ _ h.2)) fun _ _ _ => sim_it
  | rng c =>
    simp only at h
    split at h
    . simp only [Bool.and_eq_true,decide_eq_true_eq] at h
      obtain ⟨⟨⟨⟨h1,h2⟩,h3⟩,h4⟩,h5⟩ := h
      subst h1
      exact PI.weak (pi_range1 (O.glo h2) (O.blt _ h3) (pa_cons (ih.e _ _ h5) pa_nil (star_cons h4)) (star_cons h4)) fun _ _ _ => sim_rng
    . cases h
  | rng2 _ _ => cases h
  | enum _ => cases h
  | items _ => cases h
  | rev _ => cases h
  | zip c d =>
    simp only at h
    split at h
    . simp only [Bool.and_eq_true,decide_eq_true_eq] at h
      obtain ⟨⟨⟨⟨⟨⟨h1,h2⟩,h3⟩,h4⟩,h5⟩,h6⟩,h7⟩ := h
      subst h1
      cases tg <;> first | (simp [isZ,isTup] at hz; done) | skip
      refine PI.weak (pi_zip (O.glo h2) (O.blt _ h3) (pa_cons (ih.e _ _ h6) (pa_cons (ih.e _ _ h7) pa_nil (star_cons h5)) (star_cons h4)) (by rw [star_cons h4,star_cons h5]; rfl) (by rw [star_cons h5]; rfl)) fun _ _ _ q => ?_
      have := sim_zip q
      rw [O.K] at this
      exact this
    . cases h
theorem swap_eq (O : XOk G B Φ k X N sc b w) {el tn iter : Expr} {ifs : List Expr} {scope : Scope} {lp px p : Pos} {x : Str} : swapsWith (.ListComp el [⟨tn,iter,ifs,0⟩] scope lp) (some (.Name x px)) p.line X.env = pure (swapB sc scope x px lp) := by
  rw [<- O.hsc]; rfl
theorem sim_unp {E : Gx} {Dn : Ends} {U : L2.St} {H : Hp} {tg : List Nat} {e : Fg.E} (h : TC B Φ E (.unp tg e) Dn U H) : tAsg (T B Φ E e) (gTg tg B.K) Dn U H := by
  obtain ⟨UD,M,F,ρ,S,r,h⟩ := h
  simp only [ex] at h
  refine TC.one S r h fun x M1 F1 ρ1 H1 v e1 S1 r1 rx h1 => ?_
  split at h1
  . rename_i U1 hs
    exact sets_sim r1 rx hs fun U' q => PostS.run h1 S1 U' q
  . exact h1.elim
theorem snd_hd (O : XOk G B Φ k X N sc false w) : ∀ {hds : List ExceptHandler} {hs : Hs},hdB G N sc hds hs = true -> ∃ rs,HsR B Φ (GX false X w) B.xad hs = some rs /\ ∀ pins,PH (bear X pins) hds rs
  | hds, hs, h => by
    unfold hdB at h
    split at h
    . exact ⟨[],rfl,fun _ => .nil⟩
    . rename_i x np y py cst j kp p hp r c i d hs'
      simp only [Bool.and_eq_true,decide_eq_true_eq] at h
      obtain ⟨⟨⟨⟨⟨⟨h1,h2⟩,h3⟩,h4⟩,h5⟩,h6⟩,h7⟩ := h
      obtain ⟨rs,hrs,ph⟩ := snd_hd O h7
      obtain ⟨C,bmB,newId,bm,base,initId,q1,q2,q3,q4,q5,q6⟩ := O.exc _ _ h3
      refine ⟨(C,TCs B Φ (GX false X w) (.cons (.set i (.k d)) .nil)) :: rs,by simp only [HsR,q2,hrs],fun pins => .cons q1 (O.glo h1) (nD_of h2).1 q4 q6 (fun e => ?_) (ph pins)⟩
      have ps : PS (suite (bear X pins) e) (.Assign [.Name y py] (.Constant cst j kp) p) (TC B Φ (GX false X w) (.set i (.k d))) :=
        PS.weak (ps_set (X := suite (bear X pins) e) (by show X.N.Nodup; rw [O.hN]; exact O.nd) (by show X.N[i]? = some y; rw [O.hN]; exact h4) (O.loc h5) (snd_cst h6) (no_swap rfl) (.inl (O.fn rfl y))) fun _ _ _ => sim_set
      exact PSs.weak (pss_cons ps (PSs.weak pss_nil fun _ _ _ => sim_snil)) fun _ _ _ => sim_scons
    . cases h
theorem sp_wish {Y : Cx} {E : Value -> Shared -> Prop} {pins : List (Addr × Obj)} {D : Ends} {f : Flow} {s' : Shared} (h : SP Y pins D f s') : SP (Y.wish E) pins D f s' := by
  cases f with
  | next => obtain ⟨U',H',I,q⟩ := h; exact ⟨U',H',I.wish _,q⟩
  | brk => obtain ⟨U',H',I,q⟩ := h; exact ⟨U',H',I.wish _,q⟩
  | cont => obtain ⟨U',H',I,q⟩ := h; exact ⟨U',H',I.wish _,q⟩
  | ret u => obtain ⟨v,U',H',I,r,q⟩ := h; exact ⟨v,U',H',I.wish _,r,q⟩
theorem snd_try {rs : List (Addr × TS)} {pins : List (Addr × Obj)} {D : Ends} {x : Ss} {bd : List Stmt} (ihG : ∀ G' X' N' sc' b' w',XOk G' B Φ k X' N' sc' b' w' -> Snd G' B Φ k n X' N' sc' b' w') (O : XOk G B Φ k X N sc false w) (h : chk { G with rz := false } n false N sc (.ss bd x) = true) :
    PSs ((bear X pins).wish (Fly (bear X pins) (EH X.K rs D))) bd (TCs B Φ (GX false X (EH X.K rs D)) x) := by
  have O' : XOk { G with rz := false } B Φ k ((bear X pins).wish (Fly (bear X pins) (GX false (bear X pins) (EH X.K rs D)).e)) N sc false (EH X.K rs D) :=
    ⟨O.hN,O.nd,O.hsc,O.K,O.calm,O.rm,O.dk,(fun e s ⟨p,U,H,a,a0,C,B,h1,I,h⟩ => .inl ⟨p,U,H,a,a0,C,B,h1,I.wish _,h⟩),(fun e s ⟨p,U,H,a,a0,C,B,h1,I,h⟩ => ⟨p,U,H,a,a0,C,B,h1,I.unwish,h⟩),(fun _ h => by cases h),(by
      obtain ⟨env,outer,L,h1,h2,h3⟩ := O.fr
      exact ⟨env,outer,L,h1,h2,h3⟩),O.fn,O.fns,O.cst,O.blt,O.cls,O.mts,O.mks,O.exc,O.exq,O.st⟩
  have P := (ihG _ _ _ _ _ _ O').ss bd x h
  intro pins1 s U H Dn I q
  exact wpAny_mono (P pins1 s U H Dn (I.unwish.wish _) q) (fun _ _ z => sp_wish (SP.unwish z)) fun e s2 z => fly_thaw z
theorem sim_try {rs : List (Addr × TS)} {hs : Hs} {x : Ss} {Dn : Ends} {U : L2.St} {H : Hp} (O : XOk G B Φ k X N sc false w) (hrs : HsR B Φ (GX false X w) B.xad hs = some rs) (h : TC B Φ (GX false X w) (.try x hs .nil) Dn U H) : TCs B Φ (GX false X (EH X.K rs Dn)) x Dn U H := by
  obtain ⟨UD,M,F,ρ,S,r,h⟩ := h
  simp only [ex] at h
  refine ⟨UD,M,F,ρ,S,r,?_⟩
  cases hx : exs Φ x UD M with
  | bad => rw [hx] at h; exact h
  | exc c M1 => rw [hx] at h; exact h
  | ok o M1 =>
    rw [hx] at h
    simp only [R.bind_ok] at h
    intro F1 ρ1 H1 e1 S1
    cases o with
    | nx U1 => simp only [exs] at h; exact h F1 ρ1 H1 e1 S1
    | rt d => exact h F1 ρ1 H1 e1 S1
    | bk U1 => exact h F1 ρ1 H1 e1 S1
    | ct U1 => exact h F1 ρ1 H1 e1 S1
    | xc c U1 =>
      intro U' cv x' r1 hcv
      obtain ⟨C,bmB,newId,bm,rfl,EC,sub⟩ := O.exq c cv hcv
      obtain ⟨t,pk,ht⟩ := sim_exh (mro := .ref C :: bm) sub hrs S1 r1 (PostS.weak e1 h)
      exact ⟨H1,.refl _,C,bmB,newId,bm,t,rfl,EC,pk,ht⟩
theorem snd_s (O : XOk G B Φ k X N sc b w) (ih : Snd G B Φ k n X N sc b w) (ihG : ∀ G' X' N' sc' b' w',XOk G' B Φ k X' N' sc' b' w' -> Snd G' B Φ k n X' N' sc' b' w') (a : Stmt) (c : S) (h : chk G (n + 1) b N sc (.s a c) = true) : PS X a (TC B Φ (GX b X w) c) := by
  have ihb := fun X' N' sc' w' (O' : XOk G B Φ k X' N' sc' true w') => ihG G X' N' sc' true w' O'
  have hp : PassesOwn (model X.prog X.w) X.A X.env X.xe := own_passes O.fr O.fo O.fx
  simp only [chk] at h
  cases c with
  | bad => exact fun _ _ _ _ _ _ q => (TC_bad q).elim
  | set i c =>
    simp only at h
    split at h
    . rename_i x px e p
      simp only [Bool.and_eq_true,decide_eq_true_eq,Bool.not_eq_true'] at h
      obtain ⟨⟨⟨h1,h2⟩,h3⟩,h4⟩ := h
      subst h3
      have st : chk G n false N sc (.e e c) = true -> swapsWith e (some (.Name x px)) p.line X.env = pure false -> PS X (.Assign [.Name x px] e p) (TC B Φ (GX false X w) (.set i c)) := fun q w =>
        PS.weak (ps_set (by rw [O.hN]; exact O.nd) (by rw [O.hN]; exact h1) (O.loc h2) (ih.e _ _ q) w (.inl (O.fn rfl x))) fun _ _ _ => sim_set
      have pln : (nComp e && chk G n false N sc (.e e c)) = true -> PS X (.Assign [.Name x px] e p) (TC B Φ (GX false X w) (.set i c)) := fun q => by
        simp only [Bool.and_eq_true] at q; exact st q.2 (no_swap q.1)
      cases c with
      | comp fz caps tg elt it cond =>
        simp only at h4
        split at h4
        . rename_i el tn iter ifs scope lp
          split at h4
          . rename_i hs
            simp only [Bool.and_eq_true] at h4
            obtain ⟨⟨⟨⟨⟨⟨⟨kz,k1⟩,k2⟩,k3⟩,k4⟩,k5⟩,k6⟩,k7⟩ := h4
            obtain ⟨C1,C2,C3,C4⟩ := snd_comp O ih ihb kz k1 k2 k3 k4 k5 k6
            have hl : X.env.scope.names.lookup x = some .local := by
              rw [O.hsc]
              split at k7
              . assumption
              . cases k7
            refine PS.weak (ps_thaw (ps_setc (by rw [O.hN]; exact O.nd) (by rw [O.hN]; exact h1) hl O.calm C1 C2 O.fr O.fx C3 C4 (by rw [swap_eq O,hs]))) fun D U H q => ?_
            exact sim_comp (sim_set q)
          . rename_i hs
            exact st h4 (by rw [swap_eq O,Bool.eq_false_iff.mpr hs])
        . cases h4
      | v _ => exact pln h4
      | k _ => exact pln h4
      | g _ => exact pln h4
      | tup _ => exact pln h4
      | lst _ _ => exact pln h4
      | dct0 => exact pln h4
      | op _ _ _ _ => exact pln h4
      | neg _ => exact pln h4
      | cmp _ _ _ => exact pln h4
      | chain _ _ _ _ _ => exact pln h4
      | and _ _ => exact pln h4
      | or _ _ => exact pln h4
      | not _ => exact pln h4
      | tru _ => exact pln h4
      | ife _ _ _ => exact pln h4
      | idx _ _ => exact pln h4
      | sl _ _ _ _ => exact pln h4
      | call _ _ => exact pln h4
      | isi _ _ => exact pln h4
      | blt _ _ _ => exact pln h4
      | mth _ _ _ _ => exact pln h4
      | fld _ _ => exact pln h4
      | umt _ _ _ _ _ => exact pln h4
      | new _ _ _ => exact pln h4
      | mx _ _ _ => exact pln h4
      | lrg _ _ _ => exact pln h4
      | all1 _ => exact pln h4
      | bad => exact pln h4
    . cases h
  | seti x y c =>
    simp only at h
    split at h
    . simp only [Bool.and_eq_true] at h
      obtain ⟨⟨⟨h1,h2⟩,h3⟩,h4⟩ := h
      exact PS.weak (ps_seta O.rm' (ih.e _ _ h3) (ih.e _ _ h4) (ih.e _ _ h2) (no_swap h1)) fun _ _ _ => sim_seti
    . cases h
  | ex c =>
    simp only at h
    split at h
    . simp only [Bool.and_eq_true] at h
      exact PS.weak (ps_expr (ih.e _ _ h.2) (no_swap h.1)) fun _ _ _ => sim_ex
    . cases h
  | ret c =>
    simp only at h
    split at h
    . exact PS.weak (ps_ret (ih.e _ _ h)) fun _ _ _ => sim_ret
    . cases h
  | ret0 =>
    simp only at h
    split at h
    . exact PS.weak ps_retN fun _ _ _ => sim_ret0
    . cases h
  | ifs c x y =>
    simp only at h
    split at h
    . simp only [Bool.and_eq_true] at h
      exact PS.weak (ps_if (ih.t _ _ h.1.1).1 (ih.ss _ _ h.1.2) (ih.ss _ _ h.2)) fun _ _ _ => sim_ifs
    . cases h
  | «for» tg it x =>
    simp only at h
    split at h
    . simp only [Bool.and_eq_true,Bool.not_eq_true'] at h
      obtain ⟨⟨⟨⟨⟨h0,hz⟩,h1⟩,h2⟩,h3⟩,h4⟩ := h
      subst h0
      exact PS.weak (ps_thaw (ps_for hp O.calm (ih.i rfl _ _ _ hz h2) (O.tg h3).1 (ih.ss _ _ h4) (set_plain h1))) fun _ _ _ => sim_for
    . cases h
  | «while» c x =>
    simp only at h
    split at h
    . simp only [Bool.and_eq_true] at h
      exact PS.weak (ps_while hp (ih.t _ _ h.1).1 (ih.ss _ _ h.2)) fun _ _ _ => sim_while
    . cases h
  | brk =>
    simp only at h
    split at h
    . exact PS.weak ps_break fun _ _ _ => sim_brk
    . cases h
  | cont =>
    simp only at h
    split at h
    . exact PS.weak ps_continue fun _ _ _ => sim_cont
    . cases h
  | pass =>
    simp only at h
    split at h
    . exact PS.weak ps_pass fun _ _ _ => sim_pass
    . cases h
  | setf x f c =>
    simp only at h
    split at h
    . simp only [Bool.and_eq_true,decide_eq_true_eq] at h
      obtain ⟨⟨⟨⟨h1,h2⟩,h3⟩,h4⟩,h5⟩ := h
      subst h1
      exact PS.weak (ps_fld (ih.e _ _ h5) (ih.e _ _ h4) (no_swap h3)) fun _ _ _ => sim_setf fun c C hc => ⟨(O.cls c C hc).1,(O.cls c C hc).2 _ h2⟩
    . cases h
  | unp tg c =>
    simp only at h
    split at h
    . simp only [Bool.and_eq_true,Bool.not_eq_true'] at h
      obtain ⟨⟨⟨⟨h0,h1⟩,h2⟩,h3⟩,h4⟩ := h
      rename_i tn e pos
      cases tn <;> first | (simp [isTup] at h1; done) | skip
      cases e <;> first | (simp [isCal] at h3; done) | skip
      exact PS.weak (ps_asg (ih.e _ _ h4) (O.tg h2).1 rfl rfl rfl) fun _ _ _ => sim_unp
    . cases h
  | raise c es =>
    simp only [Bool.and_eq_true,Bool.not_eq_true'] at h
    obtain ⟨⟨hb,hz⟩,h⟩ := h
    subst hb
    split at h
    . rename_i x np m cp pos
      simp only [Bool.and_eq_true,decide_eq_true_eq] at h
      obtain ⟨⟨⟨h1,h2⟩,h3⟩,h4⟩ := h
      obtain ⟨C,bmB,newId,bm,base,initId,q1,q2,q3,q4,q5,q6⟩ := O.exc _ _ h3
      split at h4
      . split at h4
        . refine PS.weak (ps_raise q1 (O.glo h1) (nD_of h2).1 q4 q5 O.calm rfl (pa_cons pe_str pa_nil rfl) (O.nx rfl hz)) fun D U H q => ?_
          exact ⟨by show 1 <= 2 ^ 24; decide,(sim_raise q3 q).nil⟩
        . cases h4
      . simp only [Bool.and_eq_true,decide_eq_true_eq] at h4
        refine PS.weak (ps_raise q1 (O.glo h1) (nD_of h2).1 q4 q5 O.calm rfl (pa_cons (pe_msg (ih.m _ _ h4.2) h4.1.1 h4.1.2) pa_nil rfl) (O.nx rfl hz)) fun D U H q => ?_
        obtain ⟨UD,M,F,ρ,S,r,z⟩ := sim_raise q3 q
        exact ⟨UD,M,F,ρ,S,r,PostG.imp z fun _ H' z y => ⟨by show 1 <= 2 ^ 24; decide,z⟩⟩
      . cases h4
    . cases h
  | «try» x hs els =>
    simp only [Bool.and_eq_true,Bool.not_eq_true'] at h
    obtain ⟨⟨hb,he⟩,h⟩ := h
    subst hb
    split at he
    . split at h
      . simp only [Bool.and_eq_true] at h
        obtain ⟨h1,h2⟩ := h
        obtain ⟨rs,hrs,ph⟩ := snd_hd O h2
        exact PS.weak (ps_try (O.st rfl).1 (O.st rfl).2 (fun pins D => snd_try ihG O h1) ph) fun D U H q => sim_try O hrs q
      . cases h
    . cases he
theorem sound : ∀ (n : Nat) {G : Gm} {X : Cx} {N : List Str} {sc : Scope} {b : Bool} {w : XS},XOk G B Φ k X N sc b w -> Snd G B Φ k n X N sc b w
  | 0,G,X,N,sc,b,w,O => ⟨fun _ _ h => by simp [chk] at h,fun _ _ h => by simp [chk] at h,fun _ _ h => by simp [chk] at h,fun _ _ h => by simp [chk] at h,fun _ _ _ _ _ h => by simp [chk] at h,fun _ _ h => by simp [chk] at h,fun _ _ h => by simp [chk] at h,fun _ _ h => by simp [chk] at h⟩
  | n + 1, G, X, N, sc, b, w, O => by
    have ih := sound n O
    have ihb := fun X' N' sc' w' (O' : XOk G B Φ k X' N' sc' true w') => sound n O'
    refine ⟨snd_e O ih ihb,snd_t O ih,fun a c h => ?_,fun a c h => ?_,fun hb => snd_i O ih hb,snd_s O ih (fun G' X' N' sc' b' w' O' => sound n O'),fun a c h => ?_,fun a c h => ?_⟩
    . cases c with
      | nil =>
        cases a with
        | nil => exact PA.weak pa_nil fun _ _ _ => sim_nil
        | cons _ _ => simp [chk] at h
      | cons c cs =>
        cases a with
        | nil => simp [chk] at h
        | cons a as =>
          simp only [chk,Bool.and_eq_true] at h
          exact PA.weak (pa_cons (ih.e _ _ h.1.2) (ih.es _ _ h.2) (star_cons h.1.1)) fun _ _ _ => sim_cons
    . cases c with
      | none =>
        cases a with
        | none => exact PO.weak po_none fun _ _ _ => sim_o0
        | some _ => simp [chk] at h
      | some c =>
        cases a with
        | none => simp [chk] at h
        | some a =>
          simp only [chk] at h
          exact PO.weak (po_some (ih.e _ _ h)) fun _ _ _ => sim_o1
    . cases c with
      | nil =>
        cases a with
        | nil => exact PSs.weak pss_nil fun _ _ _ => sim_snil
        | cons _ _ => simp [chk] at h
      | cons c cs =>
        cases a with
        | nil => simp [chk] at h
        | cons a as =>
          simp only [chk,Bool.and_eq_true] at h
          exact PSs.weak (pss_cons (ih.s _ _ h.1) (ih.ss _ _ h.2)) fun _ _ _ => sim_scons
    . simp only [chk] at h
      split at h
      . split at h
        . exact .nil
        . cases h
      . split at h
        . simp only [Bool.and_eq_true,decide_eq_true_eq] at h
          exact .lit h.1 (ih.m _ _ h.2)
        . split at h
          . simp only [Bool.and_eq_true,decide_eq_true_eq] at h
            obtain ⟨⟨h1,h2⟩,h3⟩ := h
            subst h1
            exact .fld (ih.e _ _ h2) (ih.m _ _ h3)
          . cases h
        . cases h
end
end Fg
end
section
set_option autoImplicit false
namespace Fg
open PySem PySem.Spec L2
inductive EnV : List DictEntry -> List (Key × V) -> Prop
  | nil : EnV [] []
  | cons {h : Int} {x : Str} {t : Tok} {u : Value} {v : V} {es : List DictEntry} {kvs : List (Key × V)} : RelV v u -> EnV es kvs -> EnV (⟨h,.str x t,u⟩ :: es) ((Sum.inr x,v) :: kvs)
def KDk (w : World) (K : W.Frag) (a : Addr) (kvs : List (Key × V)) : Prop :=
  kvs.length <= sizeLine /\ (a == sysModules) = false /\ (kvs.map (·.1)).Nodup /\ ∃ es n, K.lookup a = some ⟨.type "dict", none, .dict es n, #[]⟩ /\ W.KeysLit w.params es.toList /\ EnV es.toList kvs
theorem EnV.vs {prog : Program} {w : World} : ∀ {es : List DictEntry} {kvs : List (Key × V)},EnV es kvs -> ∃ vs,KV kvs vs /\ Pairs (mixKind prog w) es vs /\ vs.map (·.1) = kvs.map (·.1)
  | _,_,.nil => ⟨[],.nil,.nil,rfl⟩
  | _,_,.cons (h := h) (x := x) (t := t) (u := u) r q => by
    obtain ⟨vs,h1,h2,h3⟩ := EnV.vs q
    exact ⟨(Sum.inr x,u) :: vs,.cons ⟨rfl,r⟩ h1,.cons (keyIs_str x t) rfl h2,by simp [h3]⟩
theorem KDk.ok {prog : Program} {w : World} {K : W.Frag} {a : Addr} {kvs : List (Key × V)} (d : KDk w K a kvs) (h : Heap) (X : K.In h) : kvs.length <= sizeLine /\ (a == sysModules) = false /\ ∃ vs,KV kvs vs /\ h.DictOf (mixKind prog w) a vs := by
  obtain ⟨h1,h2,h3,es,n,h4,h5,h6⟩ := d
  obtain ⟨vs,q1,q2,q3⟩ := EnV.vs (prog := prog) (w := w) h6
  refine ⟨h1,h2,vs,q1,_,es,n,X _ _ h4,⟨rfl,rfl,rfl⟩,rfl,fun e he => ?_,q2,by rw [q3]; exact h3⟩
  obtain ⟨x,t,e1,e2⟩ := h5.all e (Array.mem_toList_iff.mpr he)
  exact ⟨Sum.inr x,by rw [e1]; exact keyIs_str x t,e2⟩
theorem exc_of {K : W.Frag} {C : Addr} {bmB : List Value} {newId : String} (q : W.excIn K C bmB newId = true) : ∃ bm,ExcC K C bmB newId bm /\ ∀ v b,W.mroIn K C v = some b -> (Value.ref C :: bm).contains v = b := by
  unfold W.excIn at q
  split at q
  . rename_i dd cd sl lk
    split at q
    . rename_i C2 bm a0 a1 a2 a3 n a5 hm hs
      simp only [beq_iff_eq,Bool.not_eq_true',Bool.and_eq_true] at q; obtain ⟨⟨⟨⟨⟨rfl,rfl⟩,dl⟩,ht⟩,hok⟩,hni⟩ := q
      obtain ⟨nm,bs,mr,ns,qn,hd,sn,sb,ab,cl,dl'⟩ := cd; dsimp only at hm dl hok hni; subst hm dl
      obtain ⟨l⟩ := sl
      simp only at hs
      subst hs
      refine ⟨bm,⟨nm,qn,ns,bs,hd,sn,sb,ab,cl,dd,a0,a1,a2,a3,a5,lk,hok,hni,ht⟩,fun v b e => ?_⟩
      unfold W.mroIn W.clsIn at e
      rw [lk] at e
      simpa using e
    . cases q
  . cases q
theorem base_of {C : Addr} {bm : List Value} {s : String} (h : (Value.ref C :: bm).contains (.type s) = true) : bm.contains (.type s) = true := by
  rw [List.contains_cons] at h
  simpa using h
def BdOf (w : World) (K : W.Frag) (cl : Nat -> Option Addr) (xc : Nat -> Option Addr) : Bd := ⟨K,KDk w K,cl,fun c cv => ∃ C,xc c = some C /\ cv = .ref C,xc⟩
theorem bd_dk {X : Cx} {cl xc : Nat -> Option Addr} : DkOk (BdOf X.w X.K cl xc) X := fun a kvs h hp KX => KDk.ok h hp KX
def FnAt (G : Gm) (P : Prg) (K : W.Frag) (i m : Nat) (fa : Addr) (fd : FuncData) (ps : List Str) : Prop := ∃ x qual st N fn,Fun K x qual st fa fd /\ P.fn i = some fn /\ FnScope N ps (defScope st) /\ ps.length = m /\ fn.np = m /\ fn.ns = N.length /\ fn.dfl = [] /\ chk G 200 false N (defScope st) (.ss (defBody st) fn.body) = true
structure Md (G : Gm) (P : Prg) (w : World) (K : W.Frag) (mg : Str -> Option Value) (cl xc : Nat -> Option Addr) : Prop where
  cst : ∀ x i,G.cst.lookup x = some i -> ∃ v u,mg x = some u /\ RelV v u /\ ∀ d,P.glob i = some d -> ∀ F ρ H,RD (BdOf w K cl xc) F ρ H d v
  blt : ∀ x,G.blts.contains x = true -> mg x = none
  fns : ∀ f i m,G.fns.lookup f = some (i,m) -> ∃ fa fd ps,mg f = some (.ref fa) /\ W.keepIn K (.ref fa) = true /\ Binds K fd ps [] /\ FnAt G P K i m fa fd ps
  cls : ∀ c C,cl c = some C -> Cls K C /\ ∀ f,G.flds.contains f = true -> NoAttr K C f
  mts : ∀ c nm i m,G.mts.lookup (c,nm) = some (i,m) -> ∃ C fa fd ps,cl c = some C /\ Meth K C nm fa /\ Binds K fd ps [] /\ FnAt G P K i m fa fd ps
  mks : ∀ x c i m,G.cls.lookup x = some (c,i,m) -> ∃ C fa fd ps,mg x = some (.ref C) /\ cl c = some C /\ Mk K C fa /\ Binds K fd ps [] /\ FnAt G P K i m fa fd ps
  exc : ∀ x c,G.exc.lookup x = some c -> ∃ C,mg x = some (.ref C) /\ xc c = some C
  exq : ∀ c C, xc c = some C -> ∃ bmB newId bm base initId, ExcC K C bmB newId bm /\ ExcBaseFacts base newId initId bmB /\ bm.contains (.type "BaseException") = true /\ ∀ d D, xc d = some D -> (Value.ref C :: bm).contains (.ref D) = P.sub c d
  rz : G.rz = true
section
variable {G : Gm} {P : Prg} {w : World} {K : W.Frag} {mg : Str -> Option Value} {prog : Program} {base : Heap}
theorem start_rs {B : Bd} {F : Addr -> Prop} {ρ : List Addr} {H : Hp} {N : List Str} {ds : List D} {vs : List V} {n : Nat} (r : RDs B F ρ H ds vs) (hn : n = N.length - vs.length) : RS B F ρ H (ds.map some ++ List.replicate n none) (L2.start N vs) := by
  subst hn
  refine ⟨by simp [L2.start,RDs.length r],fun i d q => ?_⟩
  by_cases hi : i < ds.length
  . rw [List.getElem?_append_left (by simpa using hi),List.getElem?_map] at q
    cases hd : ds[i]? with
    | none => rw [hd] at q; cases q
    | some e =>
      rw [hd] at q
      simp only [Option.map_some,Option.some.injEq] at q
      subst q
      obtain ⟨v,h1,h2⟩ := RDs.get r hd
      refine ⟨v,?_,h2⟩
      unfold L2.start
      rw [List.getElem?_append_left (by rw [List.length_map,<- RDs.length r]; exact hi),List.getElem?_map,h1]; rfl
  . rw [List.getElem?_append_right (by simpa using Nat.le_of_not_lt hi),List.getElem?_replicate] at q
    split at q <;> cases q
theorem retn_post {B : Bd} {F F' : Addr -> Prop} {ρ ρ' : List Addr} {H H' : Hp} {M M' : MH} {d : D} {v : V} {kp : Bool} {Q : VK} {X : XK} (S : SR B F ρ M H) (h : Post B (retn kp M d M') F ρ H Q X) (e : Ext F ρ H F' ρ' H') (S' : SR B F' ρ' M' H') (rd : RD B F' ρ' H' d v) : Q v H' := by
  unfold retn at h
  split at h
  . rename_i hk
    split at h
    . rename_i hn
      exact h F' ρ H' v e.cut (S.cut S' e hk.2) (RD.cut e.r (by rw [S.len]; exact hn) rd)
    . rename_i hn
      split at h
      . rename_i n
        split at h
        . rename_i ds hM
          split at h
          . rename_i hns
            simp only [RD] at rd
            obtain ⟨a,h1,rfl⟩ := rd
            obtain ⟨vs,h2,h3⟩ := S'.obj n a _ h1 hM
            have hlt : ¬ n < M.length := by simpa [nr] using hn
            have ha : a ∉ ρ := fun z => by
              obtain ⟨j,hj,ej⟩ := List.mem_iff_getElem.mp z
              have q : ρ'[j]? = some a := e.at (by rw [List.getElem?_eq_getElem hj,ej])
              obtain ⟨j1,q1⟩ := List.getElem?_eq_some_iff.mp q
              obtain ⟨j2,q2⟩ := List.getElem?_eq_some_iff.mp h1
              have := (List.getElem_inj S'.nd).mp (q1.trans q2.symm)
              rw [S.len] at hj
              omega
            have hHa : H a = none := (e.n a (List.mem_of_getElem? h1)).resolve_left ha
            have Sc := S.cut S' e hk.2
            have r3 := RDs.cut e.r (by rw [S.len]; exact hns) h3
            have xt : Ex1 F' ρ H' (fun b => F' b \/ b = a) ρ H' := ⟨fun _ q => .inl q,fun _ _ _ => rfl,List.prefix_refl _⟩
            have ec := e.cut
            refine h (fun b => F' b \/ b = a) ρ H' (.ref a) ⟨⟨ec.s,fun b q => .inl (ec.f b q),ec.h,ec.r,ec.n,fun b q => q.elim (ec.g b) fun z => .inr (.inl (z ▸ hHa))⟩,ec.z⟩ (Sc.take ha (by rw [h2]; simp)) ?_
            simp only [RD]
            exact ⟨a,vs,rfl,.inl ⟨.inr rfl,.inl h2⟩,RDs.mono1 xt _ _ r3⟩
          . exact h F' ρ' H' v e S' rd
        . exact h F' ρ' H' v e S' rd
      . exact h F' ρ' H' v e S' rd
  . exact h F' ρ' H' v e S' rd
theorem retx_post {B : Bd} {F F' : Addr -> Prop} {ρ ρ' : List Addr} {H H' : Hp} {M M' : MH} {c : Nat} {cv : Value} {x : Option Addr} {Q : VK} {X : XK} (S : SR B F ρ M H) (h : Post B (retx M c M') F ρ H Q X) (e : Ext F ρ H F' ρ' H') (S' : SR B F' ρ' M' H') (q : B.exc c cv) : X cv x H' := by
  unfold retx at h
  split at h
  . rename_i hk
    exact h F' ρ H' cv x e.cut (S.cut S' e hk) q
  . exact h F' ρ' H' cv x e S' q
abbrev bodyX (X : Cx) (w : XS) : Cx := X.wish fun e s => Fly X (GX false X w).e e s \/ New X (GX false X w).e e s
theorem fun_okE {x qual : Str} {st : Stmt} {f : Addr} {fd : FuncData} {N ps : List Str} {k : Nat} {sp : Sp} (F : Fun K x qual st f fd) (S : FnScope N ps (defScope st)) (len : ∀ vs H Q E,sp vs H Q E -> vs.length = ps.length)
    (hbody : ∀ (cdv : Value) (A : Around) (outer : List Env) (s : Shared) (H : Hp) (vs : List V) (Q : VK) (E : XK),Room k (A.deeper (PyProof.Rows.envOfC qual (defScope st) s.heap.objs.size f cdv)) -> sp vs H Q E ->
      ∃ t,PSs (bodyX (cxOf (CXE prog w) prog w K mg base N qual (defScope st) f cdv A outer s H E) fun cv x _ H' => E cv x H') (defBody st) t /\ t { nx := fun _ H' => Q .non H',rt := Q } (L2.start N vs) H) : FnOk prog w K mg base (CXE prog w) (k + 1) f fd ps sp := by
  obtain ⟨oc,od,kV,doc,pm,an,cdv,ct,osl,rfl,lk,hcd⟩ := F.ex
  refine fn_of lk hcd S len fun A outer s H vs Q E hr h => ?_
  obtain ⟨t,h1,h2⟩ := hbody cdv A outer s H vs Q E hr h
  refine ⟨t,fun pins s1 U H1 D I q => ?_,h2⟩
  exact wpAny_mono (h1 pins s1 U H1 D (I.wish _) q) (fun _ _ z => z.unwish) fun e s2 z => z.elim (fun z => leave_fly e s2 (fly_thaw z)) fun z => leave_new e s2 (new_thaw z)
theorem step_ok {cl xc : Nat -> Option Addr} (D : Md G P w K mg cl xc) {k : Nat} (ih : ∀ (i m : Nat) (fa : Addr) (fd : FuncData) (ps : List Str),FnAt G P K i m fa fd ps -> FnOk prog w K mg base (CXE prog w) k fa fd ps (spF (BdOf w K cl xc) (callF P k) i m))
    (ih0 : ∀ j,k = j + 1 -> ∀ (i m : Nat) (fa : Addr) (fd : FuncData) (ps : List Str),FnAt G P K i m fa fd ps -> FnOk prog w K mg base (CXE prog w) j fa fd ps (spF (BdOf w K cl xc) (callF P j) i m))
    {f qual : Str} {i m : Nat} {fa : Addr} {fd : FuncData} {ps : List Str} {st : Stmt} {N : List Str} {fn : Fn} (h2 : Fun K f qual st fa fd) (h4 : P.fn i = some fn) (h5 : FnScope N ps (defScope st)) (h6 : ps.length = m) (h7 : fn.np = m) (h8 : fn.ns = N.length) (h9 : fn.dfl = []) (h10 : chk G 200 false N (defScope st) (.ss (defBody st) fn.body) = true) :
    FnOk prog w K mg base (CXE prog w) (k + 1) fa fd ps (spF (BdOf w K cl xc) (callF P (k + 1)) i m) := by
    refine fun_okE h2 h5 (fun vs H Q E q => by rw [q.1,h6]) fun cdv A outer s H vs Q E hr q => ?_
    let X0 := cxOf (CXE prog w) prog w K mg base N qual (defScope st) fa cdv A outer s H E
    obtain ⟨hl,ds,M,F,ρ,S,rd,post⟩ := q
    have O : XOk G (BdOf w K cl xc) (callF P k) k (bodyX X0 fun cv x _ H' => E cv x H') N (defScope st) false (fun cv x _ H' => E cv x H') :=
      ⟨rfl,h5.nd,rfl,rfl,rfl,hr,bd_dk (X := bodyX X0 fun cv x _ H' => E cv x H') (cl := cl) (xc := xc),(fun e s z => z.imp (fun ⟨p,U,H,a,a0,C,B,h1,I,h⟩ => ⟨p,U,H,a,a0,C,B,h1,I.wish _,h⟩) fun ⟨p,U,H,a,C,vs,hh,h1,I,h⟩ => ⟨p,U,H,a,C,vs,hh,h1,I.wish _,h⟩),
        (fun e s ⟨p,U,H,a,a0,C,B,h1,I,h⟩ => .inl ⟨p,U,H,a,a0,C,B,h1,I.unwish,h⟩),(fun _ _ e s ⟨p,U,H,a,C,vs,hh,h1,I,h⟩ => .inr ⟨p,U,H,a,C,vs,hh,h1,I.unwish,h⟩),⟨_,_,_,rfl,rfl,rfl⟩,fun _ _ => rfl,(fun g j n hg => by
        obtain ⟨fa,fd,ps,a1,a2,a3,a4⟩ := D.fns g j n hg
        exact ⟨fa,fd,ps,a1,a2,a3,ih j n fa fd ps a4⟩),fun x j hx => by
        obtain ⟨v,u,a1,a2,a3⟩ := D.cst x j hx
        refine ⟨v,u,a1,a2,fun d hd => a3 d ?_⟩
        cases k <;> exact hd,D.blt,D.cls,(fun c nm j n hg => by
        obtain ⟨C,fa,fd,ps,a1,a2,a3,a4⟩ := D.mts c nm j n hg
        exact ⟨C,fa,fd,ps,a1,a2,a3,ih j n fa fd ps a4⟩),(fun x c j n hg => by
        obtain ⟨C,fa,fd,ps,a1,a2,a3,a4,a5⟩ := D.mks x c j n hg
        refine ⟨C,fa,fd,ps,a1,a2,a3,a4,?_⟩
        cases k with
        | zero => exact .inr fun _ _ => rfl
        | succ k' => exact .inl ⟨k',rfl,ih0 k' rfl j n fa fd ps a5⟩),(fun x c hx => by
        obtain ⟨C,a1,a2⟩ := D.exc x c hx
        obtain ⟨bmB,newId,bm,base,initId,a3,a4,a5,_⟩ := D.exq c C a2
        exact ⟨C,bmB,newId,bm,base,initId,a1,a2,⟨C,a2,rfl⟩,a3,a4,a5⟩),(fun c cv hc => by
        obtain ⟨C,a2,rfl⟩ := hc
        obtain ⟨bmB,newId,bm,base,initId,a3,a4,a5,a6⟩ := D.exq c C a2
        refine ⟨C,bmB,newId,bm,rfl,a3,fun d D' hd => (a6 d D' hd).trans ?_⟩
        cases k <;> rfl),fun _ => ⟨rfl,rfl⟩⟩
    refine ⟨_,(sound 200 O).ss _ _ h10,_,M,F,ρ,S,start_rs (n := fn.ns - fn.np) rd (by rw [h8,h7,hl]),?_⟩
    have hds : ds.length = m := by rw [RDs.length rd,hl]
    have hc : (callF P (k + 1)).call i ds M = runF (callF P k) fn ds M := by simp only [callF,h4]
    rw [hc] at post
    have hz : ds.length + fn.dfl.length - fn.np = 0 := by rw [h9,h7,hds]; simp
    unfold runF at post
    rw [if_pos (by rw [h9,h7,hds]; simp),hz,h9] at post
    simp only [List.drop_nil,List.append_nil] at post
    cases hx : exs (callF P k) fn.body (ds.map some ++ List.replicate (fn.ns - fn.np) none) M with
    | bad => rw [hx] at post; exact post
    | exc c M' => rw [hx] at post; exact post
    | ok o M' =>
      rw [hx] at post
      intro F' ρ' H' e S'
      cases o with
      | rt d => exact fun v q => retn_post S post e S' q
      | nx U' => exact fun U q => retn_post S post e S' (d := .non) (v := .non) (by simp only [RD])
      | bk _ => exact post.elim
      | ct _ => exact post.elim
      | xc c U' =>
        intro U cv x q1 q2
        exact ⟨H',.refl _,retx_post S post e S' q2⟩
theorem all_ok {cl xc : Nat -> Option Addr} (D : Md G P w K mg cl xc) : ∀ (k : Nat) (i m : Nat) (fa : Addr) (fd : FuncData) (ps : List Str),FnAt G P K i m fa fd ps -> FnOk prog w K mg base (CXE prog w) k fa fd ps (spF (BdOf w K cl xc) (callF P k) i m)
  | 0, i, m, fa, fd, ps, h => by
    have no : ∀ vs H Q E,¬ spF (BdOf w K cl xc) (callF P 0) i m vs H Q E := fun vs H Q E q => by
      obtain ⟨_,ds,M,F,ρ,_,_,q⟩ := q
      exact q
    exact ⟨fun vs H Q E q => absurd q (no vs H Q E),fun A outer s H args us vs Q E _ _ _ _ q => absurd q (no vs H Q E)⟩
  | 1,i,m,fa,fd,ps,h => by
    obtain ⟨x,qual,st,N,fn,h2,h4,h5,h6,h7,h8,h9,h10⟩ := h
    exact step_ok D (all_ok D 0) (fun j e => by cases e) h2 h4 h5 h6 h7 h8 h9 h10
  | k + 2,i,m,fa,fd,ps,h => by
    obtain ⟨x,qual,st,N,fn,h2,h4,h5,h6,h7,h8,h9,h10⟩ := h
    exact step_ok D (all_ok D (k + 1)) (fun j e => by cases e; exact all_ok D k) h2 h4 h5 h6 h7 h8 h9 h10
def spLaw (K : W.Frag) : Sp := fun vs H Q _ => ∃ (a : Addr) (ns : List Int),vs = [.ref a] /\ SqL K H a (ns.map V.int) /\ ns.length <= 63 /\ ∀ H',Q (.bl true) H'
theorem law_ok {cl xc : Nat -> Option Addr} (D : Md G P w K mg cl xc) {f : Str} {i k : Nat} (hP : ∀ ns : List Int,ns.length <= 63 -> ∃ M',(callF P (k + 1)).call i [.lst (ns.map .int)] [] = .ok (.bl true) M')
    {fa : Addr} {fd : FuncData} {ps : List Str} {st : Stmt} {N : List Str} {fn : Fn} (h2 : Fun K f f st fa fd) (h4 : P.fn i = some fn) (h5 : FnScope N ps (defScope st)) (h6 : ps.length = 1) (h7 : fn.np = 1) (h8 : fn.ns = N.length) (h9 : fn.dfl = []) (h10 : chk G 200 false N (defScope st) (.ss (defBody st) fn.body) = true) :
    FnOk prog w K mg base (CXE prog w) (k + 1) fa fd ps (spLaw K) := by
  refine (step_ok (prog := prog) (base := base) D (all_ok D k) (fun j _ => all_ok D j) h2 h4 h5 h6 h7 h8 h9 h10).imp fun vs H Q E q => ?_
  obtain ⟨a,ns,rfl,hS,hl,q⟩ := q
  obtain ⟨M',hM⟩ := hP ns hl
  have ints_ : ∀ (F : Addr -> Prop) (ns : List Int),RDs (BdOf w K cl xc) F [] H (ns.map Fg.D.int) (ns.map V.int) := by
    intro F ns
    induction ns with
    | nil => exact RDs.nil
    | cons n ns ih => exact RDs.cons (by simp only [RD]) ih
  have fin : ∀ F : Addr -> Prop,Post (BdOf w K cl xc) ((callF P (k + 1)).call i [.lst (ns.map .int)] []) F [] H Q E := by
    intro F
    rw [hM]
    intro F' ρ' H' v e S' rd
    simp only [RD] at rd
    subst rd
    exact q H'
  rcases hS with hS | hS
  . refine ⟨rfl,[.lst (ns.map .int)],[],fun b => b = a,[],⟨rfl,List.nodup_nil,fun _ z => by simp at z,fun b e => by rw [e]; exact rd_ne hS,fun n b o z => by simp at z⟩,?_,fin _⟩
    refine RDs.cons ?_ RDs.nil
    simp only [RD]
    exact ⟨a,_,rfl,.inl ⟨rfl,hS⟩,ints_ _ ns⟩
  . refine ⟨rfl,[.lst (ns.map .int)],[],fun _ => False,[],⟨rfl,List.nodup_nil,fun _ z => by simp at z,fun b e => e.elim,fun n b o z => by simp at z⟩,?_,fin _⟩
    refine RDs.cons ?_ RDs.nil
    simp only [RD]
    exact ⟨a,_,rfl,.inr hS,ints_ _ ns⟩
end
end Fg
end
section
namespace K03
open Fg PySem
def f_inner_names : List Str := [Str.ofString "part", Str.ofString "word"]
def f_inner : Fn := ⟨1,2,[],false,
 (Ss.cons (S.set 1 (E.idx (E.v 0) (E.k (.int 0))))
 (Ss.cons (S.ifs (E.cmp .isin (E.v 1) (E.g 0)) (Ss.cons (S.ret (E.sl true (E.v 0) (O.some (E.k (.int 1))) O.none))
 Ss.nil) Ss.nil)
 (Ss.cons (S.ifs (E.cmp .isin (E.v 1) (E.tup (Es.cons (E.k (.str (Str.ofString "let"))) (Es.cons (E.k (.str (Str.ofString "call"))) Es.nil)))) (Ss.cons (S.ret (E.sl true (E.v 0) (O.some (E.k (.int 2))) O.none))
 Ss.nil) Ss.nil)
 (Ss.cons (S.ret (E.tup Es.nil))
 Ss.nil))))⟩
def f_function_called_names : List Str := [Str.ofString "program", Str.ofString "name", Str.ofString "function"]
def f_function_called : Fn := ⟨2,3,[],false,
 (Ss.cons (S.for [2] (Src.e (E.v 0)) (Ss.cons (S.ifs (E.cmp .eq (E.idx (E.v 2) (E.k (.int 0))) (E.v 1)) (Ss.cons (S.ret (E.v 2))
 Ss.nil) Ss.nil)
 Ss.nil))
 (Ss.cons (S.raise 1 (Es.cons (E.v 1) Es.nil))
 Ss.nil))⟩
def f_want_kind_names : List Str := [Str.ofString "kind", Str.ofString "wanted"]
def f_want_kind : Fn := ⟨2,2,[],false,
 (Ss.cons (S.ifs (E.cmp .ne (E.v 0) (E.v 1)) (Ss.cons (S.raise 2 Es.nil)
 Ss.nil) Ss.nil)
 Ss.nil)⟩
def f_want_made_by_names : List Str := [Str.ofString "kind", Str.ofString "word"]
def f_want_made_by : Fn := ⟨2,2,[],false,
 (Ss.cons (S.ifs (E.cmp .ne (E.idx (E.v 0) (E.k (.int 0))) (E.v 1)) (Ss.cons (S.raise 2 (Es.cons (E.v 1) Es.nil))
 Ss.nil) Ss.nil)
 Ss.nil)⟩
def f_kind_of_call_names : List Str := [Str.ofString "program", Str.ofString "name", Str.ofString "kinds", Str.ofString "function"]
def f_kind_of_call : Fn := ⟨3,4,[],false,
 (Ss.cons (S.set 3 (E.call 1 (Es.cons (E.v 0) (Es.cons (E.v 1) Es.nil))))
 (Ss.cons (S.ex (E.call 2 (Es.cons (E.v 2) (Es.cons (E.comp true [] [0] (E.idx (E.v 0) (E.k (.int 1))) (Src.e (E.idx (E.v 3) (E.k (.int 1)))) O.none) Es.nil))))
 (Ss.cons (S.ret (E.idx (E.v 3) (E.k (.int 2))))
 Ss.nil)))⟩
def f_kind_of_pair_word_names : List Str := [Str.ofString "word", Str.ofString "kinds"]
def f_kind_of_pair_word : Fn := ⟨2,2,[],false,
 (Ss.cons (S.ifs (E.cmp .eq (E.v 0) (E.k (.str (Str.ofString "pair")))) (Ss.cons (S.ret (E.tup (Es.cons (E.k (.str (Str.ofString "pair"))) (Es.cons (E.idx (E.v 1) (E.k (.int 0))) (Es.cons (E.idx (E.v 1) (E.k (.int 1))) Es.nil)))))
 Ss.nil) Ss.nil)
 (Ss.cons (S.ex (E.call 3 (Es.cons (E.idx (E.v 1) (E.k (.int 0))) (Es.cons (E.k (.str (Str.ofString "pair"))) Es.nil))))
 (Ss.cons (S.ifs (E.cmp .eq (E.v 0) (E.k (.str (Str.ofString "first")))) (Ss.cons (S.ret (E.idx (E.idx (E.v 1) (E.k (.int 0))) (E.k (.int 1))))
 Ss.nil) Ss.nil)
 (Ss.cons (S.ret (E.idx (E.idx (E.v 1) (E.k (.int 0))) (E.k (.int 2))))
 Ss.nil))))⟩
def f_kind_of_list_word_names : List Str := [Str.ofString "word", Str.ofString "kinds"]
def f_kind_of_list_word : Fn := ⟨2,2,[],false,
 (Ss.cons (S.ifs (E.cmp .eq (E.v 0) (E.k (.str (Str.ofString "cons")))) (Ss.cons (S.ex (E.call 2 (Es.cons (E.idx (E.v 1) (E.k (.int 1))) (Es.cons (E.tup (Es.cons (E.k (.str (Str.ofString "list"))) (Es.cons (E.idx (E.v 1) (E.k (.int 0))) Es.nil))) Es.nil))))
 (Ss.cons (S.ret (E.idx (E.v 1) (E.k (.int 1))))
 Ss.nil)) Ss.nil)
 (Ss.cons (S.ex (E.call 3 (Es.cons (E.idx (E.v 1) (E.k (.int 0))) (Es.cons (E.k (.str (Str.ofString "list"))) Es.nil))))
 (Ss.cons (S.ifs (E.cmp .eq (E.v 0) (E.k (.str (Str.ofString "head")))) (Ss.cons (S.ret (E.idx (E.idx (E.v 1) (E.k (.int 0))) (E.k (.int 1))))
 Ss.nil) Ss.nil)
 (Ss.cons (S.ifs (E.cmp .eq (E.v 0) (E.k (.str (Str.ofString "tail")))) (Ss.cons (S.ret (E.idx (E.v 1) (E.k (.int 0))))
 Ss.nil) Ss.nil)
 (Ss.cons (S.ret (E.g 1))
 Ss.nil)))))⟩
def f_kind_of_word_names : List Str := [Str.ofString "word", Str.ofString "kinds"]
def f_kind_of_word : Fn := ⟨2,2,[],false,
 (Ss.cons (S.ifs (E.cmp .isin (E.v 0) (E.tup (Es.cons (E.k (.str (Str.ofString "pair"))) (Es.cons (E.k (.str (Str.ofString "first"))) (Es.cons (E.k (.str (Str.ofString "second"))) Es.nil))))) (Ss.cons (S.ret (E.call 5 (Es.cons (E.v 0) (Es.cons (E.v 1) Es.nil))))
 Ss.nil) Ss.nil)
 (Ss.cons (S.ifs (E.cmp .isin (E.v 0) (E.tup (Es.cons (E.k (.str (Str.ofString "cons"))) (Es.cons (E.k (.str (Str.ofString "head"))) (Es.cons (E.k (.str (Str.ofString "tail"))) (Es.cons (E.k (.str (Str.ofString "none"))) Es.nil)))))) (Ss.cons (S.ret (E.call 6 (Es.cons (E.v 0) (Es.cons (E.v 1) Es.nil))))
 Ss.nil) Ss.nil)
 (Ss.cons (S.ex (E.call 2 (Es.cons (E.idx (E.v 1) (E.k (.int 0))) (Es.cons (E.g 1) Es.nil))))
 (Ss.cons (S.ifs (E.cmp .eq (E.v 0) (E.k (.str (Str.ofString "if")))) (Ss.cons (S.ex (E.call 2 (Es.cons (E.idx (E.v 1) (E.k (.int 2))) (Es.cons (E.idx (E.v 1) (E.k (.int 1))) Es.nil))))
 (Ss.cons (S.ret (E.idx (E.v 1) (E.k (.int 1))))
 Ss.nil)) Ss.nil)
 (Ss.cons (S.ex (E.call 2 (Es.cons (E.idx (E.v 1) (E.k (.int 1))) (Es.cons (E.g 1) Es.nil))))
 (Ss.cons (S.ret (E.g 1))
 Ss.nil))))))⟩
def f_kind_of_let_names : List Str := [Str.ofString "program", Str.ofString "names", Str.ofString "part", Str.ofString "known"]
def f_kind_of_let : Fn := ⟨3,4,[],false,
 (Ss.cons (S.set 3 (E.blt .dict false (Es.cons (E.v 1) Es.nil)))
 (Ss.cons (S.seti (E.v 3) (E.idx (E.v 2) (E.k (.int 1))) (E.call 9 (Es.cons (E.v 0) (Es.cons (E.v 1) (Es.cons (E.idx (E.v 2) (E.k (.int 2))) Es.nil)))))
 (Ss.cons (S.ret (E.call 9 (Es.cons (E.v 0) (Es.cons (E.v 3) (Es.cons (E.idx (E.v 2) (E.k (.int 3))) Es.nil)))))
 Ss.nil)))⟩
def f_kind_of_names : List Str := [Str.ofString "program", Str.ofString "names", Str.ofString "part", Str.ofString "word", Str.ofString "kinds"]
def f_kind_of : Fn := ⟨3,5,[],false,
 (Ss.cons (S.set 3 (E.idx (E.v 2) (E.k (.int 0))))
 (Ss.cons (S.ifs (E.cmp .eq (E.v 3) (E.k (.str (Str.ofString "number")))) (Ss.cons (S.ret (E.g 1))
 Ss.nil) Ss.nil)
 (Ss.cons (S.ifs (E.cmp .eq (E.v 3) (E.k (.str (Str.ofString "name")))) (Ss.cons (S.ret (E.idx (E.v 1) (E.idx (E.v 2) (E.k (.int 1)))))
 Ss.nil) Ss.nil)
 (Ss.cons (S.ifs (E.cmp .eq (E.v 3) (E.k (.str (Str.ofString "nil")))) (Ss.cons (S.ret (E.tup (Es.cons (E.k (.str (Str.ofString "list"))) (Es.cons (E.idx (E.v 2) (E.k (.int 1))) Es.nil))))
 Ss.nil) Ss.nil)
 (Ss.cons (S.ifs (E.cmp .eq (E.v 3) (E.k (.str (Str.ofString "let")))) (Ss.cons (S.ret (E.call 8 (Es.cons (E.v 0) (Es.cons (E.v 1) (Es.cons (E.v 2) Es.nil)))))
 Ss.nil) Ss.nil)
 (Ss.cons (S.set 4 (E.comp true [0,1] [2] (E.call 9 (Es.cons (E.v 0) (Es.cons (E.v 1) (Es.cons (E.v 2) Es.nil)))) (Src.e (E.call 0 (Es.cons (E.v 2) Es.nil))) O.none))
 (Ss.cons (S.ifs (E.cmp .eq (E.v 3) (E.k (.str (Str.ofString "call")))) (Ss.cons (S.ret (E.call 4 (Es.cons (E.v 0) (Es.cons (E.idx (E.v 2) (E.k (.int 1))) (Es.cons (E.v 4) Es.nil)))))
 Ss.nil) Ss.nil)
 (Ss.cons (S.ret (E.call 7 (Es.cons (E.v 3) (Es.cons (E.v 4) Es.nil))))
 Ss.nil))))))))⟩
def f_law_mixed_names : List Str := [Str.ofString "_law_cell"]
def f_law_mixed : Fn := ⟨1,1,[],false,
 (Ss.cons (S.ret (E.op .mod true (E.op .mul true (E.op .mul true (E.op .add true (E.op .mod true (E.v 0) (E.k (.int 2147483647))) (E.k (.int 11))) (E.k (.int 48271))) (E.k (.int 69621))) (E.k (.int 2147483629))))
 Ss.nil)⟩
def f_law_at_names : List Str := [Str.ofString "_law_script", Str.ofString "_law_k"]
def f_law_at : Fn := ⟨2,2,[],false,
 (Ss.cons (S.ifs (E.cmp .lt (E.v 1) (E.blt .len true (Es.cons (E.v 0) Es.nil))) (Ss.cons (S.ret (E.call 10 (Es.cons (E.idx (E.v 0) (E.v 1)) Es.nil)))
 Ss.nil) Ss.nil)
 (Ss.cons (S.ret (E.call 10 (Es.cons (E.k (.int 0)) Es.nil)))
 Ss.nil))⟩
def f_law_next_names : List Str := [Str.ofString "_law_seed", Str.ofString "_law_k"]
def f_law_next : Fn := ⟨2,2,[],false,
 (Ss.cons (S.ret (E.op .mod true (E.op .add true (E.op .mul true (E.v 0) (E.k (.int 48271))) (E.op .mul true (E.k (.int 69621)) (E.op .add true (E.v 1) (E.k (.int 1))))) (E.k (.int 2147483629))))
 Ss.nil)⟩
def f_law_kind_names : List Str := [Str.ofString "_law_pick", Str.ofString "_law_num", Str.ofString "_law_some"]
def f_law_kind : Fn := ⟨1,3,[],false,
 (Ss.cons (S.set 1 (E.tup (Es.cons (E.k (.str (Str.ofString "num"))) Es.nil)))
 (Ss.cons (S.set 2 (E.lst true (Es.cons (E.v 1) (Es.cons (E.v 1) (Es.cons (E.tup (Es.cons (E.k (.str (Str.ofString "list"))) (Es.cons (E.v 1) Es.nil))) (Es.cons (E.tup (Es.cons (E.k (.str (Str.ofString "pair"))) (Es.cons (E.v 1) (Es.cons (E.v 1) Es.nil)))) (Es.cons (E.tup (Es.cons (E.k (.str (Str.ofString "list"))) (Es.cons (E.tup (Es.cons (E.k (.str (Str.ofString "pair"))) (Es.cons (E.v 1) (Es.cons (E.v 1) Es.nil)))) Es.nil))) Es.nil)))))))
 (Ss.cons (S.set 2 (E.op .add true (E.v 2) (E.lst true (Es.cons (E.tup (Es.cons (E.k (.str (Str.ofString "pair"))) (Es.cons (E.v 1) (Es.cons (E.tup (Es.cons (E.k (.str (Str.ofString "list"))) (Es.cons (E.v 1) Es.nil))) Es.nil)))) (Es.cons (E.tup (Es.cons (E.k (.str (Str.ofString "list"))) (Es.cons (E.tup (Es.cons (E.k (.str (Str.ofString "list"))) (Es.cons (E.v 1) Es.nil))) Es.nil))) (Es.cons (E.tup (Es.cons (E.k (.str (Str.ofString "pair"))) (Es.cons (E.tup (Es.cons (E.k (.str (Str.ofString "list"))) (Es.cons (E.v 1) Es.nil))) (Es.cons (E.tup (Es.cons (E.k (.str (Str.ofString "list"))) (Es.cons (E.v 1) Es.nil))) Es.nil)))) Es.nil))))))
 (Ss.cons (S.set 2 (E.op .add true (E.v 2) (E.lst true (Es.cons (E.tup (Es.cons (E.k (.str (Str.ofString "pair"))) (Es.cons (E.tup (Es.cons (E.k (.str (Str.ofString "pair"))) (Es.cons (E.v 1) (Es.cons (E.v 1) Es.nil)))) (Es.cons (E.tup (Es.cons (E.k (.str (Str.ofString "list"))) (Es.cons (E.v 1) Es.nil))) Es.nil)))) (Es.cons (E.tup (Es.cons (E.k (.str (Str.ofString "pair"))) (Es.cons (E.tup (Es.cons (E.k (.str (Str.ofString "list"))) (Es.cons (E.tup (Es.cons (E.k (.str (Str.ofString "list"))) (Es.cons (E.v 1) Es.nil))) Es.nil))) (Es.cons (E.tup (Es.cons (E.k (.str (Str.ofString "list"))) (Es.cons (E.v 1) Es.nil))) Es.nil)))) Es.nil)))))
 (Ss.cons (S.ret (E.idx (E.v 2) (E.op .mod true (E.v 0) (E.k (.int 10)))))
 Ss.nil)))))⟩
def f_law_wide_names : List Str := [Str.ofString "_law_kind_here"]
def f_law_wide : Fn := ⟨1,1,[],false,
 (Ss.cons (S.ret (E.op .add true (E.k (.int 1)) (E.blt .sum true (Es.cons (E.comp true [] [0] (E.call 14 (Es.cons (E.v 0) Es.nil)) (Src.e (E.sl true (E.v 0) (O.some (E.k (.int 1))) O.none)) O.none) Es.nil))))
 Ss.nil)⟩
def f_law_name_names : List Str := [Str.ofString "_law_seed", Str.ofString "_law_k", Str.ofString "_law_base", Str.ofString "_law_at_here"]
def f_law_name : Fn := ⟨2,4,[],false,
 (Ss.cons (S.set 2 (E.sl true (E.k (.str (Str.ofString "anchor"))) O.none (O.some (E.op .mod true (E.v 0) (E.k (.int 6))))))
 (Ss.cons (S.set 3 (E.op .mod true (E.op .fdiv true (E.v 0) (E.k (.int 6))) (E.op .add true (E.blt .len true (Es.cons (E.v 2) Es.nil)) (E.k (.int 1)))))
 (Ss.cons (S.ret (E.op .add true (E.op .add true (E.sl true (E.v 2) O.none (O.some (E.v 3))) (E.idx (E.k (.str (Str.ofString "bgjkqvwxyz"))) (E.op .mod true (E.op .add true (E.op .fdiv true (E.v 0) (E.k (.int 60))) (E.op .mul true (E.k (.int 3)) (E.v 1))) (E.k (.int 10))))) (E.sl true (E.v 2) (O.some (E.v 3)) O.none)))
 Ss.nil)))⟩
def f_law_least_names : List Str := [Str.ofString "_law_kind_here", Str.ofString "_law_seed"]
def f_law_least : Fn := ⟨2,2,[],false,
 (Ss.cons (S.ifs (E.cmp .eq (E.idx (E.v 0) (E.k (.int 0))) (E.k (.str (Str.ofString "num")))) (Ss.cons (S.ret (E.tup (Es.cons (E.k (.str (Str.ofString "number"))) (Es.cons (E.idx (E.lst true (Es.cons (E.op .mod true (E.v 1) (E.k (.int 1000))) (Es.cons (E.op .mod true (E.v 1) (E.k (.int 7))) (Es.cons (E.op .sub true (E.neg (E.k (.int 1))) (E.op .mod true (E.v 1) (E.k (.int 99)))) (Es.cons (E.op .mod true (E.op .mul true (E.v 1) (E.op .pow true (E.k (.int 10)) (E.k (.int 20)))) (E.op .pow true (E.k (.int 10)) (E.k (.int 30)))) Es.nil))))) (E.op .mod true (E.op .fdiv true (E.v 1) (E.k (.int 1000))) (E.k (.int 4)))) Es.nil))))
 Ss.nil) Ss.nil)
 (Ss.cons (S.ifs (E.cmp .eq (E.idx (E.v 0) (E.k (.int 0))) (E.k (.str (Str.ofString "list")))) (Ss.cons (S.ret (E.tup (Es.cons (E.k (.str (Str.ofString "nil"))) (Es.cons (E.idx (E.v 0) (E.k (.int 1))) Es.nil))))
 Ss.nil) Ss.nil)
 (Ss.cons (S.ret (E.tup (Es.cons (E.k (.str (Str.ofString "pair"))) (Es.cons (E.call 16 (Es.cons (E.idx (E.v 0) (E.k (.int 1))) (Es.cons (E.v 1) Es.nil))) (Es.cons (E.call 16 (Es.cons (E.idx (E.v 0) (E.k (.int 2))) (Es.cons (E.call 12 (Es.cons (E.v 1) (Es.cons (E.k (.int 1)) Es.nil))) Es.nil))) Es.nil)))))
 Ss.nil)))⟩
def f_law_leaf_names : List Str := [Str.ofString "_law_kind_here", Str.ofString "_law_seed", Str.ofString "_law_names", Str.ofString "_law_some"]
def f_law_leaf : Fn := ⟨3,4,[],false,
 (Ss.cons (S.set 3 (E.comp true [0,2] [2] (E.v 2) (Src.e (E.v 2)) (O.some (E.cmp .eq (E.idx (E.v 1) (E.v 2)) (E.v 0)))))
 (Ss.cons (S.ifs (E.and (E.cmp .gt (E.blt .len true (Es.cons (E.v 3) Es.nil)) (E.k (.int 0))) (E.cmp .gt (E.op .mod true (E.v 1) (E.k (.int 4))) (E.k (.int 0)))) (Ss.cons (S.ret (E.tup (Es.cons (E.k (.str (Str.ofString "name"))) (Es.cons (E.idx (E.v 3) (E.op .mod true (E.op .fdiv true (E.v 1) (E.k (.int 4))) (E.blt .len true (Es.cons (E.v 3) Es.nil)))) Es.nil))))
 Ss.nil) Ss.nil)
 (Ss.cons (S.ret (E.call 16 (Es.cons (E.v 0) (Es.cons (E.op .fdiv true (E.v 1) (E.k (.int 4))) Es.nil))))
 Ss.nil)))⟩
def f_law_call_names : List Str := [Str.ofString "_law_kind_here", Str.ofString "_law_seed", Str.ofString "_law_names", Str.ofString "_law_functions", Str.ofString "_law_depth", Str.ofString "_law_some", Str.ofString "_law_one", Str.ofString "_law_found", Str.ofString "_law_k"]
def f_law_call : Fn := ⟨5,9,[],false,
 (Ss.cons (S.set 5 (E.comp true [0] [1] (E.v 1) (Src.e (E.v 3)) (O.some (E.cmp .eq (E.idx (E.v 1) (E.k (.int 2))) (E.v 0)))))
 (Ss.cons (S.ifs (E.cmp .eq (E.blt .len true (Es.cons (E.v 5) Es.nil)) (E.k (.int 0))) (Ss.cons (S.ret (E.call 17 (Es.cons (E.v 0) (Es.cons (E.v 1) (Es.cons (E.v 2) Es.nil)))))
 Ss.nil) Ss.nil)
 (Ss.cons (S.set 6 (E.idx (E.v 5) (E.op .mod true (E.op .fdiv true (E.v 1) (E.k (.int 11))) (E.blt .len true (Es.cons (E.v 5) Es.nil)))))
 (Ss.cons (S.set 7 (E.lst false (Es.cons (E.k (.str (Str.ofString "call"))) (Es.cons (E.idx (E.v 6) (E.k (.int 0))) Es.nil))))
 (Ss.cons (S.for [8] (Src.rng (E.blt .len true (Es.cons (E.idx (E.v 6) (E.k (.int 1))) Es.nil))) (Ss.cons (S.ex (E.mth .append true (E.v 7) (Es.cons (E.call 20 (Es.cons (E.idx (E.idx (E.idx (E.v 6) (E.k (.int 1))) (E.v 8)) (E.k (.int 1))) (Es.cons (E.call 12 (Es.cons (E.v 1) (Es.cons (E.v 8) Es.nil))) (Es.cons (E.v 2) (Es.cons (E.v 3) (Es.cons (E.op .sub true (E.v 4) (E.k (.int 1))) Es.nil)))))) Es.nil)))
 Ss.nil))
 (Ss.cons (S.ret (E.blt .tuple true (Es.cons (E.v 7) Es.nil)))
 Ss.nil))))))⟩
def f_law_maker_names : List Str := [Str.ofString "_law_kind_here", Str.ofString "_law_seed", Str.ofString "_law_names", Str.ofString "_law_functions", Str.ofString "_law_depth", Str.ofString "_law_other", Str.ofString "_law_one", Str.ofString "_law_two", Str.ofString "_law_word", Str.ofString "_law_first"]
def f_law_maker : Fn := ⟨5,10,[],false,
 (Ss.cons (S.set 5 (E.call 13 (Es.cons (E.op .fdiv true (E.v 1) (E.k (.int 7))) Es.nil)))
 (Ss.cons (S.set 6 (E.call 12 (Es.cons (E.v 1) (Es.cons (E.k (.int 11)) Es.nil))))
 (Ss.cons (S.set 7 (E.call 12 (Es.cons (E.v 1) (Es.cons (E.k (.int 12)) Es.nil))))
 (Ss.cons (S.ifs (E.and (E.cmp .eq (E.idx (E.v 0) (E.k (.int 0))) (E.k (.str (Str.ofString "num")))) (E.cmp .eq (E.op .mod true (E.v 1) (E.k (.int 3))) (E.k (.int 0)))) (Ss.cons (S.ret (E.tup (Es.cons (E.k (.str (Str.ofString "none"))) (Es.cons (E.call 20 (Es.cons (E.tup (Es.cons (E.k (.str (Str.ofString "list"))) (Es.cons (E.v 5) Es.nil))) (Es.cons (E.v 6) (Es.cons (E.v 2) (Es.cons (E.v 3) (Es.cons (E.op .sub true (E.v 4) (E.k (.int 1))) Es.nil)))))) Es.nil))))
 Ss.nil) Ss.nil)
 (Ss.cons (S.ifs (E.cmp .eq (E.idx (E.v 0) (E.k (.int 0))) (E.k (.str (Str.ofString "num")))) (Ss.cons (S.set 8 (E.idx (E.lst true (Es.cons (E.k (.str (Str.ofString "plus"))) (Es.cons (E.k (.str (Str.ofString "minus"))) (Es.cons (E.k (.str (Str.ofString "times"))) (Es.cons (E.k (.str (Str.ofString "less"))) Es.nil))))) (E.op .mod true (E.op .fdiv true (E.v 1) (E.k (.int 3))) (E.k (.int 4)))))
 (Ss.cons (S.set 9 (E.call 20 (Es.cons (E.v 0) (Es.cons (E.v 6) (Es.cons (E.v 2) (Es.cons (E.v 3) (Es.cons (E.op .sub true (E.v 4) (E.k (.int 1))) Es.nil)))))))
 (Ss.cons (S.ret (E.tup (Es.cons (E.v 8) (Es.cons (E.v 9) (Es.cons (E.call 20 (Es.cons (E.v 0) (Es.cons (E.v 7) (Es.cons (E.v 2) (Es.cons (E.v 3) (Es.cons (E.op .sub true (E.v 4) (E.k (.int 1))) Es.nil)))))) Es.nil)))))
 Ss.nil))) Ss.nil)
 (Ss.cons (S.ifs (E.cmp .eq (E.idx (E.v 0) (E.k (.int 0))) (E.k (.str (Str.ofString "pair")))) (Ss.cons (S.set 9 (E.call 20 (Es.cons (E.idx (E.v 0) (E.k (.int 1))) (Es.cons (E.v 6) (Es.cons (E.v 2) (Es.cons (E.v 3) (Es.cons (E.op .sub true (E.v 4) (E.k (.int 1))) Es.nil)))))))
 (Ss.cons (S.ret (E.tup (Es.cons (E.k (.str (Str.ofString "pair"))) (Es.cons (E.v 9) (Es.cons (E.call 20 (Es.cons (E.idx (E.v 0) (E.k (.int 2))) (Es.cons (E.v 7) (Es.cons (E.v 2) (Es.cons (E.v 3) (Es.cons (E.op .sub true (E.v 4) (E.k (.int 1))) Es.nil)))))) Es.nil)))))
 Ss.nil)) Ss.nil)
 (Ss.cons (S.ifs (E.cmp .eq (E.op .mod true (E.v 1) (E.k (.int 3))) (E.k (.int 0))) (Ss.cons (S.ret (E.tup (Es.cons (E.k (.str (Str.ofString "tail"))) (Es.cons (E.call 20 (Es.cons (E.v 0) (Es.cons (E.v 6) (Es.cons (E.v 2) (Es.cons (E.v 3) (Es.cons (E.op .sub true (E.v 4) (E.k (.int 1))) Es.nil)))))) Es.nil))))
 Ss.nil) Ss.nil)
 (Ss.cons (S.set 9 (E.call 20 (Es.cons (E.idx (E.v 0) (E.k (.int 1))) (Es.cons (E.v 6) (Es.cons (E.v 2) (Es.cons (E.v 3) (Es.cons (E.op .sub true (E.v 4) (E.k (.int 1))) Es.nil)))))))
 (Ss.cons (S.ret (E.tup (Es.cons (E.k (.str (Str.ofString "cons"))) (Es.cons (E.v 9) (Es.cons (E.call 20 (Es.cons (E.v 0) (Es.cons (E.v 7) (Es.cons (E.v 2) (Es.cons (E.v 3) (Es.cons (E.op .sub true (E.v 4) (E.k (.int 1))) Es.nil)))))) Es.nil)))))
 Ss.nil)))))))))⟩
def f_law_part_names : List Str := [Str.ofString "_law_kind_here", Str.ofString "_law_seed", Str.ofString "_law_names", Str.ofString "_law_functions", Str.ofString "_law_depth", Str.ofString "_law_lot", Str.ofString "_law_one", Str.ofString "_law_test", Str.ofString "_law_first"]
def f_law_part : Fn := ⟨5,9,[],false,
 (Ss.cons (S.ifs (E.cmp .le (E.v 4) (E.k (.int 0))) (Ss.cons (S.ret (E.call 17 (Es.cons (E.v 0) (Es.cons (E.v 1) (Es.cons (E.v 2) Es.nil)))))
 Ss.nil) Ss.nil)
 (Ss.cons (S.set 5 (E.op .mod true (E.v 1) (E.k (.int 12))))
 (Ss.cons (S.set 6 (E.call 12 (Es.cons (E.v 1) (Es.cons (E.k (.int 21)) Es.nil))))
 (Ss.cons (S.ifs (E.and (E.cmp .le (E.v 5) (E.k (.int 2))) (E.cmp .gt (E.call 14 (Es.cons (E.v 0) Es.nil)) (E.k (.int 4)))) (Ss.cons (S.set 5 (E.k (.int 9)))
 Ss.nil) Ss.nil)
 (Ss.cons (S.ifs (E.cmp .eq (E.v 5) (E.k (.int 0))) (Ss.cons (S.ret (E.tup (Es.cons (E.k (.str (Str.ofString "head"))) (Es.cons (E.call 20 (Es.cons (E.tup (Es.cons (E.k (.str (Str.ofString "list"))) (Es.cons (E.v 0) Es.nil))) (Es.cons (E.v 6) (Es.cons (E.v 2) (Es.cons (E.v 3) (Es.cons (E.op .sub true (E.v 4) (E.k (.int 1))) Es.nil)))))) Es.nil))))
 Ss.nil) Ss.nil)
 (Ss.cons (S.ifs (E.cmp .eq (E.v 5) (E.k (.int 1))) (Ss.cons (S.ret (E.tup (Es.cons (E.k (.str (Str.ofString "first"))) (Es.cons (E.call 20 (Es.cons (E.tup (Es.cons (E.k (.str (Str.ofString "pair"))) (Es.cons (E.v 0) (Es.cons (E.tup (Es.cons (E.k (.str (Str.ofString "num"))) Es.nil)) Es.nil)))) (Es.cons (E.v 6) (Es.cons (E.v 2) (Es.cons (E.v 3) (Es.cons (E.op .sub true (E.v 4) (E.k (.int 1))) Es.nil)))))) Es.nil))))
 Ss.nil) Ss.nil)
 (Ss.cons (S.ifs (E.cmp .eq (E.v 5) (E.k (.int 2))) (Ss.cons (S.ret (E.tup (Es.cons (E.k (.str (Str.ofString "second"))) (Es.cons (E.call 20 (Es.cons (E.tup (Es.cons (E.k (.str (Str.ofString "pair"))) (Es.cons (E.tup (Es.cons (E.k (.str (Str.ofString "num"))) Es.nil)) (Es.cons (E.v 0) Es.nil)))) (Es.cons (E.v 6) (Es.cons (E.v 2) (Es.cons (E.v 3) (Es.cons (E.op .sub true (E.v 4) (E.k (.int 1))) Es.nil)))))) Es.nil))))
 Ss.nil) Ss.nil)
 (Ss.cons (S.ifs (E.cmp .eq (E.v 5) (E.k (.int 3))) (Ss.cons (S.set 7 (E.call 20 (Es.cons (E.tup (Es.cons (E.k (.str (Str.ofString "num"))) Es.nil)) (Es.cons (E.v 6) (Es.cons (E.v 2) (Es.cons (E.v 3) (Es.cons (E.op .sub true (E.v 4) (E.k (.int 1))) Es.nil)))))))
 (Ss.cons (S.set 8 (E.call 20 (Es.cons (E.v 0) (Es.cons (E.call 12 (Es.cons (E.v 1) (Es.cons (E.k (.int 22)) Es.nil))) (Es.cons (E.v 2) (Es.cons (E.v 3) (Es.cons (E.op .sub true (E.v 4) (E.k (.int 1))) Es.nil)))))))
 (Ss.cons (S.ret (E.tup (Es.cons (E.k (.str (Str.ofString "if"))) (Es.cons (E.v 7) (Es.cons (E.v 8) (Es.cons (E.call 20 (Es.cons (E.v 0) (Es.cons (E.call 12 (Es.cons (E.v 1) (Es.cons (E.k (.int 23)) Es.nil))) (Es.cons (E.v 2) (Es.cons (E.v 3) (Es.cons (E.op .sub true (E.v 4) (E.k (.int 1))) Es.nil)))))) Es.nil))))))
 Ss.nil))) Ss.nil)
 (Ss.cons (S.ifs (E.cmp .le (E.v 5) (E.k (.int 6))) (Ss.cons (S.ret (E.call 18 (Es.cons (E.v 0) (Es.cons (E.op .fdiv true (E.v 1) (E.k (.int 12))) (Es.cons (E.v 2) (Es.cons (E.v 3) (Es.cons (E.v 4) Es.nil)))))))
 Ss.nil) Ss.nil)
 (Ss.cons (S.ifs (E.cmp .eq (E.v 5) (E.k (.int 7))) (Ss.cons (S.ret (E.call 17 (Es.cons (E.v 0) (Es.cons (E.v 6) (Es.cons (E.v 2) Es.nil)))))
 Ss.nil) Ss.nil)
 (Ss.cons (S.ret (E.call 19 (Es.cons (E.v 0) (Es.cons (E.op .fdiv true (E.v 1) (E.k (.int 12))) (Es.cons (E.v 2) (Es.cons (E.v 3) (Es.cons (E.v 4) Es.nil)))))))
 Ss.nil)))))))))))⟩
def f_law_alike_names : List Str := [Str.ofString "_law_found", Str.ofString "_law_due"]
def f_law_alike : Fn := ⟨2,2,[],false,
 (Ss.cons (S.ifs (E.isi (E.v 1) .str) (Ss.cons (S.ret (E.and (E.isi (E.v 0) .str) (E.cmp .eq (E.v 0) (E.v 1))))
 Ss.nil) Ss.nil)
 (Ss.cons (S.ifs (E.isi (E.v 1) .int) (Ss.cons (S.ret (E.and (E.isi (E.v 0) .int) (E.and (E.not (E.isi (E.v 0) .bool)) (E.cmp .eq (E.v 0) (E.v 1)))))
 Ss.nil) Ss.nil)
 (Ss.cons (S.ifs (E.and (E.isi (E.v 1) .list) (E.not (E.isi (E.v 0) .list))) (Ss.cons (S.ret (E.k (.bl false)))
 Ss.nil) Ss.nil)
 (Ss.cons (S.ifs (E.and (E.isi (E.v 1) .tuple) (E.not (E.isi (E.v 0) .tuple))) (Ss.cons (S.ret (E.k (.bl false)))
 Ss.nil) Ss.nil)
 (Ss.cons (S.ifs (E.cmp .ne (E.blt .len true (Es.cons (E.v 0) Es.nil)) (E.blt .len true (Es.cons (E.v 1) Es.nil))) (Ss.cons (S.ret (E.k (.bl false)))
 Ss.nil) Ss.nil)
 (Ss.cons (S.ret (E.all1 (E.comp true [] [0,1] (E.call 21 (Es.cons (E.v 0) (Es.cons (E.v 1) Es.nil))) (Src.zip (E.v 0) (E.v 1)) O.none)))
 Ss.nil))))))⟩
def f_law_heads_names : List Str := [Str.ofString "_law_seed", Str.ofString "_law_program", Str.ofString "_law_k", Str.ofString "_law_one", Str.ofString "_law_takers", Str.ofString "_law_kind_here", Str.ofString "_law_name_here"]
def f_law_heads : Fn := ⟨1,7,[],false,
 (Ss.cons (S.set 1 (E.lst false Es.nil))
 (Ss.cons (S.for [2] (Src.rng (E.k (.int 4))) (Ss.cons (S.set 3 (E.call 12 (Es.cons (E.v 0) (Es.cons (E.v 2) Es.nil))))
 (Ss.cons (S.set 4 (E.comp true [3] [1] (E.tup (Es.cons (E.call 15 (Es.cons (E.v 0) (Es.cons (E.v 1) Es.nil))) (Es.cons (E.call 13 (Es.cons (E.call 12 (Es.cons (E.v 0) (Es.cons (E.v 1) Es.nil))) Es.nil)) Es.nil))) (Src.rng (E.op .mod true (E.op .fdiv true (E.v 3) (E.k (.int 5))) (E.k (.int 5)))) O.none))
 (Ss.cons (S.set 5 (E.call 13 (Es.cons (E.op .fdiv true (E.v 3) (E.k (.int 35))) Es.nil)))
 (Ss.cons (S.set 6 (E.call 15 (Es.cons (E.v 0) (Es.cons (E.op .add true (E.k (.int 5)) (E.v 2)) Es.nil))))
 (Ss.cons (S.ifs (E.cmp .eq (E.v 2) (E.op .mod true (E.op .fdiv true (E.v 0) (E.k (.int 3))) (E.k (.int 4)))) (Ss.cons (S.set 6 (E.k (.str (Str.ofString "main"))))
 (Ss.cons (S.set 4 (E.comp true [] [0, 1] (E.tup (Es.cons (E.v 0) (Es.cons (E.tup (Es.cons (E.k (.str (Str.ofString "num"))) Es.nil)) Es.nil))) (Src.e (E.v 4)) O.none))
 Ss.nil)) Ss.nil)
 (Ss.cons (S.ex (E.mth .append true (E.v 1) (Es.cons (E.tup (Es.cons (E.v 6) (Es.cons (E.v 4) (Es.cons (E.v 5) (Es.cons (E.call 16 (Es.cons (E.v 5) (Es.cons (E.v 3) Es.nil))) Es.nil))))) Es.nil)))
 Ss.nil)))))))
 (Ss.cons (S.ret (E.v 1))
 Ss.nil)))⟩
def f_law_bad_call_names : List Str := [Str.ofString "_law_program", Str.ofString "_law_seed", Str.ofString "_law_names", Str.ofString "_law_one", Str.ofString "_law_made", Str.ofString "_law_at_here"]
def f_law_bad_call : Fn := ⟨3,6,[],false,
 (Ss.cons (S.set 3 (E.idx (E.v 0) (E.op .mod true (E.v 1) (E.k (.int 4)))))
 (Ss.cons (S.set 4 (E.comp false [2,1] [2] (E.call 17 (Es.cons (E.idx (E.v 2) (E.k (.int 1))) (Es.cons (E.call 12 (Es.cons (E.v 1) (Es.cons (E.k (.int 3)) Es.nil))) (Es.cons (E.v 0) Es.nil)))) (Src.e (E.idx (E.v 3) (E.k (.int 1)))) O.none))
 (Ss.cons (S.ifs (E.and (E.or (E.cmp .eq (E.op .mod true (E.op .fdiv true (E.v 1) (E.k (.int 4))) (E.k (.int 3))) (E.k (.int 0))) (E.cmp .eq (E.blt .len true (Es.cons (E.v 4) Es.nil)) (E.k (.int 0)))) (E.cmp .lt (E.blt .len true (Es.cons (E.v 4) Es.nil)) (E.k (.int 4)))) (Ss.cons (S.ex (E.mth .append true (E.v 4) (Es.cons (E.tup (Es.cons (E.k (.str (Str.ofString "number"))) (Es.cons (E.k (.int 1)) Es.nil))) Es.nil)))
 Ss.nil) (Ss.cons (S.ifs (E.cmp .lt (E.op .mod true (E.op .fdiv true (E.v 1) (E.k (.int 4))) (E.k (.int 3))) (E.k (.int 2))) (Ss.cons (S.set 4 (E.sl false (E.v 4) (O.some (E.k (.int 1))) O.none))
 Ss.nil) (Ss.cons (S.set 5 (E.op .mod true (E.op .fdiv true (E.v 1) (E.k (.int 12))) (E.blt .len true (Es.cons (E.v 4) Es.nil))))
 (Ss.cons (S.seti (E.v 4) (E.v 5) (E.tup (Es.cons (E.k (.str (Str.ofString "nil"))) (Es.cons (E.idx (E.idx (E.idx (E.v 3) (E.k (.int 1))) (E.v 5)) (E.k (.int 1))) Es.nil))))
 Ss.nil)))
 Ss.nil))
 (Ss.cons (S.ret (E.blt .tuple true (Es.cons (E.op .add true (E.lst true (Es.cons (E.k (.str (Str.ofString "call"))) (Es.cons (E.idx (E.v 3) (E.k (.int 0))) Es.nil))) (E.v 4)) Es.nil)))
 Ss.nil))))⟩
def f_law_bad_names : List Str := [Str.ofString "_law_program", Str.ofString "_law_seed", Str.ofString "_law_names", Str.ofString "_law_num", Str.ofString "_law_kind_here", Str.ofString "_law_one", Str.ofString "_law_some", Str.ofString "_law_made"]
def f_law_bad : Fn := ⟨3,8,[],false,
 (Ss.cons (S.set 3 (E.tup (Es.cons (E.k (.str (Str.ofString "num"))) Es.nil)))
 (Ss.cons (S.set 4 (E.call 13 (Es.cons (E.op .add true (E.k (.int 2)) (E.op .mod true (E.op .fdiv true (E.v 1) (E.k (.int 13))) (E.k (.int 8)))) Es.nil)))
 (Ss.cons (S.set 5 (E.call 20 (Es.cons (E.v 4) (Es.cons (E.call 12 (Es.cons (E.v 1) (Es.cons (E.k (.int 1)) Es.nil))) (Es.cons (E.v 2) (Es.cons (E.v 0) (Es.cons (E.k (.int 1)) Es.nil)))))))
 (Ss.cons (S.set 6 (E.call 20 (Es.cons (E.v 3) (Es.cons (E.call 12 (Es.cons (E.v 1) (Es.cons (E.k (.int 2)) Es.nil))) (Es.cons (E.v 2) (Es.cons (E.v 0) (Es.cons (E.k (.int 1)) Es.nil)))))))
 (Ss.cons (S.set 7 (E.lst true (Es.cons (E.tup (Es.cons (E.k (.str (Str.ofString "plus"))) (Es.cons (E.v 5) (Es.cons (E.v 6) Es.nil)))) (Es.cons (E.tup (Es.cons (E.k (.str (Str.ofString "less"))) (Es.cons (E.v 6) (Es.cons (E.v 5) Es.nil)))) (Es.cons (E.tup (Es.cons (E.k (.str (Str.ofString "times"))) (Es.cons (E.tup (Es.cons (E.k (.str (Str.ofString "nil"))) (Es.cons (E.v 3) Es.nil))) (Es.cons (E.v 6) Es.nil)))) Es.nil)))))
 (Ss.cons (S.set 7 (E.op .add true (E.v 7) (E.lst true (Es.cons (E.tup (Es.cons (E.k (.str (Str.ofString "minus"))) (Es.cons (E.v 6) (Es.cons (E.tup (Es.cons (E.k (.str (Str.ofString "pair"))) (Es.cons (E.v 6) (Es.cons (E.v 6) Es.nil)))) Es.nil)))) Es.nil))))
 (Ss.cons (S.set 7 (E.op .add true (E.v 7) (E.lst true (Es.cons (E.tup (Es.cons (E.k (.str (Str.ofString "if"))) (Es.cons (E.v 5) (Es.cons (E.v 6) (Es.cons (E.v 6) Es.nil))))) (Es.cons (E.tup (Es.cons (E.k (.str (Str.ofString "if"))) (Es.cons (E.v 6) (Es.cons (E.v 6) (Es.cons (E.v 5) Es.nil))))) (Es.cons (E.tup (Es.cons (E.k (.str (Str.ofString "if"))) (Es.cons (E.v 6) (Es.cons (E.v 5) (Es.cons (E.v 6) Es.nil))))) (Es.cons (E.tup (Es.cons (E.k (.str (Str.ofString "cons"))) (Es.cons (E.v 5) (Es.cons (E.v 5) Es.nil)))) Es.nil)))))))
 (Ss.cons (S.set 7 (E.op .add true (E.v 7) (E.lst true (Es.cons (E.tup (Es.cons (E.k (.str (Str.ofString "cons"))) (Es.cons (E.v 6) (Es.cons (E.v 6) Es.nil)))) (Es.cons (E.tup (Es.cons (E.k (.str (Str.ofString "cons"))) (Es.cons (E.v 6) (Es.cons (E.tup (Es.cons (E.k (.str (Str.ofString "nil"))) (Es.cons (E.tup (Es.cons (E.k (.str (Str.ofString "list"))) (Es.cons (E.v 3) Es.nil))) Es.nil))) Es.nil)))) (Es.cons (E.tup (Es.cons (E.k (.str (Str.ofString "head"))) (Es.cons (E.v 6) Es.nil))) (Es.cons (E.tup (Es.cons (E.k (.str (Str.ofString "tail"))) (Es.cons (E.v 6) Es.nil))) Es.nil)))))))
 (Ss.cons (S.set 7 (E.op .add true (E.v 7) (E.lst true (Es.cons (E.tup (Es.cons (E.k (.str (Str.ofString "head"))) (Es.cons (E.tup (Es.cons (E.k (.str (Str.ofString "pair"))) (Es.cons (E.v 5) (Es.cons (E.v 5) Es.nil)))) Es.nil))) (Es.cons (E.tup (Es.cons (E.k (.str (Str.ofString "none"))) (Es.cons (E.v 6) Es.nil))) (Es.cons (E.tup (Es.cons (E.k (.str (Str.ofString "first"))) (Es.cons (E.v 6) Es.nil))) (Es.cons (E.tup (Es.cons (E.k (.str (Str.ofString "second"))) (Es.cons (E.tup (Es.cons (E.k (.str (Str.ofString "nil"))) (Es.cons (E.v 3) Es.nil))) Es.nil))) Es.nil)))))))
 (Ss.cons (S.set 7 (E.op .add true (E.v 7) (E.lst true (Es.cons (E.tup (Es.cons (E.k (.str (Str.ofString "none"))) (Es.cons (E.tup (Es.cons (E.k (.str (Str.ofString "pair"))) (Es.cons (E.v 6) (Es.cons (E.v 5) Es.nil)))) Es.nil))) (Es.cons (E.call 23 (Es.cons (E.v 0) (Es.cons (E.op .fdiv true (E.v 1) (E.k (.int 23))) (Es.cons (E.v 2) Es.nil)))) Es.nil)))))
 (Ss.cons (S.ret (E.idx (E.v 7) (E.op .mod true (E.v 1) (E.k (.int 18)))))
 Ss.nil)))))))))))⟩
def f_law_within_names : List Str := [Str.ofString "_law_bad_here", Str.ofString "_law_seed", Str.ofString "_law_names", Str.ofString "_law_program", Str.ofString "_law_num", Str.ofString "_law_some", Str.ofString "_law_made"]
def f_law_within : Fn := ⟨4,7,[],false,
 (Ss.cons (S.set 4 (E.tup (Es.cons (E.k (.str (Str.ofString "num"))) Es.nil)))
 (Ss.cons (S.set 5 (E.call 20 (Es.cons (E.v 4) (Es.cons (E.call 12 (Es.cons (E.v 1) (Es.cons (E.k (.int 4)) Es.nil))) (Es.cons (E.v 2) (Es.cons (E.v 3) (Es.cons (E.k (.int 1)) Es.nil)))))))
 (Ss.cons (S.set 6 (E.lst true (Es.cons (E.v 0) (Es.cons (E.tup (Es.cons (E.k (.str (Str.ofString "let"))) (Es.cons (E.k (.str (Str.ofString "zq"))) (Es.cons (E.v 0) (Es.cons (E.v 5) Es.nil))))) (Es.cons (E.tup (Es.cons (E.k (.str (Str.ofString "let"))) (Es.cons (E.k (.str (Str.ofString "zq"))) (Es.cons (E.v 5) (Es.cons (E.v 0) Es.nil))))) (Es.cons (E.tup (Es.cons (E.k (.str (Str.ofString "if"))) (Es.cons (E.v 5) (Es.cons (E.v 0) (Es.cons (E.v 0) Es.nil))))) Es.nil))))))
 (Ss.cons (S.set 6 (E.op .add true (E.v 6) (E.lst true (Es.cons (E.tup (Es.cons (E.k (.str (Str.ofString "none"))) (Es.cons (E.tup (Es.cons (E.k (.str (Str.ofString "cons"))) (Es.cons (E.v 0) (Es.cons (E.v 5) Es.nil)))) Es.nil))) Es.nil))))
 (Ss.cons (S.ret (E.idx (E.op .add true (E.v 6) (E.lst true (Es.cons (E.tup (Es.cons (E.k (.str (Str.ofString "pair"))) (Es.cons (E.v 5) (Es.cons (E.v 0) Es.nil)))) (Es.cons (E.tup (Es.cons (E.k (.str (Str.ofString "first"))) (Es.cons (E.tup (Es.cons (E.k (.str (Str.ofString "pair"))) (Es.cons (E.v 5) (Es.cons (E.v 0) Es.nil)))) Es.nil))) Es.nil)))) (E.op .mod true (E.v 1) (E.k (.int 7)))))
 Ss.nil)))))⟩
def f_law_told_names : List Str := [Str.ofString "_law_program", Str.ofString "_law_names", Str.ofString "_law_part_here", Str.ofString "_law_word", Str.ofString "_law_found"]
def f_law_told : Fn := ⟨3,5,[],false,
 (Ss.cons (S.set 3 (E.k (.str (Str.ofString "none"))))
 (Ss.cons (S.set 4 (E.k .non))
 (Ss.cons (S.try (Ss.cons (S.set 4 (E.call 9 (Es.cons (E.v 0) (Es.cons (E.v 1) (Es.cons (E.v 2) Es.nil)))))
 Ss.nil) (Hs.cons [2] (Ss.cons (S.set 3 (E.k (.str (Str.ofString "kind"))))
 Ss.nil) Hs.nil) Ss.nil)
 (Ss.cons (S.ret (E.tup (Es.cons (E.v 3) (Es.cons (E.v 4) Es.nil))))
 Ss.nil))))⟩
def f_law_names : List Str := [Str.ofString "_law_script", Str.ofString "_law_seed", Str.ofString "_law_program", Str.ofString "_law_names", Str.ofString "_law_k", Str.ofString "_law_cell", Str.ofString "_law_one", Str.ofString "_law_kind_here", Str.ofString "_law_part_here", Str.ofString "_law_word", Str.ofString "_law_found"]
def f_law : Fn := ⟨1,11,[],false,
 (Ss.cons (S.set 1 (E.call 11 (Es.cons (E.v 0) (Es.cons (E.k (.int 0)) Es.nil))))
 (Ss.cons (S.set 2 (E.call 22 (Es.cons (E.v 1) Es.nil)))
 (Ss.cons (S.set 3 E.dct0)
 (Ss.cons (S.for [4] (Src.rng (E.k (.int 4))) (Ss.cons (S.seti (E.v 3) (E.call 15 (Es.cons (E.op .fdiv true (E.v 1) (E.k (.int 11))) (Es.cons (E.v 4) Es.nil))) (E.call 13 (Es.cons (E.op .add true (E.op .fdiv true (E.v 1) (E.k (.int 13))) (E.v 4)) Es.nil)))
 Ss.nil))
 (Ss.cons (S.for [5] (Src.e (E.op .add true (E.lst true (Es.cons (E.k (.int 1)) Es.nil)) (E.sl true (E.v 0) O.none (O.some (E.k (.int 12)))))) (Ss.cons (S.set 6 (E.call 10 (Es.cons (E.v 5) Es.nil)))
 (Ss.cons (S.set 7 (E.call 13 (Es.cons (E.op .fdiv true (E.v 6) (E.k (.int 3))) Es.nil)))
 (Ss.cons (S.set 8 (E.call 20 (Es.cons (E.v 7) (Es.cons (E.call 12 (Es.cons (E.v 6) (Es.cons (E.k (.int 1)) Es.nil))) (Es.cons (E.v 3) (Es.cons (E.v 2) (Es.cons (E.k (.int 2)) Es.nil)))))))
 (Ss.cons (S.ifs (E.cmp .eq (E.op .mod true (E.v 6) (E.k (.int 3))) (E.k (.int 0))) (Ss.cons (S.set 8 (E.call 25 (Es.cons (E.call 24 (Es.cons (E.v 2) (Es.cons (E.op .fdiv true (E.v 6) (E.k (.int 21))) (Es.cons (E.v 3) Es.nil)))) (Es.cons (E.op .fdiv true (E.v 6) (E.k (.int 7))) (Es.cons (E.v 3) (Es.cons (E.v 2) Es.nil))))))
 Ss.nil) Ss.nil)
 (Ss.cons (S.unp [9,10] (E.call 26 (Es.cons (E.v 2) (Es.cons (E.v 3) (Es.cons (E.v 8) Es.nil)))))
 (Ss.cons (S.ifs (E.or (E.cmp .ne (E.v 2) (E.call 22 (Es.cons (E.v 1) Es.nil))) (E.cmp .ne (E.blt .len true (Es.cons (E.v 3) Es.nil)) (E.k (.int 4)))) (Ss.cons (S.ret (E.k (.bl false)))
 Ss.nil) Ss.nil)
 (Ss.cons (S.ifs (E.and (E.cmp .eq (E.op .mod true (E.v 6) (E.k (.int 3))) (E.k (.int 0))) (E.cmp .ne (E.v 9) (E.k (.str (Str.ofString "kind"))))) (Ss.cons (S.ret (E.k (.bl false)))
 Ss.nil) Ss.nil)
 (Ss.cons (S.ifs (E.and (E.cmp .gt (E.op .mod true (E.v 6) (E.k (.int 3))) (E.k (.int 0))) (E.or (E.cmp .ne (E.v 9) (E.k (.str (Str.ofString "none")))) (E.not (E.call 21 (Es.cons (E.v 10) (Es.cons (E.v 7) Es.nil)))))) (Ss.cons (S.ret (E.k (.bl false)))
 Ss.nil) Ss.nil)
 Ss.nil)))))))))
 (Ss.cons (S.ret (E.k (.bl true)))
 Ss.nil))))))⟩
def fns : List Fn := [f_inner,f_function_called,f_want_kind,f_want_made_by,f_kind_of_call,f_kind_of_pair_word,f_kind_of_list_word,f_kind_of_word,f_kind_of_let,f_kind_of,f_law_mixed,f_law_at,f_law_next,f_law_kind,f_law_wide,f_law_name,f_law_least,f_law_leaf,f_law_call,f_law_maker,f_law_part,f_law_alike,f_law_heads,f_law_bad_call,f_law_bad,f_law_within,f_law_told,f_law]
def cst : List D := [(.dct [(.inr (Str.ofString "plus")), (.inr (Str.ofString "minus")), (.inr (Str.ofString "times")), (.inr (Str.ofString "less")), (.inr (Str.ofString "pair")), (.inr (Str.ofString "first")), (.inr (Str.ofString "second")), (.inr (Str.ofString "cons")), (.inr (Str.ofString "head")), (.inr (Str.ofString "tail")), (.inr (Str.ofString "none")), (.inr (Str.ofString "if"))] [(.int 2), (.int 2), (.int 2), (.int 2), (.int 2), (.int 1), (.int 1), (.int 2), (.int 1), (.int 1), (.int 1), (.int 3)]), (.tup [(.str (Str.ofString "num"))])]
def subs : List (Nat × Nat) := [(0,0),(1,0),(1,1),(2,0),(2,2)]
def prg : Prg := ⟨fun i => fns[i]?,fun i => cst[i]?,100000,fun a b => subs.contains (a,b)⟩
end K03
end
section
set_option autoImplicit false
namespace K03
open Fg PySem
theorem fn0 : prg.fn 0 = some f_inner := rfl
theorem fn1 : prg.fn 1 = some f_function_called := rfl
theorem fn2 : prg.fn 2 = some f_want_kind := rfl
theorem fn3 : prg.fn 3 = some f_want_made_by := rfl
theorem fn4 : prg.fn 4 = some f_kind_of_call := rfl
theorem fn5 : prg.fn 5 = some f_kind_of_pair_word := rfl
theorem fn6 : prg.fn 6 = some f_kind_of_list_word := rfl
theorem fn7 : prg.fn 7 = some f_kind_of_word := rfl
theorem fn8 : prg.fn 8 = some f_kind_of_let := rfl
theorem fn9 : prg.fn 9 = some f_kind_of := rfl
theorem fn10 : prg.fn 10 = some f_law_mixed := rfl
theorem fn11 : prg.fn 11 = some f_law_at := rfl
theorem fn12 : prg.fn 12 = some f_law_next := rfl
theorem fn13 : prg.fn 13 = some f_law_kind := rfl
theorem fn14 : prg.fn 14 = some f_law_wide := rfl
theorem fn15 : prg.fn 15 = some f_law_name := rfl
theorem fn16 : prg.fn 16 = some f_law_least := rfl
theorem fn17 : prg.fn 17 = some f_law_leaf := rfl
theorem fn18 : prg.fn 18 = some f_law_call := rfl
theorem fn19 : prg.fn 19 = some f_law_maker := rfl
theorem fn20 : prg.fn 20 = some f_law_part := rfl
theorem fn21 : prg.fn 21 = some f_law_alike := rfl
theorem fn22 : prg.fn 22 = some f_law_heads := rfl
theorem fn23 : prg.fn 23 = some f_law_bad_call := rfl
theorem fn24 : prg.fn 24 = some f_law_bad := rfl
theorem fn25 : prg.fn 25 = some f_law_within := rfl
theorem fn26 : prg.fn 26 = some f_law_told := rfl
theorem fn27 : prg.fn 27 = some f_law := rfl
def mixed (c : Int) : Int := (c % 2147483647 + 11) * 48271 * 69621 % 2147483629
theorem c_mixed {k : Nat} {c : Int} {M : MH} (hk : 1 <= k) : (callF prg k).call 10 [.int c] M = .ok (.int (mixed c)) M := by
  obtain ⟨k,rfl⟩ : ∃ j,k = j + 1 := ⟨k - 1,by omega⟩
  rw [call_step fn10]
  simp [runF,f_law_mixed,op2,num2,small,retn,nr,mixed]
def next (s k : Int) : Int := (s * 48271 + 69621 * (k + 1)) % 2147483629
theorem c_next {k : Nat} {s j : Int} {M : MH} (hk : 1 <= k) : (callF prg k).call 12 [.int s,.int j] M = .ok (.int (next s j)) M := by
  obtain ⟨k,rfl⟩ : ∃ j,k = j + 1 := ⟨k - 1,by omega⟩
  rw [call_step fn12]
  simp [runF,f_law_next,op2,num2,small,retn,nr,next]
abbrev sNum : Str := Str.ofString "num"
abbrev sList : Str := Str.ofString "list"
abbrev sPair : Str := Str.ofString "pair"
abbrev kNum : D := .tup [.str sNum]
inductive Kd : Nat -> D -> Prop
  | num (h : Nat) : Kd h kNum
  | list {h : Nat} {k : D} : Kd h k -> Kd (h + 1) (.tup [.str sList,k])
  | pair {h : Nat} {k l : D} : Kd h k -> Kd h l -> Kd (h + 1) (.tup [.str sPair,k,l])
theorem Kd.up {h : Nat} {d : D} (q : Kd h d) : Kd (h + 1) d := by
  induction q with
  | num h => exact .num _
  | list _ ih => exact .list ih
  | pair _ _ i j => exact .pair i j
theorem Kd.le {h h' : Nat} {d : D} (q : Kd h d) (l : h <= h') : Kd h' d := by
  induction l with
  | refl => exact q
  | step _ ih => exact ih.up
theorem Kd.plain {h : Nat} {d : D} (q : Kd h d) : Fg.plain d = true /\ dep d <= h + 1 /\ ∀ m,nr m d = true := by
  induction q with
  | num h => simp [Fg.plain,plains,dep,deps,nr,nrs]
  | list _ ih => simp [Fg.plain,plains,dep,deps,nr,nrs,ih.1,ih.2.2]; omega
  | pair _ _ i j => simp [Fg.plain,plains,dep,deps,nr,nrs,i.1,i.2.2,j.1,j.2.2]; omega
def kinds : List D := [kNum,kNum,.tup [.str sList,kNum],.tup [.str sPair,kNum,kNum],.tup [.str sList,.tup [.str sPair,kNum,kNum]],
  .tup [.str sPair,kNum,.tup [.str sList,kNum]],.tup [.str sList,.tup [.str sList,kNum]],.tup [.str sPair,.tup [.str sList,kNum],.tup [.str sList,kNum]],
  .tup [.str sPair,.tup [.str sPair,kNum,kNum],.tup [.str sList,kNum]],.tup [.str sPair,.tup [.str sList,.tup [.str sList,kNum]],.tup [.str sList,kNum]]]
theorem kinds_kd : ∀ d ∈ kinds,Kd 3 d := by
  intro d hd
  simp only [kinds,List.mem_cons,List.not_mem_nil,or_false] at hd
  rcases hd with rfl | rfl | rfl | rfl | rfl | rfl | rfl | rfl | rfl | rfl <;> repeat (first | exact .num _ | apply Kd.list | apply Kd.pair)
theorem ati_ex {α : Type} {xs : List α} {i : Int} (h0 : 0 <= i) (h : i < xs.length) : ∃ d ∈ xs,ati xs i = some d := by
  have hn : i.toNat < xs.length := by omega
  refine ⟨xs[i.toNat],List.getElem_mem hn,?_⟩
  simp only [ati,ixn,if_pos h0,if_pos h,Option.bind_some]
  exact List.getElem?_eq_getElem hn
def knd (p : Int) : D := (ati kinds (p % 10)).getD .non
theorem knd_kd (p : Int) : Kd 3 (knd p) := by
  obtain ⟨d,hd,e⟩ := ati_ex (xs := kinds) (i := p % 10) (by omega) (by show p % 10 < 10; omega)
  unfold knd; rw [e]; exact kinds_kd d hd
theorem c_kind {k : Nat} {p : Int} {M : MH} (hk : 1 <= k) : (callF prg k).call 13 [.int p] M = .ok (knd p) M := by
  obtain ⟨k,rfl⟩ : ∃ j,k = j + 1 := ⟨k - 1,by omega⟩
  rw [call_step fn13]
  obtain ⟨d,hd,e⟩ := ati_ex (xs := kinds) (i := p % 10) (by omega) (by show p % 10 < 10; omega)
  have hn : nr M.length d = true := (kinds_kd d hd).plain.2.2 _
  unfold knd
  rw [e]
  unfold kinds at e
  simp [runF,f_law_kind,op2,num2,small,vw,newl,idx2,line,e,retn,hn]
theorem c_wide {h : Nat} {d : D} (q : Kd h d) : ∃ n : Int,∀ (k : Nat) (M : MH),h + 1 <= k -> (callF prg k).call 14 [d] M = .ok (.int n) M := by
  induction q with
  | num h =>
    refine ⟨1,fun k M hk => ?_⟩
    obtain ⟨k,rfl⟩ : ∃ j,k = j + 1 := ⟨k - 1,by omega⟩
    rw [call_step fn14]
    simp [runF,f_law_wide,op2,num2,sl2,vw,itemsOf,loopC,newl,blt1,intsOf,retn,nr]
  | @list h d _ ih =>
    obtain ⟨n,hn⟩ := ih
    refine ⟨1 + (n + 0),fun k M hk => ?_⟩
    obtain ⟨k,rfl⟩ : ∃ j,k = j + 1 := ⟨k - 1,by omega⟩
    rw [call_step fn14]
    simp [runF,f_law_wide,op2,num2,sl2,vw,itemsOf,loopC,newl,blt1,intsOf,retn,nr,capt,sets,still,line,hn k M (by omega)]
  | @pair h d e _ _ ih ih' =>
    obtain ⟨n,hn⟩ := ih
    obtain ⟨m,hm⟩ := ih'
    refine ⟨1 + (n + m),fun k M hk => ?_⟩
    obtain ⟨k,rfl⟩ : ∃ j,k = j + 1 := ⟨k - 1,by omega⟩
    rw [call_step fn14]
    simp [runF,f_law_wide,op2,num2,sl2,vw,itemsOf,loopC,newl,blt1,intsOf,retn,nr,capt,sets,still,line,hn k M (by omega),hm k M (by omega)]
def Sd (s : Int) : Prop := 0 <= s /\ s < 2147483648
theorem Sd.small {s : Int} (h : Sd s) : small s = true := by
  obtain ⟨a,b⟩ := h; simp [Fg.small]; omega
theorem Sd.div {s : Int} (h : Sd s) (n : Int) (hn : 0 < n) : Sd (s / n) :=
  ⟨Int.ediv_nonneg h.1 (by omega),Int.lt_of_le_of_lt (Int.ediv_le_self _ h.1) h.2⟩
theorem sd_next (s j : Int) : Sd (next s j) := by unfold Sd next; omega
theorem sd_mixed (s : Int) : Sd (mixed s) := by unfold Sd mixed; omega
theorem cutl_le {α : Type} (xs : List α) (lo hi : Option Int) : (cutl xs lo hi).length <= xs.length := by
  unfold cutl; rw [List.length_take,List.length_drop]; omega
theorem cuts_le (x : Str) (lo hi : Option Int) : (cuts x lo hi).length <= x.length := by
  have := cutl_le x.cps.toList lo hi
  simpa [cuts,Str.length] using this
def anchor : Str := Str.ofString "anchor"
def letters : Str := Str.ofString "bgjkqvwxyz"
theorem anchor_len : anchor.length = 6 := by decide +kernel
theorem letters_len : letters.length = 10 := by decide +kernel
def nmBase (s : Int) : Str := cuts anchor none (some (s % 6))
def nmAt (s : Int) : Int := s / 6 % ((nmBase s).length + 1)
def nm (s j : Int) : Str := cuts (nmBase s) none (some (nmAt s)) ++ ⟨#[(ati letters.cps.toList ((s / 60 + 3 * j) % 10)).getD 0]⟩ ++ cuts (nmBase s) (some (nmAt s)) none
theorem len_app (x y : Str) : (x ++ y).length = x.length + y.length := by
  show (Str.mk (x.cps ++ y.cps)).cps.size = _
  simp [Str.length]
theorem c_name {k : Nat} {s j : Int} {M : MH} (hk : 1 <= k) : (callF prg k).call 15 [.int s,.int j] M = .ok (.str (nm s j)) M := by
  obtain ⟨k,rfl⟩ : ∃ j,k = j + 1 := ⟨k - 1,by omega⟩
  rw [call_step fn15]
  have hb : (nmBase s).length <= 6 := by rw [<- anchor_len]; exact cuts_le _ _ _
  have h1 : (cuts (nmBase s) none (some (nmAt s))).length <= 6 := Nat.le_trans (cuts_le _ _ _) hb
  have h2 : (cuts (nmBase s) (some (nmAt s)) none).length <= 6 := Nat.le_trans (cuts_le _ _ _) hb
  obtain ⟨c,hc,e⟩ := ati_ex (xs := letters.cps.toList) (i := (s / 60 + 3 * j) % 10) (by omega) (by
    have : letters.cps.toList.length = 10 := by have := letters_len; simpa [Str.length] using this
    rw [this]; omega)
  have a1 : (anchor.length <= line) = True := by rw [anchor_len]; simp [line]
  have a2 : (letters.length <= line) = True := by rw [letters_len]; simp [line]
  have a3 : ((nmBase s).length <= line) = True := eq_true (by unfold line; omega)
  have a4 : (0 < ((nmBase s).length : Int) + 1) = True := eq_true (by omega)
  have a5 : ((cuts (nmBase s) none (some (nmAt s))).length + (Str.mk #[c]).length <= line) = True := eq_true (by simp [Str.length] at *; unfold line; omega)
  have a6 : ((cuts (nmBase s) none (some (nmAt s)) ++ (Str.mk #[c])).length + (cuts (nmBase s) (some (nmAt s)) none).length <= line) = True := eq_true (by rw [len_app]; simp [Str.length] at *; unfold line; omega)
  have b1 : cuts anchor none (some (s % 6)) = nmBase s := rfl
  have b2 : s / 6 % (((nmBase s).length : Int) + 1) = nmAt s := rfl
  unfold nm
  rw [e]
  simp only [runF, f_law_name, exs_cons, ex_set, ex_ret, ev_sl, ev_op, ev_idx, ev_v, ev_k, evo_some, evo_none, ev_blt, evs_cons, evs_nil, show Str.ofString "anchor" = anchor from rfl, show Str.ofString "bgjkqvwxyz" = letters from rfl]
  simp [sl2,a1,a2,a3,a4,a5,a6,b1,b2,e,op2,num2,small,blt1,idx2,retn,nr]
end K03
end
section
set_option autoImplicit false
namespace K03
open Fg PySem
abbrev kList (k : D) : D := .tup [.str sList,k]
abbrev kPair (k l : D) : D := .tup [.str sPair,k,l]
def wOp : List Str := [Str.ofString "plus", Str.ofString "minus", Str.ofString "times", Str.ofString "less"]
mutual
inductive Ty (kvs : List (Ky × D)) (fl : List D) : Nat -> D -> D -> Prop
  | number {h : Nat} {v : Int} : Ty kvs fl h kNum (.tup [.str (Str.ofString "number"), .int v])
  | name {h : Nat} {x : Str} {k : D} : look kvs (.inr x) = some k -> Ty kvs fl h k (.tup [.str (Str.ofString "name"), .str x])
  | nil {h : Nat} {k : D} : Kd 8 k -> Ty kvs fl h (kList k) (.tup [.str (Str.ofString "nil"), k])
  | pair {h : Nat} {k l p q : D} : Ty kvs fl h k p -> Ty kvs fl h l q -> Ty kvs fl (h + 1) (kPair k l) (.tup [.str (Str.ofString "pair"), p, q])
  | first {h : Nat} {k l p : D} : Ty kvs fl h (kPair k l) p -> Ty kvs fl (h + 1) k (.tup [.str (Str.ofString "first"), p])
  | second {h : Nat} {k l p : D} : Ty kvs fl h (kPair k l) p -> Ty kvs fl (h + 1) l (.tup [.str (Str.ofString "second"), p])
  | cons {h : Nat} {k p q : D} : Ty kvs fl h k p -> Ty kvs fl h (kList k) q -> Ty kvs fl (h + 1) (kList k) (.tup [.str (Str.ofString "cons"), p, q])
  | head {h : Nat} {k p : D} : Ty kvs fl h (kList k) p -> Ty kvs fl (h + 1) k (.tup [.str (Str.ofString "head"), p])
  | tail {h : Nat} {k p : D} : Ty kvs fl h (kList k) p -> Ty kvs fl (h + 1) (kList k) (.tup [.str (Str.ofString "tail"), p])
  | none {h : Nat} {k p : D} : Ty kvs fl h (kList k) p -> Ty kvs fl (h + 1) kNum (.tup [.str (Str.ofString "none"), p])
  | op {h : Nat} {w : Str} {p q : D} : w ∈ wOp -> Ty kvs fl h kNum p -> Ty kvs fl h kNum q -> Ty kvs fl (h + 1) kNum (.tup [.str w,p,q])
  | ifs {h : Nat} {k p q r : D} : Ty kvs fl h kNum p -> Ty kvs fl h k q -> Ty kvs fl h k r -> Ty kvs fl (h + 1) k (.tup [.str (Str.ofString "if"), p, q, r])
  | call {h : Nat} {x : Str} {ts cs : List D} {kd bd : D} : D.tup [.str x, .lst ts, kd, bd] ∈ fl -> Tys kvs fl h ts cs -> Ty kvs fl (h + 1) kd (.tup (.str (Str.ofString "call") :: .str x :: cs))
inductive Tys (kvs : List (Ky × D)) (fl : List D) : Nat -> List D -> List D -> Prop
  | nil {h : Nat} : Tys kvs fl h [] []
  | cons {h : Nat} {y : Str} {k p : D} {ts cs : List D} : Ty kvs fl h k p -> Tys kvs fl h ts cs -> Tys kvs fl h (.tup [.str y,k] :: ts) (p :: cs)
end
section
variable {kvs : List (Ky × D)} {fl : List D}
mutual
theorem Ty.up : ∀ {h : Nat} {k p : D},Ty kvs fl h k p -> Ty kvs fl (h + 1) k p
  | _,_,_,.number => .number
  | _,_,_,.name a => .name a
  | _,_,_,.nil a => .nil a
  | _,_,_,.pair a b => .pair a.up b.up
  | _,_,_,.first a => .first a.up
  | _,_,_,.second a => .second a.up
  | _,_,_,.cons a b => .cons a.up b.up
  | _,_,_,.head a => .head a.up
  | _,_,_,.tail a => .tail a.up
  | _,_,_,.none a => .none a.up
  | _,_,_,.op w a b => .op w a.up b.up
  | _,_,_,.ifs a b c => .ifs a.up b.up c.up
  | _,_,_,.call m a => .call m a.up
theorem Tys.up : ∀ {h : Nat} {ts cs : List D},Tys kvs fl h ts cs -> Tys kvs fl (h + 1) ts cs
  | _,_,_,.nil => .nil
  | _,_,_,.cons a b => .cons a.up b.up
end
theorem Ty.le {h h' : Nat} {k p : D} (q : Ty kvs fl h k p) (l : h <= h') : Ty kvs fl h' k p := by
  induction l with
  | refl => exact q
  | step _ ih => exact ih.up
mutual
theorem Ty.nr : ∀ {h : Nat} {k p : D},Ty kvs fl h k p -> ∀ m,nr m p = true
  | _,_,_,.number,m => by simp [Fg.nr,nrs]
  | _,_,_,.name a,m => by simp [Fg.nr,nrs]
  | _,_,_,.nil a,m => by simp [Fg.nr,nrs,a.plain.2.2]
  | _,_,_,.pair a b,m => by simp [Fg.nr,nrs,a.nr m,b.nr m]
  | _,_,_,.first a,m => by simp [Fg.nr,nrs,a.nr m]
  | _,_,_,.second a,m => by simp [Fg.nr,nrs,a.nr m]
  | _,_,_,.cons a b,m => by simp [Fg.nr,nrs,a.nr m,b.nr m]
  | _,_,_,.head a,m => by simp [Fg.nr,nrs,a.nr m]
  | _,_,_,.tail a,m => by simp [Fg.nr,nrs,a.nr m]
  | _,_,_,.none a,m => by simp [Fg.nr,nrs,a.nr m]
  | _,_,_,.op w a b,m => by simp [Fg.nr,nrs,a.nr m,b.nr m]
  | _,_,_,.ifs a b c,m => by simp [Fg.nr,nrs,a.nr m,b.nr m,c.nr m]
  | _,_,_,.call w a,m => by simp [Fg.nr,nrs,a.nr m]
theorem Tys.nr : ∀ {h : Nat} {ts cs : List D},Tys kvs fl h ts cs -> ∀ m,nrs m cs = true
  | _,_,_,.nil,m => by simp [nrs]
  | _,_,_,.cons a b,m => by simp [nrs,a.nr m,b.nr m]
end
theorem Tys.snoc {h : Nat} {y : Str} {k p : D} (q : Ty kvs fl h k p) : ∀ {ts cs : List D},Tys kvs fl h ts cs -> Tys kvs fl h (ts ++ [.tup [.str y,k]]) (cs ++ [p])
  | _,_,.nil => .cons q .nil
  | _,_,.cons a b => .cons a (Tys.snoc q b)
theorem Tys.len : ∀ {h : Nat} {ts cs : List D},Tys kvs fl h ts cs -> cs.length = ts.length
  | _,_,_,.nil => rfl
  | _,_,_,.cons a b => by simp [b.len]
end
def NvOk (kvs : List (Ky × D)) : Prop := ∀ kv ∈ kvs,(∃ x,kv.1 = .inr x) /\ Kd 3 kv.2
structure NmAt (M : MH) (r : Nat) (kvs : List (Ky × D)) : Prop where
  at_ : M[r]? = some (.dct kvs)
  ok : NvOk kvs
  len : kvs.length <= 10
structure FlOk (fl : List D) : Prop where
  ex : ∀ f ∈ fl,∃ x ts kd bd,f = .tup [.str x,.lst ts,kd,bd] /\ Kd 3 kd /\ ts.length <= 4 /\ ∀ t ∈ ts,∃ y ky,t = .tup [.str y,ky] /\ Kd 3 ky
  len : fl.length <= 10
theorem get_app {M : MH} {N : MH} {r : Nat} {o : MO} (h : M[r]? = some o) : (M ++ N)[r]? = some o := by
  obtain ⟨hl,_⟩ := List.getElem?_eq_some_iff.mp h
  rw [List.getElem?_append_left hl]; exact h
theorem NmAt.app {M N : MH} {r : Nat} {kvs : List (Ky × D)} (h : NmAt M r kvs) : NmAt (M ++ N) r kvs := ⟨get_app h.at_,h.ok,h.len⟩
theorem kd_cmp {h h' : Nat} {a b : D} (x : Kd h a) (y : Kd h' b) (hh : h <= 50) : cmpOk a b = true := by
  have h1 := x.plain; have h2 := y.plain
  simp only [cmpOk,h1.1,h2.1,Bool.and_self,Bool.true_and,Bool.or_eq_true,decide_eq_true_eq]
  omega
theorem kd_top {M : MH} {h : Nat} {a : D} (x : Kd h a) : top M a = a := by cases x <;> rfl
theorem look_mem {kvs : List (Ky × D)} {k : Ky} {d : D} (h : (k,d) ∈ kvs) : ∃ e,look kvs k = some e /\ (k,e) ∈ kvs := by
  induction kvs with
  | nil => simp at h
  | cons p r ih =>
    obtain ⟨pk,pd⟩ := p
    by_cases e : pk = k
    . subst e; exact ⟨pd,by simp [look],List.mem_cons_self⟩
    . rcases List.mem_cons.mp h with h | h
      . cases h; exact (e rfl).elim
      . obtain ⟨x,h1,h2⟩ := ih h
        refine ⟨x,?_,List.mem_cons_of_mem _ h2⟩
        simp only [look,List.find?_cons,decide_eq_false e] at h1 ⊢
        exact h1
mutual
theorem eqD_eq : ∀ {a b : D},Fg.plain a = true -> eqD a b = true -> a = b
  | .non,b,h,e => by cases b <;> first | rfl | (simp only [eqD] at e; cases e)
  | .bl _,b,h,e => by simp [Fg.plain] at h
  | .int i,b,h,e => by cases b <;> first | (simp only [eqD] at e; cases e; done) | (simp only [eqD,decide_eq_true_eq] at e; rw [e])
  | .str x,b,h,e => by cases b <;> first | (simp only [eqD] at e; cases e; done) | (simp only [eqD,decide_eq_true_eq] at e; rw [e])
  | .tup xs,b,h,e => by
    simp only [Fg.plain] at h
    cases b <;> first | (simp only [eqD] at e; cases e; done) | (simp only [eqD] at e; rw [eqDs_eq h e])
  | .lst xs,b,h,e => by
    simp only [Fg.plain] at h
    cases b <;> first | (simp only [eqD] at e; cases e; done) | (simp only [eqD] at e; rw [eqDs_eq h e])
  | .dct _ _,b,h,e => by simp [Fg.plain] at h
  | .ref _,b,h,e => by simp [Fg.plain] at h
theorem eqDs_eq : ∀ {a b : List D},plains a = true -> eqDs a b = true -> a = b
  | [],b,h,e => by cases b <;> simp at e; rfl
  | x :: xs,b,h,e => by
    cases b with
    | nil => simp at e
    | cons y ys =>
      simp only [plains,Bool.and_eq_true] at h
      simp at e
      rw [eqD_eq h.1 e.1,eqDs_eq h.2 e.2]
end
mutual
theorem eqD_refl : ∀ {a : D},Fg.plain a = true -> eqD a a = true
  | .non,h => by simp
  | .bl _,h => by simp [Fg.plain] at h
  | .int i,h => by simp
  | .str x,h => by simp
  | .tup xs,h => by simp only [Fg.plain] at h; simp [eqDs_refl h]
  | .lst xs,h => by simp only [Fg.plain] at h; simp [eqDs_refl h]
  | .dct _ _,h => by simp [Fg.plain] at h
  | .ref _,h => by simp [Fg.plain] at h
theorem eqDs_refl : ∀ {a : List D},plains a = true -> eqDs a a = true
  | [],h => by simp
  | x :: xs,h => by
    simp only [plains,Bool.and_eq_true] at h
    simp [eqD_refl h.1,eqDs_refl h.2]
end
theorem c_least {kvs : List (Ky × D)} {fl : List D} {h : Nat} {d : D} (q : Kd h d) : ∀ (s : Int),Sd s -> h <= 8 -> ∃ p,Ty kvs fl h d p /\ ∀ (k : Nat) (M : MH),h + 2 <= k -> (callF prg k).call 16 [d,.int s] M = .ok p M := by
  induction q with
  | num h =>
    intro s hs _
    obtain ⟨v,hv,e⟩ := ati_ex (xs := [D.int (s % 1000),D.int (s % 7),D.int (-1 - s % 99),D.int (s * 10 ^ 20 % 10 ^ 30)]) (i := s / 1000 % 4) (by omega) (by simp only [List.length_cons,List.length_nil]; omega)
    obtain ⟨z,rfl⟩ : ∃ z,v = .int z := by
      simp only [List.mem_cons,List.not_mem_nil,or_false] at hv
      rcases hv with rfl | rfl | rfl | rfl <;> exact ⟨_,rfl⟩
    refine ⟨.tup [.str (Str.ofString "number"), .int z], .number, fun k M hk => ?_⟩
    obtain ⟨k,rfl⟩ : ∃ j,k = j + 1 := ⟨k - 1,by omega⟩
    rw [call_step fn16]
    simp at e
    simp [runF,f_law_least,idx2,vw,cmp2,top,cmpOk,Fg.plain,dep,newl,op2,num2,hs.small,e,retn,nr,nrs]
  | @list h d q' ih =>
    intro s hs hh
    refine ⟨.tup [.str (Str.ofString "nil"), d], .nil (q'.le (by omega)), fun k M hk => ?_⟩
    obtain ⟨k,rfl⟩ : ∃ j,k = j + 1 := ⟨k - 1,by omega⟩
    rw [call_step fn16]
    have z : (sList = Str.ofString "num") = False := eq_false (by decide)
    simp [runF,f_law_least,idx2,vw,cmp2,top,cmpOk,Fg.plain,dep,newl,z,retn,nr,nrs,q'.plain.2.2]
  | @pair h d e q1 q2 i1 i2 =>
    intro s hs hh
    obtain ⟨p1,w1,h1⟩ := i1 s hs (by omega)
    obtain ⟨p2,w2,h2⟩ := i2 (next s 1) (sd_next _ _) (by omega)
    refine ⟨.tup [.str (Str.ofString "pair"), p1, p2], .pair w1 w2, fun k M hk => ?_⟩
    obtain ⟨k,rfl⟩ : ∃ j,k = j + 1 := ⟨k - 1,by omega⟩
    rw [call_step fn16]
    have z : (sPair = Str.ofString "num") = False := eq_false (by decide)
    have z' : (sPair = Str.ofString "list") = False := eq_false (by decide)
    simp [runF,f_law_least,idx2,vw,cmp2,top,cmpOk,Fg.plain,dep,newl,z,z',h1 k M (by omega),h2 k M (by omega),c_next (show 1 <= k by omega),retn,nr,nrs,w1.nr,w2.nr]
theorem c_leaf {fl : List D} {h : Nat} {d : D} (q : Kd h d) (hh : h <= 8) {s : Int} (hs : Sd s) {M : MH} {r : Nat} {kvs : List (Ky × D)} (hn : NmAt M r kvs) : ∃ p,Ty kvs fl h d p /\ ∀ (k : Nat),h + 3 <= k -> (callF prg k).call 17 [d,.int s,.ref r] M = .ok p M := by
  obtain ⟨hM,hkv,hl⟩ := hn
  obtain ⟨p0,w0,h0⟩ := c_least (kvs := kvs) (fl := fl) q (s / 4) (hs.div 4 (by decide)) hh
  let P : D -> Bool := fun x => match keyOf x with | some k => (match look kvs k with | some e => eqD e d | none => false) | none => false
  let found : List D := (kvs.map fun kv => kyD kv.1).filter P
  have hM' : (M.set r (.dwk kvs))[r]? = some (.dwk kvs) := set_get hM
  have L : ∀ k,loopC (evc (callF prg k) (O.some (E.cmp .eq (E.idx (E.v 1) (E.v 2)) (E.v 0)))) (ev (callF prg k) (E.v 2)) [2] (still (M.set r (.dwk kvs)) (.ref r)) (kvs.map fun kv => kyD kv.1) [some d,some (.ref r),none] (M.set r (.dwk kvs)) [] = .ok found (M.set r (.dwk kvs)) := by
    intro k
    have L0 := loopC_pure (cond := evc (callF prg k) (O.some (E.cmp .eq (E.idx (E.v 1) (E.v 2)) (E.v 0)))) (elt := ev (callF prg k) (E.v 2)) (i := 2) (chk := still (M.set r (.dwk kvs)) (.ref r)) (M := M.set r (.dwk kvs)) (f := fun x => x) (p := P) (by simp [still]) (kvs.map fun kv => kyD kv.1) [] [some d,some (.ref r),none]
      (fun x hx => by
        obtain ⟨kv,hm,rfl⟩ := List.mem_map.mp hx
        obtain ⟨⟨x,hx⟩,_⟩ := hkv kv hm
        obtain ⟨e,h1,h2⟩ := look_mem (k := kv.1) (d := kv.2) hm
        have ke := (hkv _ h2).2
        rw [hx] at h1 ⊢
        have hc := kd_cmp ke q (by omega)
        refine ⟨?_,fun _ => by simp⟩
        have ht : top (M.set r (.dwk kvs)) e = e := kd_top ke
        have ht' : top (M.set r (.dwk kvs)) d = d := kd_top q
        simp [kyD,idx2,vw,hM',keyOf,h1,cmp2,P]
        cases ke <;> simp_all)
      (by simp [line]; omega)
    rw [L0]; simp [found]
  have hcomp : ∀ k,ev (callF prg k) (E.comp true [0,2] [2] (E.v 2) (Src.e (E.v 2)) (O.some (E.cmp .eq (E.idx (E.v 1) (E.v 2)) (E.v 0)))) [some d,some (.int s),some (.ref r),none] M = .ok (.lst found) M := by
    intro k
    simp [itemsOf,vw,hM,capt,wk_d hM,walk_d hM,L,unwk_d hM,newl]
  by_cases hc : 0 < found.length /\ 0 < s % 4
  . obtain ⟨c1,c2⟩ := hc
    have hf : ∀ x ∈ found,∃ y,x = .str y /\ look kvs (.inr y) = some d := fun x hx => by
      obtain ⟨hx1,hx2⟩ := List.mem_filter.mp hx
      obtain ⟨kv,hm,rfl⟩ := List.mem_map.mp hx1
      obtain ⟨⟨y,hy⟩,_⟩ := hkv kv hm
      obtain ⟨e,h1,h2⟩ := look_mem (k := kv.1) (d := kv.2) hm
      rw [hy] at h1 hx2 ⊢
      refine ⟨y,rfl,?_⟩
      simp only [P,kyD,keyOf,h1] at hx2
      have ee : e = d := eqD_eq (hkv _ h2).2.plain.1 hx2
      rw [h1,ee]
    clear_value found
    have hpos : (0 : Int) < (found.length : Int) := by omega
    obtain ⟨x,hx,e⟩ := ati_ex (xs := found) (i := s / 4 % found.length) (Int.emod_nonneg _ (by omega)) (Int.emod_lt_of_pos _ hpos)
    obtain ⟨y,rfl,hy⟩ := hf x hx
    refine ⟨.tup [.str (Str.ofString "name"), .str y], .name hy, fun k hk => ?_⟩
    obtain ⟨k,rfl⟩ : ∃ j,k = j + 1 := ⟨k - 1,by omega⟩
    refine c_run (M' := M) fn17 rfl ?_ (retn_same (by simp [nr,nrs]))
    unfold f_law_leaf
    dsimp only
    refine (s_set (hcomp k)).trans (s_ifR (M1 := M) ?_ (s_ret ?_))
    . simp [blt1,vw,cmp2,op2,num2,c1,c2]
    . simp [blt1,vw,op2,num2,c1,idx2,e]
  . clear_value found
    refine ⟨p0,w0,fun k hk => ?_⟩
    obtain ⟨k,rfl⟩ : ∃ j,k = j + 1 := ⟨k - 1,by omega⟩
    refine c_run (M' := M) fn17 rfl ?_ (retn_same (w0.nr _))
    unfold f_law_leaf
    dsimp only
    refine (s_set (hcomp k)).trans ((s_ifF (M1 := M) ?_).trans (s_ret ?_))
    . by_cases c1 : 0 < found.length
      . have c2 : ¬ 0 < s % 4 := fun z => hc ⟨c1,z⟩
        simp [blt1,vw,cmp2,op2,num2,c1,c2]
      . simp [blt1,vw,cmp2,op2,num2,c1]
    . simp [op2,num2,h0 k M (by omega)]
end K03
end
section
set_option autoImplicit false
namespace K03
open Fg PySem
def PartOk (fl : List D) (dp H F : Nat) : Prop := ∀ (k : Nat),F <= k -> ∀ (h : Nat) (d : D),Kd h d -> h + dp <= 8 -> ∀ (s : Int),Sd s -> ∀ (M : MH) (r : Nat) (kvs : List (Ky × D)),NmAt M r kvs ->
  ∃ p,Ty kvs fl H d p /\ (callF prg k).call 20 [d,.int s,.ref r,.lst fl,.int dp] M = .ok p M
theorem c_part0 {fl : List D} {k : Nat} {h : Nat} {d : D} (q : Kd h d) (hh : h <= 8) {s : Int} (hs : Sd s) {M : MH} {r : Nat} {kvs : List (Ky × D)} (hn : NmAt M r kvs) (hk : h + 4 <= k) : ∃ p,Ty kvs fl 8 d p /\ (callF prg k).call 20 [d,.int s,.ref r,.lst fl,.int 0] M = .ok p M := by
  obtain ⟨p,w,e⟩ := c_leaf (fl := fl) q hh hs hn
  refine ⟨p,w.le hh,?_⟩
  obtain ⟨k,rfl⟩ : ∃ j,k = j + 1 := ⟨k - 1,by omega⟩
  rw [call_step fn20]
  simp [runF,f_law_part,cmp2,e k (by omega),retn,w.nr]
theorem part0 {fl : List D} : PartOk fl 0 8 12 := fun k hk h d q hh s hs M r kvs hn => c_part0 q (by omega) hs hn (by omega)
theorem fs_loop {fl : List D} {k : Nat} {dp H F : Nat} (IH : PartOk fl dp H F) (hk : F <= k) (hk1 : 1 <= k) {M : MH} {r : Nat} {kvs : List (Ky × D)} (hn : NmAt M r kvs) {d x1 : D} {s : Int} {x : Str} {ts : List D} {kd bd : D} (hts : ts.length <= 4) (hdp : 3 + dp <= 8)
    (ht : ∀ t ∈ ts,∃ y ky,t = .tup [.str y,ky] /\ Kd 3 ky) (body : Ss)
    (hb : body = Ss.cons (S.ex (E.mth .append true (E.v 7) (Es.cons (E.call 20 (Es.cons (E.idx (E.idx (E.idx (E.v 6) (E.k (.int 1))) (E.v 8)) (E.k (.int 1))) (Es.cons (E.call 12 (Es.cons (E.v 1) (Es.cons (E.v 8) Es.nil))) (Es.cons (E.v 2) (Es.cons (E.v 3) (Es.cons (E.op .sub true (E.v 4) (E.k (.int 1))) Es.nil)))))) Es.nil))) Ss.nil) :
    ∃ cs U',Tys kvs fl H ts cs /\ U'[7]? = some (some (.ref M.length)) /\
      loopF (exs (callF prg k) body) [8] (still (M ++ [.lst [.str (Str.ofString "call"), .str x]]) .non) (rngs 0 ts.length) [some d, some (.int s), some (.ref r), some (.lst fl), some (.int (dp + 1)), some x1, some (.tup [.str x, .lst ts, kd, bd]), some (.ref M.length), none] (M ++ [.lst [.str (Str.ofString "call"), .str x]])
        = .ok (.nx U') (M ++ [.lst (.str (Str.ofString "call") :: .str x :: cs)]) := by
  subst hb
  refine loopF_inv (i := 8) (chk := still (M ++ [.lst [.str (Str.ofString "call"), .str x]]) .non) (Q := fun r => ∃ cs U', Tys kvs fl H ts cs /\ U'[7]? = some (some (.ref M.length)) /\ r = .ok (.nx U') (M ++ [.lst (.str (Str.ofString "call") :: .str x :: cs)]))
    (fun ds U M' => ∃ cs z, Tys kvs fl H (ts.take cs.length) cs /\ ds = (rngs 0 ts.length).drop cs.length /\ cs.length <= ts.length /\ M' = M ++ [.lst (.str (Str.ofString "call") :: .str x :: cs)] /\ U = [some d, some (.int s), some (.ref r), some (.lst fl), some (.int (dp + 1)), some x1, some (.tup [.str x, .lst ts, kd, bd]), some (.ref M.length), z])
    (rngs 0 ts.length) _ _ ⟨[],none,.nil,by simp,by simp,rfl,rfl⟩ ?_ ?_
  . rintro e ds U M' ⟨cs,z,w,hd,hl,rfl,rfl⟩
    have hlt : cs.length < ts.length := by
      rcases Nat.lt_or_ge cs.length ts.length with q | q
      . exact q
      . have : (rngs 0 ts.length).drop cs.length = [] := List.drop_eq_nil_of_le (by simp [rngs]; omega)
        rw [this] at hd; cases hd
    have he : e = .int cs.length /\ ds = (rngs 0 ts.length).drop (cs.length + 1) := by
      have hr : cs.length < (rngs 0 (ts.length : Int)).length := by simp [rngs]; omega
      rw [List.drop_eq_getElem_cons hr] at hd
      injection hd with h1 h2
      refine ⟨?_,h2⟩
      rw [h1]; simp [rngs]
    obtain ⟨rfl,rfl⟩ := he
    obtain ⟨y,ky,et,hky⟩ := ht ts[cs.length] (List.getElem_mem hlt)
    have ea : ati ts (cs.length : Int) = some (.tup [.str y,ky]) := by
      simp only [ati,ixn,if_pos (show (0 : Int) <= (cs.length : Int) by omega),if_pos (show (cs.length : Int) < ts.length by omega),Option.bind_some,Int.toNat_natCast]
      rw [List.getElem?_eq_getElem hlt,et]
    obtain ⟨p, wp, ep⟩ := IH k hk 3 ky hky hdp (next s cs.length) (sd_next _ _) (M ++ [.lst (.str (Str.ofString "call") :: .str x :: cs)]) r kvs hn.app
    have hdep : (dp : Int) + 1 - 1 = dp := by omega
    have w2 := Tys.snoc (y := y) wp w
    rw [<- et,<- List.take_succ_eq_append_getElem hlt] at w2
    refine ⟨_, M ++ [.lst (.str (Str.ofString "call") :: .str x :: (cs ++ [p]))], .inl ?_, by simp [still], ⟨cs ++ [p], some (.int cs.length), by simpa using w2, by simp, by simp; omega, rfl, rfl⟩⟩
    have hlen : (cs.length + 1 + 1 < 1000000) = True := eq_true (by omega)
    simp [idx2,vw,ea,c_next hk1,op2,num2,hdep,ep,mth1,mtOk,line,hlen]
  . rintro U M' ⟨cs,z,w,hd,hl,rfl,rfl⟩
    have : ¬ cs.length < ts.length := fun q => by
      have hr : cs.length < (rngs 0 (ts.length : Int)).length := by simp [rngs]; omega
      rw [List.drop_eq_getElem_cons hr] at hd; cases hd
    rw [List.take_of_length_le (by omega)] at w
    exact ⟨cs,_,w,rfl,rfl⟩
theorem c_call {fl : List D} {k : Nat} {dp H F : Nat} (fk : FlOk fl) (IH : PartOk fl dp H F) (hH : 8 <= H) (hk : F <= k) (hk2 : 12 <= k) {h : Nat} {d : D} (q : Kd h d) (hh : h + (dp + 1) <= 8) (hdp : dp <= 5) {s : Int} (hs : Sd s) {M : MH} {r : Nat} {kvs : List (Ky × D)} (hn : NmAt M r kvs) :
    ∃ p,Ty kvs fl (H + 1) d p /\ (callF prg (k + 1)).call 18 [d,.int s,.ref r,.lst fl,.int (dp + 1)] M = .ok p M := by
  obtain ⟨hfl,hl⟩ := fk
  let P : D -> Bool := fun x => match x with | .tup [_,_,kd,_] => eqD kd d | _ => false
  have L := loopC_pure (cond := evc (callF prg k) (O.some (E.cmp .eq (E.idx (E.v 1) (E.k (.int 2))) (E.v 0)))) (elt := ev (callF prg k) (E.v 1)) (i := 1) (chk := still M (.lst fl)) (M := M) (f := fun x => x) (p := P) (by simp [still]) fl [] [some d,none]
    (fun f hfm => by
      obtain ⟨x,ts,kd,bd,rfl,hkd,_⟩ := hfl f hfm
      have hc := kd_cmp hkd q (by omega)
      have ht : top M kd = kd := kd_top hkd
      have ht' : top M d = d := kd_top q
      refine ⟨?_,fun _ => by simp⟩
      simp [idx2,vw,cmp2,P]
      cases hkd <;> simp_all) (by simp [line]; omega)
  rw [show (fl.filter P).map (fun x => x) = fl.filter P from List.map_id' _,List.nil_append] at L
  have hfound : ∀ f ∈ fl.filter P,f ∈ fl /\ P f = true := fun f hf => List.mem_filter.mp hf
  have hfound' : ∀ x ts kd bd,D.tup [.str x,.lst ts,kd,bd] ∈ fl.filter P -> kd = d := fun x ts kd bd hf => by
    obtain ⟨h1,h2⟩ := hfound _ hf
    obtain ⟨x',ts',kd',bd',e,hkd,_⟩ := hfl _ h1
    cases e
    exact eqD_eq hkd.plain.1 h2
  generalize fl.filter P = found at L hfound hfound'
  rw [call_step fn18]
  by_cases hc : found.length = 0
  . obtain ⟨p,w,e⟩ := c_leaf (fl := fl) q (by omega) hs hn
    refine ⟨p,w.le (by omega),?_⟩
    have hc' : found = [] := List.eq_nil_of_length_eq_zero hc
    subst hc'
    simp only [runF,f_law_call,exs_cons,ex_set,ex_ifs,ex_ret,ev_comp,evi_e]
    simp [itemsOf,vw,capt,L,newl]
    simp [blt1,vw,cmp2,top,cmpOk,Fg.plain,dep,e k (by omega),retn,w.nr]
  . have hpos : (0 : Int) < (found.length : Int) := by omega
    obtain ⟨f,hfm,e⟩ := ati_ex (xs := found) (i := s / 11 % found.length) (Int.emod_nonneg _ (by omega)) (Int.emod_lt_of_pos _ hpos)
    obtain ⟨x,ts,kd,bd,rfl,hkd,hts,ht⟩ := hfl f (hfound f hfm).1
    obtain ⟨cs,U',w,hU,hloop⟩ := fs_loop (fl := fl) (d := d) (x1 := .lst found) (s := s) (x := x) (kd := kd) (bd := bd) IH hk (by omega) hn hts (by omega) ht _ rfl
    have kdd := hfound' _ _ _ _ hfm
    refine ⟨.tup (.str (Str.ofString "call") :: .str x :: cs), by rw [<- kdd]; exact .call (hfound _ hfm).1 w, ?_⟩
    have hne : ((found.length : Int) = 0) = False := eq_false (by omega)
    have hr1 := okR_nat (n := ts.length) (by omega)
    have hpos' : ((0 : Int) < (found.length : Int)) = True := eq_true hpos
    rw [<- call_step fn18]
    refine c_run (M' := M ++ [.lst (.str (Str.ofString "call") :: .str x :: cs)]) fn18 rfl ?_ (retn_let (by simp [nr, nrs, w.nr]) (by simp))
    unfold f_law_call
    dsimp only
    refine (s_set (x := .lst found) (M1 := M) ?_).trans ?_
    . simp [itemsOf,vw,capt,L,newl]
    refine (s_ifF (M1 := M) ?_).trans ?_
    . simp [blt1,vw,cmp2,top,cmpOk,Fg.plain,dep,-List.length_eq_zero_iff]
      omega
    refine (s_set (x := .tup [.str x,.lst ts,kd,bd]) (M1 := M) ?_).trans ?_
    . have hp2 : (0 < found.length) = True := eq_true (by omega)
      simp [blt1,vw,op2,num2,hp2,idx2,e]
    refine (s_set (x := .ref M.length) (M1 := M ++ [.lst [.str (Str.ofString "call"), .str x]]) ?_).trans ?_
    . simp [idx2,vw,newl]
    refine (s_for (d := .non) (ds := rngs 0 ts.length) (M1 := M ++ [.lst [.str (Str.ofString "call"), .str x]]) ?_ hloop).trans ?_
    . simp [idx2,vw,blt1,hr1]
    refine s_ret ?_
    simp [hU,blt1,vw]
theorem word_mem {i : Int} (h0 : 0 <= i) (h : i < 4) : ∃ w, ati [D.str (Str.ofString "plus"), D.str (Str.ofString "minus"), D.str (Str.ofString "times"), D.str (Str.ofString "less")] i = some (.str w) /\ w ∈ wOp := by
  have : i = 0 \/ i = 1 \/ i = 2 \/ i = 3 := by omega
  rcases this with rfl | rfl | rfl | rfl <;> simp [wOp]
theorem c_maker {fl : List D} {k : Nat} {dp H F : Nat} (fk : FlOk fl) (IH : PartOk fl dp H F) (hk : F <= k) (hk1 : 1 <= k) {h : Nat} {d : D} (q : Kd h d) (hh : h + (dp + 1) <= 8) (hdp : dp <= 4) {s : Int} (hs : Sd s) {M : MH} {r : Nat} {kvs : List (Ky × D)} (hn : NmAt M r kvs) :
    ∃ p,Ty kvs fl (H + 1) d p /\ (callF prg (k + 1)).call 19 [d,.int s,.ref r,.lst fl,.int (dp + 1)] M = .ok p M := by
  have hdep : (dp : Int) + 1 - 1 = dp := by omega
  have go : ∀ (h' : Nat) (d' : D) (s' : Int),Kd h' d' -> h' + dp <= 8 -> Sd s' -> ∃ p,Ty kvs fl H d' p /\ (callF prg k).call 20 [d',.int s',.ref r,.lst fl,.int dp] M = .ok p M := fun h' d' s' a b c => IH k hk h' d' a b s' c M r kvs hn
  obtain ⟨hp,hd1,hd2⟩ := q.plain
  have s1 := sd_next s 11
  have s2 := sd_next s 12
  have e1 := c_kind (M := M) (p := s / 7) hk1
  have e2 := fun j => c_next (M := M) (s := s) (j := j) hk1
  cases q with
  | num =>
    by_cases hc : s % 3 = 0
    . obtain ⟨p,w,e⟩ := go 4 (.tup [.str sList,knd (s / 7)]) (next s 11) (.list (knd_kd _)) (by omega) s1
      refine ⟨.tup [.str (Str.ofString "none"), p], .none w, c_run (M' := M) fn19 rfl ?_ (retn_same (by simp [nr, nrs, w.nr]))⟩
      unfold f_law_maker
      dsimp only
      refine (s_set (x := knd (s / 7)) (M1 := M) (by simp [op2,num2,e1])).trans ((s_set (x := .int (next s 11)) (M1 := M) (by simp [e2])).trans ((s_set (x := .int (next s 12)) (M1 := M) (by simp [e2])).trans (s_ifR (M1 := M) ?_ (s_ret ?_))))
      . simp [idx2,vw,cmp2,top,cmpOk,Fg.plain,dep,op2,num2,hc]
      . simp [op2,num2,hdep,e]
    . obtain ⟨p1,w1,f1⟩ := go h kNum (next s 11) (.num _) (by omega) s1
      obtain ⟨p2,w2,f2⟩ := go h kNum (next s 12) (.num _) (by omega) s2
      obtain ⟨w,ew,hw⟩ := word_mem (i := s / 3 % 4) (by omega) (by omega)
      refine ⟨.tup [.str w,p1,p2],.op hw w1 w2,c_run (M' := M) fn19 rfl ?_ (retn_same (by simp [nr,nrs,w1.nr,w2.nr]))⟩
      unfold f_law_maker
      dsimp only
      refine (s_set (x := knd (s / 7)) (M1 := M) (by simp [op2,num2,e1])).trans ((s_set (x := .int (next s 11)) (M1 := M) (by simp [e2])).trans ((s_set (x := .int (next s 12)) (M1 := M) (by simp [e2])).trans ((s_ifF (M1 := M) ?_).trans (s_ifR (M1 := M) ?_ ?_))))
      . simp [idx2,vw,cmp2,top,cmpOk,Fg.plain,dep,op2,num2,hc]
      . simp [idx2,vw,cmp2,top,cmpOk,Fg.plain,dep]
      . refine (s_set (x := .str w) (M1 := M) ?_).trans ((s_set (x := p1) (M1 := M) ?_).trans (s_ret ?_))
        . simp [newl,vw,op2,num2,idx2,ew]
        . simp [op2,num2,hdep,f1]
        . simp [op2,num2,hdep,f2]
  | @list h' d' q' =>
    have z : (sList = Str.ofString "num") = False := eq_false (by decide)
    have z' : (sList = Str.ofString "pair") = False := eq_false (by decide)
    by_cases hc : s % 3 = 0
    . obtain ⟨p,w,e⟩ := go (h' + 1) (.tup [.str sList,d']) (next s 11) (.list q') (by omega) s1
      refine ⟨.tup [.str (Str.ofString "tail"), p], .tail w, c_run (M' := M) fn19 rfl ?_ (retn_same (by simp [nr, nrs, w.nr]))⟩
      unfold f_law_maker
      dsimp only
      refine (s_set (x := knd (s / 7)) (M1 := M) (by simp [op2,num2,e1])).trans ((s_set (x := .int (next s 11)) (M1 := M) (by simp [e2])).trans ((s_set (x := .int (next s 12)) (M1 := M) (by simp [e2])).trans ((s_ifF (M1 := M) ?_).trans ((s_ifF (M1 := M) ?_).trans ((s_ifF (M1 := M) ?_).trans (s_ifR (M1 := M) ?_ (s_ret ?_)))))))
      . simp [idx2,vw,cmp2,top,cmpOk,Fg.plain,dep,z]
      . simp [idx2,vw,cmp2,top,cmpOk,Fg.plain,dep,z]
      . simp [idx2,vw,cmp2,top,cmpOk,Fg.plain,dep,z']
      . simp [cmp2,top,cmpOk,Fg.plain,dep,op2,num2,hc]
      . simp [op2,num2,hdep,e]
    . obtain ⟨p1,w1,f1⟩ := go h' d' (next s 11) q' (by omega) s1
      obtain ⟨p2,w2,f2⟩ := go (h' + 1) (.tup [.str sList,d']) (next s 12) (.list q') (by omega) s2
      refine ⟨.tup [.str (Str.ofString "cons"), p1, p2], .cons w1 w2, c_run (M' := M) fn19 rfl ?_ (retn_same (by simp [nr, nrs, w1.nr, w2.nr]))⟩
      unfold f_law_maker
      dsimp only
      refine (s_set (x := knd (s / 7)) (M1 := M) (by simp [op2,num2,e1])).trans ((s_set (x := .int (next s 11)) (M1 := M) (by simp [e2])).trans ((s_set (x := .int (next s 12)) (M1 := M) (by simp [e2])).trans ((s_ifF (M1 := M) ?_).trans ((s_ifF (M1 := M) ?_).trans ((s_ifF (M1 := M) ?_).trans ((s_ifF (M1 := M) ?_).trans ((s_set (x := p1) (M1 := M) ?_).trans (s_ret ?_))))))))
      . simp [idx2,vw,cmp2,top,cmpOk,Fg.plain,dep,z]
      . simp [idx2,vw,cmp2,top,cmpOk,Fg.plain,dep,z]
      . simp [idx2,vw,cmp2,top,cmpOk,Fg.plain,dep,z']
      . simp [cmp2,top,cmpOk,Fg.plain,dep,op2,num2,hc]
      . simp [idx2,vw,op2,num2,hdep,f1]
      . simp [op2,num2,hdep,f2]
  | @pair h' d' e' q1 q2 =>
    have z : (sPair = Str.ofString "num") = False := eq_false (by decide)
    obtain ⟨p1,w1,f1⟩ := go h' d' (next s 11) q1 (by omega) s1
    obtain ⟨p2,w2,f2⟩ := go h' e' (next s 12) q2 (by omega) s2
    refine ⟨.tup [.str (Str.ofString "pair"), p1, p2], .pair w1 w2, c_run (M' := M) fn19 rfl ?_ (retn_same (by simp [nr, nrs, w1.nr, w2.nr]))⟩
    unfold f_law_maker
    dsimp only
    refine (s_set (x := knd (s / 7)) (M1 := M) (by simp [op2,num2,e1])).trans ((s_set (x := .int (next s 11)) (M1 := M) (by simp [e2])).trans ((s_set (x := .int (next s 12)) (M1 := M) (by simp [e2])).trans ((s_ifF (M1 := M) ?_).trans ((s_ifF (M1 := M) ?_).trans (s_ifR (M1 := M) ?_ ?_)))))
    . simp [idx2,vw,cmp2,top,cmpOk,Fg.plain,dep,z]
    . simp [idx2,vw,cmp2,top,cmpOk,Fg.plain,dep,z]
    . simp [idx2,vw,cmp2,top,cmpOk,Fg.plain,dep]
    . refine (s_set (x := p1) (M1 := M) ?_).trans (s_ret ?_)
      . simp [idx2,vw,op2,num2,hdep,f1]
      . simp [idx2,vw,op2,num2,hdep,f2]
end K03
end
section
set_option autoImplicit false
namespace K03
open Fg PySem
def tl : Ss -> Ss
  | .cons _ s => s
  | .nil => .nil
theorem part_tail {fl : List D} {k : Nat} {dp H F : Nat} (fk : FlOk fl) (IH : PartOk fl dp H F) (hH : 8 <= H) (hF : 12 <= F) (hk : F + 1 <= k) {h : Nat} {d : D} (q : Kd h d) (hh : h + (dp + 1) <= 8) (hdp : dp <= 4) {s : Int} (hs : Sd s) {M : MH} {r : Nat} {kvs : List (Ky × D)} (hn : NmAt M r kvs) (l : Int) :
    ∃ p,Ty kvs fl (H + 1) d p /\ exs (callF prg k) (tl (tl (tl (tl f_law_part.body)))) [some d,some (.int s),some (.ref r),some (.lst fl),some (.int (dp + 1)),some (.int l),some (.int (next s 21)),none,none] M = .ok (.rt p) M := by
  obtain ⟨k',rfl⟩ : ∃ j,k = j + 1 := ⟨k - 1,by omega⟩
  have hdep : (dp : Int) + 1 - 1 = dp := by omega
  have go : ∀ (h' : Nat) (d' : D) (s' : Int),Kd h' d' -> h' + dp <= 8 -> Sd s' -> ∃ p,Ty kvs fl H d' p /\ (callF prg (k' + 1)).call 20 [d',.int s',.ref r,.lst fl,.int dp] M = .ok p M := fun h' d' s' a b c => IH (k' + 1) (by omega) h' d' a b s' c M r kvs hn
  have s1 := sd_next s 21
  have e2 := fun j => c_next (M := M) (s := s) (j := j) (show 1 <= k' + 1 by omega)
  unfold f_law_part
  simp only [tl]
  have C : ∀ m : Int,ev (callF prg (k' + 1)) (E.cmp .eq (E.v 5) (E.k (.int m))) [some d,some (.int s),some (.ref r),some (.lst fl),some (.int (dp + 1)),some (.int l),some (.int (next s 21)),none,none] M = .ok (.bl (decide (l = m))) M := by
    intro m; simp [cmp2,top,cmpOk,Fg.plain,dep]
  have C6 : ev (callF prg (k' + 1)) (E.cmp .le (E.v 5) (E.k (.int 6))) [some d,some (.int s),some (.ref r),some (.lst fl),some (.int (dp + 1)),some (.int l),some (.int (next s 21)),none,none] M = .ok (.bl (decide (l <= 6))) M := by
    simp [cmp2]
  by_cases l0 : l = 0
  . obtain ⟨p,w,e⟩ := go (h + 1) (.tup [.str sList,d]) (next s 21) (.list q) (by omega) s1
    refine ⟨.tup [.str (Str.ofString "head"), p], .head w, s_ifR (M1 := M) (by rw [C 0, l0]; rfl) (s_ret ?_)⟩
    simp [op2,num2,hdep,e]
  by_cases l1 : l = 1
  . obtain ⟨p,w,e⟩ := go (h + 1) (.tup [.str sPair,d,kNum]) (next s 21) (.pair q (.num _)) (by omega) s1
    refine ⟨.tup [.str (Str.ofString "first"), p], .first w, (s_ifF (M1 := M) (by rw [C 0, decide_eq_false l0])).trans (s_ifR (M1 := M) (by rw [C 1, l1]; rfl) (s_ret ?_))⟩
    simp [op2,num2,hdep,e]
  by_cases l2 : l = 2
  . obtain ⟨p,w,e⟩ := go (h + 1) (.tup [.str sPair,kNum,d]) (next s 21) (.pair (.num _) q) (by omega) s1
    refine ⟨.tup [.str (Str.ofString "second"), p], .second w, (s_ifF (M1 := M) (by rw [C 0, decide_eq_false l0])).trans ((s_ifF (M1 := M) (by rw [C 1, decide_eq_false l1])).trans (s_ifR (M1 := M) (by rw [C 2, l2]; rfl) (s_ret ?_)))⟩
    simp [op2,num2,hdep,e]
  by_cases l3 : l = 3
  . obtain ⟨p1,w1,f1⟩ := go h kNum (next s 21) (.num _) (by omega) s1
    obtain ⟨p2,w2,f2⟩ := go h d (next s 22) q (by omega) (sd_next _ _)
    obtain ⟨p3,w3,f3⟩ := go h d (next s 23) q (by omega) (sd_next _ _)
    refine ⟨.tup [.str (Str.ofString "if"), p1, p2, p3], .ifs w1 w2 w3, (s_ifF (M1 := M) (by rw [C 0, decide_eq_false l0])).trans ((s_ifF (M1 := M) (by rw [C 1, decide_eq_false l1])).trans ((s_ifF (M1 := M) (by rw [C 2, decide_eq_false l2])).trans (s_ifR (M1 := M) (by rw [C 3, l3]; rfl) ?_)))⟩
    refine (s_set (x := p1) (M1 := M) (by simp [op2,num2,hdep,f1])).trans ((s_set (x := p2) (M1 := M) (by simp [op2,num2,hdep,e2,f2])).trans (s_ret (by simp [op2,num2,hdep,e2,f3])))
  by_cases l6 : l <= 6
  . obtain ⟨p,w,e⟩ := c_call (k := k') fk IH hH (by omega) (by omega) q hh (by omega) (hs.div 12 (by decide)) hn
    refine ⟨p,w,(s_ifF (M1 := M) (by rw [C 0,decide_eq_false l0])).trans ((s_ifF (M1 := M) (by rw [C 1,decide_eq_false l1])).trans ((s_ifF (M1 := M) (by rw [C 2,decide_eq_false l2])).trans ((s_ifF (M1 := M) (by rw [C 3,decide_eq_false l3])).trans (s_ifR (M1 := M) (by rw [C6,decide_eq_true l6]) (s_ret ?_)))))⟩
    simp [op2,num2,e]
  by_cases l7 : l = 7
  . obtain ⟨p,w,e⟩ := c_leaf (fl := fl) q (by omega) s1 hn
    refine ⟨p,w.le (by omega),(s_ifF (M1 := M) (by rw [C 0,decide_eq_false l0])).trans ((s_ifF (M1 := M) (by rw [C 1,decide_eq_false l1])).trans ((s_ifF (M1 := M) (by rw [C 2,decide_eq_false l2])).trans ((s_ifF (M1 := M) (by rw [C 3,decide_eq_false l3])).trans ((s_ifF (M1 := M) (by rw [C6,decide_eq_false l6])).trans (s_ifR (M1 := M) (by rw [C 7,l7]; rfl) (s_ret ?_))))))⟩
    simp [e (k' + 1) (by omega)]
  . obtain ⟨p,w,e⟩ := c_maker (k := k') fk IH (by omega) (by omega) q hh (by omega) (hs.div 12 (by decide)) hn
    refine ⟨p,w,(s_ifF (M1 := M) (by rw [C 0,decide_eq_false l0])).trans ((s_ifF (M1 := M) (by rw [C 1,decide_eq_false l1])).trans ((s_ifF (M1 := M) (by rw [C 2,decide_eq_false l2])).trans ((s_ifF (M1 := M) (by rw [C 3,decide_eq_false l3])).trans ((s_ifF (M1 := M) (by rw [C6,decide_eq_false l6])).trans ((s_ifF (M1 := M) (by rw [C 7,decide_eq_false l7])).trans (s_ret ?_))))))⟩
    simp [op2,num2,e]
theorem part_step {fl : List D} {dp H F : Nat} (fk : FlOk fl) (IH : PartOk fl dp H F) (hH : 8 <= H) (hF : 12 <= F) (hdp : dp <= 4) : PartOk fl (dp + 1) (H + 1) (F + 2) := by
  intro k hk h d q hh s hs M r kvs hn
  obtain ⟨k,rfl⟩ : ∃ j,k = j + 1 := ⟨k - 1,by omega⟩
  rw [show ((dp + 1 : Nat) : Int) = (dp : Int) + 1 by omega]
  obtain ⟨m,hm⟩ := c_wide q
  have hd0 : ¬ (dp : Int) + 1 <= 0 := by omega
  have hwd := hm k M (by omega)
  have hb : f_law_part.body = .cons (S.ifs (E.cmp .le (E.v 4) (E.k (.int 0))) (Ss.cons (S.ret (E.call 17 (Es.cons (E.v 0) (Es.cons (E.v 1) (Es.cons (E.v 2) Es.nil))))) Ss.nil) Ss.nil)
      (.cons (S.set 5 (E.op .mod true (E.v 1) (E.k (.int 12)))) (.cons (S.set 6 (E.call 12 (Es.cons (E.v 1) (Es.cons (E.k (.int 21)) Es.nil))))
      (.cons (S.ifs (E.and (E.cmp .le (E.v 5) (E.k (.int 2))) (E.cmp .gt (E.call 14 (Es.cons (E.v 0) Es.nil)) (E.k (.int 4)))) (Ss.cons (S.set 5 (E.k (.int 9))) Ss.nil) Ss.nil) (tl (tl (tl (tl f_law_part.body))))))) := rfl
  have key : ∀ l : Int,(exs (callF prg k) (.cons (S.ifs (E.and (E.cmp .le (E.v 5) (E.k (.int 2))) (E.cmp .gt (E.call 14 (Es.cons (E.v 0) Es.nil)) (E.k (.int 4)))) (Ss.cons (S.set 5 (E.k (.int 9))) Ss.nil) Ss.nil) (tl (tl (tl (tl f_law_part.body))))) [some d,some (.int s),some (.ref r),some (.lst fl),some (.int (dp + 1)),some (.int (s % 12)),some (.int (next s 21)),none,none] M =
      exs (callF prg k) (tl (tl (tl (tl f_law_part.body)))) [some d,some (.int s),some (.ref r),some (.lst fl),some (.int (dp + 1)),some (.int l),some (.int (next s 21)),none,none] M) ->
      ∃ p,Ty kvs fl (H + 1) d p /\ (callF prg (k + 1)).call 20 [d,.int s,.ref r,.lst fl,.int (dp + 1)] M = .ok p M := by
    intro l hl
    obtain ⟨p,w,e⟩ := part_tail fk IH hH hF (show F + 1 <= k by omega) q hh hdp hs hn l
    refine ⟨p,w,c_run (M' := M) fn20 rfl ?_ (retn_same (w.nr _))⟩
    rw [hb]
    refine (s_ifF (M1 := M) (by simp [cmp2,hd0])).trans ((s_set (x := .int (s % 12)) (M1 := M) (by simp [op2,num2])).trans ((s_set (x := .int (next s 21)) (M1 := M) (by simp [c_next (show 1 <= k by omega)])).trans ?_))
    exact hl.trans e
  by_cases c1 : s % 12 <= 2
  . by_cases c2 : 4 < m
    . refine key 9 (s_ifT (M1 := M) (M2 := M) ?_ ?_)
      . simp [cmp2,c1,hwd,c2]
      . simp
    . refine key (s % 12) (s_ifF (M1 := M) ?_)
      simp [cmp2,c1,hwd,c2]
  . refine key (s % 12) (s_ifF (M1 := M) ?_)
    simp [cmp2,c1]
theorem part1 {fl : List D} (fk : FlOk fl) : PartOk fl 1 9 14 := part_step fk part0 (by decide) (by decide) (by decide)
theorem part2 {fl : List D} (fk : FlOk fl) : PartOk fl 2 10 16 := part_step fk (part1 fk) (by decide) (by decide) (by decide)
end K03
end
section
set_option autoImplicit false
namespace K03
open Fg PySem
@[simp] theorem ne_plus_minus : (Str.ofString "plus" = Str.ofString "minus") = False := eq_false (by decide)
@[simp] theorem ne_plus_times : (Str.ofString "plus" = Str.ofString "times") = False := eq_false (by decide)
@[simp] theorem ne_plus_less : (Str.ofString "plus" = Str.ofString "less") = False := eq_false (by decide)
@[simp] theorem ne_plus_pair : (Str.ofString "plus" = Str.ofString "pair") = False := eq_false (by decide)
@[simp] theorem ne_plus_first : (Str.ofString "plus" = Str.ofString "first") = False := eq_false (by decide)
@[simp] theorem ne_plus_second : (Str.ofString "plus" = Str.ofString "second") = False := eq_false (by decide)
@[simp] theorem ne_plus_cons : (Str.ofString "plus" = Str.ofString "cons") = False := eq_false (by decide)
@[simp] theorem ne_plus_head : (Str.ofString "plus" = Str.ofString "head") = False := eq_false (by decide)
@[simp] theorem ne_plus_tail : (Str.ofString "plus" = Str.ofString "tail") = False := eq_false (by decide)
@[simp] theorem ne_plus_none : (Str.ofString "plus" = Str.ofString "none") = False := eq_false (by decide)
@[simp] theorem ne_plus_if_ : (Str.ofString "plus" = Str.ofString "if") = False := eq_false (by decide)
@[simp] theorem ne_minus_plus : (Str.ofString "minus" = Str.ofString "plus") = False := eq_false (by decide)
@[simp] theorem ne_minus_times : (Str.ofString "minus" = Str.ofString "times") = False := eq_false (by decide)
@[simp] theorem ne_minus_less : (Str.ofString "minus" = Str.ofString "less") = False := eq_false (by decide)
@[simp] theorem ne_minus_pair : (Str.ofString "minus" = Str.ofString "pair") = False := eq_false (by decide)
@[simp] theorem ne_minus_first : (Str.ofString "minus" = Str.ofString "first") = False := eq_false (by decide)
@[simp] theorem ne_minus_second : (Str.ofString "minus" = Str.ofString "second") = False := eq_false (by decide)
@[simp] theorem ne_minus_cons : (Str.ofString "minus" = Str.ofString "cons") = False := eq_false (by decide)
@[simp] theorem ne_minus_head : (Str.ofString "minus" = Str.ofString "head") = False := eq_false (by decide)
@[simp] theorem ne_minus_tail : (Str.ofString "minus" = Str.ofString "tail") = False := eq_false (by decide)
@[simp] theorem ne_minus_none : (Str.ofString "minus" = Str.ofString "none") = False := eq_false (by decide)
@[simp] theorem ne_minus_if_ : (Str.ofString "minus" = Str.ofString "if") = False := eq_false (by decide)
@[simp] theorem ne_times_plus : (Str.ofString "times" = Str.ofString "plus") = False := eq_false (by decide)
@[simp] theorem ne_times_minus : (Str.ofString "times" = Str.ofString "minus") = False := eq_false (by decide)
@[simp] theorem ne_times_less : (Str.ofString "times" = Str.ofString "less") = False := eq_false (by decide)
@[simp] theorem ne_times_pair : (Str.ofString "times" = Str.ofString "pair") = False := eq_false (by decide)
@[simp] theorem ne_times_first : (Str.ofString "times" = Str.ofString "first") = False := eq_false (by decide)
@[simp] theorem ne_times_second : (Str.ofString "times" = Str.ofString "second") = False := eq_false (by decide)
@[simp] theorem ne_times_cons : (Str.ofString "times" = Str.ofString "cons") = False := eq_false (by decide)
@[simp] theorem ne_times_head : (Str.ofString "times" = Str.ofString "head") = False := eq_false (by decide)
@[simp] theorem ne_times_tail : (Str.ofString "times" = Str.ofString "tail") = False := eq_false (by decide)
@[simp] theorem ne_times_none : (Str.ofString "times" = Str.ofString "none") = False := eq_false (by decide)
@[simp] theorem ne_times_if_ : (Str.ofString "times" = Str.ofString "if") = False := eq_false (by decide)
@[simp] theorem ne_less_plus : (Str.ofString "less" = Str.ofString "plus") = False := eq_false (by decide)
@[simp] theorem ne_less_minus : (Str.ofString "less" = Str.ofString "minus") = False := eq_false (by decide)
@[simp] theorem ne_less_times : (Str.ofString "less" = Str.ofString "times") = False := eq_false (by decide)
@[simp] theorem ne_less_pair : (Str.ofString "less" = Str.ofString "pair") = False := eq_false (by decide)
@[simp] theorem ne_less_first : (Str.ofString "less" = Str.ofString "first") = False := eq_false (by decide)
@[simp] theorem ne_less_second : (Str.ofString "less" = Str.ofString "second") = False := eq_false (by decide)
@[simp] theorem ne_less_cons : (Str.ofString "less" = Str.ofString "cons") = False := eq_false (by decide)
@[simp] theorem ne_less_head : (Str.ofString "less" = Str.ofString "head") = False := eq_false (by decide)
@[simp] theorem ne_less_tail : (Str.ofString "less" = Str.ofString "tail") = False := eq_false (by decide)
@[simp] theorem ne_less_none : (Str.ofString "less" = Str.ofString "none") = False := eq_false (by decide)
@[simp] theorem ne_less_if_ : (Str.ofString "less" = Str.ofString "if") = False := eq_false (by decide)
@[simp] theorem ne_pair_plus : (Str.ofString "pair" = Str.ofString "plus") = False := eq_false (by decide)
@[simp] theorem ne_pair_minus : (Str.ofString "pair" = Str.ofString "minus") = False := eq_false (by decide)
@[simp] theorem ne_pair_times : (Str.ofString "pair" = Str.ofString "times") = False := eq_false (by decide)
@[simp] theorem ne_pair_less : (Str.ofString "pair" = Str.ofString "less") = False := eq_false (by decide)
@[simp] theorem ne_pair_first : (Str.ofString "pair" = Str.ofString "first") = False := eq_false (by decide)
@[simp] theorem ne_pair_second : (Str.ofString "pair" = Str.ofString "second") = False := eq_false (by decide)
@[simp] theorem ne_pair_cons : (Str.ofString "pair" = Str.ofString "cons") = False := eq_false (by decide)
@[simp] theorem ne_pair_head : (Str.ofString "pair" = Str.ofString "head") = False := eq_false (by decide)
@[simp] theorem ne_pair_tail : (Str.ofString "pair" = Str.ofString "tail") = False := eq_false (by decide)
@[simp] theorem ne_pair_none : (Str.ofString "pair" = Str.ofString "none") = False := eq_false (by decide)
@[simp] theorem ne_pair_if_ : (Str.ofString "pair" = Str.ofString "if") = False := eq_false (by decide)
@[simp] theorem ne_first_plus : (Str.ofString "first" = Str.ofString "plus") = False := eq_false (by decide)
@[simp] theorem ne_first_minus : (Str.ofString "first" = Str.ofString "minus") = False := eq_false (by decide)
@[simp] theorem ne_first_times : (Str.ofString "first" = Str.ofString "times") = False := eq_false (by decide)
@[simp] theorem ne_first_less : (Str.ofString "first" = Str.ofString "less") = False := eq_false (by decide)
@[simp] theorem ne_first_pair : (Str.ofString "first" = Str.ofString "pair") = False := eq_false (by decide)
@[simp] theorem ne_first_second : (Str.ofString "first" = Str.ofString "second") = False := eq_false (by decide)
@[simp] theorem ne_first_cons : (Str.ofString "first" = Str.ofString "cons") = False := eq_false (by decide)
@[simp] theorem ne_first_head : (Str.ofString "first" = Str.ofString "head") = False := eq_false (by decide)
@[simp] theorem ne_first_tail : (Str.ofString "first" = Str.ofString "tail") = False := eq_false (by decide)
@[simp] theorem ne_first_none : (Str.ofString "first" = Str.ofString "none") = False := eq_false (by decide)
@[simp] theorem ne_first_if_ : (Str.ofString "first" = Str.ofString "if") = False := eq_false (by decide)
@[simp] theorem ne_second_plus : (Str.ofString "second" = Str.ofString "plus") = False := eq_false (by decide)
@[simp] theorem ne_second_minus : (Str.ofString "second" = Str.ofString "minus") = False := eq_false (by decide)
@[simp] theorem ne_second_times : (Str.ofString "second" = Str.ofString "times") = False := eq_false (by decide)
@[simp] theorem ne_second_less : (Str.ofString "second" = Str.ofString "less") = False := eq_false (by decide)
@[simp] theorem ne_second_pair : (Str.ofString "second" = Str.ofString "pair") = False := eq_false (by decide)
@[simp] theorem ne_second_first : (Str.ofString "second" = Str.ofString "first") = False := eq_false (by decide)
@[simp] theorem ne_second_cons : (Str.ofString "second" = Str.ofString "cons") = False := eq_false (by decide)
@[simp] theorem ne_second_head : (Str.ofString "second" = Str.ofString "head") = False := eq_false (by decide)
@[simp] theorem ne_second_tail : (Str.ofString "second" = Str.ofString "tail") = False := eq_false (by decide)
@[simp] theorem ne_second_none : (Str.ofString "second" = Str.ofString "none") = False := eq_false (by decide)
@[simp] theorem ne_second_if_ : (Str.ofString "second" = Str.ofString "if") = False := eq_false (by decide)
@[simp] theorem ne_cons_plus : (Str.ofString "cons" = Str.ofString "plus") = False := eq_false (by decide)
@[simp] theorem ne_cons_minus : (Str.ofString "cons" = Str.ofString "minus") = False := eq_false (by decide)
@[simp] theorem ne_cons_times : (Str.ofString "cons" = Str.ofString "times") = False := eq_false (by decide)
@[simp] theorem ne_cons_less : (Str.ofString "cons" = Str.ofString "less") = False := eq_false (by decide)
@[simp] theorem ne_cons_pair : (Str.ofString "cons" = Str.ofString "pair") = False := eq_false (by decide)
@[simp] theorem ne_cons_first : (Str.ofString "cons" = Str.ofString "first") = False := eq_false (by decide)
@[simp] theorem ne_cons_second : (Str.ofString "cons" = Str.ofString "second") = False := eq_false (by decide)
@[simp] theorem ne_cons_head : (Str.ofString "cons" = Str.ofString "head") = False := eq_false (by decide)
@[simp] theorem ne_cons_tail : (Str.ofString "cons" = Str.ofString "tail") = False := eq_false (by decide)
@[simp] theorem ne_cons_none : (Str.ofString "cons" = Str.ofString "none") = False := eq_false (by decide)
@[simp] theorem ne_cons_if_ : (Str.ofString "cons" = Str.ofString "if") = False := eq_false (by decide)
@[simp] theorem ne_head_plus : (Str.ofString "head" = Str.ofString "plus") = False := eq_false (by decide)
@[simp] theorem ne_head_minus : (Str.ofString "head" = Str.ofString "minus") = False := eq_false (by decide)
@[simp] theorem ne_head_times : (Str.ofString "head" = Str.ofString "times") = False := eq_false (by decide)
@[simp] theorem ne_head_less : (Str.ofString "head" = Str.ofString "less") = False := eq_false (by decide)
@[simp] theorem ne_head_pair : (Str.ofString "head" = Str.ofString "pair") = False := eq_false (by decide)
@[simp] theorem ne_head_first : (Str.ofString "head" = Str.ofString "first") = False := eq_false (by decide)
@[simp] theorem ne_head_second : (Str.ofString "head" = Str.ofString "second") = False := eq_false (by decide)
@[simp] theorem ne_head_cons : (Str.ofString "head" = Str.ofString "cons") = False := eq_false (by decide)
@[simp] theorem ne_head_tail : (Str.ofString "head" = Str.ofString "tail") = False := eq_false (by decide)
@[simp] theorem ne_head_none : (Str.ofString "head" = Str.ofString "none") = False := eq_false (by decide)
@[simp] theorem ne_head_if_ : (Str.ofString "head" = Str.ofString "if") = False := eq_false (by decide)
@[simp] theorem ne_tail_plus : (Str.ofString "tail" = Str.ofString "plus") = False := eq_false (by decide)
@[simp] theorem ne_tail_minus : (Str.ofString "tail" = Str.ofString "minus") = False := eq_false (by decide)
@[simp] theorem ne_tail_times : (Str.ofString "tail" = Str.ofString "times") = False := eq_false (by decide)
@[simp] theorem ne_tail_less : (Str.ofString "tail" = Str.ofString "less") = False := eq_false (by decide)
@[simp] theorem ne_tail_pair : (Str.ofString "tail" = Str.ofString "pair") = False := eq_false (by decide)
@[simp] theorem ne_tail_first : (Str.ofString "tail" = Str.ofString "first") = False := eq_false (by decide)
@[simp] theorem ne_tail_second : (Str.ofString "tail" = Str.ofString "second") = False := eq_false (by decide)
@[simp] theorem ne_tail_cons : (Str.ofString "tail" = Str.ofString "cons") = False := eq_false (by decide)
@[simp] theorem ne_tail_head : (Str.ofString "tail" = Str.ofString "head") = False := eq_false (by decide)
@[simp] theorem ne_tail_none : (Str.ofString "tail" = Str.ofString "none") = False := eq_false (by decide)
@[simp] theorem ne_tail_if_ : (Str.ofString "tail" = Str.ofString "if") = False := eq_false (by decide)
@[simp] theorem ne_none_plus : (Str.ofString "none" = Str.ofString "plus") = False := eq_false (by decide)
@[simp] theorem ne_none_minus : (Str.ofString "none" = Str.ofString "minus") = False := eq_false (by decide)
@[simp] theorem ne_none_times : (Str.ofString "none" = Str.ofString "times") = False := eq_false (by decide)
@[simp] theorem ne_none_less : (Str.ofString "none" = Str.ofString "less") = False := eq_false (by decide)
@[simp] theorem ne_none_pair : (Str.ofString "none" = Str.ofString "pair") = False := eq_false (by decide)
@[simp] theorem ne_none_first : (Str.ofString "none" = Str.ofString "first") = False := eq_false (by decide)
@[simp] theorem ne_none_second : (Str.ofString "none" = Str.ofString "second") = False := eq_false (by decide)
@[simp] theorem ne_none_cons : (Str.ofString "none" = Str.ofString "cons") = False := eq_false (by decide)
@[simp] theorem ne_none_head : (Str.ofString "none" = Str.ofString "head") = False := eq_false (by decide)
@[simp] theorem ne_none_tail : (Str.ofString "none" = Str.ofString "tail") = False := eq_false (by decide)
@[simp] theorem ne_none_if_ : (Str.ofString "none" = Str.ofString "if") = False := eq_false (by decide)
@[simp] theorem ne_if__plus : (Str.ofString "if" = Str.ofString "plus") = False := eq_false (by decide)
@[simp] theorem ne_if__minus : (Str.ofString "if" = Str.ofString "minus") = False := eq_false (by decide)
@[simp] theorem ne_if__times : (Str.ofString "if" = Str.ofString "times") = False := eq_false (by decide)
@[simp] theorem ne_if__less : (Str.ofString "if" = Str.ofString "less") = False := eq_false (by decide)
@[simp] theorem ne_if__pair : (Str.ofString "if" = Str.ofString "pair") = False := eq_false (by decide)
@[simp] theorem ne_if__first : (Str.ofString "if" = Str.ofString "first") = False := eq_false (by decide)
@[simp] theorem ne_if__second : (Str.ofString "if" = Str.ofString "second") = False := eq_false (by decide)
@[simp] theorem ne_if__cons : (Str.ofString "if" = Str.ofString "cons") = False := eq_false (by decide)
@[simp] theorem ne_if__head : (Str.ofString "if" = Str.ofString "head") = False := eq_false (by decide)
@[simp] theorem ne_if__tail : (Str.ofString "if" = Str.ofString "tail") = False := eq_false (by decide)
@[simp] theorem ne_if__none : (Str.ofString "if" = Str.ofString "none") = False := eq_false (by decide)
@[simp] theorem ne_name_number : (Str.ofString "name" = Str.ofString "number") = False := eq_false (by decide)
@[simp] theorem ne_nil_number : (Str.ofString "nil" = Str.ofString "number") = False := eq_false (by decide)
@[simp] theorem ne_nil_name : (Str.ofString "nil" = Str.ofString "name") = False := eq_false (by decide)
@[simp] theorem ne_let_number : (Str.ofString "let" = Str.ofString "number") = False := eq_false (by decide)
@[simp] theorem ne_let_name : (Str.ofString "let" = Str.ofString "name") = False := eq_false (by decide)
@[simp] theorem ne_let_nil : (Str.ofString "let" = Str.ofString "nil") = False := eq_false (by decide)
@[simp] theorem ne_let_call : (Str.ofString "let" = Str.ofString "call") = False := eq_false (by decide)
end K03
end
section
set_option autoImplicit false
namespace K03
open Fg PySem
theorem look_of {kvs : List (Ky × D)} {k : Ky} {d : D} (h : look kvs k = some d) : (k,d) ∈ kvs := by
  unfold look at h
  cases hf : kvs.find? (fun kv => decide (kv.1 = k)) with
  | none => rw [hf] at h; cases h
  | some p =>
    rw [hf] at h
    cases h
    have h1 := List.find?_some hf
    have h2 := List.mem_of_find?_eq_some hf
    simp only [decide_eq_true_eq] at h1
    subst h1
    exact h2
theorem kd_pair {n : Nat} {k l : D} (h : Kd n (kPair k l)) : ∃ m,n = m + 1 /\ Kd m k /\ Kd m l := by cases h with | pair a b => exact ⟨_,rfl,a,b⟩
theorem kd_list {n : Nat} {k : D} (h : Kd n (kList k)) : ∃ m,n = m + 1 /\ Kd m k := by cases h with | list a => exact ⟨_,rfl,a⟩
theorem Ty.kd {kvs : List (Ky × D)} {fl : List D} (nk : NvOk kvs) (fk : FlOk fl) : ∀ {h : Nat} {k p : D},Ty kvs fl h k p -> Kd (h + 9) k
  | _,_,_,.number => .num _
  | _,_,_,.name a => (nk _ (look_of a)).2.le (by omega)
  | h,_,_,.nil a => .list (a.le (show 8 <= h + 8 by omega))
  | _,_,_,.pair a b => .pair (a.kd nk fk) (b.kd nk fk)
  | _,_,_,.first a => by obtain ⟨m,e,h1,h2⟩ := kd_pair (a.kd nk fk); exact h1.le (by omega)
  | _,_,_,.second a => by obtain ⟨m,e,h1,h2⟩ := kd_pair (a.kd nk fk); exact h2.le (by omega)
  | _,_,_,.cons a b => (b.kd nk fk).le (by omega)
  | _,_,_,.head a => by obtain ⟨m,e,h1⟩ := kd_list (a.kd nk fk); exact h1.le (by omega)
  | _,_,_,.tail a => (a.kd nk fk).le (by omega)
  | _,_,_,.none a => .num _
  | _,_,_,.op w a b => .num _
  | _,_,_,.ifs a b c => (b.kd nk fk).le (by omega)
  | _,_,_,.call m a => by
    obtain ⟨x,ts,kd,bd,e,h1,_⟩ := fk.ex _ m
    cases e
    exact h1.le (by omega)
theorem c_want {k : Nat} {a b : D} {M : MH} (hk : 1 <= k) (hc : cmpOk a b = true) (ta : top M a = a) (tb : top M b = b) (na : (∃ xs,a = .tup xs) \/ ∃ xs,a = .lst xs) : (callF prg k).call 2 [a,b] M = if eqD a b then .ok .non M else .exc 2 M := by
  obtain ⟨k,rfl⟩ : ∃ j,k = j + 1 := ⟨k - 1,by omega⟩
  rw [call_step fn2]
  have h : cmp2 .ne M a b = .ok (.bl (!eqD a b)) M := by
    rcases na with ⟨xs,rfl⟩ | ⟨xs,rfl⟩ <;> simp [cmp2,ta,tb,hc]
  cases e : eqD a b <;> simp [runF,f_want_kind,h,e,retn,retx,nr]
theorem made_ok {u w : Str} {xs : List D} {k : Nat} {M : MH} (hk : 1 <= k) (hw : w.length <= 100000) : (callF prg k).call 3 [.tup (.str u :: xs),.str w] M = if u = w then .ok .non M else .exc 2 M := by
  obtain ⟨k,rfl⟩ : ∃ j,k = j + 1 := ⟨k - 1,by omega⟩
  rw [call_step fn3]
  by_cases e : u = w
  . simp [runF,f_want_made_by,idx2,vw,cmp2,top,cmpOk,Fg.plain,dep,e,retn,nr]
  . simp [runF,f_want_made_by,idx2,vw,cmp2,top,cmpOk,Fg.plain,dep,e,shortS,hw,retx]
theorem glob1 : prg.glob 1 = some kNum := rfl
theorem kd_tup {h : Nat} {a : D} (x : Kd h a) : ∃ u xs,a = .tup (.str u :: xs) := by cases x <;> exact ⟨_,_,rfl⟩
theorem want_same {k h : Nat} {a : D} {M : MH} (hk : 1 <= k) (x : Kd h a) (hh : h <= 50) : (callF prg k).call 2 [a,a] M = .ok .non M := by
  obtain ⟨u,xs,e⟩ := kd_tup x
  rw [c_want hk (kd_cmp x x hh) (kd_top x) (kd_top x) (.inl ⟨_,e⟩),if_pos (eqD_refl x.plain.1)]
theorem want_ne {k h h' : Nat} {a b : D} {M : MH} (hk : 1 <= k) (x : Kd h a) (y : Kd h' b) (hh : h <= 50) (ne : a ≠ b) : (callF prg k).call 2 [a,b] M = .exc 2 M := by
  obtain ⟨u,xs,e⟩ := kd_tup x
  rw [c_want hk (kd_cmp x y hh) (kd_top x) (kd_top y) (.inl ⟨_,e⟩),if_neg (fun z => ne (eqD_eq x.plain.1 z))]
theorem sl_pair : sPair.length <= 100000 := by decide
theorem sl_list : sList.length <= 100000 := by decide
theorem made_pair {k : Nat} {xs : List D} {M : MH} (hk : 1 <= k) : (callF prg k).call 3 [.tup (.str sPair :: xs),.str sPair] M = .ok .non M := by rw [made_ok hk sl_pair,if_pos rfl]
theorem made_list {k : Nat} {xs : List D} {M : MH} (hk : 1 <= k) : (callF prg k).call 3 [.tup (.str sList :: xs),.str sList] M = .ok .non M := by rw [made_ok hk sl_list,if_pos rfl]
theorem made_npair {k : Nat} {u : Str} {xs : List D} {M : MH} (hk : 1 <= k) (h : u ≠ sPair) : (callF prg k).call 3 [.tup (.str u :: xs),.str sPair] M = .exc 2 M := by rw [made_ok hk sl_pair,if_neg h]
theorem made_nlist {k : Nat} {u : Str} {xs : List D} {M : MH} (hk : 1 <= k) (h : u ≠ sList) : (callF prg k).call 3 [.tup (.str u :: xs),.str sList] M = .exc 2 M := by rw [made_ok hk sl_list,if_neg h]
section
variable {k h h' : Nat} {a b c : D} {M : MH}
theorem w_pair (hk : 3 <= k) (x : Kd h a) (y : Kd h' b) : (callF prg k).call 7 [.str (Str.ofString "pair"), .lst [a, b]] M = .ok (kPair a b) M := by
  obtain ⟨k,rfl⟩ : ∃ j,k = j + 2 := ⟨k - 2,by omega⟩
  rw [call_step fn7]
  have e5 : (callF prg (k + 1)).call 5 [.str (Str.ofString "pair"), .lst [a, b]] M = .ok (kPair a b) M := by
    rw [call_step fn5]
    simp [runF,f_kind_of_pair_word,cmp2,top,cmpOk,Fg.plain,dep,idx2,vw,retn,nr,nrs,x.plain.2.2,y.plain.2.2]
  simp [runF,f_kind_of_word,cmp2,vw,keyOf,flat,e5,retn,nr,nrs,x.plain.2.2,y.plain.2.2]
theorem w_first (hk : 3 <= k) (x : Kd h a) (y : Kd h' b) : (callF prg k).call 7 [.str (Str.ofString "first"), .lst [kPair a b]] M = .ok a M := by
  obtain ⟨k,rfl⟩ : ∃ j,k = j + 2 := ⟨k - 2,by omega⟩
  rw [call_step fn7]
  have e5 : (callF prg (k + 1)).call 5 [.str (Str.ofString "first"), .lst [kPair a b]] M = .ok a M := by
    rw [call_step fn5]
    simp [runF,f_kind_of_pair_word,cmp2,top,cmpOk,Fg.plain,dep,idx2,vw,made_pair (show 1 <= k by omega),retn,x.plain.2.2]
  simp [runF,f_kind_of_word,cmp2,vw,keyOf,flat,e5,retn,x.plain.2.2]
theorem w_second (hk : 3 <= k) (x : Kd h a) (y : Kd h' b) : (callF prg k).call 7 [.str (Str.ofString "second"), .lst [kPair a b]] M = .ok b M := by
  obtain ⟨k,rfl⟩ : ∃ j,k = j + 2 := ⟨k - 2,by omega⟩
  rw [call_step fn7]
  have e5 : (callF prg (k + 1)).call 5 [.str (Str.ofString "second"), .lst [kPair a b]] M = .ok b M := by
    rw [call_step fn5]
    simp [runF,f_kind_of_pair_word,cmp2,top,cmpOk,Fg.plain,dep,idx2,vw,made_pair (show 1 <= k by omega),retn,y.plain.2.2]
  simp [runF,f_kind_of_word,cmp2,vw,keyOf,flat,e5,retn,y.plain.2.2]
theorem w_cons (hk : 3 <= k) (x : Kd h a) (hh : h <= 49) : (callF prg k).call 7 [.str (Str.ofString "cons"), .lst [a, kList a]] M = .ok (kList a) M := by
  obtain ⟨k,rfl⟩ : ∃ j,k = j + 2 := ⟨k - 2,by omega⟩
  rw [call_step fn7]
  have e5 : (callF prg (k + 1)).call 6 [.str (Str.ofString "cons"), .lst [a, kList a]] M = .ok (kList a) M := by
    rw [call_step fn6]
    simp [runF,f_kind_of_list_word,cmp2,top,cmpOk,Fg.plain,dep,idx2,vw,want_same (k := k) (M := M) (by omega) (.list x) (by omega),retn,nr,nrs,x.plain.2.2]
  simp [runF,f_kind_of_word,cmp2,vw,keyOf,flat,e5,retn,nr,nrs,x.plain.2.2]
theorem w_head (hk : 3 <= k) (x : Kd h a) : (callF prg k).call 7 [.str (Str.ofString "head"), .lst [kList a]] M = .ok a M := by
  obtain ⟨k,rfl⟩ : ∃ j,k = j + 2 := ⟨k - 2,by omega⟩
  rw [call_step fn7]
  have e5 : (callF prg (k + 1)).call 6 [.str (Str.ofString "head"), .lst [kList a]] M = .ok a M := by
    rw [call_step fn6]
    simp [runF,f_kind_of_list_word,cmp2,top,cmpOk,Fg.plain,dep,idx2,vw,made_list (show 1 <= k by omega),retn,nr,nrs,x.plain.2.2]
  simp [runF,f_kind_of_word,cmp2,vw,keyOf,flat,e5,retn,nr,nrs,x.plain.2.2]
theorem w_tail (hk : 3 <= k) (x : Kd h a) : (callF prg k).call 7 [.str (Str.ofString "tail"), .lst [kList a]] M = .ok (kList a) M := by
  obtain ⟨k,rfl⟩ : ∃ j,k = j + 2 := ⟨k - 2,by omega⟩
  rw [call_step fn7]
  have e5 : (callF prg (k + 1)).call 6 [.str (Str.ofString "tail"), .lst [kList a]] M = .ok (kList a) M := by
    rw [call_step fn6]
    simp [runF,f_kind_of_list_word,cmp2,top,cmpOk,Fg.plain,dep,idx2,vw,made_list (show 1 <= k by omega),retn,nr,nrs,x.plain.2.2]
  simp [runF,f_kind_of_word,cmp2,vw,keyOf,flat,e5,retn,nr,nrs,x.plain.2.2]
theorem w_none (hk : 3 <= k) : (callF prg k).call 7 [.str (Str.ofString "none"), .lst [kList a]] M = .ok kNum M := by
  obtain ⟨k,rfl⟩ : ∃ j,k = j + 2 := ⟨k - 2,by omega⟩
  rw [call_step fn7]
  have e5 : (callF prg (k + 1)).call 6 [.str (Str.ofString "none"), .lst [kList a]] M = .ok kNum M := by
    rw [call_step fn6]
    simp [runF,f_kind_of_list_word,cmp2,top,cmpOk,Fg.plain,dep,idx2,vw,made_list (show 1 <= k by omega),glob1,retn,nr,nrs]
  simp [runF,f_kind_of_word,cmp2,vw,keyOf,flat,e5,retn,nr,nrs]
theorem w_op {w : Str} (hk : 3 <= k) (hw : w ∈ wOp) : (callF prg k).call 7 [.str w,.lst [kNum,kNum]] M = .ok kNum M := by
  obtain ⟨k,rfl⟩ : ∃ j,k = j + 2 := ⟨k - 2,by omega⟩
  have e2 := want_same (k := k + 1) (M := M) (by omega) (.num 0) (by omega)
  simp only [wOp,List.mem_cons,List.not_mem_nil,or_false] at hw
  rw [call_step fn7]
  rcases hw with rfl | rfl | rfl | rfl <;> simp [runF,f_kind_of_word,cmp2,top,cmpOk,Fg.plain,dep,vw,keyOf,flat,idx2,glob1,e2,retn,nr,nrs]
theorem w_if (hk : 3 <= k) (x : Kd h a) (hh : h <= 50) : (callF prg k).call 7 [.str (Str.ofString "if"), .lst [kNum, a, a]] M = .ok a M := by
  obtain ⟨k,rfl⟩ : ∃ j,k = j + 2 := ⟨k - 2,by omega⟩
  have e2 := want_same (k := k + 1) (M := M) (by omega) (.num 0) (by omega)
  have e3 := want_same (k := k + 1) (M := M) (by omega) x hh
  rw [call_step fn7]
  simp [runF,f_kind_of_word,cmp2,top,cmpOk,Fg.plain,dep,vw,keyOf,flat,idx2,glob1,e2,e3,retn,x.plain.2.2]
def wNum : List Str := [Str.ofString "plus", Str.ofString "minus", Str.ofString "times", Str.ofString "less", Str.ofString "if"]
theorem b_one {w : Str} {cs : List D} (hk : 3 <= k) (hw : w ∈ wNum) (x : Kd h a) (hh : h <= 50) (ne : a ≠ kNum) : (callF prg k).call 7 [.str w,.lst (a :: cs)] M = .exc 2 M := by
  obtain ⟨k,rfl⟩ : ∃ j,k = j + 2 := ⟨k - 2,by omega⟩
  have e2 := want_ne (k := k + 1) (M := M) (by omega) x (.num 0) hh ne
  simp only [wNum,List.mem_cons,List.not_mem_nil,or_false] at hw
  rw [call_step fn7]
  rcases hw with rfl | rfl | rfl | rfl | rfl <;> simp [runF,f_kind_of_word,cmp2,top,cmpOk,Fg.plain,dep,vw,keyOf,flat,idx2,glob1,e2,retx]
theorem b_two {w : Str} {cs : List D} (hk : 3 <= k) (hw : w ∈ wOp) (x : Kd h a) (hh : h <= 50) (ne : a ≠ kNum) : (callF prg k).call 7 [.str w,.lst (kNum :: a :: cs)] M = .exc 2 M := by
  obtain ⟨k,rfl⟩ : ∃ j,k = j + 2 := ⟨k - 2,by omega⟩
  have e1 := want_same (k := k + 1) (M := M) (by omega) (.num 0) (by omega)
  have e2 := want_ne (k := k + 1) (M := M) (by omega) x (.num 0) hh ne
  simp only [wOp,List.mem_cons,List.not_mem_nil,or_false] at hw
  rw [call_step fn7]
  rcases hw with rfl | rfl | rfl | rfl <;> simp [runF,f_kind_of_word,cmp2,top,cmpOk,Fg.plain,dep,vw,keyOf,flat,idx2,glob1,e1,e2,retx]
theorem b_if (hk : 3 <= k) (x : Kd h a) (y : Kd h' b) (hh : h' <= 50) (ne : b ≠ a) : (callF prg k).call 7 [.str (Str.ofString "if"), .lst [kNum, a, b]] M = .exc 2 M := by
  obtain ⟨k,rfl⟩ : ∃ j,k = j + 2 := ⟨k - 2,by omega⟩
  have e1 := want_same (k := k + 1) (M := M) (by omega) (.num 0) (by omega)
  have e2 := want_ne (k := k + 1) (M := M) (by omega) y x hh ne
  rw [call_step fn7]
  simp [runF,f_kind_of_word,cmp2,top,cmpOk,Fg.plain,dep,vw,keyOf,flat,idx2,glob1,e1,e2,retx]
theorem b_cons (hk : 3 <= k) (x : Kd h a) (y : Kd h' b) (hh : h' <= 50) (ne : b ≠ kList a) : (callF prg k).call 7 [.str (Str.ofString "cons"), .lst [a, b]] M = .exc 2 M := by
  obtain ⟨k,rfl⟩ : ∃ j,k = j + 2 := ⟨k - 2,by omega⟩
  rw [call_step fn7]
  have e5 : (callF prg (k + 1)).call 6 [.str (Str.ofString "cons"), .lst [a, b]] M = .exc 2 M := by
    rw [call_step fn6]
    simp [runF,f_kind_of_list_word,cmp2,top,cmpOk,Fg.plain,dep,idx2,vw,want_ne (k := k) (M := M) (by omega) y (.list x) hh ne,retx]
  simp [runF,f_kind_of_word,cmp2,vw,keyOf,flat,e5,retx]
theorem b_list {w u : Str} {xs : List D} (hk : 3 <= k) (hw : w ∈ [Str.ofString "head", Str.ofString "tail", Str.ofString "none"]) (hu : u ≠ sList) : (callF prg k).call 7 [.str w, .lst [.tup (.str u :: xs)]] M = .exc 2 M := by
  obtain ⟨k,rfl⟩ : ∃ j,k = j + 2 := ⟨k - 2,by omega⟩
  rw [call_step fn7]
  simp only [List.mem_cons,List.not_mem_nil,or_false] at hw
  have e5 : (callF prg (k + 1)).call 6 [.str w,.lst [.tup (.str u :: xs)]] M = .exc 2 M := by
    rw [call_step fn6]
    rcases hw with rfl | rfl | rfl <;> simp [runF,f_kind_of_list_word,cmp2,top,cmpOk,Fg.plain,dep,idx2,vw,made_nlist (show 1 <= k by omega) hu,retx]
  rcases hw with rfl | rfl | rfl <;> simp [runF,f_kind_of_word,cmp2,vw,keyOf,flat,e5,retx]
theorem b_pair {w u : Str} {xs : List D} (hk : 3 <= k) (hw : w ∈ [Str.ofString "first", Str.ofString "second"]) (hu : u ≠ sPair) : (callF prg k).call 7 [.str w, .lst [.tup (.str u :: xs)]] M = .exc 2 M := by
  obtain ⟨k,rfl⟩ : ∃ j,k = j + 2 := ⟨k - 2,by omega⟩
  rw [call_step fn7]
  simp only [List.mem_cons,List.not_mem_nil,or_false] at hw
  have e5 : (callF prg (k + 1)).call 5 [.str w,.lst [.tup (.str u :: xs)]] M = .exc 2 M := by
    rw [call_step fn5]
    rcases hw with rfl | rfl <;> simp [runF,f_kind_of_pair_word,cmp2,top,cmpOk,Fg.plain,dep,idx2,vw,made_npair (show 1 <= k by omega) hu,retx]
  rcases hw with rfl | rfl <;> simp [runF,f_kind_of_word,cmp2,vw,keyOf,flat,e5,retx]
end
end K03
end
section
set_option autoImplicit false
namespace K03
open Fg PySem
def wNode : List Str := [Str.ofString "plus", Str.ofString "minus", Str.ofString "times", Str.ofString "less", Str.ofString "pair", Str.ofString "first", Str.ofString "second", Str.ofString "cons", Str.ofString "head", Str.ofString "tail", Str.ofString "none", Str.ofString "if"]
def pb : List (Ky × D) := match (cst[0]? : Option D) with
  | some (.dct k d) => k.zip d
  | _ => []
theorem pb_node : ∀ w ∈ wNode,(look (pb) (.inr w)).isSome = true := by decide +kernel
theorem pb_call : (look (pb) (.inr (Str.ofString "call"))).isSome = false := by decide +kernel
theorem in_pb {Φ : Fns} {M : MH} {w : Str} (hg : Φ.glob = prg.glob) {U : Sg} {i : Nat} (hi : U[i]? = some (some (.str w))) : ev Φ (.cmp .isin (.v i) (.g 0)) U M = .ok (.bl (look (pb) (.inr w)).isSome) M := by
  simp [hi,hg,prg,cst,cmp2,vw,keyOf,pb]
theorem c_inner_node {k : Nat} {w : Str} {cs : List D} {M : MH} (hk : 1 <= k) (hw : w ∈ wNode) (hn : nrs M.length cs = true) : (callF prg k).call 0 [.tup (.str w :: cs)] M = .ok (.tup cs) M := by
  obtain ⟨k,rfl⟩ : ∃ j,k = j + 1 := ⟨k - 1,by omega⟩
  rw [call_step fn0]
  have h1 := in_pb (Φ := callF prg k) (M := M) (U := [some (.tup (.str w :: cs)),some (.str w)]) (i := 1) (w := w) (by simp) rfl
  rw [pb_node w hw] at h1
  simp only [runF,f_inner,exs_cons,ex_set,ex_ifs,ev_idx,ev_v,ev_k]
  simp [idx2,vw,h1,sl2,retn,nr,hn,-ev_cmp]
theorem c_inner_call {k : Nat} {x : Str} {cs : List D} {M : MH} (hk : 1 <= k) (hn : nrs M.length cs = true) : (callF prg k).call 0 [.tup (.str (Str.ofString "call") :: .str x :: cs)] M = .ok (.tup cs) M := by
  obtain ⟨k,rfl⟩ : ∃ j,k = j + 1 := ⟨k - 1,by omega⟩
  rw [call_step fn0]
  have h1 := in_pb (Φ := callF prg k) (M := M) (U := [some (.tup (.str (Str.ofString "call") :: .str x :: cs)), some (.str (Str.ofString "call"))]) (i := 1) (w := Str.ofString "call") (by simp) rfl
  rw [pb_call] at h1
  have h2 : ev (callF prg k) (.cmp .isin (.v 1) (E.tup (Es.cons (E.k (.str (Str.ofString "let"))) (Es.cons (E.k (.str (Str.ofString "call"))) Es.nil)))) [some (.tup (.str (Str.ofString "call") :: .str x :: cs)), some (.str (Str.ofString "call"))] M = .ok (.bl true) M := by
    simp [cmp2,vw,keyOf,flat]
  simp only [runF,f_inner,exs_cons,ex_set,ex_ifs,ev_idx,ev_v,ev_k]
  simp [idx2,vw,h1,h2,sl2,retn,nr,hn,-ev_cmp]
theorem loopC_exc {cond elt : Sg -> MH -> R D} {i c : Nat} {chk : MH -> Bool} {M : MH} {f : D -> D} (hc : chk M = true) : ∀ (pre : List D) (d : D) (post acc : List D) (U : Sg),(∀ U',cond U' M = .ok (.bl true) M) -> (∀ e ∈ pre,elt (U.set i (some e)) M = .ok (f e) M) -> elt (U.set i (some d)) M = .exc c M ->
    acc.length + pre.length <= line -> loopC cond elt [i] chk (pre ++ d :: post) U M acc = .exc c M
  | [],d,post,acc,U,h0,_,h2,_ => by
    rw [List.nil_append,loopC]
    simp only [sets,h0,R.bind_ok,h2,R.bind_exc]
  | e :: pre,d,post,acc,U,h0,h1,h2,hl => by
    simp only [List.length_cons] at hl
    have hlt : acc.length < line := by omega
    rw [List.cons_append,loopC]
    simp only [sets,h0,R.bind_ok,h1 e List.mem_cons_self,hc,if_true,hlt,decide_true]
    exact loopC_exc hc pre d post (acc ++ [f e]) (U.set i (some e)) h0 (fun e' he' => by rw [List.set_set]; exact h1 e' (List.mem_cons_of_mem _ he')) (by rw [List.set_set]; exact h2) (by simp; omega)
def ko (k : Nat) (fl : List D) (r : Nat) (M : MH) (d : D) : D := match (callF prg k).call 9 [.lst fl,.ref r,d] M with | .ok x _ => x | _ => .non
theorem ko_eq {k : Nat} {fl : List D} {r : Nat} {M : MH} {d x : D} (h : (callF prg k).call 9 [.lst fl,.ref r,d] M = .ok x M) : ko k fl r M d = x := by unfold ko; rw [h]
def elt9 : E := .call 9 (.cons (.v 0) (.cons (.v 1) (.cons (.v 2) .nil)))
theorem kinds_ok {k : Nat} {fl : List D} {r : Nat} {M : MH} {p : D} {cs ks : List D} {U : Sg} (s0 : U[0]? = some (some (.lst fl))) (s1 : U[1]? = some (some (.ref r))) (s2 : U[2]? = some (some p)) (hi : (callF prg k).call 0 [p] M = .ok (.tup cs) M)
    (h : ∀ d ∈ cs,(callF prg k).call 9 [.lst fl,.ref r,d] M = .ok (ko k fl r M d) M) (hks : cs.map (ko k fl r M) = ks) (hl : cs.length <= 10) :
    ev (callF prg k) (.comp true [0,1] [2] elt9 (.e (.call 0 (.cons (.v 2) .nil))) .none) U M = .ok (.lst ks) M := by
  have L := loopC_pure (cond := evc (callF prg k) O.none) (elt := ev (callF prg k) elt9) (i := 2) (chk := still M (.tup cs)) (M := M) (f := ko k fl r M) (p := fun _ => true) (by simp [still]) cs [] [some (.lst fl),some (.ref r),none]
    (fun d hd => by simp [elt9,h d hd]) (by simp [line]; omega)
  rw [show cs.filter (fun _ => true) = cs from List.filter_eq_self.mpr (by simp),hks,List.nil_append] at L
  rw [ev_comp,evi_e]
  simp [s0,s1,s2,hi,itemsOf,vw,capt,-evc_none,L,newl]
theorem kinds_exc {k : Nat} {fl : List D} {r : Nat} {M : MH} {p : D} {pre post : List D} {d : D} {U : Sg} (s0 : U[0]? = some (some (.lst fl))) (s1 : U[1]? = some (some (.ref r))) (s2 : U[2]? = some (some p)) (hi : (callF prg k).call 0 [p] M = .ok (.tup (pre ++ d :: post)) M)
    (h : ∀ e ∈ pre,(callF prg k).call 9 [.lst fl,.ref r,e] M = .ok (ko k fl r M e) M) (hd : (callF prg k).call 9 [.lst fl,.ref r,d] M = .exc 2 M) (hl : pre.length <= 10) :
    ev (callF prg k) (.comp true [0,1] [2] elt9 (.e (.call 0 (.cons (.v 2) .nil))) .none) U M = .exc 2 M := by
  have L := loopC_exc (cond := evc (callF prg k) O.none) (elt := ev (callF prg k) elt9) (i := 2) (c := 2) (chk := still M (.tup (pre ++ d :: post))) (M := M) (f := ko k fl r M) (by simp [still]) pre d post [] [some (.lst fl),some (.ref r),none] (fun _ => by simp) (fun e he => by simp [elt9,h e he]) (by simp [elt9,hd]) (by simp [line]; omega)
  rw [ev_comp,evi_e]
  simp [s0,s1,s2,hi,itemsOf,vw,capt,-evc_none,L]
def kT : Ss := .cons (.set 4 (.comp true [0, 1] [2] elt9 (.e (.call 0 (.cons (.v 2) .nil))) .none)) (.cons (.ifs (.cmp .eq (.v 3) (.k (.str (Str.ofString "call")))) (.cons (.ret (.call 4 (.cons (.v 0) (.cons (.idx (.v 2) (.k (.int 1))) (.cons (.v 4) .nil))))) .nil) .nil) (.cons (.ret (.call 7 (.cons (.v 3) (.cons (.v 4) .nil)))) .nil))
def kH : Ss -> Ss := fun t => .cons (.set 3 (.idx (.v 2) (.k (.int 0)))) (.cons (.ifs (.cmp .eq (.v 3) (.k (.str (Str.ofString "number")))) (.cons (.ret (.g 1)) .nil) .nil)
  (.cons (.ifs (.cmp .eq (.v 3) (.k (.str (Str.ofString "name")))) (.cons (.ret (.idx (.v 1) (.idx (.v 2) (.k (.int 1))))) .nil) .nil)
  (.cons (.ifs (.cmp .eq (.v 3) (.k (.str (Str.ofString "nil")))) (.cons (.ret (.tup (.cons (.k (.str (Str.ofString "list"))) (.cons (.idx (.v 2) (.k (.int 1))) .nil)))) .nil) .nil)
  (.cons (.ifs (.cmp .eq (.v 3) (.k (.str (Str.ofString "let")))) (.cons (.ret (.call 8 (.cons (.v 0) (.cons (.v 1) (.cons (.v 2) .nil))))) .nil) .nil) t))))
theorem body9 : f_kind_of.body = kH kT := rfl
def wOther : List Str := Str.ofString "call" :: wNode
theorem other_ne : ∀ w ∈ wOther, ¬ w = Str.ofString "number" /\ ¬ w = Str.ofString "name" /\ ¬ w = Str.ofString "nil" /\ ¬ w = Str.ofString "let" := by decide +kernel
theorem node_ne : ∀ w ∈ wNode, ¬ w = Str.ofString "call" := by decide +kernel
theorem cmp_str {M : MH} {a b : Str} : cmp2 .eq M (.str a) (.str b) = .ok (.bl (decide (a = b))) M := by simp [cmp2,cmpOk,top,Fg.plain,dep]
theorem head_other {k : Nat} {fl cs : List D} {r : Nat} {M : MH} {w : Str} {t : Ss} (hw : w ∈ wOther) : exs (callF prg k) (kH t) [some (.lst fl),some (.ref r),some (.tup (.str w :: cs)),none,none] M = exs (callF prg k) t [some (.lst fl),some (.ref r),some (.tup (.str w :: cs)),some (.str w),none] M := by
  obtain ⟨n1,n2,n3,n4⟩ := other_ne w hw
  unfold kH
  rw [s_set (x := .str w) (M1 := M) (by simp [idx2,vw])]
  simp only [List.set_cons_succ,List.set_cons_zero]
  rw [s_ifF (M1 := M) (by simp [cmp_str,n1]),s_ifF (M1 := M) (by simp [cmp_str,n2]),s_ifF (M1 := M) (by simp [cmp_str,n3]),s_ifF (M1 := M) (by simp [cmp_str,n4])]
theorem run_xc {Φ : Fns} {f : Fn} {ds : List D} {M M' : MH} {c : Nat} {U U' : Sg} (hn : ds.length = f.np) (hd : f.dfl = []) (hU : U = ds.map some ++ List.replicate (f.ns - f.np) none) (h : exs Φ f.body U M = .ok (.xc c U') M') : runF Φ f ds M = retx M c M' := by
  subst hU
  unfold runF
  rw [if_pos (by rw [hd,hn]; simp),hd]
  simp only [List.length_nil,List.drop_nil,List.append_nil,h]
theorem run_rt {Φ : Fns} {f : Fn} {ds : List D} {M M' : MH} {d : D} {U : Sg} (hn : ds.length = f.np) (hd : f.dfl = []) (hU : U = ds.map some ++ List.replicate (f.ns - f.np) none) (h : exs Φ f.body U M = .ok (.rt d) M') : runF Φ f ds M = retn f.keep M d M' := by
  subst hU
  unfold runF
  rw [if_pos (by rw [hd,hn]; simp),hd]
  simp only [List.length_nil,List.drop_nil,List.append_nil,h]
theorem retx_same {M : MH} {c : Nat} : retx M c M = .exc c M := by simp [retx]
section
variable {k : Nat} {fl : List D} {r : Nat} {M : MH} {w : Str} {cs ks : List D}
theorem node_ok {x : D} (hw : w ∈ wNode) (hn : nrs M.length cs = true) (hk : 1 <= k) (h : ∀ d ∈ cs,(callF prg k).call 9 [.lst fl,.ref r,d] M = .ok (ko k fl r M d) M) (hks : cs.map (ko k fl r M) = ks) (hl : cs.length <= 10) (e : (callF prg k).call 7 [.str w,.lst ks] M = .ok x M) (hx : nr M.length x = true) :
    (callF prg (k + 1)).call 9 [.lst fl,.ref r,.tup (.str w :: cs)] M = .ok x M := by
  rw [call_step fn9,run_rt (d := x) (M' := M) rfl rfl rfl,retn_same hx]
  rw [body9]
  show exs (callF prg k) _ [some (.lst fl),some (.ref r),some (.tup (.str w :: cs)),none,none] M = _
  rw [head_other (List.mem_cons_of_mem _ hw)]
  unfold kT
  rw [s_set (kinds_ok (cs := cs) rfl rfl rfl (c_inner_node hk hw hn) h hks hl)]
  simp only [List.set_cons_succ,List.set_cons_zero]
  rw [s_ifF (M1 := M) (by simp [cmp_str,node_ne w hw])]
  exact s_ret (by simp [e])
theorem node_bad (hw : w ∈ wNode) (hn : nrs M.length cs = true) (hk : 1 <= k) (h : ∀ d ∈ cs,(callF prg k).call 9 [.lst fl,.ref r,d] M = .ok (ko k fl r M d) M) (hks : cs.map (ko k fl r M) = ks) (hl : cs.length <= 10) (e : (callF prg k).call 7 [.str w,.lst ks] M = .exc 2 M) :
    (callF prg (k + 1)).call 9 [.lst fl,.ref r,.tup (.str w :: cs)] M = .exc 2 M := by
  rw [call_step fn9,run_xc (c := 2) (M' := M) (U' := [some (.lst fl),some (.ref r),some (.tup (.str w :: cs)),some (.str w),some (.lst ks)]) rfl rfl rfl,retx_same]
  rw [body9]
  show exs (callF prg k) _ [some (.lst fl),some (.ref r),some (.tup (.str w :: cs)),none,none] M = _
  rw [head_other (List.mem_cons_of_mem _ hw)]
  unfold kT
  rw [s_set (kinds_ok (cs := cs) rfl rfl rfl (c_inner_node hk hw hn) h hks hl)]
  simp only [List.set_cons_succ,List.set_cons_zero]
  rw [s_ifF (M1 := M) (by simp [cmp_str,node_ne w hw])]
  exact s_retx (by simp [e])
theorem node_in {pre post : List D} {d : D} (hw : w ∈ wNode) (hn : nrs M.length (pre ++ d :: post) = true) (hk : 1 <= k) (h : ∀ e ∈ pre,(callF prg k).call 9 [.lst fl,.ref r,e] M = .ok (ko k fl r M e) M) (hd : (callF prg k).call 9 [.lst fl,.ref r,d] M = .exc 2 M) (hl : pre.length <= 10) :
    (callF prg (k + 1)).call 9 [.lst fl,.ref r,.tup (.str w :: (pre ++ d :: post))] M = .exc 2 M := by
  rw [call_step fn9,run_xc (c := 2) (M' := M) (U' := [some (.lst fl),some (.ref r),some (.tup (.str w :: (pre ++ d :: post))),some (.str w),none]) rfl rfl rfl,retx_same]
  rw [body9]
  show exs (callF prg k) _ [some (.lst fl),some (.ref r),some (.tup (.str w :: (pre ++ d :: post))),none,none] M = _
  rw [head_other (List.mem_cons_of_mem _ hw)]
  unfold kT
  rw [exs_cons,ex_set,kinds_exc (pre := pre) (d := d) (post := post) rfl rfl rfl (c_inner_node hk hw hn) h hd hl]
  rfl
end
end K03
end
section
set_option autoImplicit false
namespace K03
open Fg PySem
section
variable {k : Nat} {fl : List D} {r : Nat} {M : MH}
theorem k_number {v : D} (hk : 1 <= k) : (callF prg k).call 9 [.lst fl, .ref r, .tup [.str (Str.ofString "number"), v]] M = .ok kNum M := by
  obtain ⟨k,rfl⟩ : ∃ j,k = j + 1 := ⟨k - 1,by omega⟩
  rw [call_step fn9,run_rt (d := kNum) (M' := M) rfl rfl rfl,retn_same (by simp [nr,nrs])]
  rw [body9]
  show exs (callF prg k) _ [some (.lst fl), some (.ref r), some (.tup [.str (Str.ofString "number"), v]), none, none] M = _
  unfold kH
  rw [s_set (x := .str (Str.ofString "number")) (M1 := M) (by simp [idx2, vw])]
  simp only [List.set_cons_succ,List.set_cons_zero]
  exact s_ifR (M1 := M) (by simp [cmp_str]) (s_ret (by simp [glob1]))
theorem k_name {kvs : List (Ky × D)} {x : Str} {d : D} (hk : 1 <= k) (hn : NmAt M r kvs) (hx : look kvs (.inr x) = some d) : (callF prg k).call 9 [.lst fl, .ref r, .tup [.str (Str.ofString "name"), .str x]] M = .ok d M := by
  obtain ⟨k,rfl⟩ : ∃ j,k = j + 1 := ⟨k - 1,by omega⟩
  rw [call_step fn9,run_rt (d := d) (M' := M) rfl rfl rfl,retn_same ((hn.ok _ (look_of hx)).2.plain.2.2 _)]
  rw [body9]
  show exs (callF prg k) _ [some (.lst fl), some (.ref r), some (.tup [.str (Str.ofString "name"), .str x]), none, none] M = _
  unfold kH
  rw [s_set (x := .str (Str.ofString "name")) (M1 := M) (by simp [idx2, vw])]
  simp only [List.set_cons_succ,List.set_cons_zero]
  rw [s_ifF (M1 := M) (by simp [cmp_str])]
  exact s_ifR (M1 := M) (by simp [cmp_str]) (s_ret (by simp [idx2,vw,hn.at_,keyOf,hx]))
theorem k_nil {d : D} (hk : 1 <= k) (hd : nr M.length d = true) : (callF prg k).call 9 [.lst fl, .ref r, .tup [.str (Str.ofString "nil"), d]] M = .ok (kList d) M := by
  obtain ⟨k,rfl⟩ : ∃ j,k = j + 1 := ⟨k - 1,by omega⟩
  rw [call_step fn9,run_rt (d := kList d) (M' := M) rfl rfl rfl,retn_same (by simp [nr,nrs,hd])]
  rw [body9]
  show exs (callF prg k) _ [some (.lst fl), some (.ref r), some (.tup [.str (Str.ofString "nil"), d]), none, none] M = _
  unfold kH
  rw [s_set (x := .str (Str.ofString "nil")) (M1 := M) (by simp [idx2, vw])]
  simp only [List.set_cons_succ,List.set_cons_zero]
  rw [s_ifF (M1 := M) (by simp [cmp_str]),s_ifF (M1 := M) (by simp [cmp_str])]
  exact s_ifR (M1 := M) (by simp [cmp_str]) (s_ret (by simp [idx2,vw]))
def fB : Ss := .cons (.ifs (.cmp .eq (.idx (.v 2) (.k (.int 0))) (.v 1)) (.cons (.ret (.v 2)) .nil) .nil) .nil
theorem f_loop {Φ : Fns} {x : Str} {ts : List D} {kd bd d0 : D} : ∀ (ds : List D) (s2 : Option D),(∀ g ∈ ds,∃ y t2 k2 b2,g = .tup [.str y,.lst t2,k2,b2] /\ (y = x -> g = .tup [.str x,.lst ts,kd,bd])) -> D.tup [.str x,.lst ts,kd,bd] ∈ ds ->
    loopF (exs Φ fB) [2] (fun _ => true) ds [some d0,some (.str x),s2] M = .ok (.rt (.tup [.str x,.lst ts,kd,bd])) M
  | [],s2,_,h => by simp at h
  | g :: ds,s2,hs,h => by
    obtain ⟨y,t2,k2,b2,rfl,hy⟩ := hs g List.mem_cons_self
    rw [loopF]
    simp only [sets,List.set_cons_succ,List.set_cons_zero]
    by_cases e : y = x
    . have e2 := hy e
      have hb : exs Φ fB [some d0,some (.str x),some (.tup [.str y,.lst t2,k2,b2])] M = .ok (.rt (.tup [.str x,.lst ts,kd,bd])) M := by
        unfold fB
        exact s_ifR (M1 := M) (by simp [idx2,vw,cmp_str,e]) (s_ret (by rw [<- e2]; simp))
      rw [hb]
      rfl
    . have hb : exs Φ fB [some d0,some (.str x),some (.tup [.str y,.lst t2,k2,b2])] M = .ok (.nx [some d0,some (.str x),some (.tup [.str y,.lst t2,k2,b2])]) M := by
        unfold fB
        rw [s_ifF (M1 := M) (by simp [idx2,vw,cmp_str,e])]
        simp
      rw [hb]
      simp only [R.bind_ok,if_true]
      refine f_loop ds _ (fun g hg => hs g (List.mem_cons_of_mem _ hg)) ?_
      rcases List.mem_cons.mp h with z | z
      . cases z; exact absurd rfl e
      . exact z
structure FlNd (fl : List D) : Prop extends FlOk fl where
  one : ∀ x ts kd bd ts' kd' bd',D.tup [.str x,.lst ts,kd,bd] ∈ fl -> D.tup [.str x,.lst ts',kd',bd'] ∈ fl -> ts = ts' /\ kd = kd' /\ bd = bd'
  nr : ∀ m,nrs m fl = true
theorem nrs_mem {m : Nat} : ∀ {ds : List D} {d : D},nrs m ds = true -> d ∈ ds -> nr m d = true
  | [],d,h,hd => by simp at hd
  | x :: ds,d,h,hd => by
    simp only [nrs,Bool.and_eq_true] at h
    rcases List.mem_cons.mp hd with rfl | hd
    . exact h.1
    . exact nrs_mem h.2 hd
theorem c_called {x : Str} {ts : List D} {kd bd : D} (hk : 1 <= k) (fk : FlNd fl) (hm : D.tup [.str x,.lst ts,kd,bd] ∈ fl) : (callF prg k).call 1 [.lst fl,.str x] M = .ok (.tup [.str x,.lst ts,kd,bd]) M := by
  obtain ⟨k,rfl⟩ : ∃ j,k = j + 1 := ⟨k - 1,by omega⟩
  rw [call_step fn1,run_rt (d := .tup [.str x,.lst ts,kd,bd]) (M' := M) rfl rfl rfl,retn_same (nrs_mem (fk.nr _) hm)]
  show exs (callF prg k) (.cons (.for [2] (.e (.v 0)) fB) _) [some (.lst fl),some (.str x),none] M = _
  refine s_forR (M1 := M) (d := .lst fl) (ds := fl) (by simp [itemsOf,vw]) ?_
  refine f_loop fl none (fun g hg => ?_) hm
  obtain ⟨y,t2,k2,b2,e,_⟩ := fk.ex g hg
  refine ⟨y,t2,k2,b2,e,fun ey => ?_⟩
  subst ey e
  obtain ⟨e1,e2,e3⟩ := fk.one _ _ _ _ _ _ _ hg hm
  rw [e1,e2,e3]
def tkind : D -> D
  | .tup [_,k] => k
  | _ => .non
theorem c_callk {x : Str} {ts ks : List D} {kd bd : D} (hk : 2 <= k) (fk : FlNd fl) (hm : D.tup [.str x,.lst ts,kd,bd] ∈ fl) (hc : cmpOk (.lst ks) (.lst (ts.map tkind)) = true) :
    (callF prg k).call 4 [.lst fl,.str x,.lst ks] M = if eqD (.lst ks) (.lst (ts.map tkind)) then .ok kd M else .exc 2 M := by
  obtain ⟨k,rfl⟩ : ∃ j,k = j + 1 := ⟨k - 1,by omega⟩
  obtain ⟨y,t2,k2,b2,e,hkd,hts,ht⟩ := fk.ex _ hm
  cases e
  have L := loopC_pure (cond := evc (callF prg k) O.none) (elt := ev (callF prg k) (E.idx (E.v 0) (E.k (.int 1)))) (i := 0) (chk := still M (.lst ts)) (M := M) (f := tkind) (p := fun _ => true) (by simp [still]) ts [] [none]
    (fun d hd => by
      obtain ⟨y,ky,rfl,_⟩ := ht d hd
      simp [idx2,vw,tkind]) (by simp [line]; omega)
  rw [show ts.filter (fun _ => true) = ts from List.filter_eq_self.mpr (by simp),List.nil_append] at L
  have hcomp : ev (callF prg k) (E.comp true [] [0] (E.idx (E.v 0) (E.k (.int 1))) (Src.e (E.idx (E.v 3) (E.k (.int 1)))) O.none) [some (.lst fl),some (.str x),some (.lst ks),some (.tup [.str x,.lst ts,kd,bd])] M = .ok (.lst (ts.map tkind)) M := by
    have hix : ev (callF prg k) (E.idx (E.v 3) (E.k (.int 1))) [some (.lst fl),some (.str x),some (.lst ks),some (.tup [.str x,.lst ts,kd,bd])] M = .ok (.lst ts) M := by simp [idx2,vw]
    rw [ev_comp,evi_e,hix]
    simp [vw,itemsOf,capt,-evc_none,-ev_idx,L,newl]
  have ew := c_want (k := k) (a := .lst ks) (b := .lst (ts.map tkind)) (M := M) (by omega) hc rfl rfl (.inr ⟨_,rfl⟩)
  have ef := c_called (k := k) (M := M) (by omega) fk hm
  by_cases q : eqD (.lst ks) (.lst (ts.map tkind)) = true
  . rw [if_pos q] at ew ⊢
    rw [call_step fn4,run_rt (d := kd) (M' := M) rfl rfl rfl,retn_same (hkd.plain.2.2 _)]
    unfold f_kind_of_call
    show exs (callF prg k) _ [some (.lst fl),some (.str x),some (.lst ks),none] M = _
    rw [s_set (x := .tup [.str x,.lst ts,kd,bd]) (M1 := M) (by simp [ef])]
    simp only [List.set_cons_succ,List.set_cons_zero]
    rw [s_ex (x := .non) (M1 := M) (by simp [hcomp,ew,-ev_comp])]
    exact s_ret (by simp [idx2,vw])
  . rw [if_neg q] at ew ⊢
    rw [call_step fn4,run_xc (c := 2) (M' := M) (U' := [some (.lst fl),some (.str x),some (.lst ks),some (.tup [.str x,.lst ts,kd,bd])]) rfl rfl rfl,retx_same]
    unfold f_kind_of_call
    show exs (callF prg k) _ [some (.lst fl),some (.str x),some (.lst ks),none] M = _
    rw [s_set (x := .tup [.str x,.lst ts,kd,bd]) (M1 := M) (by simp [ef])]
    simp only [List.set_cons_succ,List.set_cons_zero]
    rw [exs_cons,ex_ex]
    simp [hcomp,ew,-ev_comp]
theorem call_eq {x : Str} {cs ks : List D} {d : D} (hn : nrs M.length cs = true) (hk : 1 <= k) (h : ∀ d ∈ cs,(callF prg k).call 9 [.lst fl,.ref r,d] M = .ok (ko k fl r M d) M) (hks : cs.map (ko k fl r M) = ks) (hl : cs.length <= 10) (e : (callF prg k).call 4 [.lst fl,.str x,.lst ks] M = .ok d M) (hd : nr M.length d = true) :
    (callF prg (k + 1)).call 9 [.lst fl, .ref r, .tup (.str (Str.ofString "call") :: .str x :: cs)] M = .ok d M := by
  rw [call_step fn9,run_rt (d := d) (M' := M) rfl rfl rfl,retn_same hd]
  rw [body9]
  show exs (callF prg k) _ [some (.lst fl), some (.ref r), some (.tup (.str (Str.ofString "call") :: .str x :: cs)), none, none] M = _
  rw [head_other List.mem_cons_self]
  unfold kT
  rw [s_set (kinds_ok (cs := cs) rfl rfl rfl (c_inner_call hk hn) h hks hl)]
  simp only [List.set_cons_succ,List.set_cons_zero]
  exact s_ifR (M1 := M) (by simp [cmp_str]) (s_ret (by simp [idx2,vw,e]))
theorem call_bad {x : Str} {cs ks : List D} (hn : nrs M.length cs = true) (hk : 1 <= k) (h : ∀ d ∈ cs,(callF prg k).call 9 [.lst fl,.ref r,d] M = .ok (ko k fl r M d) M) (hks : cs.map (ko k fl r M) = ks) (hl : cs.length <= 10) (e : (callF prg k).call 4 [.lst fl,.str x,.lst ks] M = .exc 2 M) :
    (callF prg (k + 1)).call 9 [.lst fl, .ref r, .tup (.str (Str.ofString "call") :: .str x :: cs)] M = .exc 2 M := by
  rw [call_step fn9, run_xc (c := 2) (M' := M) (U' := [some (.lst fl), some (.ref r), some (.tup (.str (Str.ofString "call") :: .str x :: cs)), some (.str (Str.ofString "call")), some (.lst ks)]) rfl rfl rfl, retx_same]
  rw [body9]
  show exs (callF prg k) _ [some (.lst fl), some (.ref r), some (.tup (.str (Str.ofString "call") :: .str x :: cs)), none, none] M = _
  rw [head_other List.mem_cons_self]
  unfold kT
  rw [s_set (kinds_ok (cs := cs) rfl rfl rfl (c_inner_call hk hn) h hks hl)]
  simp only [List.set_cons_succ,List.set_cons_zero]
  rw [exs_cons,ex_ifs]
  simp [cmp_str,idx2,vw,e]
end
theorem kds_cmp {n : Nat} : ∀ {ks : List D},(∀ d ∈ ks,∃ m,m <= n /\ Kd m d) -> plains ks = true /\ deps ks <= n + 1
  | [],_ => by simp [plains,deps]
  | d :: ks,h => by
    obtain ⟨m,hm,q⟩ := h d List.mem_cons_self
    obtain ⟨h1,h2⟩ := kds_cmp fun d hd => h d (List.mem_cons_of_mem _ hd)
    simp only [plains,deps,q.plain.1,h1,Bool.and_self,true_and]
    have := q.plain.2.1
    omega
theorem lst_cmp {n : Nat} {ks ts : List D} (h1 : ∀ d ∈ ks,∃ m,m <= n /\ Kd m d) (h2 : ∀ d ∈ ts,∃ m,m <= n /\ Kd m d) (hn : n <= 50) : cmpOk (.lst ks) (.lst ts) = true := by
  obtain ⟨a1,a2⟩ := kds_cmp h1
  obtain ⟨b1,b2⟩ := kds_cmp h2
  have : dep (.lst ks) <= 100 := by simp only [dep]; omega
  simp [cmpOk,Fg.plain,a1,b1,this]
theorem tk_kd {ts : List D} (ht : ∀ t ∈ ts,∃ y ky,t = .tup [.str y,ky] /\ Kd 3 ky) : ∀ d ∈ ts.map tkind,∃ m,m <= 40 /\ Kd m d := fun d hd => by
  obtain ⟨t,h1,rfl⟩ := List.mem_map.mp hd
  obtain ⟨y,ky,rfl,q⟩ := ht t h1
  exact ⟨3,by omega,q⟩
section
variable {kvs : List (Ky × D)} {fl : List D} {r : Nat}
mutual
theorem Ty.run (fk : FlNd fl) : ∀ {h : Nat} {d p : D},Ty kvs fl h d p -> ∀ (k : Nat) (M : MH),NmAt M r kvs -> h + 4 <= k -> h <= 20 -> (callF prg k).call 9 [.lst fl,.ref r,p] M = .ok d M
  | _,_,_,.number,k,M,hn,hk,hh => k_number (by omega)
  | _,_,_,.name a,k,M,hn,hk,hh => k_name (by omega) hn a
  | _,_,_,.nil a,k,M,hn,hk,hh => k_nil (by omega) (a.plain.2.2 _)
  | h + 1,_,_,.pair a b,k,M,hn,hk,hh => by
    obtain ⟨k,rfl⟩ : ∃ j,k = j + 1 := ⟨k - 1,by omega⟩
    have e1 := a.run fk k M hn (by omega) (by omega)
    have e2 := b.run fk k M hn (by omega) (by omega)
    have ka := a.kd hn.ok fk.toFlOk
    have kb := b.kd hn.ok fk.toFlOk
    exact node_ok (by simp [wNode]) (by simp [nrs,a.nr,b.nr]) (by omega) (by simp [ko_eq e1,ko_eq e2,e1,e2]) (by simp [ko_eq e1,ko_eq e2]) (by simp) (w_pair (by omega) ka kb) (by simp [nr,nrs,ka.plain.2.2,kb.plain.2.2])
  | h + 1,_,_,.first a,k,M,hn,hk,hh => by
    obtain ⟨k,rfl⟩ : ∃ j,k = j + 1 := ⟨k - 1,by omega⟩
    have e1 := a.run fk k M hn (by omega) (by omega)
    obtain ⟨m,_,ka,kb⟩ := kd_pair (a.kd hn.ok fk.toFlOk)
    exact node_ok (by simp [wNode]) (by simp [nrs,a.nr]) (by omega) (by simp [ko_eq e1,e1]) (by simp [ko_eq e1]) (by simp) (w_first (by omega) ka kb) (ka.plain.2.2 _)
  | h + 1,_,_,.second a,k,M,hn,hk,hh => by
    obtain ⟨k,rfl⟩ : ∃ j,k = j + 1 := ⟨k - 1,by omega⟩
    have e1 := a.run fk k M hn (by omega) (by omega)
    obtain ⟨m,_,ka,kb⟩ := kd_pair (a.kd hn.ok fk.toFlOk)
    exact node_ok (by simp [wNode]) (by simp [nrs,a.nr]) (by omega) (by simp [ko_eq e1,e1]) (by simp [ko_eq e1]) (by simp) (w_second (by omega) ka kb) (kb.plain.2.2 _)
  | h + 1,_,_,.cons a b,k,M,hn,hk,hh => by
    obtain ⟨k,rfl⟩ : ∃ j,k = j + 1 := ⟨k - 1,by omega⟩
    have e1 := a.run fk k M hn (by omega) (by omega)
    have e2 := b.run fk k M hn (by omega) (by omega)
    have ka := a.kd hn.ok fk.toFlOk
    exact node_ok (by simp [wNode]) (by simp [nrs,a.nr,b.nr]) (by omega) (by simp [ko_eq e1,ko_eq e2,e1,e2]) (by simp [ko_eq e1,ko_eq e2]) (by simp) (w_cons (by omega) ka (by omega)) (by simp [nr,nrs,ka.plain.2.2])
  | h + 1,_,_,.head a,k,M,hn,hk,hh => by
    obtain ⟨k,rfl⟩ : ∃ j,k = j + 1 := ⟨k - 1,by omega⟩
    have e1 := a.run fk k M hn (by omega) (by omega)
    obtain ⟨m,_,ka⟩ := kd_list (a.kd hn.ok fk.toFlOk)
    exact node_ok (by simp [wNode]) (by simp [nrs,a.nr]) (by omega) (by simp [ko_eq e1,e1]) (by simp [ko_eq e1]) (by simp) (w_head (by omega) ka) (ka.plain.2.2 _)
  | h + 1,_,_,.tail a,k,M,hn,hk,hh => by
    obtain ⟨k,rfl⟩ : ∃ j,k = j + 1 := ⟨k - 1,by omega⟩
    have e1 := a.run fk k M hn (by omega) (by omega)
    obtain ⟨m,_,ka⟩ := kd_list (a.kd hn.ok fk.toFlOk)
    exact node_ok (by simp [wNode]) (by simp [nrs,a.nr]) (by omega) (by simp [ko_eq e1,e1]) (by simp [ko_eq e1]) (by simp) (w_tail (by omega) ka) (by simp [nr,nrs,ka.plain.2.2])
  | h + 1,_,_,.none a,k,M,hn,hk,hh => by
    obtain ⟨k,rfl⟩ : ∃ j,k = j + 1 := ⟨k - 1,by omega⟩
    have e1 := a.run fk k M hn (by omega) (by omega)
    exact node_ok (by simp [wNode]) (by simp [nrs,a.nr]) (by omega) (by simp [ko_eq e1,e1]) (by simp [ko_eq e1]; rfl) (by simp) (w_none (by omega)) (by simp [nr,nrs])
  | h + 1,_,_,.op w a b,k,M,hn,hk,hh => by
    obtain ⟨k,rfl⟩ : ∃ j,k = j + 1 := ⟨k - 1,by omega⟩
    have e1 := a.run fk k M hn (by omega) (by omega)
    have e2 := b.run fk k M hn (by omega) (by omega)
    have hw : ∀ x ∈ wOp,x ∈ wNode := by decide +kernel
    exact node_ok (hw _ w) (by simp [nrs,a.nr,b.nr]) (by omega) (by simp [ko_eq e1,ko_eq e2,e1,e2]) (by simp [ko_eq e1,ko_eq e2]) (by simp) (w_op (by omega) w) (by simp [nr,nrs])
  | h + 1,_,_,.ifs a b c,k,M,hn,hk,hh => by
    obtain ⟨k,rfl⟩ : ∃ j,k = j + 1 := ⟨k - 1,by omega⟩
    have e1 := a.run fk k M hn (by omega) (by omega)
    have e2 := b.run fk k M hn (by omega) (by omega)
    have e3 := c.run fk k M hn (by omega) (by omega)
    have kb := b.kd hn.ok fk.toFlOk
    exact node_ok (by simp [wNode]) (by simp [nrs,a.nr,b.nr,c.nr]) (by omega) (by simp [ko_eq e1,ko_eq e2,ko_eq e3,e1,e2,e3]) (by simp [ko_eq e1,ko_eq e2,ko_eq e3]) (by simp) (w_if (by omega) kb (by omega)) (kb.plain.2.2 _)
  | h + 1,_,_,.call m a,k,M,hn,hk,hh => by
    obtain ⟨k,rfl⟩ : ∃ j,k = j + 1 := ⟨k - 1,by omega⟩
    obtain ⟨q1,q2⟩ := a.run fk k M hn (by omega) (by omega)
    obtain ⟨y,t2,k2,b2,e,hkd,hts,ht⟩ := fk.ex _ m
    cases e
    have hc := lst_cmp (tk_kd ht) (tk_kd ht) (by omega)
    refine call_eq (a.nr _) (by omega) q1 q2 (by rw [a.len]; omega) ?_ (hkd.plain.2.2 _)
    rw [c_callk (by omega) fk m hc,if_pos (eqD_refl (by simp only [Fg.plain]; exact (kds_cmp (tk_kd ht)).1))]
theorem Tys.run (fk : FlNd fl) : ∀ {h : Nat} {ts cs : List D},Tys kvs fl h ts cs -> ∀ (k : Nat) (M : MH),NmAt M r kvs -> h + 4 <= k -> h <= 20 -> (∀ d ∈ cs,(callF prg k).call 9 [.lst fl,.ref r,d] M = .ok (ko k fl r M d) M) /\ cs.map (ko k fl r M) = ts.map tkind
  | _,_,_,.nil,k,M,hn,hk,hh => by simp
  | _,_,_,.cons a b,k,M,hn,hk,hh => by
    have e := a.run fk k M hn hk hh
    obtain ⟨q1,q2⟩ := b.run fk k M hn hk hh
    refine ⟨fun d hd => ?_,by simp [ko_eq e,q2,tkind]⟩
    rcases List.mem_cons.mp hd with rfl | hd
    . rw [ko_eq e]; exact e
    . exact q1 d hd
end
end
end K03
end
section
set_option autoImplicit false
namespace K03
open Fg PySem
def Sub (kvs kvs' : List (Ky × D)) : Prop := ∀ x d,look kvs (.inr x) = some d -> look kvs' (.inr x) = some d
section
variable {kvs kvs' : List (Ky × D)} {fl : List D}
mutual
theorem Ty.weak (s : Sub kvs kvs') : ∀ {h : Nat} {k p : D},Ty kvs fl h k p -> Ty kvs' fl h k p
  | _,_,_,.number => .number
  | _,_,_,.name a => .name (s _ _ a)
  | _,_,_,.nil a => .nil a
  | _,_,_,.pair a b => .pair (a.weak s) (b.weak s)
  | _,_,_,.first a => .first (a.weak s)
  | _,_,_,.second a => .second (a.weak s)
  | _,_,_,.cons a b => .cons (a.weak s) (b.weak s)
  | _,_,_,.head a => .head (a.weak s)
  | _,_,_,.tail a => .tail (a.weak s)
  | _,_,_,.none a => .none (a.weak s)
  | _,_,_,.op w a b => .op w (a.weak s) (b.weak s)
  | _,_,_,.ifs a b c => .ifs (a.weak s) (b.weak s) (c.weak s)
  | _,_,_,.call m a => .call m (a.weak s)
theorem Tys.weak (s : Sub kvs kvs') : ∀ {h : Nat} {ts cs : List D},Tys kvs fl h ts cs -> Tys kvs' fl h ts cs
  | _,_,_,.nil => .nil
  | _,_,_,.cons a b => .cons (a.weak s) (b.weak s)
end
structure Bad (f n : Nat) (kvs : List (Ky × D)) (fl : List D) (p : D) : Prop where
  nr : ∀ m,Fg.nr m p = true
  run : ∀ (kvs' : List (Ky × D)) (r k : Nat) (M : MH),Sub kvs kvs' -> NmAt M r kvs' -> kvs'.length <= n -> f <= k -> (callF prg k).call 9 [.lst fl,.ref r,p] M = .exc 2 M
theorem Bad.le {f f' n n' : Nat} {p : D} (b : Bad f n kvs fl p) (h : f <= f') (hn : n' <= n) : Bad f' n' kvs fl p := ⟨b.nr,fun kvs' r k M s nm hl hk => b.run kvs' r k M s nm (by omega) (by omega)⟩
abbrev tk (ks : List D) : List D := ks.map fun k => D.tup [.str sNum,k]
theorem tk_kind (ks : List D) : (tk ks).map tkind = ks := by
  induction ks with
  | nil => rfl
  | cons k ks ih => simp only [tk,List.map_cons,tkind] at ih ⊢; rw [ih]
theorem bad_node {h n : Nat} {w : Str} {cs ks : List D} (fk : FlNd fl) (hw : w ∈ wNode) (t : Tys kvs fl h (tk ks) cs) (hh : h <= 14) (hl : cs.length <= 10) (e : ∀ (k : Nat) (M : MH),3 <= k -> (callF prg k).call 7 [.str w,.lst ks] M = .exc 2 M) : Bad 19 n kvs fl (.tup (.str w :: cs)) := by
  refine ⟨fun m => by simp [Fg.nr,nrs,t.nr],fun kvs' r k M s nm _ hk => ?_⟩
  obtain ⟨k,rfl⟩ : ∃ j,k = j + 1 := ⟨k - 1,by omega⟩
  obtain ⟨q1,q2⟩ := (t.weak s).run fk k M nm (by omega) (by omega)
  rw [tk_kind] at q2
  exact node_bad hw (t.nr _) (by omega) q1 q2 hl (e k M (by omega))
theorem bad_in {f n h : Nat} {w : Str} {pre post ks : List D} {d : D} (fk : FlNd fl) (hw : w ∈ wNode) (t : Tys kvs fl h (tk ks) pre) (hh : h <= 14) (b : Bad f n kvs fl d) (hp : ∀ m,nrs m post = true) (hl : pre.length <= 10) (hf : 18 <= f) : Bad (f + 1) n kvs fl (.tup (.str w :: (pre ++ d :: post))) := by
  have hnr : ∀ m,nrs m (pre ++ d :: post) = true := fun m => by
    have a := t.nr m
    have b' := b.nr m
    have c := hp m
    clear t
    induction pre with
    | nil => simp [nrs,b',c]
    | cons x pre ih =>
      simp only [nrs,Bool.and_eq_true] at a
      simp only [List.cons_append,nrs,Bool.and_eq_true]
      exact ⟨a.1,ih (by simp at hl; omega) a.2⟩
  refine ⟨fun m => by simp [Fg.nr,nrs,hnr],fun kvs' r k M s nm hn hk => ?_⟩
  obtain ⟨k,rfl⟩ : ∃ j,k = j + 1 := ⟨k - 1,by omega⟩
  obtain ⟨q1,q2⟩ := (t.weak s).run fk k M nm (by omega) (by omega)
  exact node_in hw (hnr _) (by omega) q1 (b.run kvs' r k M s nm hn (by omega)) hl
theorem let_eq {k r : Nat} {M : MH} {x : Str} {a b : D} {R0 : R D} (e : (callF prg k).call 8 [.lst fl, .ref r, .tup [.str (Str.ofString "let"), .str x, a, b]] M = .exc 2 M) :
    (callF prg (k + 1)).call 9 [.lst fl, .ref r, .tup [.str (Str.ofString "let"), .str x, a, b]] M = .exc 2 M := by
  rw [call_step fn9, run_xc (c := 2) (M' := M) (U' := [some (.lst fl), some (.ref r), some (.tup [.str (Str.ofString "let"), .str x, a, b]), some (.str (Str.ofString "let")), none]) rfl rfl rfl, retx_same]
  rw [body9]
  show exs (callF prg k) _ [some (.lst fl), some (.ref r), some (.tup [.str (Str.ofString "let"), .str x, a, b]), none, none] M = _
  unfold kH
  rw [s_set (x := .str (Str.ofString "let")) (M1 := M) (by simp [idx2, vw])]
  simp only [List.set_cons_succ,List.set_cons_zero]
  rw [s_ifF (M1 := M) (by simp [cmp_str]),s_ifF (M1 := M) (by simp [cmp_str]),s_ifF (M1 := M) (by simp [cmp_str]),exs_cons,ex_ifs]
  simp [cmp_str,e]
theorem retx_app {M N : MH} {c : Nat} : retx M c (M ++ N) = .exc c M := by simp [retx]
theorem bad_let1 {f n : Nat} {x : Str} {a b : D} (ba : Bad f n kvs fl a) (hb : ∀ m, Fg.nr m b = true) : Bad (f + 2) n kvs fl (.tup [.str (Str.ofString "let"), .str x, a, b]) := by
  refine ⟨fun m => by simp [Fg.nr,nrs,ba.nr,hb],fun kvs' r k M s nm hn hk => ?_⟩
  obtain ⟨k,rfl⟩ : ∃ j,k = j + 2 := ⟨k - 2,by omega⟩
  refine let_eq (R0 := .bad) ?_
  have nm1 : NmAt (M ++ [.dct kvs']) r kvs' := nm.app
  have ea := ba.run kvs' r k _ s nm1 hn (by omega)
  rw [call_step fn8, run_xc (c := 2) (M' := M ++ [.dct kvs']) (U' := [some (.lst fl), some (.ref r), some (.tup [.str (Str.ofString "let"), .str x, a, b]), some (.ref M.length)]) rfl rfl rfl, retx_app]
  unfold f_kind_of_let
  show exs (callF prg k) _ [some (.lst fl), some (.ref r), some (.tup [.str (Str.ofString "let"), .str x, a, b]), none] M = _
  rw [s_set (x := .ref M.length) (M1 := M ++ [.dct kvs']) (by simp [blt1,vw,nm.at_])]
  simp only [List.set_cons_succ,List.set_cons_zero]
  rw [exs_cons,ex_seti]
  simp [idx2,vw,ea]
theorem look_map {x y : Str} {v : D} (h : y ≠ x) : ∀ (kvs : List (Ky × D)),look (kvs.map fun kv => if kv.1 = Sum.inr x then (kv.1,v) else kv) (.inr y) = look kvs (.inr y)
  | [] => rfl
  | (pk,pd) :: r => by
    have ih := look_map (v := v) h r
    unfold look at ih ⊢
    rw [List.map_cons,List.find?_cons,List.find?_cons]
    by_cases e : pk = Sum.inr y
    . subst e
      have ne : ¬ ((Sum.inr y : Ky) = Sum.inr x) := fun z => h (by cases z; rfl)
      simp [ne,h]
    . have e1 : decide (pk = Sum.inr y) = false := decide_eq_false e
      have e2 : decide ((if pk = Sum.inr x then (pk,v) else (pk,pd)).1 = Sum.inr y) = false := by split <;> exact e1
      rw [e1,e2]
      exact ih
theorem look_put {kvs : List (Ky × D)} {x y : Str} {v : D} (h : y ≠ x) : look (put kvs (.inr x) v) (.inr y) = look kvs (.inr y) := by
  unfold put
  split
  . exact look_map h kvs
  . unfold look
    rw [List.find?_append]
    cases kvs.find? (fun kv => decide (kv.1 = Sum.inr y)) with
    | some p => rfl
    | none =>
      have hxy : decide (x = y) = false := decide_eq_false (Ne.symm h)
      simp [List.find?_cons,hxy]
theorem put_ok {kvs : List (Ky × D)} {x : Str} {v : D} (h : NvOk kvs) (hv : Kd 3 v) : NvOk (put kvs (.inr x) v) /\ (put kvs (.inr x) v).length <= kvs.length + 1 := by
  unfold put
  split
  . refine ⟨fun kv hkv => ?_,by simp⟩
    obtain ⟨p,hp,rfl⟩ := List.mem_map.mp hkv
    split
    . exact ⟨(h p hp).1,hv⟩
    . exact h p hp
  . refine ⟨fun kv hkv => ?_,by simp⟩
    rcases List.mem_append.mp hkv with q | q
    . exact h kv q
    . rw [List.mem_singleton.mp q]; exact ⟨⟨x,rfl⟩,hv⟩
theorem bad_let2 {f n h : Nat} {x : Str} {a b d : D} (fk : FlNd fl) (ta : Ty kvs fl h d a) (hd : Kd 3 d) (hh : h <= 14) (bb : Bad f (n + 1) kvs fl b) (hx : look kvs (.inr x) = none) (hf : 18 <= f) (hn9 : n <= 9) : Bad (f + 2) n kvs fl (.tup [.str (Str.ofString "let"), .str x, a, b]) := by
  refine ⟨fun m => by simp [Fg.nr,nrs,ta.nr,bb.nr],fun kvs' r k M s nm hn hk => ?_⟩
  obtain ⟨k,rfl⟩ : ∃ j,k = j + 2 := ⟨k - 2,by omega⟩
  refine let_eq (R0 := .bad) ?_
  have nm1 : NmAt (M ++ [.dct kvs']) r kvs' := nm.app
  have ea := (ta.weak s).run fk k _ nm1 (by omega) (by omega)
  obtain ⟨p1,p2⟩ := put_ok (x := x) nm.ok hd
  have nm2 : NmAt (M ++ [.dct (put kvs' (.inr x) d)]) M.length (put kvs' (.inr x) d) := ⟨by simp,p1,by omega⟩
  have s2 : Sub kvs (put kvs' (.inr x) d) := fun y e hy => by
    have ne : y ≠ x := by rintro rfl; rw [hx] at hy; cases hy
    rw [look_put ne]; exact s y e hy
  have eb := bb.run _ M.length k _ s2 nm2 (by omega) (by omega)
  rw [call_step fn8, run_xc (c := 2) (M' := M ++ [.dct (put kvs' (.inr x) d)]) (U' := [some (.lst fl), some (.ref r), some (.tup [.str (Str.ofString "let"), .str x, a, b]), some (.ref M.length)]) rfl rfl rfl, retx_app]
  unfold f_kind_of_let
  show exs (callF prg k) _ [some (.lst fl), some (.ref r), some (.tup [.str (Str.ofString "let"), .str x, a, b]), none] M = _
  rw [s_set (x := .ref M.length) (M1 := M ++ [.dct kvs']) (by simp [blt1,vw,nm.at_])]
  simp only [List.set_cons_succ,List.set_cons_zero]
  have hlen : kvs'.length < line := by unfold line; omega
  rw [exs_cons,ex_seti]
  simp [idx2,vw,ea,setI,keyOf,hlen,eb]
end
end K03
end
section
set_option autoImplicit false
namespace K03
open Fg PySem
theorem ne_list (d : D) : d ≠ kList d := by
  intro e
  have := congrArg sizeOf e
  simp at this
  omega
theorem knd_ne {z : Int} : knd (2 + z % 8) ≠ kNum := by
  have : z % 8 = 0 \/ z % 8 = 1 \/ z % 8 = 2 \/ z % 8 = 3 \/ z % 8 = 4 \/ z % 8 = 5 \/ z % 8 = 6 \/ z % 8 = 7 := by omega
  rcases this with e | e | e | e | e | e | e | e <;> rw [e] <;> decide
section
variable {kvs : List (Ky × D)} {fl : List D} {n : Nat}
def bads (p q c : D) : List D :=
  [.tup [.str (Str.ofString "plus"), p, q], .tup [.str (Str.ofString "less"), q, p], .tup [.str (Str.ofString "times"), .tup [.str (Str.ofString "nil"), kNum], q],
   .tup [.str (Str.ofString "minus"), q, .tup [.str (Str.ofString "pair"), q, q]],
   .tup [.str (Str.ofString "if"), p, q, q], .tup [.str (Str.ofString "if"), q, q, p], .tup [.str (Str.ofString "if"), q, p, q], .tup [.str (Str.ofString "cons"), p, p],
   .tup [.str (Str.ofString "cons"), q, q], .tup [.str (Str.ofString "cons"), q, .tup [.str (Str.ofString "nil"), kList kNum]], .tup [.str (Str.ofString "head"), q], .tup [.str (Str.ofString "tail"), q],
   .tup [.str (Str.ofString "head"), .tup [.str (Str.ofString "pair"), p, p]], .tup [.str (Str.ofString "none"), q], .tup [.str (Str.ofString "first"), q], .tup [.str (Str.ofString "second"), .tup [.str (Str.ofString "nil"), kNum]],
   .tup [.str (Str.ofString "none"), .tup [.str (Str.ofString "pair"), q, p]], c]
theorem all_bad {p q c kh : D} (fk : FlNd fl) (hk : Kd 3 kh) (ne : kh ≠ kNum) (tp : Ty kvs fl 9 kh p) (tq : Ty kvs fl 9 kNum q) (bc : Bad 19 n kvs fl c) : ∀ d ∈ bads p q c,Bad 19 n kvs fl d := by
  have nn : Kd 0 kNum := .num 0
  have l8 : Kd 8 kNum := .num 8
  have e1 : kNum ≠ kList kNum := by decide
  have e2 : kList kNum ≠ kNum := by decide
  have e3 : kPair kNum kNum ≠ kNum := by decide
  have e4 : kList (kList kNum) ≠ kList kNum := by decide
  have u1 : sNum ≠ sList := by decide
  have u2 : sPair ≠ sList := by decide
  have u3 : sNum ≠ sPair := by decide
  have u4 : sList ≠ sPair := by decide
  intro d hd
  simp only [bads,List.mem_cons,List.not_mem_nil,or_false] at hd
  rcases hd with rfl | rfl | rfl | rfl | rfl | rfl | rfl | rfl | rfl | rfl | rfl | rfl | rfl | rfl | rfl | rfl | rfl | rfl
  . exact bad_node (ks := [kh,kNum]) fk (by simp [wNode]) (.cons tp (.cons tq .nil)) (by decide) (by simp) fun k M h => b_one h (by simp [wNum]) hk (by decide) ne
  . exact bad_node (ks := [kNum,kh]) fk (by simp [wNode]) (.cons tq (.cons tp .nil)) (by decide) (by simp) fun k M h => b_two h (by simp [wOp]) hk (by decide) ne
  . exact bad_node (ks := [kList kNum,kNum]) fk (by simp [wNode]) (.cons (.nil l8) (.cons tq .nil)) (by decide) (by simp) fun k M h => b_one h (by simp [wNum]) (.list nn) (by decide) e2
  . exact bad_node (h := 10) (ks := [kNum,kPair kNum kNum]) fk (by simp [wNode]) (.cons tq.up (.cons (.pair tq tq) .nil)) (by decide) (by simp) fun k M h => b_two h (by simp [wOp]) (.pair nn nn) (by decide) e3
  . exact bad_node (ks := [kh,kNum,kNum]) fk (by simp [wNode]) (.cons tp (.cons tq (.cons tq .nil))) (by decide) (by simp) fun k M h => b_one h (by simp [wNum]) hk (by decide) ne
  . exact bad_node (ks := [kNum,kNum,kh]) fk (by simp [wNode]) (.cons tq (.cons tq (.cons tp .nil))) (by decide) (by simp) fun k M h => b_if h nn hk (by decide) ne
  . exact bad_node (ks := [kNum,kh,kNum]) fk (by simp [wNode]) (.cons tq (.cons tp (.cons tq .nil))) (by decide) (by simp) fun k M h => b_if h hk nn (by decide) (Ne.symm ne)
  . exact bad_node (ks := [kh,kh]) fk (by simp [wNode]) (.cons tp (.cons tp .nil)) (by decide) (by simp) fun k M h => b_cons h hk hk (by decide) (ne_list kh)
  . exact bad_node (ks := [kNum,kNum]) fk (by simp [wNode]) (.cons tq (.cons tq .nil)) (by decide) (by simp) fun k M h => b_cons h nn nn (by decide) e1
  . exact bad_node (ks := [kNum,kList (kList kNum)]) fk (by simp [wNode]) (.cons tq (.cons (.nil (.list (.num 7))) .nil)) (by decide) (by simp) fun k M h => b_cons h nn (.list (.list nn)) (by decide) e4
  . exact bad_node (ks := [kNum]) fk (by simp [wNode]) (.cons tq .nil) (by decide) (by simp) fun k M h => b_list h (by simp) u1
  . exact bad_node (ks := [kNum]) fk (by simp [wNode]) (.cons tq .nil) (by decide) (by simp) fun k M h => b_list h (by simp) u1
  . exact bad_node (h := 10) (ks := [kPair kh kh]) fk (by simp [wNode]) (.cons (.pair tp tp) .nil) (by decide) (by simp) fun k M h => b_list h (by simp) u2
  . exact bad_node (ks := [kNum]) fk (by simp [wNode]) (.cons tq .nil) (by decide) (by simp) fun k M h => b_list h (by simp) u1
  . exact bad_node (ks := [kNum]) fk (by simp [wNode]) (.cons tq .nil) (by decide) (by simp) fun k M h => b_pair h (by simp) u3
  . exact bad_node (h := 1) (ks := [kList kNum]) fk (by simp [wNode]) (.cons (.nil l8) .nil) (by decide) (by simp) fun k M h => b_pair h (by simp) u4
  . exact bad_node (h := 10) (ks := [kPair kNum kh]) fk (by simp [wNode]) (.cons (.pair tq tp) .nil) (by decide) (by simp) fun k M h => b_list h (by simp) u2
  . exact bc
def withins (b q : D) : List D :=
  [b, .tup [.str (Str.ofString "let"), .str (Str.ofString "zq"), b, q], .tup [.str (Str.ofString "let"), .str (Str.ofString "zq"), q, b], .tup [.str (Str.ofString "if"), q, b, b],
   .tup [.str (Str.ofString "none"), .tup [.str (Str.ofString "cons"), b, q]], .tup [.str (Str.ofString "pair"), q, b], .tup [.str (Str.ofString "first"), .tup [.str (Str.ofString "pair"), q, b]]]
theorem all_within {b q : D} (fk : FlNd fl) (hb : ∀ n, Bad 19 n kvs fl b) (tq : Ty kvs fl 9 kNum q) (hz : look kvs (.inr (Str.ofString "zq")) = none) (hn : n <= 9) : ∀ d ∈ withins b q, Bad 21 n kvs fl d := by
  intro d hd
  simp only [withins,List.mem_cons,List.not_mem_nil,or_false] at hd
  rcases hd with rfl | rfl | rfl | rfl | rfl | rfl | rfl
  . exact (hb n).le (by decide) (Nat.le_refl _)
  . exact bad_let1 (hb n) tq.nr
  . exact bad_let2 fk tq (.num 3) (by decide) (hb (n + 1)) hz (by decide) hn
  . exact (bad_in (ks := [kNum]) (pre := [q]) (post := [b]) fk (by simp [wNode]) (.cons tq .nil) (by decide) (hb n) (by simp [nrs,(hb 0).nr]) (by simp) (by decide)).le (by decide) (Nat.le_refl _)
  . exact bad_in (ks := []) (pre := []) (post := []) (h := 0) fk (by simp [wNode]) .nil (by decide) (bad_in (ks := []) (pre := []) (post := [q]) (h := 0) fk (by simp [wNode]) .nil (by decide) (hb n) (by simp [nrs,tq.nr]) (by simp) (by decide)) (by simp [nrs]) (by simp) (by decide)
  . exact (bad_in (ks := [kNum]) (pre := [q]) (post := []) fk (by simp [wNode]) (.cons tq .nil) (by decide) (hb n) (by simp [nrs]) (by simp) (by decide)).le (by decide) (Nat.le_refl _)
  . exact bad_in (ks := []) (pre := []) (post := []) (h := 0) fk (by simp [wNode]) .nil (by decide) (bad_in (ks := [kNum]) (pre := [q]) (post := []) fk (by simp [wNode]) (.cons tq .nil) (by decide) (hb n) (by simp [nrs]) (by simp) (by decide)) (by simp [nrs]) (by simp) (by decide)
theorem bad_call {h : Nat} {x : Str} {ts cs ks : List D} {kd bd : D} (fk : FlNd fl) (hm : D.tup [.str x, .lst ts, kd, bd] ∈ fl) (t : Tys kvs fl h (tk ks) cs) (hh : h <= 14) (hl : cs.length <= 10) (hks : ∀ d ∈ ks, ∃ m, m <= 40 /\ Kd m d) (ne : ks ≠ ts.map tkind) : Bad 19 n kvs fl (.tup (.str (Str.ofString "call") :: .str x :: cs)) := by
  refine ⟨fun m => by simp [Fg.nr,nrs,t.nr],fun kvs' r k M s nm _ hk => ?_⟩
  obtain ⟨k,rfl⟩ : ∃ j,k = j + 1 := ⟨k - 1,by omega⟩
  obtain ⟨q1,q2⟩ := (t.weak s).run fk k M nm (by omega) (by omega)
  rw [tk_kind] at q2
  obtain ⟨y,t2,k2,b2,e,hkd,hts,ht⟩ := fk.ex _ hm
  cases e
  refine K03.call_bad (t.nr _) (by omega) q1 q2 hl ?_
  rw [c_callk (by omega) fk hm (lst_cmp hks (tk_kd ht) (by decide)),if_neg]
  intro z
  have := eqD_eq (by simp only [Fg.plain]; exact (kds_cmp hks).1) z
  cases this
  exact ne rfl
end
end K03
end
section
set_option autoImplicit false
namespace K03
open Fg PySem
section
variable {kvs : List (Ky × D)} {fl : List D}
theorem Tys.retk : ∀ {h : Nat} {ts cs : List D},Tys kvs fl h ts cs -> Tys kvs fl h (tk (ts.map tkind)) cs
  | _,_,_,.nil => .nil
  | _,_,_,.cons a b => .cons a b.retk
theorem Tys.set : ∀ {h : Nat} {ks cs : List D} (i : Nat) {k p : D},Tys kvs fl h (tk ks) cs -> Ty kvs fl h k p -> Tys kvs fl h (tk (ks.set i k)) (cs.set i p)
  | h,[],cs,i,k,p,t,q => by cases t; exact .nil
  | h, k0 :: ks, cs, i, k, p, t, q => by
    cases t with
    | cons a b =>
      cases i with
      | zero => exact .cons q b
      | succ i => exact .cons a (Tys.set i b q)
def lv (k : Nat) (s : Int) (r : Nat) (M : MH) (t : D) : D := match (callF prg k).call 17 [tkind t,.int s,.ref r] M with | .ok x _ => x | _ => .non
theorem c_leaves {k : Nat} {s : Int} {r : Nat} {M : MH} {ts : List D} (hs : Sd s) (hn : NmAt M r kvs) (hk : 6 <= k) (ht : ∀ t ∈ ts,∃ y ky,t = .tup [.str y,ky] /\ Kd 3 ky) :
    (∀ t ∈ ts,(callF prg k).call 17 [tkind t,.int s,.ref r] M = .ok (lv k s r M t) M) /\ Tys kvs fl 3 ts (ts.map (lv k s r M)) := by
  induction ts with
  | nil => exact ⟨fun t h => by simp at h,.nil⟩
  | cons t ts ih =>
    obtain ⟨q1,q2⟩ := ih fun t h => ht t (List.mem_cons_of_mem _ h)
    obtain ⟨y,ky,rfl,kk⟩ := ht t List.mem_cons_self
    obtain ⟨p,w,e⟩ := c_leaf (fl := fl) kk (by decide) hs hn
    have e' : (callF prg k).call 17 [tkind (.tup [.str y,ky]),.int s,.ref r] M = .ok p M := e k (by omega)
    have el : lv k s r M (.tup [.str y,ky]) = p := by unfold lv; rw [e']
    refine ⟨fun t h => ?_,?_⟩
    . rcases List.mem_cons.mp h with rfl | h
      . rw [el]; exact e'
      . exact q1 t h
    . rw [List.map_cons,el]
      exact .cons w q2
theorem kinds_kds {ts : List D} (ht : ∀ t ∈ ts,∃ y ky,t = .tup [.str y,ky] /\ Kd 3 ky) : ∀ d ∈ ts.map tkind,∃ m,m <= 40 /\ Kd m d := tk_kd ht
theorem c_bad_call {k : Nat} {s : Int} {r : Nat} {M : MH} (fk : FlNd fl) (h4 : fl.length = 4) (hn : NmAt M r kvs) (hk : 8 <= k) : ∃ p,(∀ n,Bad 19 n kvs fl p) /\ (callF prg k).call 23 [.lst fl,.int s,.ref r] M = .ok p M := by
  obtain ⟨k,rfl⟩ : ∃ j,k = j + 1 := ⟨k - 1,by omega⟩
  obtain ⟨f,hf,ef⟩ := ati_ex (xs := fl) (i := s % 4) (by omega) (by rw [h4]; omega)
  obtain ⟨x,ts,kd,bd,rfl,hkd,hts,ht⟩ := fk.ex f hf
  obtain ⟨lq,lt⟩ := c_leaves (fl := fl) (k := k) (s := next s 3) (ts := ts) (sd_next _ _) hn (by omega) ht
  have hlen : (ts.map (lv k (next s 3) r M)).length = ts.length := by simp
  have L := loopC_pure (cond := evc (callF prg k) O.none) (elt := ev (callF prg k) (E.call 17 (Es.cons (E.idx (E.v 2) (E.k (.int 1))) (Es.cons (E.call 12 (Es.cons (E.v 1) (Es.cons (E.k (.int 3)) Es.nil))) (Es.cons (E.v 0) Es.nil))))) (i := 2) (chk := still M (.lst ts)) (M := M) (f := lv k (next s 3) r M) (p := fun _ => true) (by simp [still]) ts [] [some (.ref r),some (.int s),none]
    (fun d hd => by
      have := lq d hd
      obtain ⟨y,ky,rfl,_⟩ := ht d hd
      have this' : (callF prg k).call 17 [ky,.int (next s 3),.ref r] M = .ok (lv k (next s 3) r M (.tup [.str y,ky])) M := this
      simp [idx2,vw,c_next (show 1 <= k by omega),this']) (by simp [line]; omega)
  rw [show ts.filter (fun _ => true) = ts from List.filter_eq_self.mpr (by simp),List.nil_append] at L
  generalize hmd : ts.map (lv k (next s 3) r M) = made at L lt hlen
  have hcomp : ev (callF prg k) (E.comp false [2,1] [2] (E.call 17 (Es.cons (E.idx (E.v 2) (E.k (.int 1))) (Es.cons (E.call 12 (Es.cons (E.v 1) (Es.cons (E.k (.int 3)) Es.nil))) (Es.cons (E.v 0) Es.nil)))) (Src.e (E.idx (E.v 3) (E.k (.int 1)))) O.none) [some (.lst fl),some (.int s),some (.ref r),some (.tup [.str x,.lst ts,kd,bd]),none,none] M = .ok (.ref M.length) (M ++ [.lst made]) := by
    have hix : ev (callF prg k) (E.idx (E.v 3) (E.k (.int 1))) [some (.lst fl),some (.int s),some (.ref r),some (.tup [.str x,.lst ts,kd,bd]),none,none] M = .ok (.lst ts) M := by simp [idx2,vw]
    rw [ev_comp,evi_e,hix]
    simp [itemsOf,vw,capt,-evc_none,-ev_call,L,newl]
  have kk := lt.retk
  have kds := kinds_kds ht
  have ge : ∀ N : MH,(M ++ [.lst made] ++ N)[M.length]? = some (.lst made) := fun N => by simp
  have g0 : (M ++ [MO.lst made])[M.length]? = some (.lst made) := by simp
  have lenE : ∀ U : Sg,U[4]? = some (some (.ref M.length)) -> ev (callF prg k) (.blt .len true (.cons (.v 4) .nil)) U (M ++ [.lst made]) = .ok (.int (ts.length : Int)) (M ++ [.lst made]) := fun U h => by simp [h,blt1,vw,hlen]
  have nrm : ∀ m,nrs m made = true := lt.nr
  have cmE : ∀ (a b : Int) (M : MH),cmp2 .eq M (.int a) (.int b) = .ok (.bl (decide (a = b))) M := fun a b M => by simp [cmp2,cmpOk,top,Fg.plain,dep]
  have c3 : s / 4 % 3 = 0 \/ s / 4 % 3 = 1 \/ s / 4 % 3 = 2 := by omega
  have lz : decide ((ts.length : Int) = 0) = decide (ts.length = 0) := decide_eq_decide.mpr (by omega)
  have l4 : decide ((ts.length : Int) < 4) = decide (ts.length < 4) := decide_eq_decide.mpr (by omega)
  have le := lenE [some (.lst fl),some (.int s),some (.ref r),some (.tup [.str x,.lst ts,kd,bd]),some (.ref M.length),none] rfl
  have condE : ev (callF prg k) (E.and (E.or (E.cmp .eq (E.op .mod true (E.op .fdiv true (E.v 1) (E.k (.int 4))) (E.k (.int 3))) (E.k (.int 0))) (E.cmp .eq (E.blt .len true (Es.cons (E.v 4) Es.nil)) (E.k (.int 0)))) (E.cmp .lt (E.blt .len true (Es.cons (E.v 4) Es.nil)) (E.k (.int 4)))) [some (.lst fl),some (.int s),some (.ref r),some (.tup [.str x,.lst ts,kd,bd]),some (.ref M.length),none] (M ++ [.lst made]) =
      .ok (.bl (decide ((s / 4 % 3 = 0 \/ ts.length = 0) /\ ts.length < 4))) (M ++ [.lst made]) := by
    have a1 : ev (callF prg k) (E.cmp .eq (E.op .mod true (E.op .fdiv true (E.v 1) (E.k (.int 4))) (E.k (.int 3))) (E.k (.int 0))) [some (.lst fl),some (.int s),some (.ref r),some (.tup [.str x,.lst ts,kd,bd]),some (.ref M.length),none] (M ++ [.lst made]) = .ok (.bl (decide (s / 4 % 3 = 0))) (M ++ [.lst made]) := by
      simp [op2,num2,cmE]
    have a2 : ev (callF prg k) (E.cmp .eq (E.blt .len true (Es.cons (E.v 4) Es.nil)) (E.k (.int 0))) [some (.lst fl),some (.int s),some (.ref r),some (.tup [.str x,.lst ts,kd,bd]),some (.ref M.length),none] (M ++ [.lst made]) = .ok (.bl (decide (ts.length = 0))) (M ++ [.lst made]) := by
      rw [ev_cmp,le]
      simp only [R.bind_ok,ev_k,cmE,lz]
    have a3 : ev (callF prg k) (E.cmp .lt (E.blt .len true (Es.cons (E.v 4) Es.nil)) (E.k (.int 4))) [some (.lst fl),some (.int s),some (.ref r),some (.tup [.str x,.lst ts,kd,bd]),some (.ref M.length),none] (M ++ [.lst made]) = .ok (.bl (decide (ts.length < 4))) (M ++ [.lst made]) := by
      rw [ev_cmp,le]
      simp only [R.bind_ok,ev_k,cmp2,l4]
    rw [ev_and,ev_or,a1]
    by_cases c0 : s / 4 % 3 = 0
    . simp only [c0,decide_true,R.bind_ok,a3,true_or,true_and]
    . simp only [c0,decide_false,R.bind_ok,a2,false_or]
      by_cases hz : ts.length = 0
      . simp only [hz,decide_true,R.bind_ok,a3,true_and]
      . simp only [hz,decide_false,R.bind_ok,false_and]
  have start : ∀ R0 : R Out, exs (callF prg k) (.cons (S.ifs (E.and (E.or (E.cmp .eq (E.op .mod true (E.op .fdiv true (E.v 1) (E.k (.int 4))) (E.k (.int 3))) (E.k (.int 0))) (E.cmp .eq (E.blt .len true (Es.cons (E.v 4) Es.nil)) (E.k (.int 0)))) (E.cmp .lt (E.blt .len true (Es.cons (E.v 4) Es.nil)) (E.k (.int 4)))) (Ss.cons (S.ex (E.mth .append true (E.v 4) (Es.cons (E.tup (Es.cons (E.k (.str (PySem.Str.ofString "number"))) (Es.cons (E.k (.int 1)) Es.nil))) Es.nil))) Ss.nil) (Ss.cons (S.ifs (E.cmp .lt (E.op .mod true (E.op .fdiv true (E.v 1) (E.k (.int 4))) (E.k (.int 3))) (E.k (.int 2))) (Ss.cons (S.set 4 (E.sl false (E.v 4) (O.some (E.k (.int 1))) O.none)) Ss.nil) (Ss.cons (S.set 5 (E.op .mod true (E.op .fdiv true (E.v 1) (E.k (.int 12))) (E.blt .len true (Es.cons (E.v 4) Es.nil))))
    (Ss.cons (S.seti (E.v 4) (E.v 5) (E.tup (Es.cons (E.k (.str (PySem.Str.ofString "nil"))) (Es.cons (E.idx (E.idx (E.idx (E.v 3) (E.k (.int 1))) (E.v 5)) (E.k (.int 1))) Es.nil)))) Ss.nil))) Ss.nil))
    (Ss.cons (S.ret (E.blt .tuple true (Es.cons (E.op .add true (E.lst true (Es.cons (E.k (.str (PySem.Str.ofString "call"))) (Es.cons (E.idx (E.v 3) (E.k (.int 0))) Es.nil))) (E.v 4)) Es.nil))) Ss.nil)) [some (.lst fl), some (.int s), some (.ref r), some (.tup [.str x, .lst ts, kd, bd]), some (.ref M.length), none] (M ++ [.lst made]) = R0 ->
      exs (callF prg k) f_law_bad_call.body [some (.lst fl),some (.int s),some (.ref r),none,none,none] M = R0 := by
    intro R0 h
    unfold f_law_bad_call
    dsimp only
    refine (s_set (x := .tup [.str x,.lst ts,kd,bd]) (M1 := M) (by simp [op2,num2,idx2,vw,ef])).trans ?_
    simp only [List.set_cons_succ,List.set_cons_zero]
    refine (s_set hcomp).trans ?_
    simp only [List.set_cons_succ,List.set_cons_zero]
    exact h
  by_cases ca : (s / 4 % 3 = 0 \/ ts.length = 0) /\ ts.length < 4
  . have t2 : Tys kvs fl 3 (tk (ts.map tkind ++ [kNum])) (made ++ [.tup [.str (Str.ofString "number"), .int 1]]) := by
      have := Tys.snoc (y := sNum) (p := .tup [.str (Str.ofString "number"), .int 1]) .number kk
      simpa [tk] using this
    refine ⟨.tup (.str (Str.ofString "call") :: .str x :: (made ++ [.tup [.str (Str.ofString "number"), .int 1]])), fun n => ?_, ?_⟩
    . refine bad_call fk hf t2 (by decide) (by simp [hlen]; omega) (fun d hd => ?_) (fun e => ?_)
      . rcases List.mem_append.mp hd with h | h
        . exact kds d h
        . rw [List.mem_singleton.mp h]; exact ⟨0,by decide,.num 0⟩
      . have := congrArg List.length e
        simp at this
    . refine c_run (M' := M ++ [.lst (made ++ [.tup [.str (Str.ofString "number"), .int 1]])]) fn23 rfl ?_ (retn_let (by simp only [nr, nrs, t2.nr, Bool.and_self]) (by simp))
      refine start _ ?_
      rw [decide_eq_true ca] at condE
      refine (s_ifT (M2 := M ++ [.lst (made ++ [.tup [.str (Str.ofString "number"), .int 1]])]) (U' := [some (.lst fl), some (.int s), some (.ref r), some (.tup [.str x, .lst ts, kd, bd]), some (.ref M.length), none]) condE ?_).trans (s_ret ?_)
      . have hl2 : made.length < line := by unfold line; omega
        simp [mtOk,mth1,hl2]
      . have hl2 : 2 + (made.length + 1) <= line := by unfold line; omega
        simp [idx2,vw,newl,op2,blt1,hl2]
  . rw [decide_eq_false ca] at condE
    have pos : 1 <= ts.length := by
      rcases Nat.eq_zero_or_pos ts.length with z | z
      . exact absurd ⟨.inr z,by omega⟩ ca
      . exact z
    by_cases cb : s / 4 % 3 < 2
    . cases ts with
      | nil => simp at pos
      | cons t0 ts =>
        cases lt with
        | cons a b =>
          rename_i y0 k0 p0 made
          have t2 := b.retk
          refine ⟨.tup (.str (Str.ofString "call") :: .str x :: made), fun n => ?_, ?_⟩
          . refine bad_call fk hf t2 (by decide) (by simp at hlen hts; omega) (fun d hd => kds d (List.mem_cons_of_mem _ hd)) (fun e => ?_)
            have := congrArg List.length e
            simp at this
          . refine c_run (M' := M ++ [.lst (p0 :: made)] ++ [.lst made]) fn23 rfl ?_ (retn_let (by simp only [nr,nrs,b.nr,Bool.and_self]) (by simp))
            refine start _ ?_
            refine (s_ifF' (M2 := M ++ [.lst (p0 :: made)] ++ [.lst made]) (U' := [some (.lst fl),some (.int s),some (.ref r),some (.tup [.str x,.lst (.tup [.str y0,k0] :: ts),kd,bd]),some (.ref (M.length + 1)),none]) condE ?_).trans (s_ret ?_)
            . simp [op2,num2,cmp2,cb,sl2,vw,newl]
            . have hl2 : 2 + made.length <= line := by simp at hlen hts; unfold line; omega
              simp [idx2,vw,newl,op2,blt1,hl2]
    . have hp : (0 : Int) < (ts.length : Int) := by omega
      obtain ⟨j,hj,hjl⟩ : ∃ j : Nat,s / 12 % (ts.length : Int) = (j : Int) /\ j < ts.length := by
        have h1 := Int.emod_nonneg (s / 12) (show (ts.length : Int) ≠ 0 by omega)
        have h2 := Int.emod_lt_of_pos (s / 12) hp
        exact ⟨(s / 12 % (ts.length : Int)).toNat,by omega,by omega⟩
      obtain ⟨y,ky,ety,kky⟩ := ht ts[j] (List.getElem_mem hjl)
      have ea : ati ts (j : Int) = some (.tup [.str y,ky]) := by
        simp only [ati,ixn,if_pos (show (0 : Int) <= (j : Int) by omega),if_pos (show (j : Int) < ts.length by omega),Option.bind_some,Int.toNat_natCast]
        rw [List.getElem?_eq_getElem hjl,ety]
      have t2 := Tys.set j kk (.nil (h := 3) (kky.le (show 3 <= 8 by decide)))
      refine ⟨.tup (.str (Str.ofString "call") :: .str x :: made.set j (.tup [.str (Str.ofString "nil"), ky])), fun n => ?_, ?_⟩
      . refine bad_call fk hf t2 (by decide) (by simp [hlen]; omega) (fun d hd => ?_) (fun e => ?_)
        . rcases List.mem_or_eq_of_mem_set hd with h | h
          . exact kds d h
          . rw [h]; exact ⟨4,by decide,.list kky⟩
        . have := congrArg (fun l : List D => l[j]?) e
          simp only [List.getElem?_set_self (show j < (ts.map tkind).length by simpa using hjl),List.getElem?_map,List.getElem?_eq_getElem hjl,ety,Option.map_some,tkind,Option.some.injEq] at this
          exact ne_list ky this.symm
      . refine c_run (M' := M ++ [.lst (made.set j (.tup [.str (Str.ofString "nil"), ky]))]) fn23 rfl ?_ (retn_let (by simp only [nr, nrs, t2.nr, Bool.and_self]) (by simp))
        refine start _ ?_
        refine (s_ifF' (M2 := M ++ [.lst (made.set j (.tup [.str (Str.ofString "nil"), ky]))]) (U' := [some (.lst fl), some (.int s), some (.ref r), some (.tup [.str x, .lst ts, kd, bd]), some (.ref M.length), some (.int (j : Int))]) condE ?_).trans (s_ret ?_)
        . have ixj : ixn made.length (j : Int) = some j := by
            simp only [ixn,if_pos (show (0 : Int) <= (j : Int) by omega),if_pos (show (j : Int) < (made.length : Int) by omega),Int.toNat_natCast]
          have ev5 : ev (callF prg k) (E.op .mod true (E.op .fdiv true (E.v 1) (E.k (.int 12))) (E.blt .len true (Es.cons (E.v 4) Es.nil))) [some (.lst fl),some (.int s),some (.ref r),some (.tup [.str x,.lst ts,kd,bd]),some (.ref M.length),none] (M ++ [.lst made]) = .ok (.int (j : Int)) (M ++ [.lst made]) := by
            have pp : (0 < ts.length) = True := eq_true (by omega)
            have e12 : ev (callF prg k) (E.op .fdiv true (E.v 1) (E.k (.int 12))) [some (.lst fl),some (.int s),some (.ref r),some (.tup [.str x,.lst ts,kd,bd]),some (.ref M.length),none] (M ++ [.lst made]) = .ok (.int (s / 12)) (M ++ [.lst made]) := by simp [op2,num2]
            rw [ev_op,e12]
            simp only [R.bind_ok,le]
            simp [op2,num2,pp,hj]
          have hc : ev (callF prg k) (E.cmp .lt (E.op .mod true (E.op .fdiv true (E.v 1) (E.k (.int 4))) (E.k (.int 3))) (E.k (.int 2))) [some (.lst fl),some (.int s),some (.ref r),some (.tup [.str x,.lst ts,kd,bd]),some (.ref M.length),none] (M ++ [.lst made]) = .ok (.bl false) (M ++ [.lst made]) := by
            simp [op2,num2,cmp2]
            omega
          refine (s_ifF' (M2 := M ++ [.lst (made.set j (.tup [.str (Str.ofString "nil"), ky]))]) (U' := [some (.lst fl), some (.int s), some (.ref r), some (.tup [.str x, .lst ts, kd, bd]), some (.ref M.length), some (.int (j : Int))]) hc ?_).trans exs_nil
          refine (s_set ev5).trans ?_
          simp only [List.set_cons_succ,List.set_cons_zero]
          simp [idx2,vw,ea,setI,ixj]
        . have hl2 : 2 + made.length <= line := by unfold line; omega
          simp [idx2,vw,newl,op2,blt1,hl2]
end
end K03
end
section
set_option autoImplicit false
namespace K03
open Fg PySem
section
variable {kvs : List (Ky × D)} {fl : List D}
theorem c_bad {k : Nat} {s : Int} {r : Nat} {M : MH} (fk : FlNd fl) (h4 : fl.length = 4) (hn : NmAt M r kvs) (hk : 15 <= k) : ∃ p,(∀ n,Bad 19 n kvs fl p) /\ (callF prg k).call 24 [.lst fl,.int s,.ref r] M = .ok p M := by
  obtain ⟨k,rfl⟩ : ∃ j,k = j + 1 := ⟨k - 1,by omega⟩
  obtain ⟨c,bc,ec⟩ := c_bad_call (k := k) (s := s / 23) fk h4 hn (by omega)
  have hkd : Kd 3 (knd (2 + s / 13 % 8)) := knd_kd _
  obtain ⟨p,tp,ep⟩ := part1 fk.toFlOk k (by omega) 3 _ hkd (by decide) (next s 1) (sd_next _ _) M r kvs hn
  obtain ⟨q,tq,eq⟩ := part1 fk.toFlOk k (by omega) 3 kNum (.num 3) (by decide) (next s 2) (sd_next _ _) M r kvs hn
  have ep' : (callF prg k).call 20 [knd (2 + s / 13 % 8),.int (next s 1),.ref r,.lst fl,.int 1] M = .ok p M := ep
  have eq' : (callF prg k).call 20 [kNum,.int (next s 2),.ref r,.lst fl,.int 1] M = .ok q M := eq
  have all := fun n => all_bad (n := n) fk hkd knd_ne tp tq (bc n)
  obtain ⟨d,hd,ed⟩ := ati_ex (xs := bads p q c) (i := s % 18) (by omega) (by show s % 18 < 18; omega)
  refine ⟨d,fun n => all n d hd,c_run (M' := M) fn24 rfl ?_ (retn_same ((all 0 d hd).nr _))⟩
  have k1 : 1 <= k := by omega
  unfold f_law_bad
  dsimp only
  show exs (callF prg k) _ [some (.lst fl),some (.int s),some (.ref r),none,none,none,none,none] M = _
  refine (s_set (x := kNum) (M1 := M) (by simp)).trans ?_
  simp only [List.set_cons_succ,List.set_cons_zero]
  refine (s_set (x := knd (2 + s / 13 % 8)) (M1 := M) (by simp [op2,num2,c_kind k1])).trans ?_
  simp only [List.set_cons_succ,List.set_cons_zero]
  refine (s_set (x := p) (M1 := M) (by simp [c_next k1,ep'])).trans ?_
  simp only [List.set_cons_succ,List.set_cons_zero]
  refine (s_set (x := q) (M1 := M) (by simp [c_next k1,eq'])).trans ?_
  simp only [List.set_cons_succ,List.set_cons_zero]
  refine (s_set (x := .lst ((bads p q c).take 3)) (M1 := M) (by simp [newl,bads])).trans ?_
  simp only [List.set_cons_succ,List.set_cons_zero]
  refine (s_set (x := .lst ((bads p q c).take 4)) (M1 := M) (by simp [newl,bads,op2,vw,line])).trans ?_
  simp only [List.set_cons_succ,List.set_cons_zero]
  refine (s_set (x := .lst ((bads p q c).take 8)) (M1 := M) (by simp [newl,bads,op2,vw,line])).trans ?_
  simp only [List.set_cons_succ,List.set_cons_zero]
  refine (s_set (x := .lst ((bads p q c).take 12)) (M1 := M) (by simp [newl,bads,op2,vw,line])).trans ?_
  simp only [List.set_cons_succ,List.set_cons_zero]
  refine (s_set (x := .lst ((bads p q c).take 16)) (M1 := M) (by simp [newl,bads,op2,vw,line])).trans ?_
  simp only [List.set_cons_succ,List.set_cons_zero]
  refine (s_set (x := .lst (bads p q c)) (M1 := M) (by simp [newl,bads,op2,num2,vw,line,ec])).trans ?_
  simp only [List.set_cons_succ,List.set_cons_zero]
  exact s_ret (by simp [op2,num2,idx2,vw,ed])
theorem c_within {k : Nat} {s : Int} {r : Nat} {M : MH} {b : D} (fk : FlNd fl) (hn : NmAt M r kvs) (hb : ∀ n, Bad 19 n kvs fl b) (hz : look kvs (.inr (Str.ofString "zq")) = none) (hk : 15 <= k) : ∃ p, Bad 21 9 kvs fl p /\ (callF prg k).call 25 [b, .int s, .ref r, .lst fl] M = .ok p M := by
  obtain ⟨k,rfl⟩ : ∃ j,k = j + 1 := ⟨k - 1,by omega⟩
  obtain ⟨q,tq,eq⟩ := part1 fk.toFlOk k (by omega) 3 kNum (.num 3) (by decide) (next s 4) (sd_next _ _) M r kvs hn
  have eq' : (callF prg k).call 20 [kNum,.int (next s 4),.ref r,.lst fl,.int 1] M = .ok q M := eq
  have all := all_within (n := 9) fk hb tq hz (by decide)
  obtain ⟨d,hd,ed⟩ := ati_ex (xs := withins b q) (i := s % 7) (by omega) (by show s % 7 < 7; omega)
  refine ⟨d,all d hd,c_run (M' := M) fn25 rfl ?_ (retn_same ((all d hd).nr _))⟩
  have k1 : 1 <= k := by omega
  unfold f_law_within
  dsimp only
  show exs (callF prg k) _ [some b,some (.int s),some (.ref r),some (.lst fl),none,none,none] M = _
  refine (s_set (x := kNum) (M1 := M) (by simp)).trans ?_
  simp only [List.set_cons_succ,List.set_cons_zero]
  refine (s_set (x := q) (M1 := M) (by simp [c_next k1,eq'])).trans ?_
  simp only [List.set_cons_succ,List.set_cons_zero]
  refine (s_set (x := .lst ((withins b q).take 4)) (M1 := M) (by simp [newl,withins])).trans ?_
  simp only [List.set_cons_succ,List.set_cons_zero]
  refine (s_set (x := .lst ((withins b q).take 5)) (M1 := M) (by simp [newl,withins,op2,vw,line])).trans ?_
  simp only [List.set_cons_succ,List.set_cons_zero]
  unfold withins at ed
  exact s_ret (by simp [newl,withins,op2,num2,idx2,vw,line,ed])
theorem c_told_ok {k : Nat} {r : Nat} {M : MH} {p d : D} (hk : 1 <= k) (e : (callF prg k).call 9 [.lst fl, .ref r, p] M = .ok d M) (hd : nr M.length d = true) : (callF prg (k + 1)).call 26 [.lst fl, .ref r, p] M = .ok (.tup [.str (Str.ofString "none"), d]) M := by
  refine c_run (M' := M) fn26 rfl ?_ (retn_same (by simp [nr,nrs,hd]))
  unfold f_law_told
  dsimp only
  show exs (callF prg k) _ [some (.lst fl),some (.ref r),some p,none,none] M = _
  simp [e]
theorem c_told_bad {k : Nat} {r : Nat} {M : MH} {p : D} (hk : 1 <= k) (e : (callF prg k).call 9 [.lst fl, .ref r, p] M = .exc 2 M) : (callF prg (k + 1)).call 26 [.lst fl, .ref r, p] M = .ok (.tup [.str (Str.ofString "kind"), .non]) M := by
  refine c_run (M' := M) fn26 rfl ?_ (retn_same (by simp [nr,nrs]))
  unfold f_law_told
  dsimp only
  show exs (callF prg k) _ [some (.lst fl),some (.ref r),some p,none,none] M = _
  have hs : prg.sub 2 2 = true := by decide
  simp [e,hs]
end
theorem al_str {k : Nat} {x : Str} {M : MH} (hk : 1 <= k) : (callF prg k).call 21 [.str x,.str x] M = .ok (.bl true) M := by
  obtain ⟨k,rfl⟩ : ∃ j,k = j + 1 := ⟨k - 1,by omega⟩
  rw [call_step fn21]
  simp [runF,f_law_alike,okT,isT,cmp2,cmpOk,top,Fg.plain,dep,retn,nr]
theorem c_alike {h : Nat} {d : D} (q : Kd h d) : ∀ (k : Nat) (M : MH),h + 2 <= k -> (callF prg k).call 21 [d,d] M = .ok (.bl true) M := by
  induction q with
  | num h =>
    intro k M hk
    obtain ⟨k,rfl⟩ : ∃ j,k = j + 1 := ⟨k - 1,by omega⟩
    rw [call_step fn21]
    simp [runF,f_law_alike,okT,isT,blt1,vw,cmp2,cmpOk,top,Fg.plain,dep,frzn,zips,loopC,sets,capt,still,al_str (show 1 <= k by omega),line,newl,boolsOf,retn,nr]
  | @list h d q ih =>
    intro k M hk
    obtain ⟨k,rfl⟩ : ∃ j,k = j + 1 := ⟨k - 1,by omega⟩
    rw [call_step fn21]
    simp [runF,f_law_alike,okT,isT,blt1,vw,cmp2,cmpOk,top,Fg.plain,dep,frzn,zips,loopC,sets,capt,still,al_str (show 1 <= k by omega),ih k M (by omega),line,newl,boolsOf,retn,nr]
  | @pair h d e q1 q2 i1 i2 =>
    intro k M hk
    obtain ⟨k,rfl⟩ : ∃ j,k = j + 1 := ⟨k - 1,by omega⟩
    rw [call_step fn21]
    simp [runF,f_law_alike,okT,isT,blt1,vw,cmp2,cmpOk,top,Fg.plain,dep,frzn,zips,loopC,sets,capt,still,al_str (show 1 <= k by omega),i1 k M (by omega),i2 k M (by omega),line,newl,boolsOf,retn,nr]
end K03
end
section
set_option autoImplicit false
namespace K03
open Fg PySem
theorem app_cps (x y : Str) : (x ++ y).cps.toList = x.cps.toList ++ y.cps.toList := by
  show (Str.mk (x.cps ++ y.cps)).cps.toList = _
  simp
def lt_ (s j : Int) : Nat := (ati letters.cps.toList ((s / 60 + 3 * j) % 10)).getD 0
theorem nm_cps (s j : Int) : (nm s j).cps.toList = (cuts (nmBase s) none (some (nmAt s))).cps.toList ++ [lt_ s j] ++ (cuts (nmBase s) (some (nmAt s)) none).cps.toList := by
  unfold nm
  rw [app_cps,app_cps]
  rfl
theorem let10 : letters.cps.toList.length = 10 := by have := letters_len; simpa [Str.length] using this
theorem let_nd : letters.cps.toList.Nodup := by decide +kernel
theorem lt_at (s j : Int) : ∃ h : ((s / 60 + 3 * j) % 10).toNat < letters.cps.toList.length,lt_ s j = letters.cps.toList[((s / 60 + 3 * j) % 10).toNat] := by
  have h : ((s / 60 + 3 * j) % 10).toNat < letters.cps.toList.length := by rw [let10]; omega
  refine ⟨h,?_⟩
  unfold lt_ ati
  rw [ixn,if_pos (by omega),if_pos (by rw [let10]; omega),Option.bind_some,List.getElem?_eq_getElem h]
  rfl
theorem nm_inj {s j j' : Int} (h : nm s j = nm s j') : (s / 60 + 3 * j) % 10 = (s / 60 + 3 * j') % 10 := by
  have e := congrArg (fun x : Str => x.cps.toList) h
  simp only [nm_cps] at e
  have e2 := List.append_cancel_left (List.append_cancel_right e)
  obtain ⟨h1,e3⟩ := lt_at s j
  obtain ⟨h2,e4⟩ := lt_at s j'
  have e5 : lt_ s j = lt_ s j' := by simpa using e2
  rw [e3,e4] at e5
  have := (List.getElem_inj let_nd).mp e5
  omega
theorem lt_mem (s j : Int) : lt_ s j ∈ letters.cps.toList := by
  obtain ⟨h,e⟩ := lt_at s j
  rw [e]; exact List.getElem_mem h
theorem nm_main {s j : Int} : nm s j ≠ Str.ofString "main" := by
  intro e
  have h : lt_ s j ∈ (Str.ofString "main").cps.toList := by rw [<- e, nm_cps]; simp
  have no : ∀ c ∈ letters.cps.toList, c ∉ (Str.ofString "main").cps.toList := by decide +kernel
  exact no _ (lt_mem s j) h
theorem cut_mem {α : Type} {xs : List α} {lo hi : Option Int} {x : α} (h : x ∈ cutl xs lo hi) : x ∈ xs := by
  unfold cutl at h
  exact List.mem_of_mem_drop (List.mem_of_mem_take h)
theorem cuts_mem {x : Str} {lo hi : Option Int} {c : Nat} (h : c ∈ (cuts x lo hi).cps.toList) : c ∈ x.cps.toList := by
  have : c ∈ cutl x.cps.toList lo hi := by simpa [cuts] using h
  exact cut_mem this
theorem nm_zq {s j : Int} : nm s j ≠ Str.ofString "zq" := by
  intro e
  have hc : (nm s j).cps.toList = (Str.ofString "zq").cps.toList := by rw [e]
  rw [nm_cps] at hc
  have no : ∀ c ∈ anchor.cps.toList, c ∉ (Str.ofString "zq").cps.toList := by decide +kernel
  have hl : ((Str.ofString "zq").cps.toList).length = 2 := by decide +kernel
  have hlen := congrArg List.length hc
  rw [hl] at hlen
  simp only [List.length_append,List.length_cons,List.length_nil] at hlen
  have all : ∀ c,(c ∈ (cuts (nmBase s) none (some (nmAt s))).cps.toList \/ c ∈ (cuts (nmBase s) (some (nmAt s)) none).cps.toList) -> False := fun c h => by
    have m1 : c ∈ anchor.cps.toList := by
      rcases h with h | h <;> exact cuts_mem (cuts_mem h)
    have m2 : c ∈ (Str.ofString "zq").cps.toList := by
      rw [<- hc]
      simp only [List.mem_append]
      rcases h with h | h
      . exact .inl (.inl h)
      . exact .inr h
    exact no c m1 m2
  cases h1 : (cuts (nmBase s) none (some (nmAt s))).cps.toList with
  | cons c r => exact all c (.inl (by rw [h1]; simp))
  | nil =>
    cases h2 : (cuts (nmBase s) (some (nmAt s)) none).cps.toList with
    | cons c r => exact all c (.inr (by rw [h2]; simp))
    | nil => rw [h1,h2] at hlen; simp at hlen
section
variable {kvs : List (Ky × D)} {fl : List D}
mutual
theorem Ty.pl : ∀ {h : Nat} {k p : D},Ty kvs fl h k p -> Fg.plain p = true /\ dep p <= h + 11
  | _,_,_,.number => by simp [Fg.plain,plains,dep,deps]
  | _,_,_,.name a => by simp [Fg.plain,plains,dep,deps]
  | _,_,_,.nil a => by have := a.plain; simp [Fg.plain,plains,dep,deps,this.1]; omega
  | _,_,_,.pair a b => by have x := a.pl; have y := b.pl; simp [Fg.plain,plains,dep,deps,x.1,y.1]; omega
  | _,_,_,.first a => by have x := a.pl; simp [Fg.plain,plains,dep,deps,x.1]; omega
  | _,_,_,.second a => by have x := a.pl; simp [Fg.plain,plains,dep,deps,x.1]; omega
  | _,_,_,.cons a b => by have x := a.pl; have y := b.pl; simp [Fg.plain,plains,dep,deps,x.1,y.1]; omega
  | _,_,_,.head a => by have x := a.pl; simp [Fg.plain,plains,dep,deps,x.1]; omega
  | _,_,_,.tail a => by have x := a.pl; simp [Fg.plain,plains,dep,deps,x.1]; omega
  | _,_,_,.none a => by have x := a.pl; simp [Fg.plain,plains,dep,deps,x.1]; omega
  | _,_,_,.op w a b => by have x := a.pl; have y := b.pl; simp [Fg.plain,plains,dep,deps,x.1,y.1]; omega
  | _,_,_,.ifs a b c => by have x := a.pl; have y := b.pl; have z := c.pl; simp [Fg.plain,plains,dep,deps,x.1,y.1,z.1]; omega
  | _,_,_,.call m a => by have x := a.pl; simp [Fg.plain,plains,dep,deps,x.1]; omega
theorem Tys.pl : ∀ {h : Nat} {ts cs : List D},Tys kvs fl h ts cs -> plains cs = true /\ deps cs <= h + 11
  | _,_,_,.nil => by simp [plains,deps]
  | _,_,_,.cons a b => by have x := a.pl; have y := b.pl; simp [plains,deps,x.1,y.1]; omega
end
end
def lp (d : D) (s : Int) : D := match (callF prg 20).call 16 [d,.int s] [] with | .ok x _ => x | _ => .non
theorem lp_ok {d : D} {s : Int} (q : Kd 3 d) (hs : Sd s) : Ty [] [] 3 d (lp d s) /\ ∀ (k : Nat) (M : MH),5 <= k -> (callF prg k).call 16 [d,.int s] M = .ok (lp d s) M := by
  obtain ⟨p,t,e⟩ := c_least (kvs := []) (fl := []) q s hs (by decide)
  have : lp d s = p := by unfold lp; rw [e 20 [] (by decide)]
  rw [this]
  exact ⟨t,fun k M hk => e k M (by omega)⟩
def mkT (s : Int) : D -> D
  | .int j => .tup [.str (nm s j),knd (next s j)]
  | _ => .non
def toNum : D -> D
  | .tup [a,_] => .tup [a,kNum]
  | _ => .non
def hdT (s : Int) (j : Nat) : List D := if (j : Int) = s / 3 % 4 then ((rngs 0 (next s j / 5 % 5)).map (mkT (next s j))).map toNum else (rngs 0 (next s j / 5 % 5)).map (mkT (next s j))
def hdN (s : Int) (j : Nat) : Str := if (j : Int) = s / 3 % 4 then Str.ofString "main" else nm s (5 + j)
def hdF (s : Int) (j : Nat) : D := .tup [.str (hdN s j),.lst (hdT s j),knd (next s j / 35),lp (knd (next s j / 35)) (next s j)]
def hds (s : Int) (m : Nat) : List D := (List.range m).map (hdF s)
theorem mk_ok {s n : Int} (h : n <= 4) : ((rngs 0 n).map (mkT s)).length <= 4 /\ ∀ t ∈ (rngs 0 n).map (mkT s),∃ y ky,t = .tup [.str y,ky] /\ Kd 3 ky := by
  refine ⟨by simp [rngs]; omega,fun t ht => ?_⟩
  obtain ⟨d,hd,rfl⟩ := List.mem_map.mp ht
  obtain ⟨i,_,rfl⟩ := List.mem_map.mp hd
  exact ⟨_,_,rfl,knd_kd _⟩
theorem hdT_ok (s : Int) (j : Nat) : (hdT s j).length <= 4 /\ ∀ t ∈ hdT s j,∃ y ky,t = .tup [.str y,ky] /\ Kd 3 ky := by
  obtain ⟨h1,h2⟩ := mk_ok (s := next s j) (n := next s j / 5 % 5) (by omega)
  unfold hdT
  split
  . refine ⟨by rw [List.length_map]; exact h1,fun t ht => ?_⟩
    obtain ⟨u,hu,rfl⟩ := List.mem_map.mp ht
    obtain ⟨y,ky,rfl,_⟩ := h2 u hu
    exact ⟨y,kNum,rfl,.num 3⟩
  . exact ⟨h1,h2⟩
theorem hdN_inj {s : Int} {i j : Nat} (hi : i < 4) (hj : j < 4) (h : hdN s i = hdN s j) : i = j := by
  unfold hdN at h
  split at h
  . split at h
    . omega
    . exact absurd h.symm nm_main
  . split at h
    . exact absurd h nm_main
    . have := nm_inj h
      omega
theorem tks_plain : ∀ {ts : List D},(∀ t ∈ ts,∃ y ky,t = .tup [.str y,ky] /\ Kd 3 ky) -> plains ts = true /\ deps ts <= 6 /\ ∀ m,nrs m ts = true
  | [],_ => by simp [plains,deps,nrs]
  | t :: ts,h => by
    obtain ⟨y,ky,rfl,q⟩ := h t List.mem_cons_self
    obtain ⟨a,b,c⟩ := tks_plain fun t ht => h t (List.mem_cons_of_mem _ ht)
    have := q.plain
    simp [plains,deps,nrs,Fg.plain,dep,nr,this.1,this.2.2,a,c]
    omega
theorem hdF_plain (s : Int) (j : Nat) : Fg.plain (hdF s j) = true /\ dep (hdF s j) <= 20 /\ ∀ m,nr m (hdF s j) = true := by
  obtain ⟨a,b,c⟩ := tks_plain (hdT_ok s j).2
  have k := (knd_kd (next s j / 35)).plain
  have t := (lp_ok (knd_kd (next s j / 35)) (sd_next s j)).1
  have p := t.pl
  simp [hdF,Fg.plain,plains,dep,deps,nr,nrs,a,c,k.1,k.2.2,p.1,t.nr]
  omega
theorem hds_plain (s : Int) : ∀ m,plains (hds s m) = true /\ deps (hds s m) <= 20 /\ ∀ i,nrs i (hds s m) = true := by
  intro m
  unfold hds
  generalize List.range m = l
  induction l with
  | nil => simp [plains,deps,nrs]
  | cons x l ih =>
    have h := hdF_plain s x
    simp [plains,deps,nrs,h.1,h.2.2,ih.1,ih.2.2]
    exact Nat.max_le.mpr ⟨h.2.1,ih.2.1⟩
theorem fl_nd (s : Int) : FlNd (hds s 4) := by
  have mem : ∀ f ∈ hds s 4,∃ j,j < 4 /\ f = hdF s j := fun f hf => by
    obtain ⟨j,hj,rfl⟩ := List.mem_map.mp hf
    exact ⟨j,List.mem_range.mp hj,rfl⟩
  refine ⟨⟨fun f hf => ?_,by simp [hds]⟩,fun x ts kd bd ts' kd' bd' h1 h2 => ?_,(hds_plain s 4).2.2⟩
  . obtain ⟨j,hj,rfl⟩ := mem f hf
    exact ⟨_,_,_,_,rfl,knd_kd _,(hdT_ok s j).1,(hdT_ok s j).2⟩
  . obtain ⟨i,hi,e1⟩ := mem _ h1
    obtain ⟨j,hj,e2⟩ := mem _ h2
    unfold hdF at e1 e2
    simp only [D.tup.injEq,List.cons.injEq,D.str.injEq,D.lst.injEq,and_true] at e1 e2
    obtain ⟨a1,a2,a3,a4⟩ := e1
    obtain ⟨b1,b2,b3,b4⟩ := e2
    have : i = j := hdN_inj hi hj (by rw [<- a1,<- b1])
    subst this
    exact ⟨by rw [a2,b2],by rw [a3,b3],by rw [a4,b4]⟩
end K03
end
section
set_option autoImplicit false
namespace K03
open Fg PySem
theorem drop_rng {n m : Nat} {e : D} {ds : List D} (h : e :: ds = (rngs 0 (n : Int)).drop m) : e = .int m /\ ds = (rngs 0 (n : Int)).drop (m + 1) /\ m < n := by
  have hlt : m < (rngs 0 (n : Int)).length := by
    rcases Nat.lt_or_ge m (rngs 0 (n : Int)).length with q | q
    . exact q
    . rw [List.drop_eq_nil_of_le q] at h; cases h
  rw [List.drop_eq_getElem_cons hlt] at h
  injection h with h1 h2
  refine ⟨by rw [h1]; simp [rngs],h2,by simpa [rngs] using hlt⟩
theorem drop_end {n m : Nat} (h : [] = (rngs 0 (n : Int)).drop m) : n <= m := by
  have := List.drop_eq_nil_iff.mp h.symm
  simpa [rngs] using this
theorem c_takers {k : Nat} {o : Int} {M : MH} {U : Sg} (hk : 1 <= k) (h3 : U[3]? = some (some (.int o))) :
    ev (callF prg k) (E.comp true [3] [1] (E.tup (Es.cons (E.call 15 (Es.cons (E.v 0) (Es.cons (E.v 1) Es.nil))) (Es.cons (E.call 13 (Es.cons (E.call 12 (Es.cons (E.v 0) (Es.cons (E.v 1) Es.nil))) Es.nil)) Es.nil))) (Src.rng (E.op .mod true (E.op .fdiv true (E.v 3) (E.k (.int 5))) (E.k (.int 5)))) O.none) U M
      = .ok (.lst ((rngs 0 (o / 5 % 5)).map (mkT o))) M := by
  have hr := okR_int (n := o / 5 % 5) (by omega) (by omega)
  have L := loopC_pure (cond := evc (callF prg k) O.none) (elt := ev (callF prg k) (E.tup (Es.cons (E.call 15 (Es.cons (E.v 0) (Es.cons (E.v 1) Es.nil))) (Es.cons (E.call 13 (Es.cons (E.call 12 (Es.cons (E.v 0) (Es.cons (E.v 1) Es.nil))) Es.nil)) Es.nil)))) (i := 1) (chk := still M .non) (M := M) (f := mkT o) (p := fun _ => true) (by simp [still]) (rngs 0 (o / 5 % 5)) [] [some (.int o),none]
    (fun d hd => by
      obtain ⟨i,_,rfl⟩ := List.mem_map.mp hd
      simp [c_name hk,c_next hk,c_kind hk,mkT]) (by simp [rngs,line]; omega)
  rw [show (rngs 0 (o / 5 % 5)).filter (fun _ => true) = rngs 0 (o / 5 % 5) from List.filter_eq_self.mpr (by simp),List.nil_append] at L
  simp only [ev_comp,evi_rng,ev_op,ev_v,ev_k]
  simp [h3,op2,num2,hr,capt,L,newl]
theorem loopC_two {cond elt : Sg -> MH -> R D} {chk : MH -> Bool} {M : MH} {f : D -> D} (hc : chk M = true) (h0 : ∀ U',cond U' M = .ok (.bl true) M) : ∀ (ds acc : List D) (a b : Option D),(∀ d ∈ ds,∃ x y,d = .tup [x,y] /\ elt [some x,some y] M = .ok (f d) M) ->
    acc.length + ds.length <= line -> loopC cond elt [0,1] chk ds [a,b] M acc = .ok (acc ++ ds.map f) M
  | [],acc,a,b,_,_ => by simp [loopC]
  | d :: ds,acc,a,b,h,hl => by
    obtain ⟨x,y,rfl,h1⟩ := h d List.mem_cons_self
    simp only [List.length_cons] at hl
    have hlt : acc.length < line := by omega
    rw [loopC]
    simp only [sets,List.set_cons_succ,List.set_cons_zero,h0,R.bind_ok,h1,hc,if_true,hlt,decide_true]
    rw [loopC_two hc h0 ds (acc ++ [f (.tup [x,y])]) _ _ (fun d hd => h d (List.mem_cons_of_mem _ hd)) (by simp; omega)]
    simp
theorem c_nums {k : Nat} {ts : List D} {M : MH} {U : Sg} (h4 : U[4]? = some (some (.lst ts))) (hl : ts.length <= 4) (ht : ∀ t ∈ ts,∃ y ky,t = .tup [.str y,ky] /\ Kd 3 ky) :
    ev (callF prg k) (E.comp true [] [0, 1] (E.tup (Es.cons (E.v 0) (Es.cons (E.tup (Es.cons (E.k (.str (PySem.Str.ofString "num"))) Es.nil)) Es.nil))) (Src.e (E.v 4)) O.none) U M = .ok (.lst (ts.map toNum)) M := by
  have L := loopC_two (cond := evc (callF prg k) O.none) (elt := ev (callF prg k) (E.tup (Es.cons (E.v 0) (Es.cons (E.tup (Es.cons (E.k (.str (PySem.Str.ofString "num"))) Es.nil)) Es.nil)))) (chk := still M (.lst ts)) (M := M) (f := toNum) (by simp [still]) (by simp) ts [] none none
    (fun d hd => by
      obtain ⟨y,ky,rfl,_⟩ := ht d hd
      exact ⟨_,_,rfl,by simp [toNum]⟩) (by simp [line]; omega)
  rw [List.nil_append] at L
  rw [ev_comp,evi_e]
  simp [h4,itemsOf,vw,capt,-evc_none,-ev_tup,L,newl]
theorem retn_new {M : MH} {ds : List D} (h : nrs M.length ds = true) : retn false M (.ref M.length) (M ++ [.lst ds]) = .ok (.lst ds) M := by
  unfold retn
  rw [if_pos ⟨rfl,by simp⟩,if_neg (by simp [nr])]
  simp [h]
def hB : Ss := (Ss.cons (S.set 3 (E.call 12 (Es.cons (E.v 0) (Es.cons (E.v 2) Es.nil))))
    (Ss.cons (S.set 4 (E.comp true [3] [1] (E.tup (Es.cons (E.call 15 (Es.cons (E.v 0) (Es.cons (E.v 1) Es.nil))) (Es.cons (E.call 13 (Es.cons (E.call 12 (Es.cons (E.v 0) (Es.cons (E.v 1) Es.nil))) Es.nil)) Es.nil))) (Src.rng (E.op .mod true (E.op .fdiv true (E.v 3) (E.k (.int 5))) (E.k (.int 5)))) O.none))
    (Ss.cons (S.set 5 (E.call 13 (Es.cons (E.op .fdiv true (E.v 3) (E.k (.int 35))) Es.nil)))
    (Ss.cons (S.set 6 (E.call 15 (Es.cons (E.v 0) (Es.cons (E.op .add true (E.k (.int 5)) (E.v 2)) Es.nil))))
    (Ss.cons (S.ifs (E.cmp .eq (E.v 2) (E.op .mod true (E.op .fdiv true (E.v 0) (E.k (.int 3))) (E.k (.int 4)))) (Ss.cons (S.set 6 (E.k (.str (PySem.Str.ofString "main"))))
    (Ss.cons (S.set 4 (E.comp true [] [0, 1] (E.tup (Es.cons (E.v 0) (Es.cons (E.tup (Es.cons (E.k (.str (PySem.Str.ofString "num"))) Es.nil)) Es.nil))) (Src.e (E.v 4)) O.none))
    Ss.nil)) Ss.nil)
    (Ss.cons (S.ex (E.mth .append true (E.v 1) (Es.cons (E.tup (Es.cons (E.v 6) (Es.cons (E.v 4) (Es.cons (E.v 5) (Es.cons (E.call 16 (Es.cons (E.v 5) (Es.cons (E.v 3) Es.nil))) Es.nil))))) Es.nil)))
    Ss.nil))))))
theorem h_turn {k : Nat} {s : Int} {M : MH} {m : Nat} {z3 z4 z5 z6 : Option D} (hk : 6 <= k) (hm : m < 4) :
    ∃ t3 t4 t5 t6,exs (callF prg k) hB [some (.int s),some (.ref M.length),some (.int (m : Int)),z3,z4,z5,z6] (M ++ [.lst (hds s m)]) = .ok (.nx [some (.int s),some (.ref M.length),some (.int (m : Int)),t3,t4,t5,t6]) (M ++ [.lst (hds s (m + 1))]) := by
  have k1 : 1 <= k := by omega
  obtain ⟨tl,tk_⟩ := mk_ok (s := next s m) (n := next s m / 5 % 5) (by omega)
  have el := (lp_ok (knd_kd (next s m / 35)) (sd_next s m)).2 k (M ++ [.lst (hds s m)]) (by omega)
  have hlen : (hds s m).length < line := by simp [hds]; unfold line; omega
  have hs1 : hds s (m + 1) = hds s m ++ [hdF s m] := by simp [hds,List.range_succ]
  have cmE : ∀ (a b : Int) (M : MH),cmp2 .eq M (.int a) (.int b) = .ok (.bl (decide (a = b))) M := fun a b M => by simp [cmp2,cmpOk,top,Fg.plain,dep]
  unfold hB
  by_cases c : (m : Int) = s / 3 % 4
  . refine ⟨some (.int (next s m)), some (.lst (((rngs 0 (next s m / 5 % 5)).map (mkT (next s m))).map toNum)), some (knd (next s m / 35)), some (.str (Str.ofString "main")), (s_set (x := .int (next s m)) (M1 := M ++ [.lst (hds s m)]) (by simp [c_next k1])).trans ?_⟩
    simp only [List.set_cons_succ,List.set_cons_zero]
    refine (s_set (c_takers k1 rfl)).trans ?_
    simp only [List.set_cons_succ,List.set_cons_zero]
    refine (s_set (x := knd (next s m / 35)) (M1 := M ++ [.lst (hds s m)]) (by simp [op2,num2,c_kind k1])).trans ?_
    simp only [List.set_cons_succ,List.set_cons_zero]
    refine (s_set (x := .str (nm s (5 + m))) (M1 := M ++ [.lst (hds s m)]) (by simp [op2,num2,c_name k1])).trans ?_
    simp only [List.set_cons_succ,List.set_cons_zero]
    refine (s_ifT (M1 := M ++ [.lst (hds s m)]) (M2 := M ++ [.lst (hds s m)]) (U' := [some (.int s), some (.ref M.length), some (.int (m : Int)), some (.int (next s m)), some (.lst (((rngs 0 (next s m / 5 % 5)).map (mkT (next s m))).map toNum)), some (knd (next s m / 35)), some (.str (Str.ofString "main"))]) ?_ ?_).trans ?_
    . simp [op2,num2,cmE,c]
    . refine (s_set (x := .str (Str.ofString "main")) (M1 := M ++ [.lst (hds s m)]) (by simp)).trans ?_
      simp only [List.set_cons_succ,List.set_cons_zero]
      refine (s_set (c_nums rfl tl tk_)).trans ?_
      simp
    . refine (s_ex (x := .non) (M1 := M ++ [.lst (hds s m ++ [hdF s m])]) ?_).trans ?_
      . have hF : hdF s m = .tup [.str (Str.ofString "main"), .lst (((rngs 0 (next s m / 5 % 5)).map (mkT (next s m))).map toNum), knd (next s m / 35), lp (knd (next s m / 35)) (next s m)] := by unfold hdF hdN hdT; rw [if_pos c, if_pos c]
        rw [hF]
        simp [mtOk,mth1,el,hlen,-List.map_map]
      . rw [hs1]; exact exs_nil
  . refine ⟨some (.int (next s m)),some (.lst ((rngs 0 (next s m / 5 % 5)).map (mkT (next s m)))),some (knd (next s m / 35)),some (.str (nm s (5 + m))),(s_set (x := .int (next s m)) (M1 := M ++ [.lst (hds s m)]) (by simp [c_next k1])).trans ?_⟩
    simp only [List.set_cons_succ,List.set_cons_zero]
    refine (s_set (c_takers k1 rfl)).trans ?_
    simp only [List.set_cons_succ,List.set_cons_zero]
    refine (s_set (x := knd (next s m / 35)) (M1 := M ++ [.lst (hds s m)]) (by simp [op2,num2,c_kind k1])).trans ?_
    simp only [List.set_cons_succ,List.set_cons_zero]
    refine (s_set (x := .str (nm s (5 + m))) (M1 := M ++ [.lst (hds s m)]) (by simp [op2,num2,c_name k1])).trans ?_
    simp only [List.set_cons_succ,List.set_cons_zero]
    refine (s_ifF (M1 := M ++ [.lst (hds s m)]) (by simp [op2,num2,cmE,c])).trans ?_
    refine (s_ex (x := .non) (M1 := M ++ [.lst (hds s m ++ [hdF s m])]) ?_).trans ?_
    . have hF : hdF s m = .tup [.str (nm s (5 + m)),.lst ((rngs 0 (next s m / 5 % 5)).map (mkT (next s m))),knd (next s m / 35),lp (knd (next s m / 35)) (next s m)] := by unfold hdF hdN hdT; rw [if_neg c,if_neg c]
      rw [hF]
      simp [mtOk,mth1,el,hlen]
    . rw [hs1]; exact exs_nil
theorem c_heads {k : Nat} {s : Int} {M : MH} (hk : 7 <= k) : (callF prg k).call 22 [.int s] M = .ok (.lst (hds s 4)) M := by
  obtain ⟨k,rfl⟩ : ∃ j,k = j + 1 := ⟨k - 1,by omega⟩
  have L : ∃ z2 z3 z4 z5 z6,loopF (exs (callF prg k) hB) [2] (still (M ++ [.lst []]) .non) (rngs 0 4) [some (.int s),some (.ref M.length),none,none,none,none,none] (M ++ [.lst []]) = .ok (.nx [some (.int s),some (.ref M.length),z2,z3,z4,z5,z6]) (M ++ [.lst (hds s 4)]) := by
    refine loopF_inv (i := 2) (chk := still (M ++ [.lst []]) .non) (Q := fun r => ∃ z2 z3 z4 z5 z6,r = .ok (.nx [some (.int s),some (.ref M.length),z2,z3,z4,z5,z6]) (M ++ [.lst (hds s 4)]))
      (fun ds U M' => ∃ (m : Nat) (z2 z3 z4 z5 z6 : Option D),ds = (rngs 0 ((4 : Nat) : Int)).drop m /\ m <= 4 /\ M' = M ++ [.lst (hds s m)] /\ U = [some (.int s),some (.ref M.length),z2,z3,z4,z5,z6])
      (rngs 0 4) _ _ ⟨0,none,none,none,none,none,rfl,by decide,rfl,rfl⟩ ?_ ?_
    . rintro e ds U M' ⟨m,z2,z3,z4,z5,z6,hd,hm,rfl,rfl⟩
      obtain ⟨rfl,rfl,hlt⟩ := drop_rng hd
      obtain ⟨t3,t4,t5,t6,h⟩ := h_turn (k := k) (s := s) (M := M) (z3 := z3) (z4 := z4) (z5 := z5) (z6 := z6) (by omega) hlt
      exact ⟨_,_,.inl h,by simp [still],m + 1,_,_,_,_,_,rfl,by omega,rfl,rfl⟩
    . rintro U M' ⟨m,z2,z3,z4,z5,z6,hd,hm,rfl,rfl⟩
      have := drop_end hd
      have e : m = 4 := by omega
      subst e
      exact ⟨_,_,_,_,_,rfl⟩
  obtain ⟨z2,z3,z4,z5,z6,L⟩ := L
  refine c_run (d := .ref M.length) (M' := M ++ [MO.lst (hds s 4)]) fn22 rfl ?_ (show retn false M (.ref M.length) (M ++ [.lst (hds s 4)]) = _ from retn_new ((hds_plain s 4).2.2 _))
  show exs (callF prg k) (.cons (.set 1 (.lst false .nil)) (.cons (.for [2] (.rng (.k (.int 4))) hB) (.cons (.ret (.v 1)) .nil))) [some (.int s),none,none,none,none,none,none] M = _
  refine (s_set (x := .ref M.length) (M1 := M ++ [.lst []]) (by simp [newl])).trans ?_
  simp only [List.set_cons_succ,List.set_cons_zero]
  refine (s_for (d := .non) (ds := rngs 0 4) (M1 := M ++ [.lst []]) (by simp [okR]) L).trans (s_ret (by simp))
end K03
end
section
set_option autoImplicit false
namespace K03
open Fg PySem
theorem c_at {k : Nat} {ns : List Int} {M : MH} (hk : 2 <= k) : ∃ s,Sd s /\ (callF prg k).call 11 [.lst (ns.map .int),.int 0] M = .ok (.int s) M := by
  obtain ⟨k,rfl⟩ : ∃ j,k = j + 1 := ⟨k - 1,by omega⟩
  cases ns with
  | nil =>
    refine ⟨mixed 0,sd_mixed _,c_run (M' := M) fn11 rfl ?_ (retn_same (by simp [nr]))⟩
    unfold f_law_at
    dsimp only
    refine (s_ifF (M1 := M) ?_).trans (s_ret ?_)
    . simp [blt1,vw,cmp2]
    . simp [c_mixed (show 1 <= k by omega)]
  | cons n ns =>
    refine ⟨mixed n,sd_mixed _,c_run (M' := M) fn11 rfl ?_ (retn_same (by simp [nr]))⟩
    unfold f_law_at
    dsimp only
    refine s_ifR (M1 := M) ?_ (s_ret ?_)
    . simp [blt1,vw,cmp2]
    . simp [idx2,vw,c_mixed (show 1 <= k by omega)]
def kn (s : Int) (j : Nat) : Ky × D := (.inr (nm (s / 11) j),knd (s / 13 + j))
def kns (s : Int) (m : Nat) : List (Ky × D) := (List.range m).map (kn s)
theorem kns_mem {s : Int} {m : Nat} {kv : Ky × D} (h : kv ∈ kns s m) : ∃ j,j < m /\ kv = kn s j := by
  obtain ⟨j,hj,rfl⟩ := List.mem_map.mp h
  exact ⟨j,List.mem_range.mp hj,rfl⟩
theorem kns_ok (s : Int) (m : Nat) : NvOk (kns s m) := fun kv h => by
  obtain ⟨j,_,rfl⟩ := kns_mem h
  exact ⟨⟨_,rfl⟩,knd_kd _⟩
theorem kns_put {s : Int} {m : Nat} (hm : m < 4) : put (kns s m) (.inr (nm (s / 11) m)) (knd (s / 13 + m)) = kns s (m + 1) := by
  unfold put
  rw [if_neg]
  . simp [kns,List.range_succ,kn]
  . intro h
    obtain ⟨kv,h1,h2⟩ := List.any_eq_true.mp h
    obtain ⟨j,hj,rfl⟩ := kns_mem h1
    simp only [kn,decide_eq_true_eq,Sum.inr.injEq] at h2
    have := nm_inj h2
    omega
theorem kns_zq (s : Int) (m : Nat) : look (kns s m) (.inr (Str.ofString "zq")) = none := by
  cases h : look (kns s m) (.inr (Str.ofString "zq")) with
  | none => rfl
  | some d =>
    obtain ⟨j,_,e⟩ := kns_mem (look_of h)
    unfold kn at e
    simp only [Prod.mk.injEq,Sum.inr.injEq] at e
    exact absurd e.1.symm nm_zq
theorem kns_at (s : Int) : NmAt [.dct (kns s 4)] 0 (kns s 4) := ⟨rfl,kns_ok s 4,by simp [kns]⟩
def nB : Ss := Ss.cons (S.seti (E.v 3) (E.call 15 (Es.cons (E.op .fdiv true (E.v 1) (E.k (.int 11))) (Es.cons (E.v 4) Es.nil))) (E.call 13 (Es.cons (E.op .add true (E.op .fdiv true (E.v 1) (E.k (.int 13))) (E.v 4)) Es.nil))) Ss.nil
theorem n_loop {k : Nat} {s : Int} {x0 p : D} (hk : 1 <= k) : ∃ z,loopF (exs (callF prg k) nB) [4] (still [.dct []] .non) (rngs 0 4) [some x0,some (.int s),some p,some (.ref 0),none,none,none,none,none,none,none] [.dct []] = .ok (.nx [some x0,some (.int s),some p,some (.ref 0),z,none,none,none,none,none,none]) [.dct (kns s 4)] := by
  refine loopF_inv (i := 4) (chk := still [.dct []] .non) (Q := fun r => ∃ z,r = .ok (.nx [some x0,some (.int s),some p,some (.ref 0),z,none,none,none,none,none,none]) [.dct (kns s 4)])
    (fun ds U M => ∃ (m : Nat) (z : Option D),ds = (rngs 0 ((4 : Nat) : Int)).drop m /\ m <= 4 /\ M = [.dct (kns s m)] /\ U = [some x0,some (.int s),some p,some (.ref 0),z,none,none,none,none,none,none])
    (rngs 0 4) _ _ ⟨0,none,rfl,by decide,rfl,rfl⟩ ?_ ?_
  . rintro e ds U M ⟨m,z,hd,hm,rfl,rfl⟩
    obtain ⟨rfl,rfl,hlt⟩ := drop_rng hd
    refine ⟨[some x0,some (.int s),some p,some (.ref 0),some (.int (m : Int)),none,none,none,none,none,none],[.dct (kns s (m + 1))],.inl ?_,by simp [still],m + 1,_,rfl,by omega,rfl,rfl⟩
    have hlen : ((kns s m).length < 1000000) = True := eq_true (by simp [kns]; omega)
    unfold nB
    simp [op2,num2,c_name hk,c_kind hk,setI,keyOf,line,hlen,kns_put hlt]
  . rintro U M ⟨m,z,hd,hm,rfl,rfl⟩
    have := drop_end hd
    have e : m = 4 := by omega
    subst e
    exact ⟨_,rfl⟩
def cB : Ss := (Ss.cons (S.set 6 (E.call 10 (Es.cons (E.v 5) Es.nil)))
    (Ss.cons (S.set 7 (E.call 13 (Es.cons (E.op .fdiv true (E.v 6) (E.k (.int 3))) Es.nil)))
    (Ss.cons (S.set 8 (E.call 20 (Es.cons (E.v 7) (Es.cons (E.call 12 (Es.cons (E.v 6) (Es.cons (E.k (.int 1)) Es.nil))) (Es.cons (E.v 3) (Es.cons (E.v 2) (Es.cons (E.k (.int 2)) Es.nil)))))))
    (Ss.cons (S.ifs (E.cmp .eq (E.op .mod true (E.v 6) (E.k (.int 3))) (E.k (.int 0))) (Ss.cons (S.set 8 (E.call 25 (Es.cons (E.call 24 (Es.cons (E.v 2) (Es.cons (E.op .fdiv true (E.v 6) (E.k (.int 21))) (Es.cons (E.v 3) Es.nil)))) (Es.cons (E.op .fdiv true (E.v 6) (E.k (.int 7))) (Es.cons (E.v 3) (Es.cons (E.v 2) Es.nil)))))) Ss.nil) Ss.nil)
    (Ss.cons (S.unp [9,10] (E.call 26 (Es.cons (E.v 2) (Es.cons (E.v 3) (Es.cons (E.v 8) Es.nil)))))
    (Ss.cons (S.ifs (E.or (E.cmp .ne (E.v 2) (E.call 22 (Es.cons (E.v 1) Es.nil))) (E.cmp .ne (E.blt .len true (Es.cons (E.v 3) Es.nil)) (E.k (.int 4)))) (Ss.cons (S.ret (E.k (.bl false))) Ss.nil) Ss.nil)
    (Ss.cons (S.ifs (E.and (E.cmp .eq (E.op .mod true (E.v 6) (E.k (.int 3))) (E.k (.int 0))) (E.cmp .ne (E.v 9) (E.k (.str (PySem.Str.ofString "kind"))))) (Ss.cons (S.ret (E.k (.bl false))) Ss.nil) Ss.nil)
    (Ss.cons (S.ifs (E.and (E.cmp .gt (E.op .mod true (E.v 6) (E.k (.int 3))) (E.k (.int 0))) (E.or (E.cmp .ne (E.v 9) (E.k (.str (PySem.Str.ofString "none")))) (E.not (E.call 21 (Es.cons (E.v 10) (Es.cons (E.v 7) Es.nil)))))) (Ss.cons (S.ret (E.k (.bl false))) Ss.nil) Ss.nil)
    Ss.nil))))))))
theorem turn {s c : Int} {x0 : D} {z4 z6 z7 z8 z9 z10 : Option D} : ∃ t6 t7 t8 t9 t10,exs (callF prg 40) cB [some x0,some (.int s),some (.lst (hds s 4)),some (.ref 0),z4,some (.int c),z6,z7,z8,z9,z10] [.dct (kns s 4)] =
    .ok (.nx [some x0,some (.int s),some (.lst (hds s 4)),some (.ref 0),z4,some (.int c),t6,t7,t8,t9,t10]) [.dct (kns s 4)] := by
  have fk := fl_nd s
  have hn := kns_at s
  have k1 : 1 <= 40 := by decide
  have hkd : Kd 3 (knd (mixed c / 3)) := knd_kd _
  obtain ⟨p,tp,ep⟩ := part2 fk.toFlOk 40 (by decide) 3 _ hkd (by decide) (next (mixed c) 1) (sd_next _ _) [.dct (kns s 4)] 0 (kns s 4) hn
  have ep' : (callF prg 40).call 20 [knd (mixed c / 3),.int (next (mixed c) 1),.ref 0,.lst (hds s 4),.int 2] [.dct (kns s 4)] = .ok p [.dct (kns s 4)] := ep
  have ehd := c_heads (k := 40) (s := s) (M := [.dct (kns s 4)]) (by decide)
  have cmE : ∀ (a b : Int) (M : MH),cmp2 .eq M (.int a) (.int b) = .ok (.bl (decide (a = b))) M := fun a b M => by simp [cmp2,cmpOk,top,Fg.plain,dep]
  have cmS : ∀ (a b : Str) (M : MH),cmp2 .ne M (.str a) (.str b) = .ok (.bl (!decide (a = b))) M := fun a b M => by simp [cmp2,cmpOk,top,Fg.plain,dep]
  obtain ⟨pl,pd,_⟩ := hds_plain s 4
  have cmL : cmp2 .ne [.dct (kns s 4)] (.lst (hds s 4)) (.lst (hds s 4)) = .ok (.bl false) [.dct (kns s 4)] := by
    have h1 : Fg.plain (.lst (hds s 4)) = true := by simp only [Fg.plain]; exact pl
    have h2 : dep (.lst (hds s 4)) <= 100 := by simp only [dep]; omega
    have hc : cmpOk (.lst (hds s 4)) (.lst (hds s 4)) = true := by simp [cmpOk,h1,h2]
    have he := eqD_refl h1
    have ht : top [.dct (kns s 4)] (.lst (hds s 4)) = .lst (hds s 4) := rfl
    simp only [cmp2,ht,hc,he,if_true,Bool.not_true]
  have h4 : (kns s 4).length = 4 := by simp [kns]
  have lenE : ∀ U : Sg,U[3]? = some (some (.ref 0)) -> ev (callF prg 40) (.blt .len true (.cons (.v 3) .nil)) U [.dct (kns s 4)] = .ok (.int 4) [.dct (kns s 4)] := fun U h => by simp [h,blt1,vw,h4]
  have same : ∀ z5 z6 z7 z8 z9 z10 : Option D,ev (callF prg 40) (E.or (E.cmp .ne (E.v 2) (E.call 22 (Es.cons (E.v 1) Es.nil))) (E.cmp .ne (E.blt .len true (Es.cons (E.v 3) Es.nil)) (E.k (.int 4)))) [some x0,some (.int s),some (.lst (hds s 4)),some (.ref 0),z4,z5,z6,z7,z8,z9,z10] [.dct (kns s 4)] = .ok (.bl false) [.dct (kns s 4)] := by
    intro z5 z6 z7 z8 z9 z10
    have a1 : ev (callF prg 40) (E.cmp .ne (E.v 2) (E.call 22 (Es.cons (E.v 1) Es.nil))) [some x0,some (.int s),some (.lst (hds s 4)),some (.ref 0),z4,z5,z6,z7,z8,z9,z10] [.dct (kns s 4)] = .ok (.bl false) [.dct (kns s 4)] := by
      rw [ev_cmp]
      simp [ehd,cmL]
    rw [ev_or,a1]
    simp only [R.bind_ok]
    rw [ev_cmp,lenE _ rfl]
    simp [cmp2,cmpOk,top,Fg.plain,dep]
  unfold cB
  by_cases c3 : mixed c % 3 = 0
  . obtain ⟨b,hb,eb⟩ := c_bad (k := 40) (s := mixed c / 21) fk (by simp [hds]) hn (by decide)
    obtain ⟨q,bq,eq⟩ := c_within (k := 40) (s := mixed c / 7) fk hn hb (kns_zq s 4) (by decide)
    have e9 := bq.run (kns s 4) 0 39 [.dct (kns s 4)] (fun _ _ h => h) hn (by rw [h4]; decide) (by decide)
    have et := c_told_bad (k := 39) (by decide) e9
    refine ⟨some (.int (mixed c)), some (knd (mixed c / 3)), some q, some (.str (Str.ofString "kind")), some .non, (s_set (x := .int (mixed c)) (M1 := [.dct (kns s 4)]) (by simp [c_mixed k1])).trans ?_⟩
    simp only [List.set_cons_succ,List.set_cons_zero]
    refine (s_set (x := knd (mixed c / 3)) (M1 := [.dct (kns s 4)]) (by simp [op2,num2,c_kind k1])).trans ?_
    simp only [List.set_cons_succ,List.set_cons_zero]
    refine (s_set (x := p) (M1 := [.dct (kns s 4)]) (by simp [c_next k1,ep'])).trans ?_
    simp only [List.set_cons_succ,List.set_cons_zero]
    refine (s_ifT (M1 := [.dct (kns s 4)]) (M2 := [.dct (kns s 4)]) (U' := [some x0,some (.int s),some (.lst (hds s 4)),some (.ref 0),z4,some (.int c),some (.int (mixed c)),some (knd (mixed c / 3)),some q,z9,z10]) ?_ ?_).trans ?_
    . simp [op2,num2,cmE,c3]
    . simp [op2,num2,eb,eq]
    rw [exs_cons,ex_unp]
    simp only [ev_call,evs_cons,evs_nil,ev_v,List.getElem?_cons_succ,List.getElem?_cons_zero,R.bind_ok,et,R.use_ok,sets,List.set_cons_succ,List.set_cons_zero]
    refine (s_ifF (same _ _ _ _ _ _)).trans ?_
    refine (s_ifF (M1 := [.dct (kns s 4)]) (by simp [op2,num2,cmE,c3,cmS])).trans ?_
    refine (s_ifF (M1 := [.dct (kns s 4)]) (by simp [op2,num2,cmp2,c3])).trans exs_nil
  . have e9 := tp.run (r := 0) fk 39 [.dct (kns s 4)] hn (by decide) (by decide)
    have et := c_told_ok (k := 39) (by decide) e9 (hkd.plain.2.2 _)
    have ea := c_alike hkd 40 [.dct (kns s 4)] (by decide)
    refine ⟨some (.int (mixed c)), some (knd (mixed c / 3)), some p, some (.str (Str.ofString "none")), some (knd (mixed c / 3)), (s_set (x := .int (mixed c)) (M1 := [.dct (kns s 4)]) (by simp [c_mixed k1])).trans ?_⟩
    simp only [List.set_cons_succ,List.set_cons_zero]
    refine (s_set (x := knd (mixed c / 3)) (M1 := [.dct (kns s 4)]) (by simp [op2,num2,c_kind k1])).trans ?_
    simp only [List.set_cons_succ,List.set_cons_zero]
    refine (s_set (x := p) (M1 := [.dct (kns s 4)]) (by simp [c_next k1,ep'])).trans ?_
    simp only [List.set_cons_succ,List.set_cons_zero]
    refine (s_ifF (M1 := [.dct (kns s 4)]) (by simp [op2,num2,cmE,c3])).trans ?_
    rw [exs_cons,ex_unp]
    simp only [ev_call,evs_cons,evs_nil,ev_v,List.getElem?_cons_succ,List.getElem?_cons_zero,R.bind_ok,et,R.use_ok,sets,List.set_cons_succ,List.set_cons_zero]
    refine (s_ifF (same _ _ _ _ _ _)).trans ?_
    refine (s_ifF (M1 := [.dct (kns s 4)]) (by simp [op2,num2,cmE,c3])).trans ?_
    have pos : 0 < mixed c % 3 := by omega
    refine (s_ifF (M1 := [.dct (kns s 4)]) (by simp [op2,num2,cmp2,pos,cmS,ea,cmpOk,top,Fg.plain,dep])).trans exs_nil
theorem turns {s : Int} {x0 : D} : ∀ (ds : List D) (U : Sg),(∀ d ∈ ds,∃ c,d = .int c) -> (∃ z4 z5 z6 z7 z8 z9 z10,U = [some x0,some (.int s),some (.lst (hds s 4)),some (.ref 0),z4,z5,z6,z7,z8,z9,z10]) ->
    ∃ z4 z5 z6 z7 z8 z9 z10,loopF (exs (callF prg 40) cB) [5] (fun _ => true) ds U [.dct (kns s 4)] = .ok (.nx [some x0,some (.int s),some (.lst (hds s 4)),some (.ref 0),z4,z5,z6,z7,z8,z9,z10]) [.dct (kns s 4)]
  | [],U,_,⟨z4,z5,z6,z7,z8,z9,z10,e⟩ => ⟨z4,z5,z6,z7,z8,z9,z10,by rw [e,loopF]⟩
  | d :: ds,U,h,⟨z4,z5,z6,z7,z8,z9,z10,e⟩ => by
    subst e
    obtain ⟨c,rfl⟩ := h d List.mem_cons_self
    obtain ⟨t6,t7,t8,t9,t10,hb⟩ := turn (s := s) (c := c) (x0 := x0) (z4 := z4) (z6 := z6) (z7 := z7) (z8 := z8) (z9 := z9) (z10 := z10)
    obtain ⟨u4,u5,u6,u7,u8,u9,u10,h2⟩ := turns ds _ (fun d hd => h d (List.mem_cons_of_mem _ hd)) ⟨z4,some (.int c),t6,t7,t8,t9,t10,rfl⟩
    refine ⟨u4,u5,u6,u7,u8,u9,u10,?_⟩
    rw [loopF]
    simp only [sets,List.set_cons_succ,List.set_cons_zero,hb,R.bind_ok,if_true]
    exact h2
theorem law_true (ns : List Int) (hns : ns.length <= 63) : ∃ M',(callF prg 41).call 27 [.lst (ns.map .int)] [] = .ok (.bl true) M' := by
  obtain ⟨s,hs,es⟩ := c_at (k := 40) (ns := ns) (M := []) (by decide)
  have eh := c_heads (k := 40) (s := s) (M := []) (by decide)
  obtain ⟨z,L1⟩ := n_loop (k := 40) (s := s) (x0 := .lst (ns.map .int)) (p := .lst (hds s 4)) (by decide)
  have hcut : ∀ d ∈ cutl (ns.map D.int) none (some 12),∃ c,d = .int c := fun d hd => by
    obtain ⟨c,_,rfl⟩ := List.mem_map.mp (cut_mem hd)
    exact ⟨c,rfl⟩
  have hlen : (cutl (ns.map D.int) none (some 12)).length <= 63 := Nat.le_trans (cutl_le _ _ _) (by simpa using hns)
  obtain ⟨u4,u5,u6,u7,u8,u9,u10,L2⟩ := turns (s := s) (x0 := .lst (ns.map .int)) (.int 1 :: cutl (ns.map D.int) none (some 12)) _ (fun d hd => by
    rcases List.mem_cons.mp hd with rfl | hd
    . exact ⟨1,rfl⟩
    . exact hcut d hd) ⟨z,none,none,none,none,none,none,rfl⟩
  refine ⟨[],c_run (k := 40) (M' := [.dct (kns s 4)]) fn27 rfl ?_ (retn_let (by simp [nr]) (by simp))⟩
  show exs (callF prg 40) (.cons (.set 1 (.call 11 (.cons (.v 0) (.cons (.k (.int 0)) .nil)))) (.cons (.set 2 (.call 22 (.cons (.v 1) .nil))) (.cons (.set 3 .dct0) (.cons (.for [4] (.rng (.k (.int 4))) nB)
    (.cons (.for [5] (.e (.op .add true (.lst true (.cons (.k (.int 1)) .nil)) (.sl true (.v 0) .none (.some (.k (.int 12)))))) cB) (.cons (.ret (.k (.bl true))) .nil)))))) [some (.lst (ns.map .int)),none,none,none,none,none,none,none,none,none,none] [] = _
  refine (s_set (x := .int s) (M1 := []) (by simp [es])).trans ?_
  simp only [List.set_cons_succ,List.set_cons_zero]
  refine (s_set (x := .lst (hds s 4)) (M1 := []) (by simp [eh])).trans ?_
  simp only [List.set_cons_succ,List.set_cons_zero]
  refine (s_set (x := .ref 0) (M1 := [.dct []]) (by simp)).trans ?_
  simp only [List.set_cons_succ,List.set_cons_zero]
  refine (s_for (d := .non) (ds := rngs 0 4) (M1 := [.dct []]) (by simp [okR]) L1).trans ?_
  have hl2 : 1 + (cutl (ns.map D.int) none (some 12)).length <= line := by unfold line; omega
  refine (s_for (d := .lst (.int 1 :: cutl (ns.map D.int) none (some 12))) (ds := .int 1 :: cutl (ns.map D.int) none (some 12)) (M1 := [.dct (kns s 4)]) ?_ L2).trans (s_ret (by simp))
  rw [evi_e]
  simp [newl,sl2,vw,op2,hl2,itemsOf]
end K03
end
section
set_option autoImplicit false
set_option maxHeartbeats 0
namespace K03
open Fg PySem PySem.Spec L2
def top_ (i : Nat) : Stmt := PySem.Challenge.pw_fieldgate_k03_kind_of.main.body.getD i (.Pass ⟨0,0,0,0⟩)
def gm : Gm := ⟨[("inner", 0, 1), ("function_called", 1, 2), ("want_kind", 2, 2), ("want_made_by", 3, 2), ("kind_of_call", 4, 3), ("kind_of_pair_word", 5, 2), ("kind_of_list_word", 6, 2), ("kind_of_word", 7, 2), ("kind_of_let", 8, 3), ("kind_of", 9, 3), ("_law_mixed", 10, 1), ("_law_at", 11, 2), ("_law_next", 12, 2), ("_law_kind", 13, 1), ("_law_wide", 14, 1), ("_law_name", 15, 2), ("_law_least", 16, 2), ("_law_leaf", 17, 3), ("_law_call", 18, 5), ("_law_maker", 19, 5), ("_law_part", 20, 5), ("_law_alike", 21, 2), ("_law_heads", 22, 1), ("_law_bad_call", 23, 3), ("_law_bad", 24, 3), ("_law_within", 25, 4), ("_law_told", 26, 3), ("law", 27, 1)], [("PARTS_BEHIND", 0), ("NUM", 1)], ["len", "sum", "tuple", "list", "dict", "str", "int", "all", "range", "isinstance", "bool", "zip"],
  [],
  [],
  [],
  [("GateError", 0), ("NoName", 1), ("NoKind", 2)], true⟩
theorem gfn0 : prg.fn 0 = some f_inner := rfl
theorem sc0 : FnScope f_inner_names ["part"] (defScope (top_ 6)) := ⟨rfl, rfl, rfl, by decide +kernel, rfl, by decide +kernel, by decide +kernel⟩
theorem ck0 : chk gm 200 false f_inner_names (defScope (top_ 6)) (.ss (defBody (top_ 6)) f_inner.body) = true := by decide +kernel
theorem gfn1 : prg.fn 1 = some f_function_called := rfl
theorem sc1 : FnScope f_function_called_names ["program", "name"] (defScope (top_ 9)) := ⟨rfl, rfl, rfl, by decide +kernel, rfl, by decide +kernel, by decide +kernel⟩
theorem ck1 : chk gm 200 false f_function_called_names (defScope (top_ 9)) (.ss (defBody (top_ 9)) f_function_called.body) = true := by decide +kernel
theorem gfn2 : prg.fn 2 = some f_want_kind := rfl
theorem sc2 : FnScope f_want_kind_names ["kind", "wanted"] (defScope (top_ 10)) := ⟨rfl, rfl, rfl, by decide +kernel, rfl, by decide +kernel, by decide +kernel⟩
theorem ck2 : chk gm 200 false f_want_kind_names (defScope (top_ 10)) (.ss (defBody (top_ 10)) f_want_kind.body) = true := by decide +kernel
theorem gfn3 : prg.fn 3 = some f_want_made_by := rfl
theorem sc3 : FnScope f_want_made_by_names ["kind", "word"] (defScope (top_ 11)) := ⟨rfl, rfl, rfl, by decide +kernel, rfl, by decide +kernel, by decide +kernel⟩
theorem ck3 : chk gm 200 false f_want_made_by_names (defScope (top_ 11)) (.ss (defBody (top_ 11)) f_want_made_by.body) = true := by decide +kernel
theorem gfn4 : prg.fn 4 = some f_kind_of_call := rfl
theorem sc4 : FnScope f_kind_of_call_names ["program", "name", "kinds"] (defScope (top_ 12)) := ⟨rfl, rfl, rfl, by decide +kernel, rfl, by decide +kernel, by decide +kernel⟩
theorem ck4 : chk gm 200 false f_kind_of_call_names (defScope (top_ 12)) (.ss (defBody (top_ 12)) f_kind_of_call.body) = true := by decide +kernel
theorem gfn5 : prg.fn 5 = some f_kind_of_pair_word := rfl
theorem sc5 : FnScope f_kind_of_pair_word_names ["word", "kinds"] (defScope (top_ 13)) := ⟨rfl, rfl, rfl, by decide +kernel, rfl, by decide +kernel, by decide +kernel⟩
theorem ck5 : chk gm 200 false f_kind_of_pair_word_names (defScope (top_ 13)) (.ss (defBody (top_ 13)) f_kind_of_pair_word.body) = true := by decide +kernel
theorem gfn6 : prg.fn 6 = some f_kind_of_list_word := rfl
theorem sc6 : FnScope f_kind_of_list_word_names ["word", "kinds"] (defScope (top_ 14)) := ⟨rfl, rfl, rfl, by decide +kernel, rfl, by decide +kernel, by decide +kernel⟩
theorem ck6 : chk gm 200 false f_kind_of_list_word_names (defScope (top_ 14)) (.ss (defBody (top_ 14)) f_kind_of_list_word.body) = true := by decide +kernel
theorem gfn7 : prg.fn 7 = some f_kind_of_word := rfl
theorem sc7 : FnScope f_kind_of_word_names ["word", "kinds"] (defScope (top_ 15)) := ⟨rfl, rfl, rfl, by decide +kernel, rfl, by decide +kernel, by decide +kernel⟩
theorem ck7 : chk gm 200 false f_kind_of_word_names (defScope (top_ 15)) (.ss (defBody (top_ 15)) f_kind_of_word.body) = true := by decide +kernel
theorem gfn8 : prg.fn 8 = some f_kind_of_let := rfl
theorem sc8 : FnScope f_kind_of_let_names ["program", "names", "part"] (defScope (top_ 16)) := ⟨rfl, rfl, rfl, by decide +kernel, rfl, by decide +kernel, by decide +kernel⟩
theorem ck8 : chk gm 200 false f_kind_of_let_names (defScope (top_ 16)) (.ss (defBody (top_ 16)) f_kind_of_let.body) = true := by decide +kernel
theorem gfn9 : prg.fn 9 = some f_kind_of := rfl
theorem sc9 : FnScope f_kind_of_names ["program", "names", "part"] (defScope (top_ 17)) := ⟨rfl, rfl, rfl, by decide +kernel, rfl, by decide +kernel, by decide +kernel⟩
theorem ck9 : chk gm 200 false f_kind_of_names (defScope (top_ 17)) (.ss (defBody (top_ 17)) f_kind_of.body) = true := by decide +kernel
theorem gfn10 : prg.fn 10 = some f_law_mixed := rfl
theorem sc10 : FnScope f_law_mixed_names ["_law_cell"] (defScope (top_ 19)) := ⟨rfl, rfl, rfl, by decide +kernel, rfl, by decide +kernel, by decide +kernel⟩
theorem ck10 : chk gm 200 false f_law_mixed_names (defScope (top_ 19)) (.ss (defBody (top_ 19)) f_law_mixed.body) = true := by decide +kernel
theorem gfn11 : prg.fn 11 = some f_law_at := rfl
theorem sc11 : FnScope f_law_at_names ["_law_script", "_law_k"] (defScope (top_ 20)) := ⟨rfl, rfl, rfl, by decide +kernel, rfl, by decide +kernel, by decide +kernel⟩
theorem ck11 : chk gm 200 false f_law_at_names (defScope (top_ 20)) (.ss (defBody (top_ 20)) f_law_at.body) = true := by decide +kernel
theorem gfn12 : prg.fn 12 = some f_law_next := rfl
theorem sc12 : FnScope f_law_next_names ["_law_seed", "_law_k"] (defScope (top_ 21)) := ⟨rfl, rfl, rfl, by decide +kernel, rfl, by decide +kernel, by decide +kernel⟩
theorem ck12 : chk gm 200 false f_law_next_names (defScope (top_ 21)) (.ss (defBody (top_ 21)) f_law_next.body) = true := by decide +kernel
theorem gfn13 : prg.fn 13 = some f_law_kind := rfl
theorem sc13 : FnScope f_law_kind_names ["_law_pick"] (defScope (top_ 22)) := ⟨rfl, rfl, rfl, by decide +kernel, rfl, by decide +kernel, by decide +kernel⟩
theorem ck13 : chk gm 200 false f_law_kind_names (defScope (top_ 22)) (.ss (defBody (top_ 22)) f_law_kind.body) = true := by decide +kernel
theorem gfn14 : prg.fn 14 = some f_law_wide := rfl
theorem sc14 : FnScope f_law_wide_names ["_law_kind_here"] (defScope (top_ 23)) := ⟨rfl, rfl, rfl, by decide +kernel, rfl, by decide +kernel, by decide +kernel⟩
theorem ck14 : chk gm 200 false f_law_wide_names (defScope (top_ 23)) (.ss (defBody (top_ 23)) f_law_wide.body) = true := by decide +kernel
theorem gfn15 : prg.fn 15 = some f_law_name := rfl
theorem sc15 : FnScope f_law_name_names ["_law_seed", "_law_k"] (defScope (top_ 24)) := ⟨rfl, rfl, rfl, by decide +kernel, rfl, by decide +kernel, by decide +kernel⟩
theorem ck15 : chk gm 200 false f_law_name_names (defScope (top_ 24)) (.ss (defBody (top_ 24)) f_law_name.body) = true := by decide +kernel
theorem gfn16 : prg.fn 16 = some f_law_least := rfl
theorem sc16 : FnScope f_law_least_names ["_law_kind_here", "_law_seed"] (defScope (top_ 25)) := ⟨rfl, rfl, rfl, by decide +kernel, rfl, by decide +kernel, by decide +kernel⟩
theorem ck16 : chk gm 200 false f_law_least_names (defScope (top_ 25)) (.ss (defBody (top_ 25)) f_law_least.body) = true := by decide +kernel
theorem gfn17 : prg.fn 17 = some f_law_leaf := rfl
theorem sc17 : FnScope f_law_leaf_names ["_law_kind_here", "_law_seed", "_law_names"] (defScope (top_ 26)) := ⟨rfl, rfl, rfl, by decide +kernel, rfl, by decide +kernel, by decide +kernel⟩
theorem ck17 : chk gm 200 false f_law_leaf_names (defScope (top_ 26)) (.ss (defBody (top_ 26)) f_law_leaf.body) = true := by decide +kernel
theorem gfn18 : prg.fn 18 = some f_law_call := rfl
theorem sc18 : FnScope f_law_call_names ["_law_kind_here", "_law_seed", "_law_names", "_law_functions", "_law_depth"] (defScope (top_ 27)) := ⟨rfl, rfl, rfl, by decide +kernel, rfl, by decide +kernel, by decide +kernel⟩
theorem ck18 : chk gm 200 false f_law_call_names (defScope (top_ 27)) (.ss (defBody (top_ 27)) f_law_call.body) = true := by decide +kernel
theorem gfn19 : prg.fn 19 = some f_law_maker := rfl
theorem sc19 : FnScope f_law_maker_names ["_law_kind_here", "_law_seed", "_law_names", "_law_functions", "_law_depth"] (defScope (top_ 28)) := ⟨rfl, rfl, rfl, by decide +kernel, rfl, by decide +kernel, by decide +kernel⟩
theorem ck19 : chk gm 200 false f_law_maker_names (defScope (top_ 28)) (.ss (defBody (top_ 28)) f_law_maker.body) = true := by decide +kernel
theorem gfn20 : prg.fn 20 = some f_law_part := rfl
theorem sc20 : FnScope f_law_part_names ["_law_kind_here", "_law_seed", "_law_names", "_law_functions", "_law_depth"] (defScope (top_ 29)) := ⟨rfl, rfl, rfl, by decide +kernel, rfl, by decide +kernel, by decide +kernel⟩
theorem ck20 : chk gm 200 false f_law_part_names (defScope (top_ 29)) (.ss (defBody (top_ 29)) f_law_part.body) = true := by decide +kernel
theorem gfn21 : prg.fn 21 = some f_law_alike := rfl
theorem sc21 : FnScope f_law_alike_names ["_law_found", "_law_due"] (defScope (top_ 30)) := ⟨rfl, rfl, rfl, by decide +kernel, rfl, by decide +kernel, by decide +kernel⟩
theorem ck21 : chk gm 200 false f_law_alike_names (defScope (top_ 30)) (.ss (defBody (top_ 30)) f_law_alike.body) = true := by decide +kernel
theorem gfn22 : prg.fn 22 = some f_law_heads := rfl
theorem sc22 : FnScope f_law_heads_names ["_law_seed"] (defScope (top_ 31)) := ⟨rfl, rfl, rfl, by decide +kernel, rfl, by decide +kernel, by decide +kernel⟩
theorem ck22 : chk gm 200 false f_law_heads_names (defScope (top_ 31)) (.ss (defBody (top_ 31)) f_law_heads.body) = true := by decide +kernel
theorem gfn23 : prg.fn 23 = some f_law_bad_call := rfl
theorem sc23 : FnScope f_law_bad_call_names ["_law_program", "_law_seed", "_law_names"] (defScope (top_ 32)) := ⟨rfl, rfl, rfl, by decide +kernel, rfl, by decide +kernel, by decide +kernel⟩
theorem ck23 : chk gm 200 false f_law_bad_call_names (defScope (top_ 32)) (.ss (defBody (top_ 32)) f_law_bad_call.body) = true := by decide +kernel
theorem gfn24 : prg.fn 24 = some f_law_bad := rfl
theorem sc24 : FnScope f_law_bad_names ["_law_program", "_law_seed", "_law_names"] (defScope (top_ 33)) := ⟨rfl, rfl, rfl, by decide +kernel, rfl, by decide +kernel, by decide +kernel⟩
theorem ck24 : chk gm 200 false f_law_bad_names (defScope (top_ 33)) (.ss (defBody (top_ 33)) f_law_bad.body) = true := by decide +kernel
theorem gfn25 : prg.fn 25 = some f_law_within := rfl
theorem sc25 : FnScope f_law_within_names ["_law_bad_here", "_law_seed", "_law_names", "_law_program"] (defScope (top_ 34)) := ⟨rfl, rfl, rfl, by decide +kernel, rfl, by decide +kernel, by decide +kernel⟩
theorem ck25 : chk gm 200 false f_law_within_names (defScope (top_ 34)) (.ss (defBody (top_ 34)) f_law_within.body) = true := by decide +kernel
theorem gfn26 : prg.fn 26 = some f_law_told := rfl
theorem sc26 : FnScope f_law_told_names ["_law_program", "_law_names", "_law_part_here"] (defScope (top_ 35)) := ⟨rfl, rfl, rfl, by decide +kernel, rfl, by decide +kernel, by decide +kernel⟩
theorem ck26 : chk gm 200 false f_law_told_names (defScope (top_ 35)) (.ss (defBody (top_ 35)) f_law_told.body) = true := by decide +kernel
theorem gfn27 : prg.fn 27 = some f_law := rfl
theorem sc27 : FnScope f_law_names ["_law_script"] (defScope (top_ 36)) := ⟨rfl, rfl, rfl, by decide +kernel, rfl, by decide +kernel, by decide +kernel⟩
theorem ck27 : chk gm 200 false f_law_names (defScope (top_ 36)) (.ss (defBody (top_ 36)) f_law.body) = true := by decide +kernel
theorem mem_of_lookup {α β : Type} [BEq α] [LawfulBEq α] {x : α} {b : β} : ∀ {l : List (α × β)},l.lookup x = some b -> (x,b) ∈ l
  | [],h => by cases h
  | (y, c) :: l, h => by
    rw [List.lookup_cons] at h
    by_cases e : x = y
    . subst e; simp at h; subst h; exact List.mem_cons_self
    . rw [show (x == y) = false from beq_eq_false_iff_ne.mpr e] at h
      exact List.mem_cons_of_mem _ (mem_of_lookup h)
def tv1 : List V := [.str (Str.ofString "num")]
def kv0 : List (Key × V) := [(Sum.inr (Str.ofString "plus"), .int 2), (Sum.inr (Str.ofString "minus"), .int 2), (Sum.inr (Str.ofString "times"), .int 2), (Sum.inr (Str.ofString "less"), .int 2), (Sum.inr (Str.ofString "pair"), .int 2), (Sum.inr (Str.ofString "first"), .int 1), (Sum.inr (Str.ofString "second"), .int 1), (Sum.inr (Str.ofString "cons"), .int 2), (Sum.inr (Str.ofString "head"), .int 1), (Sum.inr (Str.ofString "tail"), .int 1), (Sum.inr (Str.ofString "none"), .int 1), (Sum.inr (Str.ofString "if"), .int 3)]
theorem all_mk {l : W.OpenLaw} {w : World} {K : W.Frag} {h : Heap} {mg : Str -> Option Value} {fa f0 f1 f2 f3 f4 f5 f6 f7 f8 f9 f10 f11 f12 f13 f14 f15 f16 f17 f18 f19 f20 f21 f22 f23 f24 f25 f26 f27 : Addr} (X : K.In h) (G : h.Ns mainGlobals mg) (hfa : mg "law" = some (.ref fa))
    {od0 an0 od1 an1 od2 an2 od3 an3 od4 an4 od5 an5 od6 an6 od7 an7 od8 an8 od9 an9 od10 an10 od11 an11 od12 an12 od13 an13 od14 an14 od15 an15 od16 an16 od17 an17 od18 an18 od19 an19 od20 an20 od21 an21 od22 an22 od23 an23 od24 an24 od25 an25 od26 an26 od27 an27 : Option Addr} {sl0 sl1 sl2 sl3 sl4 sl5 sl6 sl7 sl8 sl9 sl10 sl11 sl12 sl13 sl14 sl15 sl16 sl17 sl18 sl19 sl20 sl21 sl22 sl23 sl24 sl25 sl26 sl27 : Array (Option Value)} {oc0 kV0 dc0 pm0 cd0 ct0 oc1 kV1 dc1 pm1 cd1 ct1 oc2 kV2 dc2 pm2 cd2 ct2 oc3 kV3 dc3 pm3 cd3 ct3 oc4 kV4 dc4 pm4 cd4 ct4 oc5 kV5 dc5 pm5 cd5 ct5 oc6 kV6 dc6 pm6 cd6 ct6 oc7 kV7 dc7 pm7 cd7 ct7 oc8 kV8 dc8 pm8 cd8 ct8 oc9 kV9 dc9 pm9 cd9 ct9 oc10 kV10 dc10 pm10 cd10 ct10 oc11 kV11 dc11 pm11 cd11 ct11 oc12 kV12 dc12 pm12 cd12 ct12 oc13 kV13 dc13 pm13 cd13 ct13 oc14 kV14 dc14 pm14 cd14 ct14 oc15 kV15 dc15 pm15 cd15 ct15 oc16 kV16 dc16 pm16 cd16 ct16 oc17 kV17 dc17 pm17 cd17 ct17 oc18 kV18 dc18 pm18 cd18 ct18 oc19 kV19 dc19 pm19 cd19 ct19 oc20 kV20 dc20 pm20 cd20 ct20 oc21 kV21 dc21 pm21 cd21 ct21 oc22 kV22 dc22 pm22 cd22 ct22 oc23 kV23 dc23 pm23 cd23 ct23 oc24 kV24 dc24 pm24 cd24 ct24 oc25 kV25 dc25 pm25 cd25 ct25 oc26 kV26 dc26 pm26 cd26 ct26 oc27 kV27 dc27 pm27 cd27 ct27 : Value}
    {dA0 : Addr} {es0 : Array DictEntry} {en0 : Nat}
    {tA1 : Addr} {ti1 : Array Value} {tn1 : Nat} {td1 : Option Addr} {ts1 : Array (Option Value)}
    {X0 X1 X2 : Addr}
    (xa0 : W.nsIn K mainGlobals "GateError" = some (some (.ref X0))) (xe0 : W.excIn K X0 [.type "ValueError", .type "Exception", .type "BaseException", .type "object"] "ValueError.__new__" = true) (xb0 : W.mroIn K X0 (.type "BaseException") = some true)
    (xa1 : W.nsIn K mainGlobals "NoName" = some (some (.ref X1))) (xe1 : W.excIn K X1 [.type "ValueError", .type "Exception", .type "BaseException", .type "object"] "ValueError.__new__" = true) (xb1 : W.mroIn K X1 (.type "BaseException") = some true)
    (xa2 : W.nsIn K mainGlobals "NoKind" = some (some (.ref X2))) (xe2 : W.excIn K X2 [.type "ValueError", .type "Exception", .type "BaseException", .type "object"] "ValueError.__new__" = true) (xb2 : W.mroIn K X2 (.type "BaseException") = some true)
    (xm0_0 : W.mroIn K X0 (.ref X0) = some true)
    (xm0_1 : W.mroIn K X0 (.ref X1) = some false)
    (xm0_2 : W.mroIn K X0 (.ref X2) = some false)
    (xm1_0 : W.mroIn K X1 (.ref X0) = some true)
    (xm1_1 : W.mroIn K X1 (.ref X1) = some true)
    (xm1_2 : W.mroIn K X1 (.ref X2) = some false)
    (xm2_0 : W.mroIn K X2 (.ref X0) = some true)
    (xm2_1 : W.mroIn K X2 (.ref X1) = some false)
    (xm2_2 : W.mroIn K X2 (.ref X2) = some true)
    (ta1 : W.nsIn K mainGlobals "NUM" = some (some (.ref tA1))) (tl1 : K.lookup tA1 = some ⟨.type "tuple", td1, .seq ti1 tn1, ts1⟩) (tz1 : ti1.size <= sizeLine) (tv1_ : Vals tv1 ti1.toList)
    (a0 : W.nsIn K mainGlobals "inner" = some (some (.ref f0))) (l0 : K.lookup f0 = some ⟨oc0, od0, .func (W.fnOf "inner" "inner" (defArgs (top_ 6)) (defBody (top_ 6)) (defScope (top_ 6)) .none kV0 dc0 pm0 an0 cd0 ct0), sl0⟩) (c0 : W.codeIn K cd0 "inner" = true) (k0 : W.keepIn K (.ref f0) = true)
    (a1 : W.nsIn K mainGlobals "function_called" = some (some (.ref f1))) (l1 : K.lookup f1 = some ⟨oc1, od1, .func (W.fnOf "function_called" "function_called" (defArgs (top_ 9)) (defBody (top_ 9)) (defScope (top_ 9)) .none kV1 dc1 pm1 an1 cd1 ct1), sl1⟩) (c1 : W.codeIn K cd1 "function_called" = true) (k1 : W.keepIn K (.ref f1) = true)
    (a2 : W.nsIn K mainGlobals "want_kind" = some (some (.ref f2))) (l2 : K.lookup f2 = some ⟨oc2, od2, .func (W.fnOf "want_kind" "want_kind" (defArgs (top_ 10)) (defBody (top_ 10)) (defScope (top_ 10)) .none kV2 dc2 pm2 an2 cd2 ct2), sl2⟩) (c2 : W.codeIn K cd2 "want_kind" = true) (k2 : W.keepIn K (.ref f2) = true)
    (a3 : W.nsIn K mainGlobals "want_made_by" = some (some (.ref f3))) (l3 : K.lookup f3 = some ⟨oc3, od3, .func (W.fnOf "want_made_by" "want_made_by" (defArgs (top_ 11)) (defBody (top_ 11)) (defScope (top_ 11)) .none kV3 dc3 pm3 an3 cd3 ct3), sl3⟩) (c3 : W.codeIn K cd3 "want_made_by" = true) (k3 : W.keepIn K (.ref f3) = true)
    (a4 : W.nsIn K mainGlobals "kind_of_call" = some (some (.ref f4))) (l4 : K.lookup f4 = some ⟨oc4, od4, .func (W.fnOf "kind_of_call" "kind_of_call" (defArgs (top_ 12)) (defBody (top_ 12)) (defScope (top_ 12)) .none kV4 dc4 pm4 an4 cd4 ct4), sl4⟩) (c4 : W.codeIn K cd4 "kind_of_call" = true) (k4 : W.keepIn K (.ref f4) = true)
    (a5 : W.nsIn K mainGlobals "kind_of_pair_word" = some (some (.ref f5))) (l5 : K.lookup f5 = some ⟨oc5, od5, .func (W.fnOf "kind_of_pair_word" "kind_of_pair_word" (defArgs (top_ 13)) (defBody (top_ 13)) (defScope (top_ 13)) .none kV5 dc5 pm5 an5 cd5 ct5), sl5⟩) (c5 : W.codeIn K cd5 "kind_of_pair_word" = true) (k5 : W.keepIn K (.ref f5) = true)
    (a6 : W.nsIn K mainGlobals "kind_of_list_word" = some (some (.ref f6))) (l6 : K.lookup f6 = some ⟨oc6, od6, .func (W.fnOf "kind_of_list_word" "kind_of_list_word" (defArgs (top_ 14)) (defBody (top_ 14)) (defScope (top_ 14)) .none kV6 dc6 pm6 an6 cd6 ct6), sl6⟩) (c6 : W.codeIn K cd6 "kind_of_list_word" = true) (k6 : W.keepIn K (.ref f6) = true)
    (a7 : W.nsIn K mainGlobals "kind_of_word" = some (some (.ref f7))) (l7 : K.lookup f7 = some ⟨oc7, od7, .func (W.fnOf "kind_of_word" "kind_of_word" (defArgs (top_ 15)) (defBody (top_ 15)) (defScope (top_ 15)) .none kV7 dc7 pm7 an7 cd7 ct7), sl7⟩) (c7 : W.codeIn K cd7 "kind_of_word" = true) (k7 : W.keepIn K (.ref f7) = true)
    (a8 : W.nsIn K mainGlobals "kind_of_let" = some (some (.ref f8))) (l8 : K.lookup f8 = some ⟨oc8, od8, .func (W.fnOf "kind_of_let" "kind_of_let" (defArgs (top_ 16)) (defBody (top_ 16)) (defScope (top_ 16)) .none kV8 dc8 pm8 an8 cd8 ct8), sl8⟩) (c8 : W.codeIn K cd8 "kind_of_let" = true) (k8 : W.keepIn K (.ref f8) = true)
    (a9 : W.nsIn K mainGlobals "kind_of" = some (some (.ref f9))) (l9 : K.lookup f9 = some ⟨oc9, od9, .func (W.fnOf "kind_of" "kind_of" (defArgs (top_ 17)) (defBody (top_ 17)) (defScope (top_ 17)) .none kV9 dc9 pm9 an9 cd9 ct9), sl9⟩) (c9 : W.codeIn K cd9 "kind_of" = true) (k9 : W.keepIn K (.ref f9) = true)
    (a10 : W.nsIn K mainGlobals "_law_mixed" = some (some (.ref f10))) (l10 : K.lookup f10 = some ⟨oc10, od10, .func (W.fnOf "_law_mixed" "_law_mixed" (defArgs (top_ 19)) (defBody (top_ 19)) (defScope (top_ 19)) .none kV10 dc10 pm10 an10 cd10 ct10), sl10⟩) (c10 : W.codeIn K cd10 "_law_mixed" = true) (k10 : W.keepIn K (.ref f10) = true)
    (a11 : W.nsIn K mainGlobals "_law_at" = some (some (.ref f11))) (l11 : K.lookup f11 = some ⟨oc11, od11, .func (W.fnOf "_law_at" "_law_at" (defArgs (top_ 20)) (defBody (top_ 20)) (defScope (top_ 20)) .none kV11 dc11 pm11 an11 cd11 ct11), sl11⟩) (c11 : W.codeIn K cd11 "_law_at" = true) (k11 : W.keepIn K (.ref f11) = true)
    (a12 : W.nsIn K mainGlobals "_law_next" = some (some (.ref f12))) (l12 : K.lookup f12 = some ⟨oc12, od12, .func (W.fnOf "_law_next" "_law_next" (defArgs (top_ 21)) (defBody (top_ 21)) (defScope (top_ 21)) .none kV12 dc12 pm12 an12 cd12 ct12), sl12⟩) (c12 : W.codeIn K cd12 "_law_next" = true) (k12 : W.keepIn K (.ref f12) = true)
    (a13 : W.nsIn K mainGlobals "_law_kind" = some (some (.ref f13))) (l13 : K.lookup f13 = some ⟨oc13, od13, .func (W.fnOf "_law_kind" "_law_kind" (defArgs (top_ 22)) (defBody (top_ 22)) (defScope (top_ 22)) .none kV13 dc13 pm13 an13 cd13 ct13), sl13⟩) (c13 : W.codeIn K cd13 "_law_kind" = true) (k13 : W.keepIn K (.ref f13) = true)
    (a14 : W.nsIn K mainGlobals "_law_wide" = some (some (.ref f14))) (l14 : K.lookup f14 = some ⟨oc14, od14, .func (W.fnOf "_law_wide" "_law_wide" (defArgs (top_ 23)) (defBody (top_ 23)) (defScope (top_ 23)) .none kV14 dc14 pm14 an14 cd14 ct14), sl14⟩) (c14 : W.codeIn K cd14 "_law_wide" = true) (k14 : W.keepIn K (.ref f14) = true)
    (a15 : W.nsIn K mainGlobals "_law_name" = some (some (.ref f15))) (l15 : K.lookup f15 = some ⟨oc15, od15, .func (W.fnOf "_law_name" "_law_name" (defArgs (top_ 24)) (defBody (top_ 24)) (defScope (top_ 24)) .none kV15 dc15 pm15 an15 cd15 ct15), sl15⟩) (c15 : W.codeIn K cd15 "_law_name" = true) (k15 : W.keepIn K (.ref f15) = true)
    (a16 : W.nsIn K mainGlobals "_law_least" = some (some (.ref f16))) (l16 : K.lookup f16 = some ⟨oc16, od16, .func (W.fnOf "_law_least" "_law_least" (defArgs (top_ 25)) (defBody (top_ 25)) (defScope (top_ 25)) .none kV16 dc16 pm16 an16 cd16 ct16), sl16⟩) (c16 : W.codeIn K cd16 "_law_least" = true) (k16 : W.keepIn K (.ref f16) = true)
    (a17 : W.nsIn K mainGlobals "_law_leaf" = some (some (.ref f17))) (l17 : K.lookup f17 = some ⟨oc17, od17, .func (W.fnOf "_law_leaf" "_law_leaf" (defArgs (top_ 26)) (defBody (top_ 26)) (defScope (top_ 26)) .none kV17 dc17 pm17 an17 cd17 ct17), sl17⟩) (c17 : W.codeIn K cd17 "_law_leaf" = true) (k17 : W.keepIn K (.ref f17) = true)
    (a18 : W.nsIn K mainGlobals "_law_call" = some (some (.ref f18))) (l18 : K.lookup f18 = some ⟨oc18, od18, .func (W.fnOf "_law_call" "_law_call" (defArgs (top_ 27)) (defBody (top_ 27)) (defScope (top_ 27)) .none kV18 dc18 pm18 an18 cd18 ct18), sl18⟩) (c18 : W.codeIn K cd18 "_law_call" = true) (k18 : W.keepIn K (.ref f18) = true)
    (a19 : W.nsIn K mainGlobals "_law_maker" = some (some (.ref f19))) (l19 : K.lookup f19 = some ⟨oc19, od19, .func (W.fnOf "_law_maker" "_law_maker" (defArgs (top_ 28)) (defBody (top_ 28)) (defScope (top_ 28)) .none kV19 dc19 pm19 an19 cd19 ct19), sl19⟩) (c19 : W.codeIn K cd19 "_law_maker" = true) (k19 : W.keepIn K (.ref f19) = true)
    (a20 : W.nsIn K mainGlobals "_law_part" = some (some (.ref f20))) (l20 : K.lookup f20 = some ⟨oc20, od20, .func (W.fnOf "_law_part" "_law_part" (defArgs (top_ 29)) (defBody (top_ 29)) (defScope (top_ 29)) .none kV20 dc20 pm20 an20 cd20 ct20), sl20⟩) (c20 : W.codeIn K cd20 "_law_part" = true) (k20 : W.keepIn K (.ref f20) = true)
    (a21 : W.nsIn K mainGlobals "_law_alike" = some (some (.ref f21))) (l21 : K.lookup f21 = some ⟨oc21, od21, .func (W.fnOf "_law_alike" "_law_alike" (defArgs (top_ 30)) (defBody (top_ 30)) (defScope (top_ 30)) .none kV21 dc21 pm21 an21 cd21 ct21), sl21⟩) (c21 : W.codeIn K cd21 "_law_alike" = true) (k21 : W.keepIn K (.ref f21) = true)
    (a22 : W.nsIn K mainGlobals "_law_heads" = some (some (.ref f22))) (l22 : K.lookup f22 = some ⟨oc22, od22, .func (W.fnOf "_law_heads" "_law_heads" (defArgs (top_ 31)) (defBody (top_ 31)) (defScope (top_ 31)) .none kV22 dc22 pm22 an22 cd22 ct22), sl22⟩) (c22 : W.codeIn K cd22 "_law_heads" = true) (k22 : W.keepIn K (.ref f22) = true)
    (a23 : W.nsIn K mainGlobals "_law_bad_call" = some (some (.ref f23))) (l23 : K.lookup f23 = some ⟨oc23, od23, .func (W.fnOf "_law_bad_call" "_law_bad_call" (defArgs (top_ 32)) (defBody (top_ 32)) (defScope (top_ 32)) .none kV23 dc23 pm23 an23 cd23 ct23), sl23⟩) (c23 : W.codeIn K cd23 "_law_bad_call" = true) (k23 : W.keepIn K (.ref f23) = true)
    (a24 : W.nsIn K mainGlobals "_law_bad" = some (some (.ref f24))) (l24 : K.lookup f24 = some ⟨oc24, od24, .func (W.fnOf "_law_bad" "_law_bad" (defArgs (top_ 33)) (defBody (top_ 33)) (defScope (top_ 33)) .none kV24 dc24 pm24 an24 cd24 ct24), sl24⟩) (c24 : W.codeIn K cd24 "_law_bad" = true) (k24 : W.keepIn K (.ref f24) = true)
    (a25 : W.nsIn K mainGlobals "_law_within" = some (some (.ref f25))) (l25 : K.lookup f25 = some ⟨oc25, od25, .func (W.fnOf "_law_within" "_law_within" (defArgs (top_ 34)) (defBody (top_ 34)) (defScope (top_ 34)) .none kV25 dc25 pm25 an25 cd25 ct25), sl25⟩) (c25 : W.codeIn K cd25 "_law_within" = true) (k25 : W.keepIn K (.ref f25) = true)
    (a26 : W.nsIn K mainGlobals "_law_told" = some (some (.ref f26))) (l26 : K.lookup f26 = some ⟨oc26, od26, .func (W.fnOf "_law_told" "_law_told" (defArgs (top_ 35)) (defBody (top_ 35)) (defScope (top_ 35)) .none kV26 dc26 pm26 an26 cd26 ct26), sl26⟩) (c26 : W.codeIn K cd26 "_law_told" = true) (k26 : W.keepIn K (.ref f26) = true)
    (a27 : W.nsIn K mainGlobals "law" = some (some (.ref f27))) (l27 : K.lookup f27 = some ⟨oc27, od27, .func (W.fnOf "law" "law" (defArgs (top_ 36)) (defBody (top_ 36)) (defScope (top_ 36)) .none kV27 dc27 pm27 an27 cd27 ct27), sl27⟩) (c27 : W.codeIn K cd27 "law" = true) (k27 : W.keepIn K (.ref f27) = true)
    (da0 : W.nsIn K mainGlobals "PARTS_BEHIND" = some (some (.ref dA0))) (dl0 : K.lookup dA0 = some ⟨.type "dict", none, .dict es0 en0, #[]⟩) (dk0 : W.KeysLit w.params es0.toList) (de0 : EnV es0.toList kv0) (ds0 : (dA0 == sysModules) = false)
    (z0 : W.nsIn K mainGlobals "len" = some none) (z1 : W.nsIn K mainGlobals "sum" = some none) (z2 : W.nsIn K mainGlobals "tuple" = some none) (z3 : W.nsIn K mainGlobals "list" = some none) (z4 : W.nsIn K mainGlobals "dict" = some none) (z5 : W.nsIn K mainGlobals "str" = some none) (z6 : W.nsIn K mainGlobals "int" = some none) (z7 : W.nsIn K mainGlobals "all" = some none) (z8 : W.nsIn K mainGlobals "range" = some none) (z9 : W.nsIn K mainGlobals "isinstance" = some none) (z10 : W.nsIn K mainGlobals "bool" = some none) (z11 : W.nsIn K mainGlobals "zip" = some none) :
    ∃ fd : FuncData, (∀ (s : Shared) (v : Value), BindsTo s fd ⟨[v], []⟩ [("_law_script", v)]) /\ ∀ base : Heap, K.In base -> base.Ns mainGlobals mg -> FnOk l.prog w K mg base (CXE l.prog w) 41 fa fd ["_law_script"] (Fg.spLaw K) := by
  have e := hfa.symm.trans (W.mg_of X G a27)
  cases e
  have F0 := fun_mk (st := (top_ 6)) l0 c0 k0
  have F1 := fun_mk (st := (top_ 9)) l1 c1 k1
  have F2 := fun_mk (st := (top_ 10)) l2 c2 k2
  have F3 := fun_mk (st := (top_ 11)) l3 c3 k3
  have F4 := fun_mk (st := (top_ 12)) l4 c4 k4
  have F5 := fun_mk (st := (top_ 13)) l5 c5 k5
  have F6 := fun_mk (st := (top_ 14)) l6 c6 k6
  have F7 := fun_mk (st := (top_ 15)) l7 c7 k7
  have F8 := fun_mk (st := (top_ 16)) l8 c8 k8
  have F9 := fun_mk (st := (top_ 17)) l9 c9 k9
  have F10 := fun_mk (st := (top_ 19)) l10 c10 k10
  have F11 := fun_mk (st := (top_ 20)) l11 c11 k11
  have F12 := fun_mk (st := (top_ 21)) l12 c12 k12
  have F13 := fun_mk (st := (top_ 22)) l13 c13 k13
  have F14 := fun_mk (st := (top_ 23)) l14 c14 k14
  have F15 := fun_mk (st := (top_ 24)) l15 c15 k15
  have F16 := fun_mk (st := (top_ 25)) l16 c16 k16
  have F17 := fun_mk (st := (top_ 26)) l17 c17 k17
  have F18 := fun_mk (st := (top_ 27)) l18 c18 k18
  have F19 := fun_mk (st := (top_ 28)) l19 c19 k19
  have F20 := fun_mk (st := (top_ 29)) l20 c20 k20
  have F21 := fun_mk (st := (top_ 30)) l21 c21 k21
  have F22 := fun_mk (st := (top_ 31)) l22 c22 k22
  have F23 := fun_mk (st := (top_ 32)) l23 c23 k23
  have F24 := fun_mk (st := (top_ 33)) l24 c24 k24
  have F25 := fun_mk (st := (top_ 34)) l25 c25 k25
  have F26 := fun_mk (st := (top_ 35)) l26 c26 k26
  have F27 := fun_mk (st := (top_ 36)) l27 c27 k27
  have b0 := F0.binds (ps := ["part"]) fun _ _ _ _ _ _ us hl => match us, hl with | [_], _ => rfl
  have A0 : FnAt gm prg K 0 1 f0 _ ["part"] := ⟨_, _, _, _, _, F0, gfn0, sc0, rfl, rfl, rfl, rfl, ck0⟩
  have b1 := F1.binds (ps := ["program", "name"]) fun _ _ _ _ _ _ us hl => match us, hl with | [_, _], _ => rfl
  have A1 : FnAt gm prg K 1 2 f1 _ ["program", "name"] := ⟨_, _, _, _, _, F1, gfn1, sc1, rfl, rfl, rfl, rfl, ck1⟩
  have b2 := F2.binds (ps := ["kind", "wanted"]) fun _ _ _ _ _ _ us hl => match us, hl with | [_, _], _ => rfl
  have A2 : FnAt gm prg K 2 2 f2 _ ["kind", "wanted"] := ⟨_, _, _, _, _, F2, gfn2, sc2, rfl, rfl, rfl, rfl, ck2⟩
  have b3 := F3.binds (ps := ["kind", "word"]) fun _ _ _ _ _ _ us hl => match us, hl with | [_, _], _ => rfl
  have A3 : FnAt gm prg K 3 2 f3 _ ["kind", "word"] := ⟨_, _, _, _, _, F3, gfn3, sc3, rfl, rfl, rfl, rfl, ck3⟩
  have b4 := F4.binds (ps := ["program", "name", "kinds"]) fun _ _ _ _ _ _ us hl => match us, hl with | [_, _, _], _ => rfl
  have A4 : FnAt gm prg K 4 3 f4 _ ["program", "name", "kinds"] := ⟨_, _, _, _, _, F4, gfn4, sc4, rfl, rfl, rfl, rfl, ck4⟩
  have b5 := F5.binds (ps := ["word", "kinds"]) fun _ _ _ _ _ _ us hl => match us, hl with | [_, _], _ => rfl
  have A5 : FnAt gm prg K 5 2 f5 _ ["word", "kinds"] := ⟨_, _, _, _, _, F5, gfn5, sc5, rfl, rfl, rfl, rfl, ck5⟩
  have b6 := F6.binds (ps := ["word", "kinds"]) fun _ _ _ _ _ _ us hl => match us, hl with | [_, _], _ => rfl
  have A6 : FnAt gm prg K 6 2 f6 _ ["word", "kinds"] := ⟨_, _, _, _, _, F6, gfn6, sc6, rfl, rfl, rfl, rfl, ck6⟩
  have b7 := F7.binds (ps := ["word", "kinds"]) fun _ _ _ _ _ _ us hl => match us, hl with | [_, _], _ => rfl
  have A7 : FnAt gm prg K 7 2 f7 _ ["word", "kinds"] := ⟨_, _, _, _, _, F7, gfn7, sc7, rfl, rfl, rfl, rfl, ck7⟩
  have b8 := F8.binds (ps := ["program", "names", "part"]) fun _ _ _ _ _ _ us hl => match us, hl with | [_, _, _], _ => rfl
  have A8 : FnAt gm prg K 8 3 f8 _ ["program", "names", "part"] := ⟨_, _, _, _, _, F8, gfn8, sc8, rfl, rfl, rfl, rfl, ck8⟩
  have b9 := F9.binds (ps := ["program", "names", "part"]) fun _ _ _ _ _ _ us hl => match us, hl with | [_, _, _], _ => rfl
  have A9 : FnAt gm prg K 9 3 f9 _ ["program", "names", "part"] := ⟨_, _, _, _, _, F9, gfn9, sc9, rfl, rfl, rfl, rfl, ck9⟩
  have b10 := F10.binds (ps := ["_law_cell"]) fun _ _ _ _ _ _ us hl => match us, hl with | [_], _ => rfl
  have A10 : FnAt gm prg K 10 1 f10 _ ["_law_cell"] := ⟨_, _, _, _, _, F10, gfn10, sc10, rfl, rfl, rfl, rfl, ck10⟩
  have b11 := F11.binds (ps := ["_law_script", "_law_k"]) fun _ _ _ _ _ _ us hl => match us, hl with | [_, _], _ => rfl
  have A11 : FnAt gm prg K 11 2 f11 _ ["_law_script", "_law_k"] := ⟨_, _, _, _, _, F11, gfn11, sc11, rfl, rfl, rfl, rfl, ck11⟩
  have b12 := F12.binds (ps := ["_law_seed", "_law_k"]) fun _ _ _ _ _ _ us hl => match us, hl with | [_, _], _ => rfl
  have A12 : FnAt gm prg K 12 2 f12 _ ["_law_seed", "_law_k"] := ⟨_, _, _, _, _, F12, gfn12, sc12, rfl, rfl, rfl, rfl, ck12⟩
  have b13 := F13.binds (ps := ["_law_pick"]) fun _ _ _ _ _ _ us hl => match us, hl with | [_], _ => rfl
  have A13 : FnAt gm prg K 13 1 f13 _ ["_law_pick"] := ⟨_, _, _, _, _, F13, gfn13, sc13, rfl, rfl, rfl, rfl, ck13⟩
  have b14 := F14.binds (ps := ["_law_kind_here"]) fun _ _ _ _ _ _ us hl => match us, hl with | [_], _ => rfl
  have A14 : FnAt gm prg K 14 1 f14 _ ["_law_kind_here"] := ⟨_, _, _, _, _, F14, gfn14, sc14, rfl, rfl, rfl, rfl, ck14⟩
  have b15 := F15.binds (ps := ["_law_seed", "_law_k"]) fun _ _ _ _ _ _ us hl => match us, hl with | [_, _], _ => rfl
  have A15 : FnAt gm prg K 15 2 f15 _ ["_law_seed", "_law_k"] := ⟨_, _, _, _, _, F15, gfn15, sc15, rfl, rfl, rfl, rfl, ck15⟩
  have b16 := F16.binds (ps := ["_law_kind_here", "_law_seed"]) fun _ _ _ _ _ _ us hl => match us, hl with | [_, _], _ => rfl
  have A16 : FnAt gm prg K 16 2 f16 _ ["_law_kind_here", "_law_seed"] := ⟨_, _, _, _, _, F16, gfn16, sc16, rfl, rfl, rfl, rfl, ck16⟩
  have b17 := F17.binds (ps := ["_law_kind_here", "_law_seed", "_law_names"]) fun _ _ _ _ _ _ us hl => match us, hl with | [_, _, _], _ => rfl
  have A17 : FnAt gm prg K 17 3 f17 _ ["_law_kind_here", "_law_seed", "_law_names"] := ⟨_, _, _, _, _, F17, gfn17, sc17, rfl, rfl, rfl, rfl, ck17⟩
  have b18 := F18.binds (ps := ["_law_kind_here", "_law_seed", "_law_names", "_law_functions", "_law_depth"]) fun _ _ _ _ _ _ us hl => match us, hl with | [_, _, _, _, _], _ => rfl
  have A18 : FnAt gm prg K 18 5 f18 _ ["_law_kind_here", "_law_seed", "_law_names", "_law_functions", "_law_depth"] := ⟨_, _, _, _, _, F18, gfn18, sc18, rfl, rfl, rfl, rfl, ck18⟩
  have b19 := F19.binds (ps := ["_law_kind_here", "_law_seed", "_law_names", "_law_functions", "_law_depth"]) fun _ _ _ _ _ _ us hl => match us, hl with | [_, _, _, _, _], _ => rfl
  have A19 : FnAt gm prg K 19 5 f19 _ ["_law_kind_here", "_law_seed", "_law_names", "_law_functions", "_law_depth"] := ⟨_, _, _, _, _, F19, gfn19, sc19, rfl, rfl, rfl, rfl, ck19⟩
  have b20 := F20.binds (ps := ["_law_kind_here", "_law_seed", "_law_names", "_law_functions", "_law_depth"]) fun _ _ _ _ _ _ us hl => match us, hl with | [_, _, _, _, _], _ => rfl
  have A20 : FnAt gm prg K 20 5 f20 _ ["_law_kind_here", "_law_seed", "_law_names", "_law_functions", "_law_depth"] := ⟨_, _, _, _, _, F20, gfn20, sc20, rfl, rfl, rfl, rfl, ck20⟩
  have b21 := F21.binds (ps := ["_law_found", "_law_due"]) fun _ _ _ _ _ _ us hl => match us, hl with | [_, _], _ => rfl
  have A21 : FnAt gm prg K 21 2 f21 _ ["_law_found", "_law_due"] := ⟨_, _, _, _, _, F21, gfn21, sc21, rfl, rfl, rfl, rfl, ck21⟩
  have b22 := F22.binds (ps := ["_law_seed"]) fun _ _ _ _ _ _ us hl => match us, hl with | [_], _ => rfl
  have A22 : FnAt gm prg K 22 1 f22 _ ["_law_seed"] := ⟨_, _, _, _, _, F22, gfn22, sc22, rfl, rfl, rfl, rfl, ck22⟩
  have b23 := F23.binds (ps := ["_law_program", "_law_seed", "_law_names"]) fun _ _ _ _ _ _ us hl => match us, hl with | [_, _, _], _ => rfl
  have A23 : FnAt gm prg K 23 3 f23 _ ["_law_program", "_law_seed", "_law_names"] := ⟨_, _, _, _, _, F23, gfn23, sc23, rfl, rfl, rfl, rfl, ck23⟩
  have b24 := F24.binds (ps := ["_law_program", "_law_seed", "_law_names"]) fun _ _ _ _ _ _ us hl => match us, hl with | [_, _, _], _ => rfl
  have A24 : FnAt gm prg K 24 3 f24 _ ["_law_program", "_law_seed", "_law_names"] := ⟨_, _, _, _, _, F24, gfn24, sc24, rfl, rfl, rfl, rfl, ck24⟩
  have b25 := F25.binds (ps := ["_law_bad_here", "_law_seed", "_law_names", "_law_program"]) fun _ _ _ _ _ _ us hl => match us, hl with | [_, _, _, _], _ => rfl
  have A25 : FnAt gm prg K 25 4 f25 _ ["_law_bad_here", "_law_seed", "_law_names", "_law_program"] := ⟨_, _, _, _, _, F25, gfn25, sc25, rfl, rfl, rfl, rfl, ck25⟩
  have b26 := F26.binds (ps := ["_law_program", "_law_names", "_law_part_here"]) fun _ _ _ _ _ _ us hl => match us, hl with | [_, _, _], _ => rfl
  have A26 : FnAt gm prg K 26 3 f26 _ ["_law_program", "_law_names", "_law_part_here"] := ⟨_, _, _, _, _, F26, gfn26, sc26, rfl, rfl, rfl, rfl, ck26⟩
  have b27 := F27.binds (ps := ["_law_script"]) fun _ _ _ _ _ _ us hl => match us, hl with | [_], _ => rfl
  have A27 : FnAt gm prg K 27 1 fa _ ["_law_script"] := ⟨_, _, _, _, _, F27, gfn27, sc27, rfl, rfl, rfl, rfl, ck27⟩
  obtain ⟨bm0,ec0,em0⟩ := exc_of xe0
  obtain ⟨bm1,ec1,em1⟩ := exc_of xe1
  obtain ⟨bm2,ec2,em2⟩ := exc_of xe2
  have D : Md gm prg w K mg (fun c => ([] : List Addr)[c]?) (fun c => ([X0,X1,X2] : List Addr)[c]?) := by
    refine ⟨fun x i hx => ?_,fun x hx => ?_,fun f i m hx => ?_,fun c C hx => ?_,fun c nm i m hx => ?_,fun x c i m hx => ?_,fun x c hx => ?_,fun c C hx => ?_,rfl⟩
    . have hm := mem_of_lookup hx
      simp only [gm,List.mem_cons,Prod.mk.injEq,List.not_mem_nil,or_false] at hm
      rcases hm with ⟨rfl,rfl⟩ | ⟨rfl,rfl⟩
      . refine ⟨.ref dA0,_,W.mg_of X G da0,rfl,fun d hd F ρ H => ?_⟩
        cases hd
        simp only [RD]
        exact ⟨dA0,kv0,rfl,.inr ⟨by decide,ds0,by decide +kernel,es0,en0,dl0,dk0,de0⟩,rfl,RDs.cons (by simp only [RD]) (RDs.cons (by simp only [RD]) (RDs.cons (by simp only [RD]) (RDs.cons (by simp only [RD]) (RDs.cons (by simp only [RD]) (RDs.cons (by simp only [RD]) (RDs.cons (by simp only [RD]) (RDs.cons (by simp only [RD]) (RDs.cons (by simp only [RD]) (RDs.cons (by simp only [RD]) (RDs.cons (by simp only [RD]) (RDs.cons (by simp only [RD]) (RDs.nil))))))))))))⟩
      . refine ⟨.ref tA1,_,W.mg_of X G ta1,rfl,fun d hd F ρ H => ?_⟩
        cases hd
        simp only [RD]
        exact ⟨tA1,tv1,rfl,.inr ⟨_,_,_,tl1,rfl,rfl,tz1,tv1_⟩,RDs.cons (by simp only [RD]) (RDs.nil)⟩
    . have hm := List.contains_iff_mem.mp hx
      simp only [gm,List.mem_cons,List.not_mem_nil,or_false] at hm
      rcases hm with rfl | rfl | rfl | rfl | rfl | rfl | rfl | rfl | rfl | rfl | rfl | rfl
      . exact W.mg_none_of X G z0
      . exact W.mg_none_of X G z1
      . exact W.mg_none_of X G z2
      . exact W.mg_none_of X G z3
      . exact W.mg_none_of X G z4
      . exact W.mg_none_of X G z5
      . exact W.mg_none_of X G z6
      . exact W.mg_none_of X G z7
      . exact W.mg_none_of X G z8
      . exact W.mg_none_of X G z9
      . exact W.mg_none_of X G z10
      . exact W.mg_none_of X G z11
    . have hm := mem_of_lookup hx
      simp only [gm,List.mem_cons,Prod.mk.injEq,List.not_mem_nil,or_false] at hm
      rcases hm with ⟨rfl,rfl,rfl⟩ | ⟨rfl,rfl,rfl⟩ | ⟨rfl,rfl,rfl⟩ | ⟨rfl,rfl,rfl⟩ | ⟨rfl,rfl,rfl⟩ | ⟨rfl,rfl,rfl⟩ | ⟨rfl,rfl,rfl⟩ | ⟨rfl,rfl,rfl⟩ | ⟨rfl,rfl,rfl⟩ | ⟨rfl,rfl,rfl⟩ | ⟨rfl,rfl,rfl⟩ | ⟨rfl,rfl,rfl⟩ | ⟨rfl,rfl,rfl⟩ | ⟨rfl,rfl,rfl⟩ | ⟨rfl,rfl,rfl⟩ | ⟨rfl,rfl,rfl⟩ | ⟨rfl,rfl,rfl⟩ | ⟨rfl,rfl,rfl⟩ | ⟨rfl,rfl,rfl⟩ | ⟨rfl,rfl,rfl⟩ | ⟨rfl,rfl,rfl⟩ | ⟨rfl,rfl,rfl⟩ | ⟨rfl,rfl,rfl⟩ | ⟨rfl,rfl,rfl⟩ | ⟨rfl,rfl,rfl⟩ | ⟨rfl,rfl,rfl⟩ | ⟨rfl,rfl,rfl⟩ | ⟨rfl,rfl,rfl⟩
      . exact ⟨f0,_,_,W.mg_of X G a0,k0,b0,A0⟩
      . exact ⟨f1,_,_,W.mg_of X G a1,k1,b1,A1⟩
      . exact ⟨f2,_,_,W.mg_of X G a2,k2,b2,A2⟩
      . exact ⟨f3,_,_,W.mg_of X G a3,k3,b3,A3⟩
      . exact ⟨f4,_,_,W.mg_of X G a4,k4,b4,A4⟩
      . exact ⟨f5,_,_,W.mg_of X G a5,k5,b5,A5⟩
      . exact ⟨f6,_,_,W.mg_of X G a6,k6,b6,A6⟩
      . exact ⟨f7,_,_,W.mg_of X G a7,k7,b7,A7⟩
      . exact ⟨f8,_,_,W.mg_of X G a8,k8,b8,A8⟩
      . exact ⟨f9,_,_,W.mg_of X G a9,k9,b9,A9⟩
      . exact ⟨f10,_,_,W.mg_of X G a10,k10,b10,A10⟩
      . exact ⟨f11,_,_,W.mg_of X G a11,k11,b11,A11⟩
      . exact ⟨f12,_,_,W.mg_of X G a12,k12,b12,A12⟩
      . exact ⟨f13,_,_,W.mg_of X G a13,k13,b13,A13⟩
      . exact ⟨f14,_,_,W.mg_of X G a14,k14,b14,A14⟩
      . exact ⟨f15,_,_,W.mg_of X G a15,k15,b15,A15⟩
      . exact ⟨f16,_,_,W.mg_of X G a16,k16,b16,A16⟩
      . exact ⟨f17,_,_,W.mg_of X G a17,k17,b17,A17⟩
      . exact ⟨f18,_,_,W.mg_of X G a18,k18,b18,A18⟩
      . exact ⟨f19,_,_,W.mg_of X G a19,k19,b19,A19⟩
      . exact ⟨f20,_,_,W.mg_of X G a20,k20,b20,A20⟩
      . exact ⟨f21,_,_,W.mg_of X G a21,k21,b21,A21⟩
      . exact ⟨f22,_,_,W.mg_of X G a22,k22,b22,A22⟩
      . exact ⟨f23,_,_,W.mg_of X G a23,k23,b23,A23⟩
      . exact ⟨f24,_,_,W.mg_of X G a24,k24,b24,A24⟩
      . exact ⟨f25,_,_,W.mg_of X G a25,k25,b25,A25⟩
      . exact ⟨f26,_,_,W.mg_of X G a26,k26,b26,A26⟩
      . exact ⟨fa,_,_,W.mg_of X G a27,k27,b27,A27⟩
    . match c,hx with
      | n,hx => simp at hx
    . have hm := mem_of_lookup hx
      simp [gm] at hm
    . have hm := mem_of_lookup hx
      simp [gm] at hm
    . have hm := mem_of_lookup hx
      simp only [gm,List.mem_cons,Prod.mk.injEq,List.not_mem_nil,or_false] at hm
      rcases hm with ⟨rfl,rfl⟩ | ⟨rfl,rfl⟩ | ⟨rfl,rfl⟩
      . exact ⟨X0,W.mg_of X G xa0,rfl⟩
      . exact ⟨X1,W.mg_of X G xa1,rfl⟩
      . exact ⟨X2,W.mg_of X G xa2,rfl⟩
    . match c,hx with
      | 0,hx =>
        cases hx
        refine ⟨_,_,bm0,_,_,ec0,PySem.F.excBase_ValueError,base_of (em0 _ _ xb0),fun d D hd => ?_⟩
        match d,hd with
        | 0,hd => cases hd; exact (em0 _ _ xm0_0).trans rfl
        | 1,hd => cases hd; exact (em0 _ _ xm0_1).trans rfl
        | 2,hd => cases hd; exact (em0 _ _ xm0_2).trans rfl
        | m + 3,hd => simp at hd
      | 1,hx =>
        cases hx
        refine ⟨_,_,bm1,_,_,ec1,PySem.F.excBase_ValueError,base_of (em1 _ _ xb1),fun d D hd => ?_⟩
        match d,hd with
        | 0,hd => cases hd; exact (em1 _ _ xm1_0).trans rfl
        | 1,hd => cases hd; exact (em1 _ _ xm1_1).trans rfl
        | 2,hd => cases hd; exact (em1 _ _ xm1_2).trans rfl
        | m + 3,hd => simp at hd
      | 2,hx =>
        cases hx
        refine ⟨_,_,bm2,_,_,ec2,PySem.F.excBase_ValueError,base_of (em2 _ _ xb2),fun d D hd => ?_⟩
        match d,hd with
        | 0,hd => cases hd; exact (em2 _ _ xm2_0).trans rfl
        | 1,hd => cases hd; exact (em2 _ _ xm2_1).trans rfl
        | 2,hd => cases hd; exact (em2 _ _ xm2_2).trans rfl
        | m + 3,hd => simp at hd
      | n + 3,hx => simp at hx
  refine ⟨(W.fnOf "law" "law" (defArgs (top_ 36)) (defBody (top_ 36)) (defScope (top_ 36)) .none kV27 dc27 pm27 an27 cd27 ct27), fun s v => .of_eq rfl, fun base _ _ => ?_⟩
  exact law_ok (k := 40) D law_true F27 gfn27 sc27 rfl rfl rfl rfl ck27
theorem walk {l : W.OpenLaw} {q : Program} {loose : List Str} {XP : (Str -> Option Value) -> Heap -> Prop} {YP : World -> Heap -> Prop} {d : DefRec} {K : Params -> W.Frag} (hn : l.most = some 63) (hdf : d.params.defaults = [])
    (hY : ∀ (w : World) (h : Heap),YP w h -> (K w.params).In h)
    (F : ∀ (w : World) (mg : Str -> Option Value) (fa : Addr) (h : Heap),(K w.params).In h -> h.Ns mainGlobals mg -> mg d.name = some (.ref fa) ->
      ∃ fd : FuncData, (∀ (s : Shared) (u : Value), BindsTo s fd ⟨[u], []⟩ [("_law_script", u)]) /\ ∀ base : Heap, (K w.params).In base -> base.Ns mainGlobals mg -> FnOk l.prog w (K w.params) mg base (CXE l.prog w) 41 fa fd ["_law_script"] (Fg.spLaw (K w.params))) :
    W.WalkO q loose XP YP l.row.toRowW d [] (fun f vs => PySem.call f vs) :=
  L2.walk_of (n := 63) (k := 41) (x := "_law_script") (CX := fun w => CXE l.prog w) (sp := fun w => Fg.spLaw (K w.params)) hn (by decide) hdf ⟨rfl, by decide, by decide⟩ hY F (fun _ _ a ns hl _ hS => ⟨a, ns, rfl, hS, hl, fun _ => rfl⟩) fun _ _ _ _ _ ⟨_, _, _, _, _, _, _, _, _, _, _, _, z⟩ => z
end K03
end
section
open PySem PySem.W PyProof.Rows
set_option maxRecDepth 100000 in
set_option maxHeartbeats 0 in
theorem PySem.Challenge.cw_fieldgate_k03_kind_of_holds : PySem.Challenge.rw_fieldgate_k03_kind_of.Holds := by
  w_on; o_law; k_head; (case hw => w_witness2)
  k_fill
  refine K03.walk (l := PySem.Challenge.rw_fieldgate_k03_kind_of) rfl rfl (fun w h Y => PySem.W.kIn_of Y) ?F
  case F =>
    intro w mg fa h KX G hmg
    refine' K03.all_mk KX G hmg ?xa0 ?xe0 ?xb0 ?xa1 ?xe1 ?xb1 ?xa2 ?xe2 ?xb2 ?xm0_0 ?xm0_1 ?xm0_2 ?xm1_0 ?xm1_1 ?xm1_2 ?xm2_0 ?xm2_1 ?xm2_2 ?ta1 ?tl1 ?tz1 ?tv1_ ?a0 ?l0 ?c0 ?k0 ?a1 ?l1 ?c1 ?k1 ?a2 ?l2 ?c2 ?k2 ?a3 ?l3 ?c3 ?k3 ?a4 ?l4 ?c4 ?k4 ?a5 ?l5 ?c5 ?k5 ?a6 ?l6 ?c6 ?k6 ?a7 ?l7 ?c7 ?k7 ?a8 ?l8 ?c8 ?k8 ?a9 ?l9 ?c9 ?k9 ?a10 ?l10 ?c10 ?k10 ?a11 ?l11 ?c11 ?k11 ?a12 ?l12 ?c12 ?k12 ?a13 ?l13 ?c13 ?k13 ?a14 ?l14 ?c14 ?k14 ?a15 ?l15 ?c15 ?k15 ?a16 ?l16 ?c16 ?k16 ?a17 ?l17 ?c17 ?k17 ?a18 ?l18 ?c18 ?k18 ?a19 ?l19 ?c19 ?k19 ?a20 ?l20 ?c20 ?k20 ?a21 ?l21 ?c21 ?k21 ?a22 ?l22 ?c22 ?k22 ?a23 ?l23 ?c23 ?k23 ?a24 ?l24 ?c24 ?k24 ?a25 ?l25 ?c25 ?k25 ?a26 ?l26 ?c26 ?k26 ?a27 ?l27 ?c27 ?k27 ?da0 ?dl0 ?dk0 ?de0 ?ds0 ?z0 ?z1 ?z2 ?z3 ?z4 ?z5 ?z6 ?z7 ?z8 ?z9 ?z10 ?z11
    (case xa0 => k_is)
    (case xe0 => k_exc)
    (case xb0 => k_is)
    (case xa1 => k_is)
    (case xe1 => k_exc)
    (case xb1 => k_is)
    (case xa2 => k_is)
    (case xe2 => k_exc)
    (case xb2 => k_is)
    (case xm0_0 => k_is)
    (case xm0_1 => k_is)
    (case xm0_2 => k_is)
    (case xm1_0 => k_is)
    (case xm1_1 => k_is)
    (case xm1_2 => k_is)
    (case xm2_0 => k_is)
    (case xm2_1 => k_is)
    (case xm2_2 => k_is)
    (case ta1 => k_is)
    (case tl1 => k_is)
    (case tz1 => decide)
    (case tv1_ => exact .cons ⟨_,rfl⟩ (.nil))
    (case a0 => k_is)
    (case l0 => k_is)
    (case c0 => k_is)
    (case k0 => k_is)
    (case a1 => k_is)
    (case l1 => k_is)
    (case c1 => k_is)
    (case k1 => k_is)
    (case a2 => k_is)
    (case l2 => k_is)
    (case c2 => k_is)
    (case k2 => k_is)
    (case a3 => k_is)
    (case l3 => k_is)
    (case c3 => k_is)
    (case k3 => k_is)
    (case a4 => k_is)
    (case l4 => k_is)
    (case c4 => k_is)
    (case k4 => k_is)
    (case a5 => k_is)
    (case l5 => k_is)
    (case c5 => k_is)
    (case k5 => k_is)
    (case a6 => k_is)
    (case l6 => k_is)
    (case c6 => k_is)
    (case k6 => k_is)
    (case a7 => k_is)
    (case l7 => k_is)
    (case c7 => k_is)
    (case k7 => k_is)
    (case a8 => k_is)
    (case l8 => k_is)
    (case c8 => k_is)
    (case k8 => k_is)
    (case a9 => k_is)
    (case l9 => k_is)
    (case c9 => k_is)
    (case k9 => k_is)
    (case a10 => k_is)
    (case l10 => k_is)
    (case c10 => k_is)
    (case k10 => k_is)
    (case a11 => k_is)
    (case l11 => k_is)
    (case c11 => k_is)
    (case k11 => k_is)
    (case a12 => k_is)
    (case l12 => k_is)
    (case c12 => k_is)
    (case k12 => k_is)
    (case a13 => k_is)
    (case l13 => k_is)
    (case c13 => k_is)
    (case k13 => k_is)
    (case a14 => k_is)
    (case l14 => k_is)
    (case c14 => k_is)
    (case k14 => k_is)
    (case a15 => k_is)
    (case l15 => k_is)
    (case c15 => k_is)
    (case k15 => k_is)
    (case a16 => k_is)
    (case l16 => k_is)
    (case c16 => k_is)
    (case k16 => k_is)
    (case a17 => k_is)
    (case l17 => k_is)
    (case c17 => k_is)
    (case k17 => k_is)
    (case a18 => k_is)
    (case l18 => k_is)
    (case c18 => k_is)
    (case k18 => k_is)
    (case a19 => k_is)
    (case l19 => k_is)
    (case c19 => k_is)
    (case k19 => k_is)
    (case a20 => k_is)
    (case l20 => k_is)
    (case c20 => k_is)
    (case k20 => k_is)
    (case a21 => k_is)
    (case l21 => k_is)
    (case c21 => k_is)
    (case k21 => k_is)
    (case a22 => k_is)
    (case l22 => k_is)
    (case c22 => k_is)
    (case k22 => k_is)
    (case a23 => k_is)
    (case l23 => k_is)
    (case c23 => k_is)
    (case k23 => k_is)
    (case a24 => k_is)
    (case l24 => k_is)
    (case c24 => k_is)
    (case k24 => k_is)
    (case a25 => k_is)
    (case l25 => k_is)
    (case c25 => k_is)
    (case k25 => k_is)
    (case a26 => k_is)
    (case l26 => k_is)
    (case c26 => k_is)
    (case k26 => k_is)
    (case a27 => k_is)
    (case l27 => k_is)
    (case c27 => k_is)
    (case k27 => k_is)
    (case da0 => k_is)
    (case dl0 => k_is)
    (case dk0 => k_keys)
    (case de0 => exact .cons ⟨_,rfl⟩ (.cons ⟨_,rfl⟩ (.cons ⟨_,rfl⟩ (.cons ⟨_,rfl⟩ (.cons ⟨_,rfl⟩ (.cons ⟨_,rfl⟩ (.cons ⟨_,rfl⟩ (.cons ⟨_,rfl⟩ (.cons ⟨_,rfl⟩ (.cons ⟨_,rfl⟩ (.cons ⟨_,rfl⟩ (.cons ⟨_,rfl⟩ (.nil)))))))))))))
    (case ds0 => first | rfl | decide)
    (case z0 => k_is)
    (case z1 => k_is)
    (case z2 => k_is)
    (case z3 => k_is)
    (case z4 => k_is)
    (case z5 => k_is)
    (case z6 => k_is)
    (case z7 => k_is)
    (case z8 => k_is)
    (case z9 => k_is)
    (case z10 => k_is)
    (case z11 => k_is)
end
