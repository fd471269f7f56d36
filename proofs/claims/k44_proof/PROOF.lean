import PyProof.Rows.All
import Wide.All
import OpenK.AllK
import Wide.FinOn
import Lean
import PyProof.EqAt
import PyProof.EqKinds
import PyProof.TupleCall
import PyProof.NeKinds
import PyProof.CompFree
import PyProof.ListRange
import PyProof.Rows.FStr
import PyProof.ConsumeWalk
import PyProof.ZipIter
import PyProof.TableCode
import PySem.Challenge.RW_fieldgate_k44_gone
set_option maxRecDepth 100000
set_option linter.all false
set_option Elab.async false
section
namespace L2
open PySem
noncomputable def inClass (s : Stmt) (j : Nat) : Stmt := match s with
 | .ClassDef _ _ _ body _ _ _ _ _ _ _ => body.getD j (.Pass ⟨0,0,0,0⟩)
 | _ => .Pass ⟨0,0,0,0⟩
noncomputable def iG (s : Stmt) : Arguments := match s with
 | .FunctionDef _ a _ _ _ _ _ _ _ _ => a
 | _ => { posonlyargs := [],args := [],vararg := none,kwonlyargs := [],kw_defaults := [],kwarg := none,defaults := [] }
noncomputable def bX (s : Stmt) : List Stmt := match s with
 | .FunctionDef _ _ b _ _ _ _ _ _ _ => b
 | _ => []
noncomputable def aD (s : Stmt) : Scope := match s with
 | .FunctionDef _ _ _ _ _ _ sc _ _ _ => sc
 | _ => { kind := .function,names := [],isGenerator := false,isCoroutine := false }
end L2
end
section
namespace Fg
open PySem
abbrev Ky := Sum Int Str
inductive D where
 | ak
 | bl (b : Bool)
 | int (i : Int)
 | str (x : Str)
 | tup (ds : List D)
 | lst (ds : List D)
 | dct (ks : List Ky) (ds : List D)
 | ref (n : Nat)
mutual
def same (a b : D) : Bool := match a with
 | .ak => match b with | .ak => true | _ => false
 | .bl x => match b with | .bl y => decide (x = y) | _ => false
 | .int x => match b with | .int y => decide (x = y) | _ => false
 | .str x => match b with | .str y => decide (x = y) | _ => false
 | .tup x => match b with | .tup y => fq x y | _ => false
 | .lst x => match b with | .lst y => fq x y | _ => false
 | .dct k x => match b with | .dct l y => decide (k = l) && fq x y | _ => false
 | .ref x => match b with | .ref y => decide (x = y) | _ => false
def fq (a b : List D) : Bool := match a with
 | [] => match b with | [] => true | _ => false
 | x :: xs => match b with | y :: ys => same x y && fq xs ys | _ => false
end
mutual
theorem sy : ∀ (a b : D),same a b = true -> a = b
 | .ak,b,h => by cases b <;> simp [same] at h ⊢
 | .bl x,b,h => by cases b <;> simp [same] at h ⊢; exact h
 | .int x,b,h => by cases b <;> simp [same] at h ⊢; exact h
 | .str x,b,h => by cases b <;> simp [same] at h ⊢; exact h
 | .tup x,b,h => by cases b <;> simp [same] at h ⊢; exact gR _ _ h
 | .lst x,b,h => by cases b <;> simp [same] at h ⊢; exact gR _ _ h
 | .dct k x,b,h => by cases b <;> simp [same] at h ⊢; exact ⟨h.1,gR _ _ h.2⟩
 | .ref x,b,h => by cases b <;> simp [same] at h ⊢; exact h
theorem gR : ∀ (a b : List D),fq a b = true -> a = b
 | [],b,h => by cases b <;> simp [fq] at h ⊢
 | x :: xs,b,h => by
  cases b with
  | nil => simp [fq] at h
  | cons y ys => simp only [fq,Bool.and_eq_true] at h; rw [sy x y h.1,gR xs ys h.2]
end
mutual
theorem same_refl : ∀ (a : D),same a a = true
 | .ak => by simp [same]
 | .bl x => by simp [same]
 | .int x => by simp [same]
 | .str x => by simp [same]
 | .tup x => by simp only [same]; exact dS x
 | .lst x => by simp only [same]; exact dS x
 | .dct k x => by simp only [same,dS x]; simp
 | .ref x => by simp [same]
theorem dS : ∀ (a : List D),fq a a = true
 | [] => by simp [fq]
 | x :: xs => by simp only [fq,same_refl x,dS xs,Bool.and_self]
end
instance : DecidableEq D := fun a b => decidable_of_iff (same a b = true) ⟨sy a b,fun h => h ▸ same_refl a⟩
inductive MO where
 | lst (ds : List D)
 | dct (kvs : List (Ky × D))
 | pI (kvs : List (Ky × D))
 | ins (c : Nat) (fs : List (Str × D))
 deriving DecidableEq
noncomputable abbrev MH := List MO
noncomputable abbrev Sg := List (Option D)
inductive R (α : Type) where
 | ok (a : α) (M : MH)
 | exc (c : Nat) (M : MH)
 | bad
noncomputable def R.bind {α β : Type} (x : R α) (f : α -> MH -> R β) : R β :=
 match x with
 | .ok a M => f a M
 | .exc c M => .exc c M
 | .bad => .bad
@[simp] theorem R.af {α β : Type} (a : α) (M : MH) (f : α -> MH -> R β) : (R.ok a M).bind f = f a M := rfl
@[simp] theorem R.kK {α β : Type} (c : Nat) (M : MH) (f : α -> MH -> R β) : (R.exc c M : R α).bind f = .exc c M := rfl
@[simp] theorem R.iI {α β : Type} (f : α -> MH -> R β) : (R.bad : R α).bind f = .bad := rfl
inductive B3 where
 | add | sub | mul | fdiv | mod | pow
inductive zk where
 | eq | ne | lt | le | gt | ge | isin | oQ | xQ | qC
inductive Ty where
 | int | str | bool | list | tuple | dict
inductive Bl where
 | len | sum | tuple | list | dict | str | int | abs | max | min | sorted | all | any | repr
inductive Mt where
 | append | extend | pop | reverse | clear | get | join | startswith | replace | split | index | count
inductive F1 where
 | abs | int
mutual
inductive E where
 | v (i : Nat)
 | k (d : D)
 | g (i : Nat)
 | tup (es : Es)
 | lst (fz : Bool) (es : Es)
 | BD
 | op (o : B3) (fz : Bool) (a b : E)
 | neg (a : E)
 | cmp (o : zk) (a b : E)
 | chain (o o' : zk) (a b c : E)
 | and (a b : E)
 | or (a b : E)
 | not (a : E)
 | tru (a : E)
 | y9 (c a b : E)
 | idx (a b : E)
 | sl (fz : Bool) (a : E) (lo hi : O)
 | call (f : Nat) (es : Es)
 | vg (a : E) (t : Ty)
 | blt (b : Bl) (fz : Bool) (es : Es)
 | bK (m : Mt) (fz : Bool) (a : E) (es : Es)
 | comp (fz : Bool) (caps : List Nat) (tg : List Nat) (elt : E) (it : Src) (cond : O)
 | fld (a : E) (f : Str)
 | cF (c m : Nat) (nm : Str) (a : E) (es : Es)
 | new (c i : Nat) (es : Es)
 | mx (hi : Bool) (a b : E)
 | Kc (fz : Bool) (a b : E)
 | all1 (a : E)
 | x8 (f : F1) (a : E)
 | gp (f : Nat) (es : Es) (d : Int)
 | bad
inductive Es where
 | nil
 | cons (e : E) (es : Es)
inductive O where
 | none
 | some (e : E)
inductive Src where
 | e (a : E)
 | gK (a : E)
 | DJ (a b : E)
 | enum (a : E)
 | items (a : E)
 | rev (a : E)
 | zip (a b : E)
end
mutual
inductive S where
 | set (i : Nat) (e : E)
 | kP (a b e : E)
 | bJ (a : E) (f : Str) (e : E)
 | Dh (tg : List Nat) (e : E)
 | ex (e : E)
 | ret (e : E)
 | DK
 | ifs (c : E) (a b : Ss)
 | for (tg : List Nat) (it : Src) (b : Ss)
 | while (c : E) (b : Ss)
 | brk
 | cont
 | pass
 | raise (c : Nat) (es : Es)
 | try (b : Ss) (hs : Hs) (els : Ss)
 | bad
inductive Ss where
 | nil
 | cons (s : S) (ss : Ss)
inductive Hs where
 | nil
 | cons (cs : List Nat) (b : Ss) (hs : Hs)
end
inductive Out where
 | nx (σ : Sg)
 | rt (d : D)
 | bk (σ : Sg)
 | ct (σ : Sg)
 | xc (c : Nat) (σ : Sg)
noncomputable def R.use {α : Type} (x : R α) (σ : Sg) (f : α -> MH -> R Out) : R Out :=
 match x with
 | .ok a M => f a M
 | .exc c M => .ok (.xc c σ) M
 | .bad => .bad
@[simp] theorem R.fm {α : Type} (a : α) (M : MH) (σ : Sg) (f : α -> MH -> R Out) : (R.ok a M).use σ f = f a M := rfl
@[simp] theorem R.rR {α : Type} (c : Nat) (M : MH) (σ : Sg) (f : α -> MH -> R Out) : (R.exc c M : R α).use σ f = .ok (.xc c σ) M := rfl
@[simp] theorem R.JV {α : Type} (σ : Sg) (f : α -> MH -> R Out) : (R.bad : R α).use σ f = .bad := rfl
inductive Vw where
 | tup (ds : List D)
 | lst (ds : List D)
 | dct (kvs : List (Ky × D))
 | none
noncomputable def vw (M : MH) : D -> Vw
 | .tup ds => .tup ds
 | .lst ds => .lst ds
 | .dct ks ds => .dct (ks.zip ds)
 | .ref n => match M[n]? with
  | some (.lst ds) => .lst ds
  | some (.dct kvs) => .dct kvs
  | some (.pI kvs) => .dct kvs
  | _ => .none
 | _ => .none
noncomputable def line : Nat := 1000000
noncomputable def small (i : Int) : Bool := decide (i.natAbs < 18446744073709551616)
noncomputable def jx : B3 -> Int -> Int -> Option Int
 | .add,i,j => some (i + j)
 | .sub,i,j => some (i - j)
 | .mul,i,j => if small i || small j then some (i * j) else none
 | .fdiv,i,j => if decide (0 < j) && decide (j.natAbs < 1073741824) then some (i / j) else none
 | .mod,i,j => if decide (0 < j) then some (i % j) else none
 | .pow,i,j => if decide (0 <= j) && (decide (j <= 1000000) && decide (i.natAbs < 18446744073709551616)) then some (i ^ j.toNat) else none
noncomputable def cK (fz : Bool) (ds : List D) (M : MH) : R D := if fz then .ok (.lst ds) M else .ok (.ref M.length) (M ++ [.lst ds])
noncomputable def uE (o : B3) (fz : Bool) (M : MH) : D -> D -> R D
 | .int i,.int j => match jx o i j with
  | some k => .ok (.int k) M
  | none => .bad
 | .str x,.str y => match o with
  | .add => if decide (x.length + y.length <= line) then .ok (.str (x ++ y)) M else .bad
  | _ => .bad
 | a, b => match o with
  | .add => match vw M a,vw M b with
   | .lst xs,.lst ys => if decide (xs.length + ys.length <= line) then cK fz (xs ++ ys) M else .bad
   | .tup xs,.tup ys => if !xs.isEmpty && decide (xs.length + ys.length <= line) then .ok (.tup (xs ++ ys)) M else .bad
   | _,_ => .bad
  | .mul => match vw M a,b with
   | .lst xs,.int k => if decide (xs.length * k.toNat <= line) && decide (k.natAbs <= 1000000) then cK fz (List.replicate k.toNat xs).flatten M else .bad
   | _,_ => .bad
  | _ => .bad
mutual
noncomputable def plain : D -> Bool
 | .ak => true
 | .bl _ => false
 | .int _ => true
 | .str _ => true
 | .tup ds => bD ds
 | .lst ds => bD ds
 | .dct _ _ => false
 | .ref _ => false
noncomputable def bD : List D -> Bool
 | [] => true
 | d :: ds => plain d && bD ds
end
mutual
noncomputable def dep : D -> Nat
 | .tup ds => deps ds + 1
 | .lst ds => deps ds + 1
 | .dct _ ds => deps ds + 1
 | .ak => 0
 | .bl _ => 0
 | .int _ => 0
 | .str _ => 0
 | .ref _ => 0
noncomputable def deps : List D -> Nat
 | [] => 0
 | d :: ds => max (dep d) (deps ds)
end
mutual
noncomputable def aI : D -> D -> Bool
 | .ak,.ak => true
 | .bl a,.bl b => a == b
 | .int a,.int b => decide (a = b)
 | .str a,.str b => decide (a = b)
 | .tup a,.tup b => dI a b
 | .lst a,.lst b => dI a b
 | _,_ => false
noncomputable def dI : List D -> List D -> Bool
 | [],[] => true
 | a :: as,b :: bs => aI a b && dI as bs
 | _,_ => false
end
noncomputable def keyOf : D -> Option Ky
 | .int i => some (.inl i)
 | .str x => some (.inr x)
 | _ => none
noncomputable def Ke : Ky -> D
 | .inl i => .int i
 | .inr x => .str x
noncomputable def look (kvs : List (Ky × D)) (k : Ky) : Option D := (kvs.find? fun kv => decide (kv.1 = k)).map (·.2)
noncomputable def put (kvs : List (Ky × D)) (k : Ky) (v : D) : List (Ky × D) :=
 if kvs.any (fun kv => decide (kv.1 = k)) then kvs.map fun kv => if kv.1 = k then (kv.1,v) else kv else kvs ++ [(k,v)]
noncomputable def top (M : MH) : D -> D
 | .ref n => match M[n]? with
  | some (.lst ds) => .lst ds
  | _ => .ref n
 | d => d
noncomputable def flat : D -> Bool
 | .ak => true
 | .int _ => true
 | .str _ => true
 | _ => false
noncomputable def cS (a b : D) : Bool := (plain a && plain b) && (decide (dep a <= 100) || decide (dep b <= 100))
noncomputable def mK (M : MH) (a b : D) : Option Bool := match vw M a,vw M b with
 | .lst xs,.lst ys => if ys.isEmpty then some xs.isEmpty else none
 | _,_ => none
noncomputable def rA (M : MH) (f : Int -> Int -> Bool) (a b : D) : R D := match a with
 | .int i => (match b with | .int j => .ok (.bl (f i j)) M | _ => .bad)
 | _ => .bad
noncomputable def KP (M : MH) (a b : D) : R D := if cS (top M a) (top M b) then .ok (.bl (aI (top M a) (top M b))) M else (match mK M a b with | some t => .ok (.bl t) M | none => .bad)
noncomputable def wQ (M : MH) (a b : D) : R D := if cS (top M a) (top M b) then .ok (.bl (!aI (top M a) (top M b))) M else (match mK M a b with | some t => .ok (.bl (!t)) M | none => .bad)
noncomputable def dw : D -> Bool
 | .ak => true
 | _ => false
noncomputable def BV (a b : D) : Option (Bool × Bool) := match a with
 | .bl x => (match b with | .bl y => some (x,y) | _ => none)
 | _ => none
noncomputable def FE (M : MH) (a b : D) : Option Bool := match vw M b with
 | .dct kvs => (match keyOf a with | some k => some (look kvs k).isSome | none => none)
 | .lst ds => if flat a && ds.all flat then some (ds.any fun d => aI d a) else none
 | .tup ds => if flat a && ds.all flat then some (ds.any fun d => aI d a) else none
 | .none => none
noncomputable def cj (o : zk) (M : MH) (a b : D) : R D :=
 match o with
 | .lt => rA M (fun i j => decide (i < j)) a b
 | .le => rA M (fun i j => decide (i <= j)) a b
 | .gt => rA M (fun i j => decide (j < i)) a b
 | .ge => rA M (fun i j => decide (j <= i)) a b
 | .eq => (match BV a b with | some p => .ok (.bl (p.1 == p.2)) M | none => KP M a b)
 | .ne => (match BV a b with | some p => .ok (.bl (!(p.1 == p.2))) M | none => wQ M a b)
 | .xQ => if dw b then .ok (.bl (dw a)) M else .bad
 | .qC => if dw b then .ok (.bl (!dw a)) M else .bad
 | .isin => (match FE M a b with | some t => .ok (.bl t) M | none => .bad)
 | .oQ => (match FE M a b with | some t => .ok (.bl (!t)) M | none => .bad)
noncomputable def yZ (n : Nat) (i : Int) : Option Nat := if 0 <= i then (if i < n then some i.toNat else none) else if -(n : Int) <= i then some (i + n).toNat else none
noncomputable def cB {α : Type} (xs : List α) (i : Int) : Option α := (yZ xs.length i).bind fun j => xs[j]?
noncomputable def six (n d : Nat) : Option Int -> Nat
 | none => d
 | some v => if v < 0 then (v + (n : Int)).toNat else min v.toNat n
noncomputable def fY {α : Type} (xs : List α) (lo hi : Option Int) : List α := (xs.drop (six xs.length 0 lo)).take (six xs.length xs.length hi - six xs.length 0 lo)
noncomputable def cuts (x : Str) (lo hi : Option Int) : Str := ⟨(fY x.cps.toList lo hi).toArray⟩
noncomputable def mS (M : MH) (a b : D) : R D :=
 match a,b with
 | .str x,.int i => if decide (x.length <= line) then (match cB x.cps.toList i with
  | some c => .ok (.str ⟨#[c]⟩) M
  | none => .bad) else .bad
 | a, b => match vw M a, b with
  | .tup ds,.int i => match cB ds i with
   | some d => .ok d M
   | none => .bad
  | .lst ds,.int i => match cB ds i with
   | some d => .ok d M
   | none => .bad
  | .dct kvs,b => match keyOf b with
   | some k => match look kvs k with
    | some d => .ok d M
    | none => .bad
   | none => .bad
  | _,_ => .bad
noncomputable def CL (n : Nat) (lo hi : Option Int) : Bool := decide (six n 0 lo = 0) && decide (six n n hi = n)
noncomputable def sl2 (fz : Bool) (M : MH) (a : D) (lo hi : Option Int) : R D :=
 match a with
 | .str x => if decide (x.length <= line) then .ok (.str (cuts x lo hi)) M else .bad
 | a => match vw M a with
  | .tup ds => if CL ds.length lo hi then .bad else .ok (.tup (fY ds lo hi)) M
  | .lst ds => cK fz (fY ds lo hi) M
  | _ => .bad
noncomputable def FD (M : MH) (t : Ty) : D -> Bool
 | .int _ => match t with | .int => true | _ => false
 | .bl _ => match t with | .int => true | .bool => true | _ => false
 | .str _ => match t with | .str => true | _ => false
 | .tup _ => match t with | .tuple => true | _ => false
 | .lst _ => match t with | .list => true | _ => false
 | .dct _ _ => match t with | .dict => true | _ => false
 | .ak => false
 | .ref n => match M[n]? with
  | some (.lst _) => (match t with | .list => true | _ => false)
  | some (.dct _) => (match t with | .dict => true | _ => false)
  | some (.pI _) => (match t with | .dict => true | _ => false)
  | _ => false
noncomputable def wK (M : MH) : D -> Bool
 | .ref n => match M[n]? with
  | some (.lst _) => true
  | some (.dct _) => true
  | some (.pI _) => true
  | _ => false
 | _ => true
noncomputable def intsOf : List D -> Option (List Int)
 | [] => some []
 | .int i :: ds => (intsOf ds).map (i :: ·)
 | _ => none
noncomputable def boolsOf : List D -> Option (List Bool)
 | [] => some []
 | .bl b :: ds => (boolsOf ds).map (b :: ·)
 | _ => none
noncomputable def uT : F1 -> D -> Option D
 | .abs,.int i => some (.int (if i < 0 then -i else i))
 | .int,.bl b => some (.int (if b then 1 else 0))
 | .int,.int i => some (.int i)
 | _,_ => none
noncomputable def itemsOf (M : MH) (d : D) : Option (List D) :=
 match d with
 | .str _ => none
 | .dct _ _ => none
 | d => match vw M d with
  | .tup ds => some ds
  | .lst ds => some ds
  | .dct kvs => some (kvs.map fun kv => Ke kv.1)
  | .none => none
noncomputable def wk (M : MH) : D -> Bool
 | .ref n => match M[n]? with
  | some (.dct _) => true
  | _ => false
 | _ => false
noncomputable def walk (M : MH) : D -> MH
 | .ref n => match M[n]? with
  | some (.dct kvs) => M.set n (.pI kvs)
  | _ => M
 | _ => M
noncomputable def c6 (b : Bool) (d : D) (M : MH) : MH := match b,d with
 | true,.ref n => match M[n]? with
  | some (.pI kvs) => M.set n (.dct kvs)
  | _ => M
 | _,_ => M
noncomputable def R.fin {α : Type} (x : R α) (f : MH -> MH) : R α := match x with
 | .ok a M => .ok a (f M)
 | .exc c M => .exc c (f M)
 | .bad => .bad
noncomputable def yP (b : Bl) (fz : Bool) (M : MH) : List D -> R D
 | [.str x] => match b with
  | .len => if decide (x.length <= line) then .ok (.int x.length) M else .bad
  | _ => .bad
 | [d] => match b,vw M d with
  | .len,.tup ds => .ok (.int ds.length) M
  | .len,.lst ds => .ok (.int ds.length) M
  | .len,.dct kvs => .ok (.int kvs.length) M
  | .sum,.lst ds => match intsOf ds with
   | some ns => .ok (.int ns.sum) M
   | none => .bad
  | .tuple,.lst ds => .ok (.tup ds) M
  | .tuple,.tup ds => .ok (.tup ds) M
  | .list,.lst ds => cK fz ds M
  | .list,.tup ds => cK fz ds M
  | .dict,.dct kvs => .ok (.ref M.length) (M ++ [.dct kvs])
  | _,_ => .bad
 | _ => .bad
noncomputable def Bg : D -> Option (List D)
 | .tup ds => some ds
 | .lst ds => some ds
 | _ => none
noncomputable def vq : D -> Option (List D)
 | .tup ds => some ds
 | _ => none
noncomputable def sM : D -> Option (List D)
 | .lst ds => some ds
 | _ => none
theorem AR {d : D} {ds : List D} (h : sM d = some ds) : d = .lst ds := by
 cases d <;> first | (cases h; rfl) | cases h
theorem zo {d : D} {ds : List D} (h : vq d = some ds) : d = .tup ds := by
 cases d <;> first | (cases h; rfl) | cases h
noncomputable def gh (M : MH) (a : D) : Option (Nat × List D) := match a with
 | .ref n => (match M[n]? with | some (.lst xs) => some (n,xs) | _ => none)
 | _ => none
theorem b5 {M : MH} {n : Nat} {xs : List D} (h : M[n]? = some (.lst xs)) : gh M (.ref n) = some (n,xs) := by simp only [gh,h]
theorem jI {M : MH} {a : D} {p : Nat × List D} (h : gh M a = some p) : a = .ref p.1 /\ M[p.1]? = some (.lst p.2) := by
 cases a with
 | ref n =>
  simp only [gh] at h
  split at h
  ·rename_i xs hx; cases h; exact ⟨rfl,hx⟩
  ·cases h
 | _ => cases h
noncomputable def uF (ds : List D) (k : D -> R D) : R D := match ds with
 | d :: r => (match r with | [] => k d | _ :: _ => .bad)
 | [] => .bad
noncomputable def mL (m : Mt) (M : MH) (n : Nat) (xs ds : List D) : R D := match m with
 | .append => uF ds fun d => if decide (xs.length < line) then .ok .ak (M.set n (.lst (xs ++ [d]))) else .bad
 | .extend => uF ds fun d => (match vq d with
  | some ys => if decide (xs.length + ys.length <= line) then .ok .ak (M.set n (.lst (xs ++ ys))) else .bad
  | none => .bad)
 | .pop => if ds.isEmpty then (match xs[xs.length - 1]? with
  | some d => .ok d (M.set n (.lst xs.dropLast))
  | none => .bad) else .bad
 | .reverse => if ds.isEmpty then .ok .ak (M.set n (.lst xs.reverse)) else .bad
 | .clear => if ds.isEmpty then .ok .ak (M.set n (.lst [])) else .bad
 | _ => .bad
noncomputable def fU (m : Mt) (fz : Bool) (M : MH) (a : D) (ds : List D) : R D := match gh M a with
 | some p => mL m M p.1 p.2 ds
 | none => .bad
noncomputable def mO (m : Mt) (M : MH) (a : D) : Bool := (gh M a).isSome && (match m with | .append => true | .extend => true | .pop => true | .reverse => true | .clear => true | _ => false)
noncomputable def mq (M : MH) (a b d : D) : R Unit :=
 match a with
 | .ref n => match M[n]?,b with
  | some (.lst xs),.int i => match yZ xs.length i with
   | some j => .ok () (M.set n (.lst (xs.set j d)))
   | none => .bad
  | some (.dct kvs),b => match keyOf b with
   | some k => if decide (kvs.length < line) then .ok () (M.set n (.dct (put kvs k d))) else .bad
   | none => .bad
  | _,_ => .bad
 | _ => .bad
noncomputable def sets (tg : List Nat) (M : MH) (d : D) (σ : Sg) : Option Sg :=
 match tg with
 | [i] => some (σ.set i (some d))
 | [i,j] => match d with
  | .tup [x,y] => some ((σ.set i (some x)).set j (some y))
  | _ => none
 | _ => none
noncomputable def aP (M : MH) (d : D) (M' : MH) : Bool := match d with
 | .ref n => decide (M'[n]? = M[n]?)
 | _ => true
noncomputable def b6 (body : Sg -> MH -> R Out) (tg : List Nat) (eZ : MH -> Bool) : List D -> Sg -> MH -> R Out
 | [],σ,M => .ok (.nx σ) M
 | d :: ds,σ,M => match sets tg M d σ with
  | none => .bad
  | some σ1 => (body σ1 M).bind fun o M1 => match o with
   | .nx σ2 => if eZ M1 then b6 body tg eZ ds σ2 M1 else .bad
   | .ct σ2 => if eZ M1 then b6 body tg eZ ds σ2 M1 else .bad
   | .bk σ2 => .ok (.nx σ2) M1
   | .rt r => .ok (.rt r) M1
   | .xc c σ2 => .ok (.xc c σ2) M1
noncomputable def bf (c : Sg -> MH -> R D) (body : Sg -> MH -> R Out) : Nat -> Sg -> MH -> R Out
 | 0,_,_ => .bad
 | n + 1,σ,M => (c σ M).use σ fun t M0 => match t with
  | .bl false => .ok (.nx σ) M0
  | .bl true => (body σ M0).bind fun o M1 => match o with
   | .nx σ2 => bf c body n σ2 M1
   | .ct σ2 => bf c body n σ2 M1
   | .bk σ2 => .ok (.nx σ2) M1
   | .rt r => .ok (.rt r) M1
   | .xc c σ2 => .ok (.xc c σ2) M1
  | _ => .bad
noncomputable def bw (cond : Sg -> MH -> R D) (elt : Sg -> MH -> R D) (tg : List Nat) (eZ : MH -> Bool) : List D -> Sg -> MH -> List D -> R (List D)
 | [],_,M,acc => .ok acc M
 | d :: ds,σ,M,acc => match sets tg M d σ with
  | none => .bad
  | some σ1 => (cond σ1 M).bind fun t M1 => match t with
   | .bl true => (elt σ1 M1).bind fun x M2 => if eZ M2 then (if decide (acc.length < line) then bw cond elt tg eZ ds σ1 M2 (acc ++ [x]) else .bad) else .bad
   | .bl false => if eZ M1 then bw cond elt tg eZ ds σ1 M1 acc else .bad
   | _ => .bad
noncomputable def bE (f : Str) (v : D) : List (Str × D) -> List (Str × D)
 | [] => [(f,v)]
 | (g,x) :: r => if g = f then (g,v) :: r else (g,x) :: bE f v r
structure aQ where
 call : Nat -> List D -> MH -> R D
 ini : Nat -> List D -> MH -> R D
 glob : Nat -> Option D
 turns : Nat
 sub : Nat -> Nat -> Bool
noncomputable def nC (σ : Sg) (caps : List Nat) : Sg := caps.map fun i => (σ[i]?).join
noncomputable def tU : D -> Option Int
 | .int i => some i
 | _ => none
noncomputable def qB (j : Int) : Bool := decide (j.natAbs <= 1000000)
noncomputable def eS (a b : Int) : List D := (List.range (b - a).toNat).map fun (i : Nat) => D.int (a + (i : Int))
noncomputable def GP (ds es : List D) : List D := (ds.zip es).map fun p => .tup [p.1,p.2]
mutual
noncomputable def ev (Φ : aQ) : E -> Sg -> MH -> R D
 | .v i,σ,M => match σ[i]? with
  | some (some d) => .ok d M
  | _ => .bad
 | .k d,_,M => .ok d M
 | .g i,_,M => match Φ.glob i with
  | some d => .ok d M
  | none => .bad
 | .tup es,σ,M => (cA Φ es σ M).bind fun ds M1 => .ok (.tup ds) M1
 | .lst fz es,σ,M => (cA Φ es σ M).bind fun ds M1 => cK fz ds M1
 | .BD,_,M => .ok (.ref M.length) (M ++ [.dct []])
 | .op o fz a b,σ,M => (ev Φ a σ M).bind fun x M1 => (ev Φ b σ M1).bind fun y M2 => uE o fz M2 x y
 | .neg a,σ,M => (ev Φ a σ M).bind fun x M1 => match x with
  | .int i => .ok (.int (-i)) M1
  | _ => .bad
 | .cmp o a b,σ,M => (ev Φ a σ M).bind fun x M1 => (ev Φ b σ M1).bind fun y M2 => cj o M2 x y
 | .chain o o' a b c,σ,M => (ev Φ a σ M).bind fun x M1 => (ev Φ b σ M1).bind fun y M2 => (cj o M2 x y).bind fun t M3 => match t with
  | .bl true => (ev Φ c σ M3).bind fun z M4 => cj o' M4 y z
  | .bl false => .ok (.bl false) M3
  | _ => .bad
 | .and a b,σ,M => (ev Φ a σ M).bind fun x M1 => match x with
  | .bl true => (ev Φ b σ M1)
  | .bl false => .ok (.bl false) M1
  | _ => .bad
 | .or a b,σ,M => (ev Φ a σ M).bind fun x M1 => match x with
  | .bl true => .ok (.bl true) M1
  | .bl false => (ev Φ b σ M1)
  | _ => .bad
 | .not a,σ,M => (ev Φ a σ M).bind fun x M1 => match x with
  | .bl b => .ok (.bl (!b)) M1
  | _ => .bad
 | .tru a,σ,M => .bad
 | .y9 c a b,σ,M => (ev Φ c σ M).bind fun x M1 => match x with
  | .bl true => ev Φ a σ M1
  | .bl false => ev Φ b σ M1
  | _ => .bad
 | .idx a b,σ,M => (ev Φ a σ M).bind fun x M1 => (ev Φ b σ M1).bind fun y M2 => mS M2 x y
 | .sl fz a lo hi,σ,M => (ev Φ a σ M).bind fun x M1 => (Br Φ lo σ M1).bind fun l M2 => (Br Φ hi σ M2).bind fun h M3 => sl2 fz M3 x l h
 | .call f es,σ,M => (cA Φ es σ M).bind fun ds M1 => Φ.call f ds M1
 | .vg a t,σ,M => (ev Φ a σ M).bind fun x M1 => if wK M1 x then .ok (.bl (FD M1 t x)) M1 else .bad
 | .blt b fz es,σ,M => (cA Φ es σ M).bind fun ds M1 => yP b fz M1 ds
 | .bK m fz a es,σ,M => (ev Φ a σ M).bind fun x M1 => if mO m M1 x then (cA Φ es σ M1).bind fun ds M2 => fU m fz M2 x ds else .bad
 | .comp fz caps tg elt it cond,σ,M => (bP Φ it σ M).bind fun p M1 =>
   ((bw (nQ Φ cond) (ev Φ elt) tg (aP M1 p.1) p.2.1 (nC σ caps ++ List.replicate tg.length none) M1 []).fin (c6 p.2.2 p.1)).bind fun ds M2 => cK fz ds M2
 | .fld a f,σ,M => (ev Φ a σ M).bind fun x M1 => match x with
  | .ref n => match M1[n]? with
   | some (.ins _ fs) => match fs.lookup f with
    | some d => .ok d M1
    | none => .bad
   | _ => .bad
  | _ => .bad
 | .cF c m nm a es,σ,M => (ev Φ a σ M).bind fun x M1 => match x with
  | .ref n => match M1[n]? with
   | some (.ins c' fs) => if decide (c' = c) && (fs.lookup nm).isNone then (cA Φ es σ M1).bind fun ds M2 => Φ.call m (.ref n :: ds) M2 else .bad
   | _ => .bad
  | _ => .bad
 | .new c i es,σ,M => (cA Φ es σ M).bind fun ds M1 => (Φ.ini i (.ref M1.length :: ds) (M1 ++ [.ins c []])).bind fun r M2 => match r with
  | .ak => .ok (.ref M1.length) M2
  | _ => .bad
 | .mx hi a b,σ,M => (ev Φ a σ M).bind fun x M1 => (ev Φ b σ M1).bind fun y M2 => match x,y with
  | .int i,.int j => .ok (.int (if hi then (if j > i then j else i) else (if j < i then j else i))) M2
  | _,_ => .bad
 | .Kc fz a b,σ,M => (ev Φ a σ M).bind fun x M1 => (ev Φ b σ M1).bind fun y M2 => match x,y with
  | .int i,.int j => if qB i && (qB j && decide ((j - i).toNat <= line)) then cK fz (eS i j) M2 else .bad
  | _,_ => .bad
 | .all1 a,σ,M => (ev Φ a σ M).bind fun x M1 => match vw M1 x with
  | .lst ds => match boolsOf ds with
   | some bs => .ok (.bl (bs.all id)) M1
   | none => .bad
  | _ => .bad
 | .x8 f a,σ,M => (ev Φ a σ M).bind fun x M1 => match uT f x with
  | some d => .ok d M1
  | none => .bad
 | .gp f es d,σ,M => (cA Φ es σ M).bind fun ds M1 => Φ.call f (ds ++ [.int d]) M1
 | .bad,_,_ => .bad
noncomputable def cA (Φ : aQ) : Es -> Sg -> MH -> R (List D)
 | .nil,_,M => .ok [] M
 | .cons e es,σ,M => (ev Φ e σ M).bind fun x M1 => (cA Φ es σ M1).bind fun xs M2 => .ok (x :: xs) M2
noncomputable def Br (Φ : aQ) : O -> Sg -> MH -> R (Option Int)
 | .none,_,M => .ok none M
 | .some e,σ,M => (ev Φ e σ M).bind fun x M1 => match x with
  | .int i => .ok (some i) M1
  | _ => .bad
noncomputable def nQ (Φ : aQ) : O -> Sg -> MH -> R D
 | .none,_,M => .ok (.bl true) M
 | .some e,σ,M => ev Φ e σ M
noncomputable def bP (Φ : aQ) : Src -> Sg -> MH -> R (D × List D × Bool)
 | .e a,σ,M => (ev Φ a σ M).bind fun x M1 => match itemsOf M1 x with
  | some ds => .ok (x,ds,wk M1 x) (walk M1 x)
  | none => .bad
 | .gK a,σ,M => (ev Φ a σ M).bind fun x M1 => match x with
  | .int j => if qB j then .ok (.ak,eS 0 j,false) M1 else .bad
  | _ => .bad
 | .DJ a b,σ,M => (ev Φ a σ M).bind fun x M1 => (ev Φ b σ M1).bind fun y M2 => match tU x,tU y with
  | some i,some j => if qB i && qB j then .ok (.ak,eS i j,false) M2 else .bad
  | _,_ => .bad
 | .enum a,σ,M => .bad
 | .items a,σ,M => .bad
 | .rev a,σ,M => (ev Φ a σ M).bind fun x M1 => match sM x with
  | some ds => .ok (.ak,ds.reverse,false) M1
  | none => .bad
 | .zip a b,σ,M => (ev Φ a σ M).bind fun x M1 => (ev Φ b σ M1).bind fun y M2 => match Bg x,Bg y with
  | some ds,some es => .ok (.ak,GP ds es,false) M2
  | _,_ => .bad
end
noncomputable def bL : D -> Bool
 | .str x => decide (x.length <= 100000)
 | .int i => decide (i.natAbs < 18446744073709551616)
 | _ => false
noncomputable def Bt (Φ : aQ) : Es -> Sg -> MH -> R Unit
 | .nil,_,M => .ok () M
 | .cons e es,σ,M => (ev Φ e σ M).bind fun x M1 => if bL x then Bt Φ es σ M1 else .bad
mutual
noncomputable def ex (Φ : aQ) : S -> Sg -> MH -> R Out
 | .set i e,σ,M => (ev Φ e σ M).use σ fun x M1 => .ok (.nx (σ.set i (some x))) M1
 | .kP a b e,σ,M => (ev Φ e σ M).use σ fun x M1 => (ev Φ a σ M1).use σ fun y M2 => (ev Φ b σ M2).use σ fun z M3 => (mq M3 y z x).use σ fun _ M4 => .ok (.nx σ) M4
 | .bJ a f e,σ,M => (ev Φ e σ M).use σ fun x M1 => (ev Φ a σ M1).use σ fun y M2 => match y with
  | .ref n => match M2[n]? with
   | some (.ins c fs) => if decide (fs.length < 1000) then .ok (.nx σ) (M2.set n (.ins c (bE f x fs))) else .bad
   | _ => .bad
  | _ => .bad
 | .Dh tg e,σ,M => (ev Φ e σ M).use σ fun x M1 => match sets tg M1 x σ with
  | some σ1 => .ok (.nx σ1) M1
  | none => .bad
 | .ex e,σ,M => (ev Φ e σ M).use σ fun _ M1 => .ok (.nx σ) M1
 | .ret e,σ,M => (ev Φ e σ M).use σ fun x M1 => .ok (.rt x) M1
 | .DK,_,M => .ok (.rt .ak) M
 | .ifs c a b,σ,M => (ev Φ c σ M).use σ fun t M1 => match t with
  | .bl true => exs Φ a σ M1
  | .bl false => exs Φ b σ M1
  | _ => .bad
 | .for tg it b,σ,M => (bP Φ it σ M).use σ fun p M1 => (b6 (exs Φ b) tg (aP M1 p.1) p.2.1 σ M1).fin (c6 p.2.2 p.1)
 | .while c b,σ,M => bf (ev Φ c) (exs Φ b) Φ.turns σ M
 | .brk,σ,M => .ok (.bk σ) M
 | .cont,σ,M => .ok (.ct σ) M
 | .pass,σ,M => .ok (.nx σ) M
 | .raise c es,σ,M => (Bt Φ es σ M).use σ fun _ M1 => .ok (.xc c σ) M1
 | .try b hs els,σ,M => (exs Φ b σ M).bind fun o M1 => match o with
  | .nx σ1 => exs Φ els σ1 M1
  | .xc c σ1 => zc Φ hs c σ1 M1
  | o => .ok o M1
 | .bad,_,_ => .bad
noncomputable def exs (Φ : aQ) : Ss -> Sg -> MH -> R Out
 | .nil,σ,M => .ok (.nx σ) M
 | .cons s ss,σ,M => (ex Φ s σ M).bind fun o M1 => match o with
  | .nx σ1 => exs Φ ss σ1 M1
  | o => .ok o M1
noncomputable def zc (Φ : aQ) : Hs -> Nat -> Sg -> MH -> R Out
 | .nil,_,_,_ => .bad
 | .cons cs b hs,c,σ,M => if cs.any (fun d => Φ.sub c d) then exs Φ b σ M else zc Φ hs c σ M
end
mutual
noncomputable def nr (m : Nat) : D -> Bool
 | .ref n => decide (n < m)
 | .tup ds => fc m ds
 | .lst ds => fc m ds
 | .dct _ ds => fc m ds
 | .ak => true
 | .bl _ => true
 | .int _ => true
 | .str _ => true
noncomputable def fc (m : Nat) : List D -> Bool
 | [] => true
 | d :: ds => nr m d && fc m ds
end
structure Fn where
 np : Nat
 ns : Nat
 kI : List D
 keep : Bool
 body : Ss
noncomputable def eU (keep : Bool) (M : MH) (d : D) (M' : MH) : R D :=
 if keep = false /\ M'.take M.length = M then
  (if nr M.length d then .ok d M else match d with
   | .ref k => match M'[k]? with
    | some (.lst ds) => if fc M.length ds then .ok (.lst ds) M else .ok d M'
    | _ => .ok d M'
   | _ => .ok d M')
 else .ok d M'
noncomputable def oH (M : MH) (c : Nat) (M' : MH) : R D := if M'.take M.length = M then .exc c M else .exc c M'
structure lX where
 fn : Nat -> Option Fn
 glob : Nat -> Option D
 turns : Nat
 sub : Nat -> Nat -> Bool
noncomputable def kQ (Φ : aQ) (f : Fn) (ds : List D) (M : MH) : R D :=
 if decide (ds.length <= f.np) && decide (f.np <= ds.length + f.kI.length) then
  match exs Φ f.body ((ds ++ f.kI.drop (ds.length + f.kI.length - f.np)).map some ++ List.replicate (f.ns - f.np) none) M with
  | .ok (.rt d) M' => eU f.keep M d M'
  | .ok (.nx _) M' => eU f.keep M .ak M'
  | .ok (.xc c _) M' => oH M c M'
  | _ => .bad
 else .bad
noncomputable def aa (P : lX) : Nat -> aQ
 | 0 => ⟨fun _ _ _ => .bad,fun _ _ _ => .bad,P.glob,P.turns,P.sub⟩
 | k + 1 => ⟨fun f ds M => match P.fn f with
  | some fn => kQ (aa P k) fn ds M
  | none => .bad,(aa P k).call,P.glob,P.turns,P.sub⟩
end Fg
end
section
set_option autoImplicit false
namespace Fg
open PySem PySem.Spec L2
noncomputable def ED : Nat -> List Obj -> W.Frag
 | _,[] => []
 | n,o :: os => bif o.alive then (n,o) :: ED (n + 1) os else ED (n + 1) os
theorem wL : ∀ {os : List Obj} {n a : Nat} {o : Obj},(ED n os).lookup a = some o -> n <= a /\ os[a - n]? = some o /\ o.alive = true
 | [],_,_,_,h => by cases h
 | x :: os,n,a,o,h => by
  have up : (ED (n + 1) os).lookup a = some o -> n <= a /\ (x :: os)[a - n]? = some o /\ o.alive = true := fun h => by
   obtain ⟨h1,h2,h3⟩ := wL h
   refine ⟨by omega,?_,h3⟩
   rw [show a - n = (a - (n + 1)) + 1 by omega,List.getElem?_cons_succ]
   exact h2
  unfold ED at h
  cases hx : x.alive with
  | false => rw [hx] at h; exact up h
  | true =>
   rw [hx] at h
   replace h : ((n,x) :: ED (n + 1) os).lookup a = some o := h
   rw [List.lookup_cons] at h
   cases e : a == n with
   | true =>
    rw [e] at h
    cases h
    have := beq_iff_eq.mp e
    subst this
    exact ⟨Nat.le_refl _,by simp,hx⟩
   | false =>
    rw [e] at h
    exact up h
noncomputable def allOf (h : Heap) : W.Frag := ED 0 h.objs.toList
theorem yU (h : Heap) : (allOf h).In h := fun a o e => by
 obtain ⟨_,h1,h2⟩ := wL e
 rw [Nat.sub_zero,Array.getElem?_toList] at h1
 exact (Heap.get?_eq_some h a o).mpr ⟨h1,h2⟩
structure Row where
 x : Str
 ql : Str
 st : Stmt
 ps : List Str
 N : List Str
 i : Nat
 kI : Option Int := none
structure Tb where
 fn : List Row
 cl : List Str
 mt : List (Nat × Row)
 xc : List Str
 cs : List (Str × Nat × Int)
 bl : List Str
 fl : List Str
noncomputable def adr (K : W.Frag) (x : Str) : Option Addr := match W.nsIn K mainGlobals x with
 | some (some (.ref a)) => some a
 | _ => none
noncomputable def i7 (K : W.Frag) : Value -> Option (Option Int)
 | .none => some none
 | .ref T => (match K.lookup T with
  | some ⟨_,_,.seq its _,_⟩ => (match its.toList with
   | [.int d _] => some (some d)
   | _ => none)
  | _ => none)
 | _ => none
noncomputable abbrev yX := Str × Str × Arguments × FuncBody × Scope × Addr × List (Str × Addr) × Addr × Option (Option Int) × Bool
noncomputable def o5 (K : W.Frag) (f : Addr) : Option yX := match K.lookup f with
 | some ⟨_,_,.func fd,_⟩ => some (fd.name,fd.qualname,fd.params,fd.body,fd.scope,fd.globals,fd.closure,fd.builtins,i7 K fd.defaults,W.codeIn K fd.code fd.qualname)
 | _ => none
noncomputable def Row.good (r : Row) : yX := (r.x,r.ql,iG r.st,.stmts (bX r.st),aD r.st,mainGlobals,[],builtinsNs,some r.kI,true)
noncomputable abbrev GB := Bool × Bool × Bool × Option (Option Value) × Bool × Bool × List (Option (Option Value))
noncomputable def nA (t : Tb) (K : W.Frag) (C : Addr) : GB := (W.plainGet K C Str.empty, W.hasDictIn K C, W.plainOver K C, W.findIn K (.ref C) "__setattr__", W.makesIn K C, W.keepIn K (.ref C), t.fl.map (W.findIn K (.ref C)))
noncomputable def jN (t : Tb) : GB := (true, true, true, some (some (.builtin "object.__setattr__")), true, true, t.fl.map fun _ => some none)
noncomputable def w5 (t : Tb) (K : W.Frag) (r : Nat × Row) : Option (yX × Bool) := ((t.cl[r.1]?).bind (adr K)).bind fun C => match W.findIn K (.ref C) r.2.x with
 | some (some (.ref f)) => (o5 K f).map fun z => (z,W.isFn K (.ref f))
 | _ => none
noncomputable abbrev JK := Bool × Option Bool × List (Option Bool)
noncomputable def BMV : List Value := [.type "ValueError", .type "Exception", .type "BaseException", .type "object"]
noncomputable def yc (t : Tb) (K : W.Frag) (X : Addr) : JK := (W.excIn K X BMV "ValueError.__new__", W.mroIn K X (.type "BaseException"), t.xc.map fun y => (adr K y).bind fun Y => W.mroIn K X (.ref Y))
noncomputable def yv (K : W.Frag) (x : Str) : Option Int := match W.nsIn K mainGlobals x with
 | some (some (.int n _)) => some n
 | _ => none
noncomputable abbrev Gv := List (Option yX) × List (Option GB) × List (Option (yX × Bool)) × List (Option JK) × List (Option Int) × List (Option (Option Value))
noncomputable def Tb.su (t : Tb) (K : W.Frag) : Gv := (t.fn.map fun r => (adr K r.x).bind (o5 K),t.cl.map fun x => (adr K x).map (nA t K),t.mt.map (w5 t K),t.xc.zipIdx.map fun x => (adr K x.1).map (yc t K),t.cs.map fun c => yv K c.1,t.bl.map (W.nsIn K mainGlobals))
noncomputable def Tb.good (t : Tb) (P : lX) : Gv := (t.fn.map fun r => some r.good,t.cl.map fun _ => some (jN t),t.mt.map fun r => some (r.2.good,true),t.xc.zipIdx.map fun x => some (true,some true,t.xc.zipIdx.map fun y => some (P.sub x.2 y.2)),t.cs.map fun c => some c.2.2,t.bl.map fun _ => some none)
noncomputable def Tb.hook (t : Tb) (P : lX) : W.Hook := ⟨Gv,fun s => t.su (allOf s.heap),fun _ => t.good P,fun _ h => ∃ K : W.Frag,K.In h /\ t.su K = t.good P,fun _ s e => ⟨_,yU s.heap,e⟩,fun _ _ _ ⟨K,X,e⟩ k => ⟨K,X.keeps k,e⟩⟩
end Fg
end
section
namespace bR
open Fg
noncomputable def jA : List PySem.Str := ["value"]
noncomputable def iV : Fn := ⟨1,1,[],false,
 (.cons (.ifs (.vg (.v 0) .tuple) (.cons (.ret (.idx (.v 0) (.k (.int 1))))
 .nil) .nil)
 (.cons (.ret (.k (.int 1)))
 .nil))⟩
noncomputable def jD : List PySem.Str := ["word", "first", "second", "size"]
noncomputable def fS : Fn := ⟨3,4,[],false,
 (.cons (.set 3 (.op .add true (.op .add true (.k (.int 1)) (.call 0 (.cons (.v 1) .nil))) (.call 0 (.cons (.v 2) .nil))))
 (.cons (.ifs (.cmp .gt (.v 3) (.g 0)) (.cons (.raise 1 (.cons (.v 0) (.cons (.v 3) .nil)))
 .nil) .nil)
 (.cons (.ret (.tup (.cons (.v 0) (.cons (.v 3) (.cons (.v 1) (.cons (.v 2) .nil))))))
 .nil)))⟩
noncomputable def dc : List PySem.Str := ["number"]
noncomputable def gy : Fn := ⟨1,1,[],false,
 (.cons (.ifs (.cmp .ge (.x8 .abs (.v 0)) (.op .pow true (.k (.int 10)) (.k (.int 60)))) (.cons (.raise 1 .nil)
 .nil) .nil)
 .nil)⟩
noncomputable def iW : List PySem.Str := ["word", "first", "second", "number"]
noncomputable def qW : Fn := ⟨3,4,[],false,
 (.cons (.ifs (.cmp .eq (.v 0) (.k (.str "less"))) (.cons (.ret (.y9 (.cmp .lt (.v 1) (.v 2)) (.k (.int 1)) (.k (.int 0))))
 .nil) .nil)
 (.cons (.ifs (.cmp .eq (.v 0) (.k (.str "plus"))) (.cons (.set 3 (.op .add true (.v 1) (.v 2)))
 .nil) (.cons (.ifs (.cmp .eq (.v 0) (.k (.str "minus"))) (.cons (.set 3 (.op .sub true (.v 1) (.v 2)))
 .nil) (.cons (.set 3 (.op .mul true (.v 1) (.v 2)))
 .nil))
 .nil))
 (.cons (.ex (.call 2 (.cons (.v 3) .nil)))
 (.cons (.ret (.v 3))
 .nil))))⟩
noncomputable def ie : List PySem.Str := ["word", "value"]
noncomputable def jj : Fn := ⟨2,2,[],false,
 (.cons (.ifs (.cmp .xQ (.v 1) (.k .ak)) (.cons (.raise 2 (.cons (.v 0) .nil))
 .nil) .nil)
 (.cons (.ifs (.cmp .isin (.v 0) (.tup (.cons (.k (.str "first")) (.cons (.k (.str "head")) .nil)))) (.cons (.ret (.idx (.v 1) (.k (.int 2))))
 .nil) .nil)
 (.cons (.ret (.idx (.v 1) (.k (.int 3))))
 .nil)))⟩
noncomputable def mZ : List PySem.Str := ["value", "members"]
noncomputable def x9 : Fn := ⟨1,2,[],false,
 (.cons (.ifs (.vg (.v 0) .int) (.cons (.ret (.v 0))
 .nil) .nil)
 (.cons (.ifs (.and (.cmp .qC (.v 0) (.k .ak)) (.cmp .eq (.idx (.v 0) (.k (.int 0))) (.k (.str "pair")))) (.cons (.ret (.tup (.cons (.call 5 (.cons (.idx (.v 0) (.k (.int 2))) .nil)) (.cons (.call 5 (.cons (.idx (.v 0) (.k (.int 3))) .nil)) .nil))))
 .nil) .nil)
 (.cons (.set 1 (.lst false .nil))
 (.cons (.while (.cmp .qC (.v 0) (.k .ak)) (.cons (.ex (.bK .append true (.v 1) (.cons (.call 5 (.cons (.idx (.v 0) (.k (.int 2))) .nil)) .nil)))
 (.cons (.set 0 (.idx (.v 0) (.k (.int 3))))
 .nil)))
 (.cons (.ret (.v 1))
 .nil)))))⟩
noncomputable def d8 : List PySem.Str := ["begun", "under_way", "most"]
noncomputable def dD : Fn := ⟨3,3,[],false,
 (.cons (.ifs (.cmp .gt (.op .add true (.v 0) (.k (.int 1))) (.v 2)) (.cons (.raise 3 .nil)
 .nil) .nil)
 (.cons (.ifs (.cmp .gt (.op .add true (.v 1) (.k (.int 1))) (.g 1)) (.cons (.raise 4 (.cons (.g 1) .nil))
 .nil) .nil)
 .nil))⟩
noncomputable def o9 : List PySem.Str := ["code", "numbers", "most", "machine", "outer", "value", "field"]
noncomputable def lJ : Fn := ⟨3,7,[],false,
 (.cons (.set 3 (.new 1 9 (.cons (.idx (.v 0) (.k (.int 0))) (.cons (.v 2) .nil))))
 (.cons (.set 4 (.comp true [3] [1] (.cF 1 10 "open_field" (.v 0) .nil) (.gK (.idx (.v 0) (.k (.int 2)))) .none))
 (.cons (.ex (.bK .append true (.fld (.v 3) "frames") (.cons (.new 0 8 (.cons (.blt .list false (.cons (.v 1) .nil)) (.cons (.blt .list false (.cons (.v 4) .nil)) (.cons (.k .ak) .nil)))) .nil)))
 (.cons (.bJ (.v 3) "place" (.idx (.v 0) (.k (.int 1))))
 (.cons (.while (.cmp .ne (.fld (.v 3) "frames") (.lst true .nil)) (.cons (.ex (.cF 1 19 "step" (.v 3) .nil))
 .nil))
 (.cons (.set 5 (.cF 1 21 "answer" (.v 3) .nil))
 (.cons (.for [6] (.rev (.v 4)) (.cons (.ex (.cF 1 11 "shut_field" (.v 3) (.cons (.v 6) .nil)))
 .nil))
 (.cons (.ret (.tup (.cons (.v 5) (.cons (.fld (.v 3) "log") .nil))))
 .nil))))))))⟩
noncomputable def ez : List PySem.Str := ["self", "known", "fields", "behind_call"]
noncomputable def dH : Fn := ⟨4,4,[],false,
 (.cons (.bJ (.v 0) "known" (.v 1))
 (.cons (.bJ (.v 0) "fields" (.v 2))
 (.cons (.bJ (.v 0) "behind_call" (.v 3))
 .nil)))⟩
noncomputable def dg : List PySem.Str := ["self", "rows", "most"]
noncomputable def cQ : Fn := ⟨3,3,[],false,
 (.cons (.bJ (.v 0) "rows" (.v 1))
 (.cons (.bJ (.v 0) "most" (.v 2))
 (.cons (.bJ (.v 0) "begun" (.k (.int 0)))
 (.cons (.bJ (.v 0) "place" (.k (.int 0)))
 (.cons (.bJ (.v 0) "pile" (.lst false .nil))
 (.cons (.bJ (.v 0) "frames" (.lst false .nil))
 (.cons (.bJ (.v 0) "lies_open" (.lst false .nil))
 (.cons (.bJ (.v 0) "log" (.lst false .nil))
 .nil))))))))⟩
noncomputable def cP : List PySem.Str := ["self", "field"]
noncomputable def cg : Fn := ⟨1,2,[],false,
 (.cons (.set 1 (.blt .len true (.cons (.fld (.v 0) "lies_open") .nil)))
 (.cons (.ex (.bK .append true (.fld (.v 0) "lies_open") (.cons (.k (.bl true)) .nil)))
 (.cons (.ex (.bK .append true (.fld (.v 0) "log") (.cons (.tup (.cons (.k (.str "open")) (.cons (.v 1) .nil))) .nil)))
 (.cons (.ret (.v 1))
 .nil))))⟩
noncomputable def cO : List PySem.Str := ["self", "field"]
noncomputable def b9 : Fn := ⟨2,2,[],false,
 (.cons (.kP (.fld (.v 0) "lies_open") (.v 1) (.k (.bl false)))
 (.cons (.ex (.bK .append true (.fld (.v 0) "log") (.cons (.tup (.cons (.k (.str "shut")) (.cons (.v 1) .nil))) .nil)))
 .nil))⟩
noncomputable def cU : List PySem.Str := ["self", "field"]
noncomputable def cz : Fn := ⟨2,2,[],false,
 (.cons (.ifs (.not (.idx (.fld (.v 0) "lies_open") (.v 1))) (.cons (.raise 5 (.cons (.v 1) .nil))
 .nil) .nil)
 .nil)⟩
noncomputable def fX : List PySem.Str := ["self", "word", "field", "second", "first", "cell"]
noncomputable def gk : Fn := ⟨3,6,[],false,
 (.cons (.set 3 (.bK .pop true (.fld (.v 0) "pile") .nil))
 (.cons (.set 4 (.bK .pop true (.fld (.v 0) "pile") .nil))
 (.cons (.set 5 (.call 1 (.cons (.v 1) (.cons (.v 4) (.cons (.v 3) .nil)))))
 (.cons (.ex (.cF 1 12 "want_open" (.v 0) (.cons (.v 2) .nil)))
 (.cons (.ex (.bK .append true (.fld (.v 0) "log") (.cons (.tup (.cons (.k (.str "lay")) (.cons (.v 2) .nil))) .nil)))
 (.cons (.ex (.bK .append true (.fld (.v 0) "pile") (.cons (.op .add true (.v 5) (.tup (.cons (.v 2) .nil))) .nil)))
 .nil))))))⟩
noncomputable def fH : List PySem.Str := ["self", "word", "cell", "found"]
noncomputable def fJ : Fn := ⟨2,4,[],false,
 (.cons (.set 2 (.bK .pop true (.fld (.v 0) "pile") .nil))
 (.cons (.set 3 (.call 4 (.cons (.v 1) (.cons (.v 2) .nil))))
 (.cons (.ex (.cF 1 12 "want_open" (.v 0) (.cons (.idx (.v 2) (.k (.int 4))) .nil)))
 (.cons (.ex (.bK .append true (.fld (.v 0) "log") (.cons (.tup (.cons (.k (.str "look")) (.cons (.idx (.v 2) (.k (.int 4))) .nil))) .nil)))
 (.cons (.ex (.bK .append true (.fld (.v 0) "pile") (.cons (.v 3) .nil)))
 .nil)))))⟩
noncomputable def ee : List PySem.Str := ["self", "word", "second", "first"]
noncomputable def iY : Fn := ⟨2,4,[],false,
 (.cons (.set 2 (.bK .pop true (.fld (.v 0) "pile") .nil))
 (.cons (.set 3 (.bK .pop true (.fld (.v 0) "pile") .nil))
 (.cons (.ex (.bK .append true (.fld (.v 0) "pile") (.cons (.call 3 (.cons (.v 1) (.cons (.v 3) (.cons (.v 2) .nil)))) .nil)))
 .nil)))⟩
noncomputable def eY : List PySem.Str := ["self", "row", "frame"]
noncomputable def eL : Fn := ⟨2,3,[],false,
 (.cons (.set 2 (.idx (.fld (.v 0) "frames") (.neg (.k (.int 1)))))
 (.cons (.ifs (.cmp .eq (.idx (.v 1) (.k (.int 0))) (.k (.str "number"))) (.cons (.ex (.bK .append true (.fld (.v 0) "pile") (.cons (.idx (.v 1) (.k (.int 1))) .nil)))
 .nil) (.cons (.ifs (.cmp .eq (.idx (.v 1) (.k (.int 0))) (.k (.str "local"))) (.cons (.ex (.bK .append true (.fld (.v 0) "pile") (.cons (.idx (.fld (.v 2) "known") (.idx (.v 1) (.k (.int 1)))) .nil)))
 .nil) (.cons (.ifs (.cmp .eq (.idx (.v 1) (.k (.int 0))) (.k (.str "keep"))) (.cons (.ex (.bK .append true (.fld (.v 2) "known") (.cons (.bK .pop true (.fld (.v 0) "pile") .nil) .nil)))
 .nil) (.cons (.ex (.bK .pop true (.fld (.v 2) "known") .nil))
 .nil))
 .nil))
 .nil))
 .nil))⟩
noncomputable def gE : List PySem.Str := ["self", "row"]
noncomputable def iB : Fn := ⟨2,2,[],false,
 (.cons (.ifs (.cmp .eq (.idx (.v 1) (.k (.int 0))) (.k (.str "jump"))) (.cons (.bJ (.v 0) "place" (.idx (.v 1) (.k (.int 1))))
 .nil) (.cons (.ifs (.cmp .eq (.idx (.v 1) (.k (.int 0))) (.k (.str "call"))) (.cons (.ex (.cF 1 18 "enter" (.v 0) (.cons (.idx (.v 1) (.k (.int 1))) (.cons (.idx (.v 1) (.k (.int 2))) (.cons (.idx (.v 1) (.k (.int 3))) .nil)))))
 .nil) (.cons (.ifs (.cmp .eq (.idx (.v 1) (.k (.int 0))) (.k (.str "back"))) (.cons (.bJ (.v 0) "place" (.fld (.bK .pop true (.fld (.v 0) "frames") .nil) "behind_call"))
 .nil) (.cons (.ifs (.cmp .eq (.bK .pop true (.fld (.v 0) "pile") .nil) (.k (.int 0))) (.cons (.bJ (.v 0) "place" (.idx (.v 1) (.k (.int 1))))
 .nil) .nil)
 .nil))
 .nil))
 .nil))
 .nil)⟩
noncomputable def eX : List PySem.Str := ["self", "begin", "many", "numbers", "given", "fields"]
noncomputable def eK : Fn := ⟨4,6,[],false,
 (.cons (.ex (.call 6 (.cons (.fld (.v 0) "begun") (.cons (.op .sub true (.blt .len true (.cons (.fld (.v 0) "frames") .nil)) (.k (.int 1))) (.cons (.fld (.v 0) "most") .nil)))))
 (.cons (.bJ (.v 0) "begun" (.op .add false (.fld (.v 0) "begun") (.k (.int 1))))
 (.cons (.set 4 (.comp false [0] [1] (.bK .pop true (.fld (.v 0) "pile") .nil) (.gK (.v 2)) .none))
 (.cons (.ex (.bK .reverse true (.v 4) .nil))
 (.cons (.set 5 (.fld (.idx (.fld (.v 0) "frames") (.neg (.k (.int 1)))) "fields"))
 (.cons (.ex (.bK .append true (.fld (.v 0) "frames") (.cons (.new 0 8 (.cons (.v 4) (.cons (.comp false [5] [1] (.idx (.v 0) (.v 1)) (.e (.v 3)) .none) (.cons (.fld (.v 0) "place") .nil)))) .nil)))
 (.cons (.bJ (.v 0) "place" (.v 1))
 .nil)))))))⟩
noncomputable def fG : List PySem.Str := ["self", "row", "word"]
noncomputable def bN : Fn := ⟨1,3,[],false,
 (.cons (.set 1 (.idx (.fld (.v 0) "rows") (.fld (.v 0) "place")))
 (.cons (.bJ (.v 0) "place" (.op .add false (.fld (.v 0) "place") (.k (.int 1))))
 (.cons (.set 2 (.idx (.v 1) (.k (.int 0))))
 (.cons (.ifs (.cmp .isin (.v 2) (.tup (.cons (.k (.str "number")) (.cons (.k (.str "local")) (.cons (.k (.str "keep")) (.cons (.k (.str "drop")) .nil)))))) (.cons (.ex (.cF 1 16 "carry" (.v 0) (.cons (.v 1) .nil)))
 .nil) (.cons (.ifs (.cmp .isin (.v 2) (.tup (.cons (.k (.str "jump")) (.cons (.k (.str "unless")) (.cons (.k (.str "call")) (.cons (.k (.str "back")) .nil)))))) (.cons (.ex (.cF 1 17 "go" (.v 0) (.cons (.v 1) .nil)))
 .nil) (.cons (.ifs (.cmp .isin (.v 2) (.tup (.cons (.k (.str "pair")) (.cons (.k (.str "cons")) .nil)))) (.cons (.ex (.cF 1 13 "lay" (.v 0) (.cons (.v 2) (.cons (.idx (.fld (.idx (.fld (.v 0) "frames") (.neg (.k (.int 1)))) "fields") (.idx (.v 1) (.k (.int 1)))) .nil))))
 .nil) (.cons (.ifs (.cmp .isin (.v 2) (.tup (.cons (.k (.str "first")) (.cons (.k (.str "second")) (.cons (.k (.str "head")) (.cons (.k (.str "tail")) .nil)))))) (.cons (.ex (.cF 1 14 "look" (.v 0) (.cons (.v 2) .nil)))
 .nil) (.cons (.ifs (.cmp .eq (.v 2) (.k (.str "nil"))) (.cons (.ex (.bK .append true (.fld (.v 0) "pile") (.cons (.k .ak) .nil)))
 .nil) (.cons (.ifs (.cmp .eq (.v 2) (.k (.str "none"))) (.cons (.ex (.bK .append true (.fld (.v 0) "pile") (.cons (.y9 (.cmp .xQ (.bK .pop true (.fld (.v 0) "pile") .nil) (.k .ak)) (.k (.int 1)) (.k (.int 0))) .nil)))
 .nil) (.cons (.ifs (.cmp .eq (.v 2) (.k (.str "open"))) (.cons (.ex (.bK .append true (.fld (.idx (.fld (.v 0) "frames") (.neg (.k (.int 1)))) "fields") (.cons (.cF 1 10 "open_field" (.v 0) .nil) .nil)))
 .nil) (.cons (.ifs (.cmp .eq (.v 2) (.k (.str "shut"))) (.cons (.ex (.cF 1 11 "shut_field" (.v 0) (.cons (.bK .pop true (.fld (.idx (.fld (.v 0) "frames") (.neg (.k (.int 1)))) "fields") .nil) .nil)))
 .nil) (.cons (.ex (.cF 1 15 "reckon" (.v 0) (.cons (.v 2) .nil)))
 .nil))
 .nil))
 .nil))
 .nil))
 .nil))
 .nil))
 .nil))
 .nil))
 .nil))))⟩
noncomputable def b8 : List PySem.Str := ["self", "value", "todo", "cell"]
noncomputable def bH : Fn := ⟨2,4,[],false,
 (.cons (.set 2 (.lst false (.cons (.v 1) .nil)))
 (.cons (.while (.cmp .ne (.v 2) (.lst true .nil)) (.cons (.set 3 (.bK .pop true (.v 2) .nil))
 (.cons (.ifs (.vg (.v 3) .tuple) (.cons (.ex (.cF 1 12 "want_open" (.v 0) (.cons (.idx (.v 3) (.k (.int 4))) .nil)))
 (.cons (.ex (.bK .extend true (.v 2) (.cons (.sl true (.v 3) (.some (.k (.int 2))) (.some (.k (.int 4)))) .nil)))
 .nil)) .nil)
 .nil)))
 .nil))⟩
noncomputable def ek : List PySem.Str := ["self", "value"]
noncomputable def dG : Fn := ⟨1,2,[],false,
 (.cons (.set 1 (.bK .pop true (.fld (.v 0) "pile") .nil))
 (.cons (.ex (.cF 1 20 "want_all_open" (.v 0) (.cons (.v 1) .nil)))
 (.cons (.ret (.call 5 (.cons (.v 1) .nil)))
 .nil)))⟩
noncomputable def iu : List PySem.Str := ["_law_cell_here"]
noncomputable def jk : Fn := ⟨1,1,[],false,
 (.cons (.ret (.op .mod true (.op .mul true (.op .mul true (.op .add true (.op .mod true (.v 0) (.k (.int 2147483647))) (.k (.int 11))) (.k (.int 48271))) (.k (.int 69621))) (.k (.int 2147483629))))
 .nil)⟩
noncomputable def jC : List PySem.Str := ["_law_code", "_law_word", "_law_found"]
noncomputable def lM : Fn := ⟨1,3,[],false,
 (.cons (.set 1 (.k (.str "")))
 (.cons (.set 2 (.k .ak))
 (.cons (.try (.cons (.set 2 (.gp 7 (.cons (.v 0) (.cons (.lst true .nil) .nil)) 200))
 .nil) (.cons [5] (.cons (.set 1 (.k (.str "gone")))
 .nil) (.cons [1] (.cons (.set 1 (.k (.str "great")))
 .nil) (.cons [0] (.cons (.set 1 (.k (.str "other")))
 .nil) .nil))) .nil)
 (.cons (.ret (.tup (.cons (.v 1) (.cons (.v 2) .nil))))
 .nil))))⟩
noncomputable def iX : List PySem.Str := ["_law_number", "_law_at"]
noncomputable def kD : Fn := ⟨2,2,[],false,
 (.cons (.ifs (.cmp .eq (.op .mod true (.v 0) (.k (.int 2))) (.k (.int 0))) (.cons (.ret (.lst true (.cons (.tup (.cons (.k (.str "number")) (.cons (.k (.int 4)) .nil))) (.cons (.tup (.cons (.k (.str "number")) (.cons (.op .mod true (.op .fdiv true (.v 0) (.k (.int 2))) (.k (.int 90))) .nil))) (.cons (.tup (.cons (.k (.str "pair")) (.cons (.v 1) .nil))) .nil)))))
 .nil) .nil)
 (.cons (.ret (.lst true (.cons (.tup (.cons (.k (.str "number")) (.cons (.op .mod true (.op .fdiv true (.v 0) (.k (.int 2))) (.k (.int 90))) .nil))) (.cons (.tup (.cons (.k (.str "nil")) .nil)) (.cons (.tup (.cons (.k (.str "cons")) (.cons (.v 1) .nil))) .nil)))))
 .nil))⟩
noncomputable def gC : List PySem.Str := ["_law_number"]
noncomputable def iA : Fn := ⟨1,1,[],false,
 (.cons (.ret (.op .mul true (.lst true (.cons (.tup (.cons (.k (.str "open")) .nil)) (.cons (.tup (.cons (.k (.str "shut")) .nil)) .nil))) (.op .mod true (.v 0) (.k (.int 4)))))
 .nil)⟩
noncomputable def jB : List PySem.Str := ["_law_number", "_law_pair", "_law_ended", "_law_looks_here"]
noncomputable def lK : Fn := ⟨3,4,[],false,
 (.cons (.set 3 (.lst true (.cons (.lst true (.cons (.tup (.cons (.k (.str "head")) .nil)) .nil)) (.cons (.lst true (.cons (.tup (.cons (.k (.str "tail")) .nil)) (.cons (.tup (.cons (.k (.str "none")) .nil)) .nil))) .nil))))
 (.cons (.ifs (.v 1) (.cons (.set 3 (.lst true (.cons (.lst true (.cons (.tup (.cons (.k (.str "first")) .nil)) .nil)) (.cons (.lst true (.cons (.tup (.cons (.k (.str "second")) .nil)) .nil)) .nil))))
 .nil) .nil)
 (.cons (.ret (.idx (.lst true (.cons (.idx (.v 3) (.k (.int 0))) (.cons (.idx (.v 3) (.k (.int 1))) (.cons (.lst true (.cons (.tup (.cons (.k (.str "none")) .nil)) .nil)) (.cons (.lst true (.cons (.tup (.cons (.k (.str "keep")) .nil)) (.cons (.tup (.cons (.k (.str "number")) (.cons (.k (.int 7)) .nil))) .nil))) (.cons (.v 2) .nil)))))) (.op .mod true (.v 0) (.k (.int 5)))))
 .nil)))⟩
noncomputable def eV : List PySem.Str := ["_law_number", "_law_rows", "_law_rest", "_law_more"]
noncomputable def eG : Fn := ⟨1,4,[],false,
 (.cons (.set 1 (.op .add true (.op .add true (.op .add true (.lst true (.cons (.tup (.cons (.k (.str "open")) .nil)) .nil)) (.call 25 (.cons (.op .fdiv true (.v 0) (.k (.int 5))) .nil))) (.call 24 (.cons (.op .fdiv true (.v 0) (.k (.int 20))) (.cons (.k (.int 0)) .nil)))) (.call 25 (.cons (.op .fdiv true (.v 0) (.k (.int 7))) .nil))))
 (.cons (.set 2 (.call 26 (.cons (.op .fdiv true (.v 0) (.k (.int 11))) (.cons (.cmp .eq (.op .mod true (.op .fdiv true (.v 0) (.k (.int 20))) (.k (.int 2))) (.k (.int 0))) (.cons (.lst true .nil) .nil)))))
 (.cons (.ifs (.or (.cmp .gt (.op .mod true (.v 0) (.k (.int 3))) (.k (.int 0))) (.cmp .eq (.op .mod true (.op .fdiv true (.v 0) (.k (.int 11))) (.k (.int 5))) (.k (.int 4)))) (.cons (.set 3 (.op .mod true (.op .fdiv true (.v 0) (.k (.int 13))) (.k (.int 2))))
 (.cons (.ret (.op .add true (.op .add true (.op .add true (.op .add true (.op .add true (.v 1) (.lst true (.cons (.tup (.cons (.k (.str "shut")) .nil)) .nil))) (.op .mul true (.lst true (.cons (.tup (.cons (.k (.str "open")) .nil)) .nil)) (.v 3))) (.v 2)) (.op .mul true (.lst true (.cons (.tup (.cons (.k (.str "shut")) .nil)) .nil)) (.v 3))) (.lst true (.cons (.tup (.cons (.k (.str "back")) .nil)) .nil))))
 .nil)) .nil)
 (.cons (.ret (.op .add true (.op .add true (.v 1) (.v 2)) (.lst true (.cons (.tup (.cons (.k (.str "shut")) .nil)) (.cons (.tup (.cons (.k (.str "back")) .nil)) .nil)))))
 .nil))))⟩
noncomputable def fW : List PySem.Str := ["_law_number", "_law_use_here", "_law_pair", "_law_value"]
noncomputable def gj : Fn := ⟨1,4,[],false,
 (.cons (.set 1 (.op .mod true (.op .fdiv true (.v 0) (.k (.int 11))) (.k (.int 5))))
 (.cons (.set 2 (.cmp .eq (.op .mod true (.op .fdiv true (.v 0) (.k (.int 20))) (.k (.int 2))) (.k (.int 0))))
 (.cons (.ifs (.or (.cmp .eq (.v 1) (.k (.int 4))) (.and (.cmp .gt (.op .mod true (.v 0) (.k (.int 3))) (.k (.int 0))) (.cmp .lt (.v 1) (.k (.int 2))))) (.cons (.ret (.k (.str "gone")))
 .nil) .nil)
 (.cons (.set 3 (.op .mod true (.op .fdiv true (.op .fdiv true (.v 0) (.k (.int 20))) (.k (.int 2))) (.k (.int 90))))
 (.cons (.ifs (.and (.cmp .lt (.v 1) (.k (.int 2))) (.v 2)) (.cons (.ret (.idx (.lst true (.cons (.k (.int 4)) (.cons (.v 3) .nil))) (.v 1)))
 .nil) .nil)
 (.cons (.ret (.idx (.lst true (.cons (.v 3) (.cons (.k (.int 1)) (.cons (.k (.int 0)) (.cons (.k (.int 7)) .nil))))) (.v 1)))
 .nil))))))⟩
noncomputable def iw : List PySem.Str := ["_law_number"]
noncomputable def jl : Fn := ⟨1,1,[],false,
 (.cons (.ret (.x8 .int (.cmp .lt (.op .mod true (.op .fdiv true (.v 0) (.k (.int 11))) (.k (.int 5))) (.k (.int 2)))))
 .nil)⟩
noncomputable def d9 : List PySem.Str := ["_law_number", "_law_more", "_law_rows", "_law_after", "_law_idle", "_law_second_rows"]
noncomputable def dF : Fn := ⟨1,6,[],false,
 (.cons (.set 1 (.op .mod true (.op .fdiv true (.v 0) (.k (.int 13))) (.k (.int 2))))
 (.cons (.set 2 (.op .add false (.lst true (.cons (.tup (.cons (.k (.str "open")) .nil)) (.cons (.tup (.cons (.k (.str "call")) (.cons (.k (.int 0)) (.cons (.k (.int 0)) (.cons (.tup (.cons (.k (.int 0)) .nil)) .nil))))) .nil))) (.op .mul true (.lst true (.cons (.tup (.cons (.k (.str "open")) .nil)) .nil)) (.v 1))))
 (.cons (.set 3 (.lst true (.cons (.lst true (.cons (.tup (.cons (.k (.str "number")) (.cons (.k (.int 1)) .nil))) (.cons (.tup (.cons (.k (.str "number")) (.cons (.k (.int 2)) .nil))) (.cons (.tup (.cons (.k (.str "pair")) (.cons (.k (.int 0)) .nil))) (.cons (.tup (.cons (.k (.str "first")) .nil)) .nil))))) (.cons (.lst true (.cons (.tup (.cons (.k (.str "number")) (.cons (.k (.int 1)) .nil))) (.cons (.tup (.cons (.k (.str "nil")) .nil)) (.cons (.tup (.cons (.k (.str "cons")) (.cons (.k (.int 0)) .nil))) (.cons (.tup (.cons (.k (.str "none")) .nil)) .nil))))) .nil))))
 (.cons (.set 4 (.lst true (.cons (.lst true (.cons (.tup (.cons (.k (.str "number")) (.cons (.k (.int 3)) .nil))) .nil)) (.cons (.lst true (.cons (.tup (.cons (.k (.str "nil")) .nil)) (.cons (.tup (.cons (.k (.str "none")) .nil)) .nil))) .nil))))
 (.cons (.set 2 (.op .add false (.op .add true (.op .add true (.op .add true (.v 2) (.lst true (.cons (.tup (.cons (.k (.str "keep")) .nil)) .nil))) (.idx (.op .add true (.v 3) (.v 4)) (.op .mod true (.v 0) (.k (.int 4))))) (.op .mul true (.lst true (.cons (.tup (.cons (.k (.str "shut")) .nil)) .nil)) (.v 1))) (.lst true (.cons (.tup (.cons (.k (.str "back")) .nil)) .nil))))
 (.cons (.set 5 (.op .add true (.call 25 (.cons (.op .fdiv true (.v 0) (.k (.int 4))) .nil)) (.lst true (.cons (.tup (.cons (.k (.str "shut")) .nil)) (.cons (.tup (.cons (.k (.str "number")) (.cons (.k (.int 9)) .nil))) (.cons (.tup (.cons (.k (.str "back")) .nil)) .nil))))))
 (.cons (.ifs (.cmp .eq (.op .mod true (.op .fdiv true (.v 0) (.k (.int 16))) (.k (.int 2))) (.k (.int 1))) (.cons (.set 5 (.op .add true (.call 25 (.cons (.op .fdiv true (.v 0) (.k (.int 4))) .nil)) (.lst true (.cons (.tup (.cons (.k (.str "number")) (.cons (.k (.int 1)) .nil))) (.cons (.tup (.cons (.k (.str "number")) (.cons (.k (.int 2)) .nil))) (.cons (.tup (.cons (.k (.str "pair")) (.cons (.k (.int 0)) .nil))) (.cons (.tup (.cons (.k (.str "shut")) .nil)) (.cons (.tup (.cons (.k (.str "back")) .nil)) .nil))))))))
 .nil) .nil)
 (.cons (.kP (.v 2) (.k (.int 1)) (.tup (.cons (.k (.str "call")) (.cons (.blt .len true (.cons (.v 2) .nil)) (.cons (.k (.int 0)) (.cons (.tup (.cons (.k (.int 0)) .nil)) .nil))))))
 (.cons (.ret (.tup (.cons (.op .add true (.v 2) (.v 5)) (.cons (.k (.int 0)) (.cons (.k (.int 0)) .nil)))))
 .nil)))))))))⟩
noncomputable def iy : List PySem.Str := ["_law_number", "_law_found", "_law_due", "_law_log", "_law_looks_here", "_law_lays"]
noncomputable def jm : Fn := ⟨1,6,[],false,
 (.cons (.set 1 (.call 23 (.cons (.tup (.cons (.call 27 (.cons (.v 0) .nil)) (.cons (.k (.int 0)) (.cons (.k (.int 0)) .nil)))) .nil)))
 (.cons (.set 2 (.call 28 (.cons (.v 0) .nil)))
 (.cons (.ifs (.cmp .eq (.v 2) (.k (.str "gone"))) (.cons (.ret (.cmp .eq (.v 1) (.tup (.cons (.k (.str "gone")) (.cons (.k .ak) .nil)))))
 .nil) .nil)
 (.cons (.ifs (.or (.cmp .ne (.idx (.v 1) (.k (.int 0))) (.k (.str ""))) (.cmp .ne (.idx (.idx (.v 1) (.k (.int 1))) (.k (.int 0))) (.v 2))) (.cons (.ret (.k (.bl false)))
 .nil) .nil)
 (.cons (.set 3 (.idx (.idx (.v 1) (.k (.int 1))) (.k (.int 1))))
 (.cons (.set 4 (.blt .len true (.cons (.comp true [] [0] (.v 0) (.e (.v 3)) (.some (.cmp .eq (.idx (.v 0) (.k (.int 0))) (.k (.str "look"))))) .nil)))
 (.cons (.set 5 (.comp true [] [0] (.v 0) (.e (.v 3)) (.some (.cmp .eq (.idx (.v 0) (.k (.int 0))) (.k (.str "lay"))))))
 (.cons (.ret (.and (.cmp .eq (.v 4) (.call 29 (.cons (.v 0) .nil))) (.cmp .eq (.v 5) (.lst true (.cons (.tup (.cons (.k (.str "lay")) (.cons (.k (.int 0)) .nil))) .nil)))))
 .nil))))))))⟩
noncomputable def gA : List PySem.Str := ["_law_number", "_law_found"]
noncomputable def ir : Fn := ⟨1,2,[],false,
 (.cons (.set 1 (.call 23 (.cons (.call 30 (.cons (.v 0) .nil)) .nil)))
 (.cons (.ifs (.cmp .lt (.op .mod true (.v 0) (.k (.int 4))) (.k (.int 2))) (.cons (.ret (.cmp .eq (.v 1) (.tup (.cons (.k (.str "gone")) (.cons (.k .ak) .nil)))))
 .nil) .nil)
 (.cons (.ret (.and (.cmp .eq (.idx (.v 1) (.k (.int 0))) (.k (.str ""))) (.cmp .eq (.idx (.idx (.v 1) (.k (.int 1))) (.k (.int 0))) (.idx (.lst true (.cons (.k (.int 3)) (.cons (.k (.int 1)) .nil))) (.op .sub true (.op .mod true (.v 0) (.k (.int 4))) (.k (.int 2)))))))
 .nil)))⟩
noncomputable def gz : List PySem.Str := ["_law_number", "_law_piece", "_law_rows", "_law_word", "_law_found", "_law_other"]
noncomputable def ig : Fn := ⟨1,6,[],false,
 (.cons (.set 1 (.call 24 (.cons (.v 0) (.cons (.k (.int 1)) .nil))))
 (.cons (.set 2 (.op .add true (.op .add true (.lst true (.cons (.tup (.cons (.k (.str "open")) .nil)) .nil)) (.v 1)) (.lst true (.cons (.tup (.cons (.k (.str "number")) (.cons (.k (.int 5)) .nil))) (.cons (.tup (.cons (.k (.str "pair")) (.cons (.k (.int 0)) .nil))) (.cons (.tup (.cons (.k (.str "shut")) .nil)) .nil))))))
 (.cons (.Dh [3, 4] (.call 23 (.cons (.tup (.cons (.op .add true (.v 2) (.lst true (.cons (.tup (.cons (.k (.str "back")) .nil)) .nil))) (.cons (.k (.int 0)) (.cons (.k (.int 1)) .nil)))) .nil)))
 (.cons (.set 5 (.call 23 (.cons (.tup (.cons (.op .add true (.v 2) (.lst true (.cons (.tup (.cons (.k (.str "second")) .nil)) (.cons (.tup (.cons (.k (.str "back")) .nil)) .nil)))) (.cons (.k (.int 0)) (.cons (.k (.int 1)) .nil)))) .nil)))
 (.cons (.ret (.and (.cmp .eq (.v 3) (.k (.str "gone"))) (.and (.cmp .eq (.idx (.v 5) (.k (.int 0))) (.k (.str ""))) (.cmp .eq (.idx (.idx (.v 5) (.k (.int 1))) (.k (.int 0))) (.k (.int 5))))))
 .nil)))))⟩
noncomputable def iz : List PySem.Str := ["_law_number", "_law_many", "_law_rows", "_law_k"]
noncomputable def jn : Fn := ⟨1,4,[],false,
 (.cons (.set 1 (.op .add true (.k (.int 7)) (.op .mod true (.v 0) (.k (.int 2)))))
 (.cons (.set 2 (.lst false (.cons (.tup (.cons (.k (.str "open")) .nil)) (.cons (.tup (.cons (.k (.str "nil")) .nil)) .nil))))
 (.cons (.for [3] (.gK (.v 1)) (.cons (.set 2 (.op .add false (.v 2) (.lst true (.cons (.tup (.cons (.k (.str "keep")) .nil)) (.cons (.tup (.cons (.k (.str "local")) (.cons (.v 3) .nil))) (.cons (.tup (.cons (.k (.str "local")) (.cons (.v 3) .nil))) (.cons (.tup (.cons (.k (.str "pair")) (.cons (.k (.int 0)) .nil))) .nil)))))))
 .nil))
 (.cons (.set 2 (.op .add false (.v 2) (.lst true (.cons (.tup (.cons (.k (.str "keep")) .nil)) (.cons (.tup (.cons (.k (.str "call")) (.cons (.k (.int 0)) (.cons (.k (.int 0)) (.cons (.tup (.cons (.k (.int 1)) .nil)) .nil))))) (.cons (.tup (.cons (.k (.str "keep")) .nil)) (.cons (.tup (.cons (.k (.str "local")) (.cons (.v 1) .nil))) (.cons (.tup (.cons (.k (.str "local")) (.cons (.v 1) .nil))) (.cons (.tup (.cons (.k (.str "pair")) (.cons (.k (.int 1)) .nil))) (.cons (.tup (.cons (.k (.str "back")) .nil)) .nil))))))))))
 (.cons (.kP (.v 2) (.op .add true (.op .add true (.k (.int 2)) (.op .mul true (.k (.int 4)) (.v 1))) (.k (.int 1))) (.tup (.cons (.k (.str "call")) (.cons (.blt .len true (.cons (.v 2) .nil)) (.cons (.k (.int 0)) (.cons (.tup (.cons (.k (.int 1)) .nil)) .nil))))))
 (.cons (.ret (.cmp .eq (.call 23 (.cons (.tup (.cons (.op .add true (.v 2) (.lst true (.cons (.tup (.cons (.k (.str "shut")) .nil)) (.cons (.tup (.cons (.k (.str "number")) (.cons (.k (.int 9)) .nil))) (.cons (.tup (.cons (.k (.str "back")) .nil)) .nil))))) (.cons (.k (.int 0)) (.cons (.k (.int 1)) .nil)))) .nil)) (.tup (.cons (.idx (.lst true (.cons (.k (.str "gone")) (.cons (.k (.str "great")) .nil))) (.op .mod true (.v 0) (.k (.int 2)))) (.cons (.k .ak) .nil)))))
 .nil))))))⟩
noncomputable def pq : List PySem.Str := ["_law_script", "_law_cell_here", "_law_number"]
noncomputable def CO : Fn := ⟨1,3,[],false,
 (.cons (.for [1] (.e (.op .add true (.sl true (.v 0) .none (.some (.k (.int 13)))) (.lst true (.cons (.k (.int 0)) .nil)))) (.cons (.set 2 (.call 22 (.cons (.v 1) .nil)))
 (.cons (.ifs (.or (.not (.call 31 (.cons (.v 2) .nil))) (.or (.not (.call 32 (.cons (.op .fdiv true (.v 2) (.k (.int 3))) .nil))) (.not (.call 33 (.cons (.op .fdiv true (.v 2) (.k (.int 5))) .nil))))) (.cons (.ret (.k (.bl false)))
 .nil) .nil)
 (.cons (.ifs (.not (.call 34 (.cons (.op .fdiv true (.v 2) (.k (.int 7))) .nil))) (.cons (.ret (.k (.bl false)))
 .nil) .nil)
 .nil))))
 (.cons (.ret (.k (.bl true)))
 .nil))⟩
noncomputable def fns : List Fn := [iV,fS,gy,qW,jj,x9,dD,lJ,dH,cQ,cg,b9,cz,gk,fJ,iY,eL,iB,eK,bN,bH,dG,jk,lM,kD,iA,lK,eG,gj,jl,dF,jm,ir,ig,jn,CO]
noncomputable def cst : List D := [(.int 1000),(.int 12)]
noncomputable def subs : List (Nat × Nat) := [(0,0),(1,0),(1,1),(2,0),(2,2),(3,0),(3,3),(4,0),(4,4),(5,0),(5,5)]
noncomputable def ah : lX := ⟨fun i => fns[i]?,fun i => cst[i]?,100000,fun a b => subs.contains (a,b)⟩
end bR
end
section
set_option autoImplicit false
set_option maxHeartbeats 0
namespace bR
open Fg PySem PySem.Spec L2
noncomputable abbrev hdP : Program := PySem.Challenge.pw_fieldgate_k44_gone
noncomputable def bq (i : Nat) : Stmt := hdP.main.body.getD i (.Pass ⟨0,0,0,0⟩)
noncomputable def tb : Tb := ⟨[
 ⟨"size_of", "size_of", bq 10, ["value"], jA, 0, none⟩,
 ⟨"cell_of", "cell_of", bq 11, ["word", "first", "second"], jD, 1, none⟩,
 ⟨"want_few_figures", "want_few_figures", bq 12, ["number"], dc, 2, none⟩,
 ⟨"reckoned", "reckoned", bq 13, ["word", "first", "second"], iW, 3, none⟩,
 ⟨"looked_up", "looked_up", bq 14, ["word", "value"], ie, 4, none⟩,
 ⟨"told", "told", bq 15, ["value"], mZ, 5, none⟩,
 ⟨"want_few_calls", "want_few_calls", bq 16, ["begun", "under_way", "most"], d8, 6, none⟩,
 ⟨"run", "run", bq 20, ["code", "numbers", "most"], o9, 7, some 200⟩,
 ⟨"_law_mixed", "_law_mixed", bq 22, ["_law_cell_here"], iu, 22, none⟩,
 ⟨"_law_ran", "_law_ran", bq 23, ["_law_code"], jC, 23, none⟩,
 ⟨"_law_cell", "_law_cell", bq 24, ["_law_number", "_law_at"], iX, 24, none⟩,
 ⟨"_law_around", "_law_around", bq 25, ["_law_number"], gC, 25, none⟩,
 ⟨"_law_use", "_law_use", bq 26, ["_law_number", "_law_pair", "_law_ended"], jB, 26, none⟩,
 ⟨"_law_own_field", "_law_own_field", bq 27, ["_law_number"], eV, 27, none⟩,
 ⟨"_law_own_due", "_law_own_due", bq 28, ["_law_number"], fW, 28, none⟩,
 ⟨"_law_looks", "_law_looks", bq 29, ["_law_number"], iw, 29, none⟩,
 ⟨"_law_outer_code", "_law_outer_code", bq 30, ["_law_number"], d9, 30, none⟩,
 ⟨"_law_inner", "_law_inner", bq 31, ["_law_number"], iy, 31, none⟩,
 ⟨"_law_passed", "_law_passed", bq 32, ["_law_number"], gA, 32, none⟩,
 ⟨"_law_within", "_law_within", bq 33, ["_law_number"], gz, 33, none⟩,
 ⟨"_law_great", "_law_great", bq 34, ["_law_number"], iz, 34, none⟩,
 ⟨"law", "law", bq 35, ["_law_script"], pq, 35, none⟩],
 ["Frame", "Machine"],
 [(0, ⟨"__init__", "Frame.__init__", inClass (bq 18) 0, ["self", "known", "fields", "behind_call"], ez, 8, none⟩),
 (1, ⟨"__init__", "Machine.__init__", inClass (bq 19) 0, ["self", "rows", "most"], dg, 9, none⟩),
 (1, ⟨"open_field", "Machine.open_field", inClass (bq 19) 1, ["self"], cP, 10, none⟩),
 (1, ⟨"shut_field", "Machine.shut_field", inClass (bq 19) 2, ["self", "field"], cO, 11, none⟩),
 (1, ⟨"want_open", "Machine.want_open", inClass (bq 19) 3, ["self", "field"], cU, 12, none⟩),
 (1, ⟨"lay", "Machine.lay", inClass (bq 19) 4, ["self", "word", "field"], fX, 13, none⟩),
 (1, ⟨"look", "Machine.look", inClass (bq 19) 5, ["self", "word"], fH, 14, none⟩),
 (1, ⟨"reckon", "Machine.reckon", inClass (bq 19) 6, ["self", "word"], ee, 15, none⟩),
 (1, ⟨"carry", "Machine.carry", inClass (bq 19) 7, ["self", "row"], eY, 16, none⟩),
 (1, ⟨"go", "Machine.go", inClass (bq 19) 8, ["self", "row"], gE, 17, none⟩),
 (1, ⟨"enter", "Machine.enter", inClass (bq 19) 9, ["self", "begin", "many", "numbers"], eX, 18, none⟩),
 (1, ⟨"step", "Machine.step", inClass (bq 19) 10, ["self"], fG, 19, none⟩),
 (1, ⟨"want_all_open", "Machine.want_all_open", inClass (bq 19) 11, ["self", "value"], b8, 20, none⟩),
 (1, ⟨"answer", "Machine.answer", inClass (bq 19) 12, ["self"], ek, 21, none⟩)],
 ["GateError", "TooGreat", "Empty", "TooLong", "TooDeep", "Gone"],
 [("MOST_SIZE", 0, 1000), ("MOST_UNDER_WAY", 1, 12)],
 ["len", "tuple", "list", "int", "abs", "range", "isinstance", "reversed"],
 ["place", "known", "fields", "behind_call", "rows", "most", "begun", "pile", "frames", "lies_open", "log"]⟩
noncomputable def Kp : Program := W.view hdP [35]
noncomputable def hdL : List Str := ["GateError", "TooGreat", "Empty", "TooLong", "TooDeep", "Gone", "MOST_SIZE", "MOST_UNDER_WAY", "size_of", "cell_of", "want_few_figures", "reckoned", "looked_up", "told", "want_few_calls", "Frame", "Machine", "run", "_law_mixed", "_law_ran", "_law_cell", "_law_around", "_law_use", "_law_own_field", "_law_own_due", "_law_looks", "_law_outer_code", "_law_inner", "_law_passed", "_law_within", "_law_great"]
noncomputable def hdX (s : Shared) : Bool := W.xlAt Kp [] s && W.recOk (W.RowW.records PySem.Challenge.rw_fieldgate_k44_gone.row.toRowW) s
theorem lft : W.LeftO hdP Kp hdL hdX (tb.hook ah).obs (tb.hook ah).val 20000 := fun w => by kernel_rfl
end bR
end
section
namespace L2
open PySem PySem.Spec PyProof.Rows
noncomputable abbrev Key := Sum Int Str
noncomputable def kq : Key -> Value -> Bool
 | .inl k,v => Value.isInt k v
 | .inr x,v => Value.isStrOf x v
noncomputable def keyH (w : World) : Key -> Int
 | .inl k => hashInt k
 | .inr x => hashStr w x
theorem aL : ∀ {k : Key} {v : Value},kq k v = true -> (∃ i t,k = Sum.inl i /\ v = Value.int i t) \/ (∃ x t,k = Sum.inr x /\ v = Value.str x t)
 | .inl i,v,h => by
  obtain ⟨t,e⟩ := Value.isInt_shape (k := i) (v := v) h
  exact .inl ⟨i,t,rfl,e⟩
 | .inr x,v,h => by
  obtain ⟨t,e⟩ := Value.isStrOf_shape (x := x) (v := v) h
  exact .inr ⟨x,t,rfl,e⟩
theorem uK (i : Int) (t : Tok) : kq (.inl i) (.int i t) = true := by simp [kq,Value.isInt]
theorem iT (x : Str) (t : Tok) : kq (.inr x) (.str x t) = true := by simp [kq,Value.isStrOf]
theorem EV (a b : Int) : decide ((Sum.inl a : Key) = Sum.inl b) = (a == b) := by
 by_cases e : a = b
 ·subst e; simp
 ·have h : ¬ (Sum.inl a : Key) = Sum.inl b := fun q => e (Sum.inl.inj q)
  rw [decide_eq_false h]
  exact (beq_eq_false_iff_ne.mpr e).symm
theorem ES (a b : Str) : decide ((Sum.inr a : Key) = Sum.inr b) = decide (a = b) := by
 by_cases e : a = b
 ·subst e; simp
 ·have h : ¬ (Sum.inr a : Key) = Sum.inr b := fun q => e (Sum.inr.inj q)
  rw [decide_eq_false h,decide_eq_false e]
theorem EU (a : Int) (b : Str) : decide ((Sum.inl a : Key) = Sum.inr b) = false := decide_eq_false (fun q => nomatch q)
theorem ET (a : Str) (b : Int) : decide ((Sum.inr a : Key) = Sum.inl b) = false := decide_eq_false (fun q => nomatch q)
noncomputable def aJ (prog : Program) (w : World) : PySem.KeyKind prog w Key where
 is := kq
 hash := keyH w
 inj := fun v a b ha hb => by
  rcases aL ha with ⟨i,t,rfl,rfl⟩ | ⟨x,t,rfl,rfl⟩
  ·rcases aL hb with ⟨j,u,rfl,e⟩ | ⟨y,u,rfl,e⟩
   ·injection e with e1 _; rw [e1]
   ·exact nomatch e
  ·rcases aL hb with ⟨j,u,rfl,e⟩ | ⟨y,u,rfl,e⟩
   ·exact nomatch e
   ·injection e with e1 _; rw [e1]
 byValue := fun k v h => by
  rcases aL h with ⟨i,t,rfl,rfl⟩ | ⟨x,t,rfl,rfl⟩ <;> rfl
 pyHash := fun hv h => by
  rcases aL hv with ⟨i,t,rfl,rfl⟩ | ⟨x,t,rfl,rfl⟩
  ·exact wpAny_pyHash_int h
  ·exact wpAny_pyHash_str h
 eqBool := fun hu hv h => by
  rcases aL hu with ⟨i,t,rfl,rfl⟩ | ⟨x,t,rfl,rfl⟩
  ·rcases aL hv with ⟨j,u,rfl,rfl⟩ | ⟨y,u,rfl,rfl⟩
   ·rw [EV] at h; exact wpAny_eqBool_int h
   ·rw [EU] at h; exact SeqAt.EqAt.int_str i t y u _ _ _ _ h
  ·rcases aL hv with ⟨j,u,rfl,rfl⟩ | ⟨y,u,rfl,rfl⟩
   ·rw [ET] at h; exact SeqAt.EqAt.str_int x t j u _ _ _ _ h
   ·rw [ES] at h; exact wpAny_eqBool_str h
 «strs» := fun k x t v h => by
  rcases aL h with ⟨i,u,rfl,e⟩ | ⟨y,u,rfl,e⟩
  ·exact nomatch e
  ·injection e with e1 _
   subst e1
   cases v <;> rfl
theorem oV (prog : Program) (w : World) (i : Int) (t : Tok) : (aJ prog w).is (.inl i) (.int i t) = true := uK i t
theorem oU (prog : Program) (w : World) (x : Str) (t : Tok) : (aJ prog w).is (.inr x) (.str x t) = true := iT x t
end L2
namespace L2
open PySem PySem.Spec PyProof.Rows
inductive V where
 | ak | bl (b : Bool) | int (i : Int) | str (x : Str) | vh (b : Array UInt8) | GI (b : UInt64) | ref (a : Addr) | ty (n : String)
 deriving DecidableEq
noncomputable def RelV : V -> Value -> Prop
 | .ak,u => u = Value.none
 | .bl b,u => u = Value.bool b
 | .int i,u => ∃ t,u = Value.int i t
 | .str x,u => ∃ t,u = Value.str x t
 | .vh b,u => ∃ t,u = Value.bytes b t
 | .GI b,u => ∃ t,u = Value.float b t
 | .ref a,u => u = Value.ref a
 | .ty n,u => u = Value.type n
noncomputable abbrev Vals : List V -> List Value -> Prop := Paired RelV
theorem Vals.length {xs : List V} {us : List Value} (r : Vals xs us) : xs.length = us.length := Paired.length r
theorem Vals.get : ∀ {xs : List V} {us : List Value} {i : Nat} {x : V},Vals xs us -> xs[i]? = some x -> ∃ u,us[i]? = some u /\ RelV x u
 | _,_,_,_,.nil,e => by simp at e
 | _,_,0,_,.cons r _,e => by simp at e; subst e; exact ⟨_,rfl,r⟩
 | _,_,i + 1,x,.cons _ t,e => by
  obtain ⟨u,h1,h2⟩ := Vals.get (i := i) (x := x) t (by simpa using e)
  exact ⟨u,by simpa using h1,h2⟩
theorem Vals.set {x : V} {u : Value} (r : RelV x u) : ∀ {xs : List V} {us : List Value} (i : Nat),Vals xs us -> Vals (xs.set i x) (us.set i u)
 | _,_,_,.nil => .nil
 | _,_,0,.cons _ t => .cons r t
 | _,_,i + 1,.cons q t => .cons q (Vals.set r i t)
theorem Vals.append : ∀ {xs ys : List V} {us ws : List Value},Vals xs us -> Vals ys ws -> Vals (xs ++ ys) (us ++ ws)
 | _,_,_,_,.nil,s => s
 | _,_,_,_,.cons r t,s => .cons r (Vals.append t s)
theorem Vals.take : ∀ {xs : List V} {us : List Value} (n : Nat),Vals xs us -> Vals (xs.take n) (us.take n)
 | _,_,0,_ => .nil
 | _,_,_ + 1,.nil => .nil
 | _,_,n + 1,.cons r t => .cons r (Vals.take n t)
theorem Vals.drop : ∀ {xs : List V} {us : List Value} (n : Nat),Vals xs us -> Vals (xs.drop n) (us.drop n)
 | _,_,0,r => r
 | _,_,_ + 1,.nil => .nil
 | _,_,n + 1,.cons _ t => Vals.drop n t
noncomputable def gI : Option V -> Option Value -> Prop
 | some v,some u => RelV v u
 | none,none => True
 | _,_ => False
noncomputable def KV {κ : Type} : List (κ × V) -> List (κ × Value) -> Prop := Paired fun (p : κ × V) (q : κ × Value) => p.1 = q.1 /\ RelV p.2 q.2
noncomputable def kV : Key -> V
 | .inl i => .int i
 | .inr x => .str x
inductive HO where
 | lst (xs : List V)
 | tup (xs : List V)
 | dK (kvs : List (Key × V)) | dT (kvs : List (List Key × V))
 | set (S : Int -> Bool) (n : Nat)
 | ins (C dx : Addr) (fs : List (Str × V))
 | own (x : Addr)
 | xd (fs : List (Str × V))
 | met (f x : Addr)
 | gK (lo hi : Int)
 | fh (o : Obj) (u : HO)
 | Ca (ps : Array Value)
 | ext (φ : Heap -> Prop)
noncomputable abbrev Hp := Addr -> Option HO
noncomputable def upd (H : Hp) (a : Addr) (o : HO) : Hp := fun b => if b = a then some o else H b
theorem aA {H : Hp} {a : Addr} {o : HO} : upd H a o a = some o := by unfold upd; rw [if_pos rfl]
theorem aq {H : Hp} {a b : Addr} {o : HO} (h : b ≠ a) : upd H a o b = H b := by unfold upd; rw [if_neg h]
theorem Io {H : Hp} {a b : Addr} {o u : HO} (h : H a = some o) (h' : H b = some u) (d : o ≠ u) : a ≠ b := by
 intro e; subst e; rw [h] at h'; exact d (Option.some.inj h')
theorem cL {H : Hp} {a b : Addr} {o : HO} (h : H a = some o) (h' : H b = none) : a ≠ b := by
 intro e; subst e; rw [h] at h'; cases h'
section
variable (P : Program) (w : World)
noncomputable def aV (H : Hp) (h : Heap) (a : Addr) : HO -> Prop
 | .lst xs => xs.length <= sizeLine /\ ∃ (its : List Value) (n : Nat), Vals xs its /\ h.get? a = some { cls := .type "list", data := .seq its.toArray n }
 | .tup xs => xs.length <= sizeLine /\ ∃ its : List Value,Vals xs its /\ IsTup h a its.toArray
 | .dK kvs => kvs.length <= sizeLine /\ (a == sysModules) = false /\ ∃ vs,KV kvs vs /\ h.DictOf (aJ P w) a vs
 | .dT kvs => kvs.length <= sizeLine /\ (a == sysModules) = false /\ ∃ xs : List (List Key × Addr × Value),
   Paired (fun (p : List Key × V) (q : List Key × Addr × Value) => p.1 = q.1 /\ H q.2.1 = some (.tup (p.1.map kV)) /\ RelV p.2 q.2.2) kvs xs /\
   ∃ o es ep,h.get? a = some o /\ o.ExactDict /\ o.data = .dict es ep /\ es.toList = xs.map (entryOfKey (tupleKind (aJ P w))) /\ (xs.map (·.1)).Nodup
 | .set S n => h.SetOf (intKind P w) a S n
 | .ins C dx fs => H dx = some (.own a) /\ fs.length <= 1000 /\ dx ≠ a /\ h.get? a = some (PySem.W.instObj C dx) /\
   ∃ mA,h.Ns1 dx mA /\ (∀ f,gI (fs.lookup f) (mA f)) /\ PySem.Within mA (fs.map (·.1))
 | .own _ => ∃ o,h.get? a = some o
 | .xd fs => ∃ mA,h.Ns1 a mA /\ ∀ f,gI (fs.lookup f) (mA f)
 | .gK lo hi => ∃ t u v, h.get? a = some { cls := .type "range", data := .fields #[.int lo t, .int hi u, .int 1 v] }
 | .fh o u => h.get? a = some o /\ aV H h a u
 | .Ca ps => h.get? a = some { cls := .none,data := .fields ps }
 | .met f x => h.get? a = some (PySem.W.methodObj (.ref f) (.ref x))
 | .ext φ => φ h /\ (∃ o,h.get? a = some o) /\ ∀ h1 h2 : Heap,φ h1 -> (∀ o,h1.get? a = some o -> h2.get? a = some o) -> φ h2
noncomputable def gf (H : Hp) (h : Heap) : Prop := ∀ a o,H a = some o -> aV P w H h a o
end
section
variable {P : Program} {w : World} {H H' : Hp} {h h' : Heap} {a : Addr} {o : HO}
theorem aV.lt (x : aV P w H h a o) : a < h.objs.size := by
 cases o with
 | lst xs => obtain ⟨_,_,_,_,e⟩ := x; exact Heap.lt_size e
 | tup xs => obtain ⟨_,_,_,p⟩ := x; exact p.lt
 | dK kvs => obtain ⟨_,_,_,_,o,_,_,e,_⟩ := x; exact Heap.lt_size e
 | dT kvs => obtain ⟨_,_,_,_,o,_,_,e,_⟩ := x; exact Heap.lt_size e
 | set S n => obtain ⟨o,_,_,_,e,_⟩ := x; exact Heap.lt_size e
 | ins C dx fs => obtain ⟨_,_,_,e,_⟩ := x; exact Heap.lt_size e
 | own y => obtain ⟨_,e⟩ := x; exact Heap.lt_size e
 | xd fs => obtain ⟨_,⟨_,_,_,e,_⟩,_⟩ := x; exact Heap.lt_size e
 | gK lo hi => obtain ⟨_,_,_,e⟩ := x; exact Heap.lt_size e
 | fh ob u => obtain ⟨e,_⟩ := x; exact Heap.lt_size e
 | Ca ps => exact Heap.lt_size (show h.get? a = some _ from x)
 | met f y => exact Heap.lt_size (show h.get? a = some _ from x)
 | ext φ => obtain ⟨_,⟨_,e⟩,_⟩ := x; exact Heap.lt_size e
theorem Paired.EG {α β : Type} {F G : α -> β -> Prop} : ∀ {l₁ : List α} {l₂ : List β},Paired F l₁ l₂ -> (∀ a b,F a b -> G a b) -> Paired G l₁ l₂
 | _,_,.nil,_ => .nil
 | _,_,.cons r t,f => .cons (f _ _ r) (Paired.EG t f)
theorem aV.stay (x : aV P w H h a o) (k : ∀ b u,(b = a \/ H b = some (.own a)) -> h.get? b = some u -> h'.get? b = some u)
  (ho : ∀ b,H b = some (.own a) -> H' b = some (.own a)) (ht : ∀ b xs,H b = some (.tup xs) -> H' b = some (.tup xs)) : aV P w H' h' a o := by
 induction o with
 | lst xs => obtain ⟨z,its,n,r,e⟩ := x; exact ⟨z,its,n,r,k _ _ (.inl rfl) e⟩
 | tup xs => obtain ⟨z,its,r,ob,e,c⟩ := x; exact ⟨z,its,r,ob,k _ _ (.inl rfl) e,c⟩
 | dK kvs => obtain ⟨z,y,vs,r,ob,es,ep,e,c⟩ := x; exact ⟨z,y,vs,r,ob,es,ep,k _ _ (.inl rfl) e,c⟩
 | dT kvs =>
  obtain ⟨z,y,xs,r,ob,es,ep,e,c⟩ := x
  exact ⟨z,y,xs,Paired.EG r fun p q z => ⟨z.1,ht _ _ z.2.1,z.2.2⟩,ob,es,ep,k _ _ (.inl rfl) e,c⟩
 | set S n => obtain ⟨ob,es,ep,t,e,c⟩ := x; exact ⟨ob,es,ep,t,k _ _ (.inl rfl) e,c⟩
 | ins C dx fs =>
  obtain ⟨d,z,ne,e,mA,⟨od,es,ep,e2,c⟩,r⟩ := x
  exact ⟨ho _ d,z,ne,k _ _ (.inl rfl) e,mA,⟨od,es,ep,k _ _ (.inr d) e2,c⟩,r⟩
 | own y => obtain ⟨ob,e⟩ := x; exact ⟨ob,k _ _ (.inl rfl) e⟩
 | xd fs => obtain ⟨mA,⟨od,es,ep,e,c⟩,r⟩ := x; exact ⟨mA,⟨od,es,ep,k _ _ (.inl rfl) e,c⟩,r⟩
 | gK lo hi => obtain ⟨t,u,v,e⟩ := x; exact ⟨t,u,v,k _ _ (.inl rfl) e⟩
 | fh ob u ih => obtain ⟨e,q⟩ := x; exact ⟨k _ _ (.inl rfl) e,ih q⟩
 | Ca ps =>
  have e : h.get? a = some { cls := .none,data := .fields ps } := x
  show h'.get? a = some { cls := .none,data := .fields ps }
  exact k a _ (.inl rfl) e
 | met f y =>
  have e : h.get? a = some (PySem.W.methodObj (.ref f) (.ref y)) := x
  show h'.get? a = some (PySem.W.methodObj (.ref f) (.ref y))
  exact k a _ (.inl rfl) e
 | ext φ => obtain ⟨p,⟨o,e⟩,st⟩ := x; exact ⟨st _ _ p fun o q => k _ _ (.inl rfl) q,⟨o,k _ _ (.inl rfl) e⟩,st⟩
theorem gf.lt (x : gf P w H h) (e : H a = some o) : a < h.objs.size := (x a o e).lt
theorem gf.fresh (x : gf P w H h) (e : h.objs.size <= a) : H a = none := by
 cases q : H a with
 | none => rfl
 | some u => exact absurd (Nat.lt_of_lt_of_le (x.lt q) e) (Nat.lt_irrefl _)
theorem gf.kept (x : gf P w H h) (k : ∀ b u,h.get? b = some u -> h'.get? b = some u) : gf P w H h' := fun a o e =>
 (x a o e).stay (fun b u _ q => k b u q) (fun _ q => q) fun _ _ q => q
theorem gf.laid (x : gf P w H h) (k : ∀ b u,h.get? b = some u -> h'.get? b = some u) (hp : h.objs.size <= a) (new : aV P w (upd H a o) h' a o) : gf P w (upd H a o) h' := fun b u e => by
 have hn := x.fresh hp
 by_cases hb : b = a
 ·subst hb; rw [aA] at e; cases e; exact new
 ·rw [aq hb] at e
  exact (x b u e).stay (fun c v _ q => k c v q) (fun c q => by rw [aq (cL q hn)]; exact q) fun c xs q => by rw [aq (cL q hn)]; exact q
end
noncomputable def Rd (H : Hp) (a : Addr) (u : HO) : Prop := H a = some u \/ ∃ o,H a = some (.fh o u)
theorem Rd.ok {P : Program} {w : World} {H : Hp} {h : Heap} {a : Addr} {u : HO} (r : Rd H a u) (x : gf P w H h) : aV P w H h a u := by
 rcases r with r | ⟨o,r⟩
 ·exact x a u r
 ·obtain ⟨_,q⟩ := x a _ r
  exact q
noncomputable def JP : Option HO -> Prop
 | some (.lst _) => True
 | some (.dK _) => True
 | some (.dT _) => True
 | some (.set _ _) => True
 | some (.ins _ _ _) => True
 | some (.ext _) => True
 | _ => False
section
variable {P : Program} {w : World} {H : Hp} {h h' : Heap} {x e : Addr} {o' : HO}
theorem gf.write (ok : gf P w H h) (mu : JP (H x)) (he : e = x \/ H e = some (.own x)) (k : ∀ b u,b ≠ e -> h.get? b = some u -> h'.get? b = some u) (CJ : ∃ u,h'.get? e = some u)
  (new : aV P w (upd H x o') h' x o') : gf P w (upd H x o') h' := fun b u q => by
 have Ik : ∀ c y,H c = some (.own y) -> c ≠ x := fun c y r z => by subst z; rw [r] at mu; exact mu
 have ntup : ∀ c xs,H c = some (.tup xs) -> c ≠ x := fun c xs r z => by subst z; rw [r] at mu; exact mu
 by_cases hb : b = x
 ·subst hb; rw [aA] at q; cases q; exact new
 ·rw [aq hb] at q
  by_cases FI : b = e
  ·have q' : H b = some (.own x) := by
    rcases he with z | z
    ·exact absurd (FI.trans z) hb
    ·rw [FI]; exact z
   rw [q] at q'; cases q'
   obtain ⟨v,hv⟩ := CJ
   exact ⟨v,by rw [FI]; exact hv⟩
  ·refine (ok b u q).stay (fun c v hc r => k c v ?_ r) (fun c r => by rw [aq (Ik c b r)]; exact r) fun c xs r => by rw [aq (ntup c xs r)]; exact r
   rcases hc with rfl | hc
   ·exact FI
   ·rintro rfl
    rcases he with z | z
    ·exact Ik c b hc z
    ·rw [hc] at z; cases z; exact hb rfl
end
structure Un (fs ex : List Addr) (H H' : Hp) (h h' : Heap) : Prop where
 keep : ∀ b o,h.get? b = some o -> H b = none -> b ∉ fs -> b ∉ ex -> h'.get? b = some o
 slot : ∀ b o,h.get? b = some o -> H b = none -> b ∈ fs -> b ∉ ex -> ∃ sl,h'.get? b = some { o with slots := sl }
 free : ∀ b o,h.get? b = some o -> H b = none -> b ∉ ex -> H' b = none
 there : ∀ b o,h.get? b = some o -> b ∉ ex -> ∃ o',h'.get? b = some o'
 tups : ∀ b xs,H b = some (.tup xs) -> H' b = some (.tup xs)
 fV : ∀ b o u,H b = some (.fh o u) -> H' b = some (.fh o u)
 gP : ∀ b ps,H b = some (.Ca ps) -> ∃ more,H' b = some (.Ca (ps ++ more))
section
variable {fs fs' ex ex' : List Addr} {H H1 H2 : Hp} {h h1 h2 h' : Heap} {a x e : Addr} {o : HO}
theorem Un.any (u : Un fs ex H H1 h h1) {b : Addr} {ob : Obj} (q : h.get? b = some ob) (n : H b = none) (hx : b ∉ ex) : ∃ sl,h1.get? b = some { ob with slots := sl } := by
 by_cases hb : b ∈ fs
 ·exact u.slot b ob q n hb hx
 ·exact ⟨ob.slots,u.keep b ob q n hb hx⟩
theorem Un.trans (a : Un fs ex H H1 h h1) (b : Un fs ex H1 H2 h1 h2) : Un fs ex H H2 h h2 where
 keep := fun c ob q n hc hx => b.keep c ob (a.keep c ob q n hc hx) (a.free c ob q n hx) hc hx
 slot := fun c ob q n hc hx => by
  obtain ⟨sl,e1⟩ := a.slot c ob q n hc hx
  obtain ⟨Ck,e2⟩ := b.slot c _ e1 (a.free c ob q n hx) hc hx
  exact ⟨Ck,e2⟩
 free := fun c ob q n hx => by
  obtain ⟨o',e1⟩ := a.there c ob q hx
  exact b.free c o' e1 (a.free c ob q n hx) hx
 there := fun c ob q hx => by
  obtain ⟨o',e1⟩ := a.there c ob q hx
  exact b.there c o' e1 hx
 tups := fun c xs q => b.tups c xs (a.tups c xs q)
 fV := fun c ob xs q => b.fV c ob xs (a.fV c ob xs q)
 gP := fun c ps q => by
  obtain ⟨m1,e1⟩ := a.gP c ps q
  obtain ⟨m2,e2⟩ := b.gP c _ e1
  exact ⟨m1 ++ m2,by rw [e2,Array.append_assoc]⟩
theorem Un.kept (k : ∀ b u,h.get? b = some u -> h'.get? b = some u) : Un fs ex H H h h' :=
 ⟨fun b ob q _ _ _ => k b ob q,fun b ob q _ _ _ => ⟨ob.slots,k b ob q⟩,fun _ _ _ n _ => n,fun b ob q _ => ⟨ob,k b ob q⟩,fun _ _ q => q,fun _ _ _ q => q,fun _ ps q => ⟨#[],by rw [q]; simp⟩⟩
theorem Un.refl : Un fs ex H H h h := Un.kept fun _ _ q => q
theorem Un.laid (k : ∀ b u,h.get? b = some u -> h'.get? b = some u) (hp : h.objs.size <= a) (hn : H a = none) : Un fs ex H (upd H a o) h h' where
 keep := fun b u q _ _ _ => k b u q
 slot := fun b u q _ _ _ => ⟨u.slots,k b u q⟩
 free := fun b u q n _ => by rw [aq (Nat.ne_of_lt (Nat.lt_of_lt_of_le (Heap.lt_size q) hp))]; exact n
 there := fun b u q _ => ⟨u,k b u q⟩
 tups := fun b xs q => by rw [aq (cL q hn)]; exact q
 fV := fun b u xs q => by rw [aq (cL q hn)]; exact q
 gP := fun b ps q => ⟨#[],by rw [aq (cL q hn),q]; simp⟩
theorem Un.write (mu : JP (H x)) (he : e = x \/ H e = some (.own x)) (k : ∀ b u,b ≠ e -> h.get? b = some u -> h'.get? b = some u) (CJ : ∃ u,h'.get? e = some u) : Un fs ex H (upd H x o) h h' := by
 have hx : ∀ b,H b = none -> b ≠ x := fun b n z => by subst z; rw [n] at mu; exact mu
 have hb : ∀ b,H b = none -> b ≠ e := fun b n z => by
  subst z
  rcases he with r | r
  ·exact hx b n r
  ·rw [n] at r; cases r
 have hm : ∀ b u,H b = some u -> ¬ JP (some u) -> b ≠ x := fun b u q nm z => by subst z; rw [q] at mu; exact nm mu
 refine ⟨fun b u q n _ _ => k b u (hb b n) q,fun b u q n _ _ => ⟨u.slots,k b u (hb b n) q⟩,fun b u q n _ => by rw [aq (hx b n)]; exact n,fun b u q _ => ?_,
  fun b xs q => by rw [aq (hm b _ q fun z => z)]; exact q,fun b u xs q => by rw [aq (hm b _ q fun z => z)]; exact q,fun b ps q => ⟨#[],by rw [aq (hm b _ q fun z => z),q]; simp⟩⟩
 by_cases FI : b = e
 ·subst FI; exact CJ
 ·exact ⟨u,k b u FI q⟩
end
noncomputable def JX (h : Heap) (H : Hp) : List Addr := (List.range h.objs.size).filter fun a => (H a).isSome
noncomputable def mU (h : Heap) (H : Hp) : Heap := PySem.W.hideAll h (JX h H)
theorem uP (h : Heap) (H : Hp) : (mU h H).objs.size = h.objs.size := PySem.W.hideAll_size _ _
theorem xW {h : Heap} {H : Hp} {b : Addr} {o : Obj} (e : h.get? b = some o) (n : H b = none) : (mU h H).get? b = some o :=
 PySem.W.hideAll_get _ e fun hm => by
  have q : (H b).isSome = true := (List.mem_filter.mp hm).2
  rw [n] at q; simp at q
theorem AM {h : Heap} {H : Hp} {b : Addr} {o : Obj} (e : (mU h H).get? b = some o) : h.get? b = some o /\ H b = none := by
 have e' : h.get? b = some o := PySem.W.of_hideAll (JX h H) e
 refine ⟨e',?_⟩
 cases q : H b with
 | none => rfl
 | some x =>
  have hm : b ∈ JX h H := List.mem_filter.mpr ⟨List.mem_range.mpr (Heap.lt_size e'),by simp [q]⟩
  have z : (mU h H).get? b = none := PySem.W.hideAll_none (JX h H) hm
  rw [z] at e; cases e
noncomputable def BY (g h : Heap) (L : Addr) : List (Addr × Obj) := (List.range h.objs.size).filterMap fun a => if a = L \/ (g.get? a).isSome = true then none else (h.get? a).map fun o => (a,o)
noncomputable def rest (g h : Heap) (L d : Addr) : List (Addr × Obj) := (BY g h L).filter fun p => decide (p.1 ≠ d)
end L2
namespace L2
open PySem PySem.Spec PyProof.Rows
structure Mod (K : PySem.W.Frag) (mg : Str -> Option Value) (base : Heap) : Prop where
 A3 : K.In base
 glob : base.Ns mainGlobals mg
 blt : ∃ mb, base.Ns builtinsNs mb /\ ∀ x : Str, x ≠ "__name__" -> mb x = bootBuiltins x
 nolimit : base.NoLimit
structure Cx where
 prog : Program
 w : World
 K : PySem.W.Frag
 mg : Str -> Option Value
 base : Heap
 A : Around
 N : List Str
 s₀ : Shared
 H₀ : Hp
 env : Env
 outer : List Env
 stack : List Env
 ex : List Addr
 fn : Str -> Bool
 calm : Bool
 pn : List (Addr × Obj)
 xe : Value -> Shared -> Prop
noncomputable def frs (l : List Env) : List Addr := l.filterMap (·.frame)
noncomputable abbrev Cx.fs (X : Cx) : List Addr := frs X.outer
noncomputable def KW (sc : Scope) (x : Str) : Prop := sc.names.lookup x = some .local \/ sc.names.lookup x = some .cell \/ sc.names.lookup x = some .free
noncomputable def Loc (sc : Scope) (x : Str) : Prop := sc.names.lookup x = some .local \/ sc.names.lookup x = some .cell
noncomputable def Look (env : Env) (h : Heap) (m : Str -> Option Value) (x : Str) (u : Value) : Prop :=
 (env.kindOf x = some .local /\ m x = some u) \/ ((env.kindOf x = some .cell \/ env.kindOf x = some .free) /\ ∃ c,env.cells.lookup x = some c /\ h.IsCell c (some u))
structure Cx.Ok (X : Cx) : Prop where
 mod : Mod X.K X.mg X.base
 kind : X.env.scope.kind = .function
 glob : X.env.globals = mainGlobals
 blt : X.env.builtins = builtinsNs
 above : X.s₀.heap.objs.size <= X.env.locals
 inj : ∀ x y c,X.env.cells.lookup x = some c -> X.env.cells.lookup y = some c -> x = y
 has : ∀ x,(X.env.kindOf x = some .cell \/ X.env.kindOf x = some .free) -> ∃ c,X.env.cells.lookup x = some c
 C0 : ∀ x c,X.fn x = true -> X.env.cells.lookup x = some c -> X.s₀.heap.objs.size <= c
 hd : X.calm = true -> X.A.handled = none
 frames : X.A.frames = some X.stack
 stk : X.stack = X.outer \/ (X.stack = X.env :: X.outer /\ X.env.frame = some X.env.locals)
 Jj : ∀ b ∈ X.ex,b ≠ X.env.locals /\ ∀ x c,X.env.cells.lookup x = some c -> c ≠ b
 bs : ∀ b o,X.base.get? b = some o -> X.s₀.heap.get? b = some o /\ X.H₀ b = none
 vj : X.base.objs.size <= X.s₀.heap.objs.size
 oR : ∀ b o,X.base.get? b = some o -> b ∉ X.ex
 qX : ∀ b ∈ X.ex,b ∉ X.fs
 gx : X.s₀.heap.FunFrames X.base X.outer
 zb : ∀ b ∈ X.fs,X.H₀ b = none
structure Inv (X : Cx) (pins : List (Addr × Obj)) (σ : List (Option V)) (H : Hp) (s : Shared) : Prop where
 ok : X.Ok
 os : s.os = X.s₀.os
 bare : AllBare s.gens
 base : Un X.fs X.ex X.H₀ H X.s₀.heap s.heap
 loc : ∃ m,s.heap.Ns X.env.locals m /\ ∀ (i : Nat) (x : Str) (v : V),X.N[i]? = some x -> σ[i]? = some (some v) -> KW X.env.scope x -> ∃ u,RelV v u /\ Look X.env s.heap m x u
 cell : ∀ x c,X.env.cells.lookup x = some c -> ∃ v,s.heap.IsCell c v
 free : H X.env.locals = none
 b7 : ∀ x c,X.env.cells.lookup x = some c -> H c = none
 pin : ∀ p ∈ X.pn ++ pins,s.heap.get? p.1 = some p.2 /\ H p.1 = none /\ p.1 ≠ X.env.locals /\ p.1 ∉ X.fs /\ ∀ v,p.2.data ≠ .cell v
 hok : gf X.prog X.w H s.heap
 len : σ.length = X.N.length
section
variable {X : Cx} {pins : List (Addr × Obj)} {σ : List (Option V)} {H H' : Hp} {s : Shared} {h' : Heap}
theorem Cx.Ok.nofr (ok : X.Ok) {b : Addr} {o : Obj} (e : X.base.get? b = some o) : b ∉ X.fs := fun hb => by
 have := (ok.gx.mem hb).1
 rw [e] at this; cases this
theorem Inv.bs (I : Inv X pins σ H s) : ∀ b o,X.base.get? b = some o -> s.heap.get? b = some o /\ H b = none := fun b o e =>
 ⟨I.base.keep b o (I.ok.bs b o e).1 (I.ok.bs b o e).2 (I.ok.nofr e) (I.ok.oR b o e),I.base.free b o (I.ok.bs b o e).1 (I.ok.bs b o e).2 (I.ok.oR b o e)⟩
theorem Inv.bk (I : Inv X pins σ H s) : ∀ b o,X.base.get? b = some o -> s.heap.get? b = some o := fun b o e => (I.bs b o e).1
theorem Inv.mod (I : Inv X pins σ H s) : Mod X.K X.mg X.base := I.ok.mod
theorem Inv.gw (I : Inv X pins σ H s) : X.K.In s.heap := I.ok.mod.A3.keeps I.bk
theorem Inv.lt (I : Inv X pins σ H s) : X.env.locals < s.heap.objs.size := let ⟨_,hn,_⟩ := I.loc; hn.lt
theorem Inv.sz (I : Inv X pins σ H s) : X.s₀.heap.objs.size <= s.heap.objs.size := Nat.le_trans I.ok.above (Nat.le_of_lt I.lt)
theorem Inv.Il (I : Inv X pins σ H s) {a : Addr} (h : s.heap.objs.size <= a) : a ∉ X.fs := fun hb => by
 obtain ⟨_,o,ho,_⟩ := I.ok.gx.mem hb
 exact absurd (Nat.lt_of_lt_of_le (Heap.lt_size ho) (Nat.le_trans I.sz h)) (Nat.lt_irrefl _)
theorem Inv.Gd (I : Inv X pins σ H s) : ∀ x c,X.env.cells.lookup x = some c -> c ≠ X.env.locals := fun x c e z => by
 obtain ⟨v,o,ho,hd⟩ := I.cell x c e
 obtain ⟨m,⟨o',es,ep,ho',hd',_⟩,_⟩ := I.loc
 rw [z,ho'] at ho; cases ho; rw [hd'] at hd; cases hd
theorem Inv.gx (I : Inv X pins σ H s) : s.heap.FunFrames X.base X.outer := by
 have all : ∀ (l : List Env),(∀ b ∈ frs l,b ∈ X.fs) -> X.s₀.heap.FunFrames X.base l -> s.heap.FunFrames X.base l := by
  intro l
  induction l with
  | nil => intro _ _; trivial
  | cons env r ih =>
   intro hs hl
   obtain ⟨hk,⟨L,o,hf,hn,ho,hd⟩,hr⟩ := hl
   have hL : L ∈ X.fs := hs L (by unfold frs; rw [List.filterMap_cons,hf]; exact List.mem_cons_self)
   obtain ⟨sl,e⟩ := I.base.slot L o ho (I.ok.zb L hL) hL fun z => I.ok.qX L z hL
   exact ⟨hk,⟨L,_,hf,hn,e,hd⟩,ih (fun b hb => hs b (by unfold frs; rw [List.filterMap_cons,hf]; exact List.mem_cons_of_mem _ hb)) hr⟩
 exact all X.outer (fun _ hb => hb) I.ok.gx
theorem Inv.stack (I : Inv X pins σ H s) : s.heap.FunFrames X.base X.stack := by
 rcases I.ok.stk with e | ⟨e,hf⟩
 ·rw [e]; exact I.gx
 ·rw [e]
  obtain ⟨m,hn,_⟩ := I.loc
  refine .cons (by rw [I.ok.kind]; decide) hf hn ?_ I.gx
  exact Heap.get?_none_of_le (Nat.le_trans I.ok.vj I.ok.above)
theorem Inv.dQ (I : Inv X pins σ H s) : ∀ b ∈ frs X.stack,b ∈ X.env.locals :: X.fs := fun b hb => by
 rcases I.ok.stk with e | ⟨e,hf⟩
 ·rw [e] at hb; exact List.mem_cons_of_mem _ hb
 ·rw [e] at hb
  unfold frs at hb
  rw [List.filterMap_cons,hf] at hb
  exact hb
theorem Inv.fO (I : Inv X pins σ H s) : ∀ b ∈ frs X.stack,H b = none := fun b hb => by
 rcases List.mem_cons.mp (I.dQ b hb) with e | hb
 ·rw [e]; exact I.free
 ·obtain ⟨_,o,ho,_⟩ := I.ok.gx.mem hb
  exact I.base.free b o ho (I.ok.zb b hb) fun z => I.ok.qX b z hb
theorem Inv.step {g' : Array GenState} {t' : Nat} {d' : Drawn} {ch : List Addr} (I : Inv X pins σ H s)
  (hch : ∀ b ∈ ch,(b ∈ X.ex \/ X.s₀.heap.objs.size <= b) /\ b ≠ X.env.locals /\ (∀ x c,X.env.cells.lookup x = some c -> c ≠ b) /\ ∀ p ∈ X.pn ++ pins,p.1 ≠ b)
  (keep : ∀ b o,b ≠ X.env.locals -> b ∉ X.fs -> b ∉ ch -> s.heap.get? b = some o -> H b = none -> h'.get? b = some o)
  (slot : ∀ b o,b ≠ X.env.locals -> b ∈ X.fs -> b ∉ ch -> s.heap.get? b = some o -> H b = none -> ∃ sl,h'.get? b = some { o with slots := sl }) (free : ∀ b o,b ∉ ch -> s.heap.get? b = some o -> H b = none -> H' b = none)
  (there : ∀ b o,b ∉ ch -> s.heap.get? b = some o -> ∃ o',h'.get? b = some o')
  (tups : ∀ b xs,H b = some (.tup xs) -> H' b = some (.tup xs)) (fV : ∀ b o u,H b = some (.fh o u) -> H' b = some (.fh o u)) (gP : ∀ b ps,H b = some (.Ca ps) -> ∃ more,H' b = some (.Ca (ps ++ more)))
  (ns : ∀ m,s.heap.Ns X.env.locals m -> h'.Ns X.env.locals m) (hok : gf X.prog X.w H' h') (hg : AllBare g') :
  Inv X pins σ H' { s with heap := h',gens := g',drawn := d',toks := t' } := by
 have neL : ∀ b o,X.s₀.heap.get? b = some o -> b ≠ X.env.locals := fun b o e => Nat.ne_of_lt (Nat.lt_of_lt_of_le (Heap.lt_size e) I.ok.above)
 have wQ : ∀ b o,X.s₀.heap.get? b = some o -> b ∉ X.ex -> b ∉ ch := fun b o e hx hb => by
  rcases (hch b hb).1 with z | z
  ·exact hx z
  ·exact absurd (Nat.lt_of_lt_of_le (Heap.lt_size e) z) (Nat.lt_irrefl _)
 have cellK : ∀ x c,X.env.cells.lookup x = some c -> ∀ v,s.heap.IsCell c v -> h'.IsCell c v := fun x c e v ⟨o,ho,hd⟩ => by
  have Ip : c ∉ ch := fun z => (hch c z).2.2.1 x c e rfl
  by_cases hc : c ∈ X.fs
  ·obtain ⟨sl,q⟩ := slot c o (I.Gd x c e) hc Ip ho (I.b7 x c e)
   exact ⟨_,q,hd⟩
  ·exact ⟨o,keep c o (I.Gd x c e) hc Ip ho (I.b7 x c e),hd⟩
 refine ⟨I.ok,I.os,hg,⟨fun b o e n hb hx => ?_,fun b o e n hb hx => ?_,fun b o e n hx => ?_,fun b o e hx => ?_,fun b xs e => tups b xs (I.base.tups b xs e),fun b o xs e => fV b o xs (I.base.fV b o xs e),fun b ps e => ?_⟩,?_,fun x c e => ?_,?_,fun x c e => ?_,fun p hp => ?_,hok,I.len⟩
 ·exact keep b o (neL b o e) hb (wQ b o e hx) (I.base.keep b o e n hb hx) (I.base.free b o e n hx)
 ·obtain ⟨sl,e1⟩ := I.base.slot b o e n hb hx
  obtain ⟨Ck,e2⟩ := slot b _ (neL b o e) hb (wQ b o e hx) e1 (I.base.free b o e n hx)
  exact ⟨Ck,e2⟩
 ·obtain ⟨o',e1⟩ := I.base.there b o e hx
  exact free b o' (wQ b o e hx) e1 (I.base.free b o e n hx)
 ·obtain ⟨o',e1⟩ := I.base.there b o e hx
  exact there b o' (wQ b o e hx) e1
 ·obtain ⟨m1,e1⟩ := I.base.gP b ps e
  obtain ⟨m2,e2⟩ := gP b _ e1
  exact ⟨m1 ++ m2,by rw [e2,Array.append_assoc]⟩
 ·obtain ⟨m,hn,hl⟩ := I.loc
  refine ⟨m,ns m hn,fun i x v e1 e2 e3 => ?_⟩
  obtain ⟨u,r,l⟩ := hl i x v e1 e2 e3
  refine ⟨u,r,?_⟩
  rcases l with l | ⟨k,c,e,z⟩
  ·exact .inl l
  ·exact .inr ⟨k,c,e,cellK x c e _ z⟩
 ·obtain ⟨v,z⟩ := I.cell x c e
  exact ⟨v,cellK x c e v z⟩
 ·obtain ⟨m,⟨o,_,_,ho,_⟩,_⟩ := I.loc
  exact free _ o (fun z => (hch _ z).2.1 rfl) ho I.free
 ·obtain ⟨v,o,ho,hd⟩ := I.cell x c e
  exact free c o (fun z => (hch c z).2.2.1 x c e rfl) ho (I.b7 x c e)
 ·obtain ⟨e,n,ne,nf,d⟩ := I.pin p hp
  have Ip : p.1 ∉ ch := fun z => (hch p.1 z).2.2.2 p hp rfl
  exact ⟨keep p.1 p.2 ne nf Ip e n,free p.1 p.2 Ip e n,ne,nf,d⟩
theorem Inv.un {t' : Nat} (I : Inv X pins σ H s) (u : Un X.fs [] H H' s.heap h') (hok : gf X.prog X.w H' h') : Inv X pins σ H' { s with heap := h',toks := t' } := by
 obtain ⟨m,⟨o,es,ep,ho,r⟩,_⟩ := id I.loc
 obtain ⟨sl,hL⟩ := u.any ho I.free (by simp)
 exact I.step (g' := s.gens) (d' := s.drawn) (ch := []) (fun _ z => nomatch z) (fun b o _ hb _ e n => u.keep b o e n hb (by simp)) (fun b o _ hb _ e n => u.slot b o e n hb (by simp)) (fun b o _ e n => u.free b o e n (by simp)) (fun b o _ e => u.there b o e (by simp)) u.tups u.fV u.gP (fun m' hm => by
  obtain ⟨o',es',Js,ho',r'⟩ := hm
  rw [ho] at ho'; cases ho'
  exact ⟨_,es',Js,hL,r'⟩) hok I.bare
theorem Inv.call {g' : Array GenState} {t' : Nat} {d' : Drawn} {ch : List Addr} (I : Inv X pins σ H s) (u : Un (frs X.stack) ch H H' s.heap h') (hok : gf X.prog X.w H' h') (hg : AllBare g')
  (hch : ∀ b ∈ ch,(b ∈ X.ex \/ X.s₀.heap.objs.size <= b) /\ b ≠ X.env.locals /\ (∀ x c,X.env.cells.lookup x = some c -> c ≠ b) /\ ∀ p ∈ X.pn ++ pins,p.1 ≠ b) :
  Inv X pins σ H' { s with heap := h',gens := g',drawn := d',toks := t' } := by
 obtain ⟨m,⟨o,es,ep,ho,r⟩,_⟩ := id I.loc
 obtain ⟨sl,hL⟩ := u.any ho I.free fun z => (hch _ z).2.1 rfl
 exact I.step (ch := ch) hch (fun b o hL hb hc e n => u.keep b o e n (fun z => (List.mem_cons.mp (I.dQ b z)).elim hL hb) hc) (fun b o _ _ hc e n => u.any e n hc) (fun b o hc e n => u.free b o e n hc) (fun b o hc e => u.there b o e hc) u.tups u.fV u.gP (fun m' hm => by
  obtain ⟨o',es',Js,ho',r'⟩ := hm
  rw [ho] at ho'; cases ho'
  exact ⟨_,es',Js,hL,r'⟩) hok hg
theorem Inv.turned {t' : Nat} {it : Addr} (I : Inv X pins σ H s) (k : ∀ b o,b ≠ it -> s.heap.get? b = some o -> h'.get? b = some o) (hn : H it = none) (hL : it ≠ X.env.locals)
  (h1 : it ∈ X.ex \/ X.s₀.heap.objs.size <= it) (h2 : ∀ x c,X.env.cells.lookup x = some c -> c ≠ it) (h3 : ∀ p ∈ X.pn ++ pins,p.1 ≠ it) : Inv X pins σ H { s with heap := h',toks := t' } := by
 have nit : ∀ b u,H b = some u -> b ≠ it := fun b u e z => by rw [z,hn] at e; cases e
 refine I.step (g' := s.gens) (d' := s.drawn) (ch := [it]) (fun b hb => ?_) (fun b o _ _ hc e _ => k b o (fun z => hc (by simp [z])) e) (fun b o _ _ hc e _ => ⟨o.slots,k b o (fun z => hc (by simp [z])) e⟩) (fun _ _ _ _ n => n)
  (fun b o hc e => ⟨o,k b o (fun z => hc (by simp [z])) e⟩) (fun _ _ e => e) (fun _ _ _ e => e) (fun b ps e => ⟨#[],by rw [e]; simp⟩) (fun m hm => ?_) (fun b u e => ?_) I.bare
 ·have e : b = it := by simpa using hb
  subst e
  exact ⟨h1,hL,h2,h3⟩
 ·obtain ⟨o,es,ep,ho,r⟩ := hm
  exact ⟨o,es,ep,k _ o (Ne.symm hL) ho,r⟩
 ·refine (I.hok b u e).stay (fun c v hc q => k c v ?_ q) (fun _ q => q) fun _ _ q => q
  rcases hc with z | z
  ·rw [z]; exact nit b u e
  ·exact nit c _ z
theorem Inv.tok (I : Inv X pins σ H s) (t : Nat) : Inv X pins σ H { s with toks := t } := I.un (h' := s.heap) (t' := t) Un.refl I.hok
theorem Inv.kept {t' : Nat} (I : Inv X pins σ H s) (k : ∀ b u,s.heap.get? b = some u -> h'.get? b = some u) : Inv X pins σ H { s with heap := h',toks := t' } := I.un (Un.kept k) (I.hok.kept k)
theorem Inv.laid {a : Addr} {o : HO} {t' : Nat} (I : Inv X pins σ H s) (k : ∀ b u,s.heap.get? b = some u -> h'.get? b = some u) (hp : s.heap.objs.size <= a) (new : aV X.prog X.w (upd H a o) h' a o) :
  Inv X pins σ (upd H a o) { s with heap := h',toks := t' } := I.un (Un.laid k hp (I.hok.fresh hp)) (I.hok.laid k hp new)
theorem Inv.write {x e : Addr} {o : HO} {t' : Nat} (I : Inv X pins σ H s) (mu : JP (H x)) (he : e = x \/ H e = some (.own x)) (k : ∀ b u,b ≠ e -> s.heap.get? b = some u -> h'.get? b = some u) (CJ : ∃ u,h'.get? e = some u)
  (new : aV X.prog X.w (upd H x o) h' x o) : Inv X pins σ (upd H x o) { s with heap := h',toks := t' } := I.un (Un.write mu he k CJ) (I.hok.write mu he k CJ new)
theorem Inv.sG {j8 : List (Addr × Obj)} (I : Inv X pins σ H s) (h : ∀ p ∈ j8,s.heap.get? p.1 = some p.2 /\ H p.1 = none /\ p.1 ≠ X.env.locals /\ p.1 ∉ X.fs /\ ∀ v,p.2.data ≠ .cell v) : Inv X j8 σ H s :=
 ⟨I.ok,I.os,I.bare,I.base,I.loc,I.cell,I.free,I.b7,fun p hp => (List.mem_append.mp hp).elim (fun z => I.pin p (List.mem_append_left _ z)) (h p),I.hok,I.len⟩
theorem oS {N : List Str} (hN : N.Nodup) {i j : Nat} {x : Str} (a : N[i]? = some x) (b : N[j]? = some x) : i = j := by
 obtain ⟨h1,e1⟩ := List.getElem?_eq_some_iff.mp a
 obtain ⟨h2,e2⟩ := List.getElem?_eq_some_iff.mp b
 exact (List.getElem_inj hN).mp (e1.trans e2.symm)
theorem kZ {M : Model} {A : Around} {E : Value -> Shared -> Prop} {i : Nat} {x : Str} {v : V} {u : Value} {Q : Unit -> Shared -> Prop} (I : Inv X pins σ H s) (hN : X.N.Nodup) (hi : X.N[i]? = some x) (hx : Loc X.env.scope x) (r : RelV v u)
  (h : ∀ s',Inv X pins (σ.set i (some v)) H s' -> (∃ a,Heap.SameBut a s.heap s'.heap /\ (a = X.env.locals \/ X.env.cells.lookup x = some a)) -> Q () s') (hf : X.fn x = true \/ X.env.scope.names.lookup x = some .local := by first | exact .inl rfl | exact .inr rfl | assumption) : wpAny M A (storeName X.env x u) Q E s := by
 obtain ⟨m,hn,hl⟩ := id I.loc
 have hcls : (X.env.scope.kind == .class || (X.env.scope.kind == .module && X.env.locals != X.env.globals)) = false := by rw [I.ok.kind]; rfl
 have IS : i < σ.length := by rw [I.len]; exact (List.getElem?_eq_some_iff.mp hi).1
 have Gd := I.Gd
 have tracked : ∀ {a : Addr} {h' : Heap},(∃ o,s.heap.get? a = some o /\ H a = none) -> Heap.SameBut a s.heap h' -> gf X.prog X.w H h' := fun {a h'} ha hs b ob e => by
  obtain ⟨_,_,hfree⟩ := ha
  refine (I.hok b ob e).stay (fun c w' hc q => (hs.2 c ?_).trans q) (fun _ q => q) fun _ _ q => q
  rintro rfl
  rcases hc with rfl | hc
  ·rw [hfree] at e; cases e
  ·rw [hfree] at hc; cases hc
 rcases hx with hk | hk
 ·refine wpAny_storeName_local hk hn (fun h' hn' hs => ?_) hcls
  obtain ⟨oL,_,_,hoL,_⟩ := id hn
  refine h _ ⟨I.ok,I.os,I.bare,⟨fun b o e n hb hx => ?_,fun b o e n hb hx => ?_,I.base.free,fun b o e hx => ?_,I.base.tups,I.base.fV,I.base.gP⟩,⟨_,hn',fun j y v' e1 e2 e3 => ?_⟩,fun y c e => ?_,I.free,I.b7,fun p hp => ?_,tracked ⟨oL,hoL,I.free⟩ hs,by simpa using I.len⟩ ⟨_,hs,.inl rfl⟩
  ·exact (hs.2 b (Nat.ne_of_lt (Nat.lt_of_lt_of_le (Heap.lt_size e) I.ok.above))).trans (I.base.keep b o e n hb hx)
  ·obtain ⟨sl,e1⟩ := I.base.slot b o e n hb hx
   exact ⟨sl,(hs.2 b (Nat.ne_of_lt (Nat.lt_of_lt_of_le (Heap.lt_size e) I.ok.above))).trans e1⟩
  ·obtain ⟨o',e1⟩ := I.base.there b o e hx
   exact ⟨o',(hs.2 b (Nat.ne_of_lt (Nat.lt_of_lt_of_le (Heap.lt_size e) I.ok.above))).trans e1⟩
  ·by_cases hj : j = i
   ·subst hj
    rw [hi] at e1; cases e1
    rw [List.getElem?_set_self IS] at e2
    cases e2
    exact ⟨u,r,.inl ⟨hk,by simp⟩⟩
   ·rw [List.getElem?_set_ne (Ne.symm hj)] at e2
    obtain ⟨u',r',q⟩ := hl j y v' e1 e2 e3
    refine ⟨u',r',?_⟩
    rcases q with ⟨k,e⟩ | ⟨k,c,e,z⟩
    ·refine .inl ⟨k,?_⟩
     have : y ≠ x := fun e => hj (oS hN e1 (e ▸ hi))
     simp [this,e]
    ·exact .inr ⟨k,c,e,z.sameBut hs (Gd y c e)⟩
  ·obtain ⟨w',z⟩ := I.cell y c e
   exact ⟨w',z.sameBut hs (Gd y c e)⟩
  ·obtain ⟨e,n,ne,nf,d⟩ := I.pin p hp
   exact ⟨(hs.2 p.1 ne).trans e,n,ne,nf,d⟩
 ·have hfn : X.fn x = true := by
   rcases hf with z | z
   ·exact z
   ·rw [z] at hk; cases hk
  obtain ⟨c,hc⟩ := I.ok.has x (.inl hk)
  obtain ⟨w',z⟩ := I.cell x c hc
  refine wpAny_storeName_cell I.ok.kind hk hc z (fun h' hc' hs => ?_)
  obtain ⟨oc,hoc,hocd⟩ := id z
  refine h { s with heap := h' } ⟨I.ok,I.os,I.bare,⟨fun b o e n hb hx => ?_,fun b o e n hb hx => ?_,I.base.free,fun b o e hx => ?_,I.base.tups,I.base.fV,I.base.gP⟩,⟨m,hn.sameBut hs (Ne.symm (Gd x c hc)),fun j y v' e1 e2 e3 => ?_⟩,fun y c' e => ?_,I.free,I.b7,fun p hp => ?_,tracked ⟨oc,hoc,I.b7 x c hc⟩ hs,by simpa using I.len⟩ ⟨c,hs,.inr hc⟩
  ·exact (hs.2 b (Nat.ne_of_lt (Nat.lt_of_lt_of_le (Heap.lt_size e) (I.ok.C0 x c hfn hc)))).trans (I.base.keep b o e n hb hx)
  ·obtain ⟨sl,e1⟩ := I.base.slot b o e n hb hx
   exact ⟨sl,(hs.2 b (Nat.ne_of_lt (Nat.lt_of_lt_of_le (Heap.lt_size e) (I.ok.C0 x c hfn hc)))).trans e1⟩
  ·obtain ⟨o',e1⟩ := I.base.there b o e hx
   exact ⟨o',(hs.2 b (Nat.ne_of_lt (Nat.lt_of_lt_of_le (Heap.lt_size e) (I.ok.C0 x c hfn hc)))).trans e1⟩
  ·by_cases hj : j = i
   ·subst hj
    rw [hi] at e1; cases e1
    rw [List.getElem?_set_self IS] at e2
    cases e2
    exact ⟨u,r,.inr ⟨.inl hk,c,hc,hc'⟩⟩
   ·rw [List.getElem?_set_ne (Ne.symm hj)] at e2
    obtain ⟨u',r',q⟩ := hl j y v' e1 e2 e3
    refine ⟨u',r',?_⟩
    rcases q with q | ⟨k,c',e,z'⟩
    ·exact .inl q
    ·refine .inr ⟨k,c',e,z'.sameBut hs ?_⟩
     rintro rfl
     exact hj (oS hN e1 (I.ok.inj _ _ _ e hc ▸ hi))
  ·by_cases hcc : c' = c
   ·subst hcc; exact ⟨_,hc'⟩
   ·obtain ⟨w2,z2⟩ := I.cell y c' e
    exact ⟨w2,z2.sameBut hs hcc⟩
  ·obtain ⟨e,n,ne,nf,d⟩ := I.pin p hp
   refine ⟨(hs.2 p.1 ?_).trans e,n,ne,nf,d⟩
   intro q
   rw [q,hoc] at e
   have q' : oc = p.2 := Option.some.inj e
   exact d w' (by rw [<- q']; exact hocd)
theorem nW {M : Model} {A : Around} {E : Value -> Shared -> Prop} {i : Nat} {x : Str} {v : V} {u : Value} {Q : Unit -> Shared -> Prop} (I : Inv X pins σ H s) (hN : X.N.Nodup) (hi : X.N[i]? = some x) (hx : Loc X.env.scope x) (r : RelV v u)
  (h : ∀ s',Inv X pins (σ.set i (some v)) H s' -> Q () s') (hf : X.fn x = true \/ X.env.scope.names.lookup x = some .local := by first | exact .inl rfl | exact .inr rfl | assumption) : wpAny M A (storeName X.env x u) Q E s :=
 kZ I hN hi hx r (fun s' I' _ => h s' I') hf
theorem Inv.yG {s' : Shared} {ch : List Addr} (I : Inv X pins σ H s) (ho : s'.os = s.os) (u : Un (frs X.stack) ch H H' s.heap s'.heap) (hok : gf X.prog X.w H' s'.heap) (hg : AllBare s'.gens)
  (hch : ∀ b ∈ ch,(b ∈ X.ex \/ X.s₀.heap.objs.size <= b) /\ b ≠ X.env.locals /\ (∀ x c,X.env.cells.lookup x = some c -> c ≠ b) /\ ∀ p ∈ X.pn ++ pins,p.1 ≠ b) : Inv X pins σ H' s' := by
 obtain ⟨h',g',d',t',o'⟩ := s'
 have e : o' = s.os := ho
 subst e
 exact I.call (g' := g') (t' := t') (d' := d') u hok hg hch
end
noncomputable abbrev XK := Value -> Option Addr -> Hp -> Prop
noncomputable abbrev St := List (Option V)
noncomputable abbrev VK := V -> Hp -> Prop
noncomputable abbrev TE := St -> Hp -> VK -> Prop
noncomputable abbrev TT := St -> Hp -> (Bool -> Hp -> Prop) -> Prop
noncomputable abbrev TA := St -> Hp -> (List V -> Hp -> Prop) -> Prop
structure Ends where
 nx : St -> Hp -> Prop
 rt : VK
 bk : St -> Hp -> Prop := fun _ _ => False
 ct : St -> Hp -> Prop := fun _ _ => False
noncomputable abbrev TS := Ends -> St -> Hp -> Prop
noncomputable def EP (X : Cx) (pins : List (Addr × Obj)) (σ : St) (Q : VK) (u : Value) (s' : Shared) : Prop := ∃ v H',Inv X pins σ H' s' /\ RelV v u /\ Q v H'
noncomputable def TP (X : Cx) (pins : List (Addr × Obj)) (σ : St) (Q : Bool -> Hp -> Prop) (b : Bool) (s' : Shared) : Prop := ∃ H',Inv X pins σ H' s' /\ Q b H'
noncomputable def AP (X : Cx) (pins : List (Addr × Obj)) (σ : St) (Q : List V -> Hp -> Prop) (us : List Value) (s' : Shared) : Prop := ∃ vs H',Inv X pins σ H' s' /\ Vals vs us /\ Q vs H'
noncomputable def SP (X : Cx) (pins : List (Addr × Obj)) (D : Ends) (f : Flow) (s' : Shared) : Prop :=
 match f with
 | .next => ∃ σ' H',Inv X pins σ' H' s' /\ D.nx σ' H'
 | .brk => ∃ σ' H',Inv X pins σ' H' s' /\ D.bk σ' H'
 | .cont => ∃ σ' H',Inv X pins σ' H' s' /\ D.ct σ' H'
 | .ret u => ∃ v σ' H',Inv X pins σ' H' s' /\ RelV v u /\ D.rt v H'
noncomputable def PE (X : Cx) (e : Expr) (t : TE) : Prop :=
 ∀ (pins : List (Addr × Obj)) (s : Shared) (σ : St) (H : Hp) (Q : VK),Inv X pins σ H s -> t σ H Q -> wpAny (model X.prog X.w) X.A (eval e X.env) (EP X pins σ Q) X.xe s
noncomputable def PT (X : Cx) (e : Expr) (t : TT) : Prop :=
 ∀ (pins : List (Addr × Obj)) (s : Shared) (σ : St) (H : Hp) (Q : Bool -> Hp -> Prop),Inv X pins σ H s -> t σ H Q -> wpAny (model X.prog X.w) X.A (isTrue e X.env (eval e X.env)) (TP X pins σ Q) X.xe s
noncomputable def PW (X : Cx) (e : Expr) (t : TT) : Prop :=
 ∀ (whole : Sem Value) (pins : List (Addr × Obj)) (s : Shared) (σ : St) (H : Hp) (Q : Bool -> Hp -> Prop),Inv X pins σ H s -> t σ H Q -> wpAny (model X.prog X.w) X.A (isTrue e X.env whole) (TP X pins σ Q) X.xe s
theorem PW.pt {X : Cx} {e : Expr} {t : TT} (h : PW X e t) : PT X e t := h _
noncomputable def PA (X : Cx) (es : List Expr) (t : TA) : Prop :=
 ∀ (pos : Pos) (pins : List (Addr × Obj)) (s : Shared) (σ : St) (H : Hp) (Q : List V -> Hp -> Prop),Inv X pins σ H s -> t σ H Q -> wpAny (model X.prog X.w) X.A (spliced (backTo pos (starEach es X.env))) (AP X pins σ Q) X.xe s
noncomputable def PS (X : Cx) (st : Stmt) (t : TS) : Prop :=
 ∀ (pins : List (Addr × Obj)) (s : Shared) (σ : St) (H : Hp) (D : Ends),Inv X pins σ H s -> t D σ H -> wpAny (model X.prog X.w) X.A (exec st X.env) (SP X pins D) X.xe s
noncomputable def jP (X : Cx) (st : List Stmt) (t : TS) : Prop :=
 ∀ (pins : List (Addr × Obj)) (s : Shared) (σ : St) (H : Hp) (D : Ends),Inv X pins σ H s -> t D σ H -> wpAny (model X.prog X.w) X.A (execs st X.env) (SP X pins D) X.xe s
theorem aW {α : Type} {t : Sem α} {Q Q' : α -> Shared -> Prop} {M : Model} {A : Around} {E : Value -> Shared -> Prop} {s : Shared} (h : wpAny M A t Q E s) (hQ : ∀ a s,Q a s -> Q' a s) : wpAny M A t Q' E s := wpAny_mono h hQ fun _ _ x => x
end L2
namespace L2
open PySem PySem.Spec PyProof.Rows
section
variable {X : Cx}
noncomputable def GY (i : Nat) : TE := fun σ H Q => ∃ v,σ[i]? = some (some v) /\ Q v H
noncomputable def tC (v : V) : TE := fun _ H Q => Q v H
theorem D5 {i : Nat} {x : Str} {pos : Pos} (hN : X.N[i]? = some x) (hv : KW X.env.scope x) (hd : (x == ("__debug__" : Str)) = false := by decide) (hcd : (x == ("__classdict__" : Str)) = false := by decide) : PE X (.Name x pos) (GY i) := by
 intro pins s σ H Q I h
 obtain ⟨v,e,h⟩ := h
 obtain ⟨m,hn,hl⟩ := I.loc
 obtain ⟨u,r,l⟩ := hl i x v hN e hv
 have fin : EP X pins σ Q u s := ⟨v,H,I,r,h⟩
 rcases l with ⟨hk,hm⟩ | ⟨hk,c,hc,hcell⟩
 ·exact wpAny_Name (wpAny_loadName_local I.ok.kind hk hn hm fin) hd
 ·rcases hk with hk | hk
  ·exact wpAny_Name (wpAny_loadName_cell I.ok.kind hk hc hcell fin) hd
  ·exact wpAny_Name (wpAny_loadName_free I.ok.kind hk hc hcell fin hcd) hd
theorem Ec {i j pos} : PE X (.Constant (.int i) j pos) (tC (.int i)) := fun _ _ _ H _ I h => wpAny_Constant_int ⟨.int i,H,I.tok _,⟨_,rfl⟩,h⟩
theorem HZ {b j pos} : PE X (.Constant (.bool b) j pos) (tC (.bl b)) := fun _ _ _ H _ I h => Constant_bool ⟨.bl b,H,I,rfl,h⟩
theorem D9 {j pos} : PE X (.Constant .none j pos) (tC .ak) := fun _ _ _ H _ I h => Constant_none ⟨.ak,H,I,rfl,h⟩
theorem qx {x j pos} : PE X (.Constant (.str x) j pos) (tC (.str x)) := fun _ _ _ H _ I h => Calls.Constant_str ⟨.str x,H,I.tok _,⟨_,rfl⟩,h⟩
noncomputable def Gl (X : Cx) (x : Str) : Prop := X.env.kindOf x = some .globalImplicit
theorem dZ {E : Value -> Shared -> Prop} {pins : List (Addr × Obj)} {s : Shared} {σ : St} {H : Hp} {x : Str} {u : Value} {pos : Pos} {Q : Value -> Shared -> Prop} (I : Inv X pins σ H s) (hg : Gl X x) (hm : X.mg x = some u) (h : Q u s)
  (hd : (x == ("__debug__" : Str)) = false := by decide) : wpAny (model X.prog X.w) X.A (eval (.Name x pos) X.env) Q E s :=
 Calls.Name_function_global I.ok.kind hg (Calls.loadGlobal_global (by rw [I.ok.glob]; exact I.mod.glob.keeps I.bk) hm h) hd
theorem ko {E : Value -> Shared -> Prop} {pins : List (Addr × Obj)} {s : Shared} {σ : St} {H : Hp} {x : Str} {u : Value} {pos : Pos} {Q : Value -> Shared -> Prop} (I : Inv X pins σ H s) (hg : Gl X x) (hm : X.mg x = none) (hv : bootBuiltins x = some u) (h : Q u s)
  (hn : x ≠ "__name__" := by decide) (hd : (x == ("__debug__" : Str)) = false := by decide) : wpAny (model X.prog X.w) X.A (eval (.Name x pos) X.env) Q E s := by
 obtain ⟨mb,h1,h2⟩ := I.mod.blt
 exact Calls.Name_function_global I.ok.kind hg (Calls.loadGlobal_builtin (by rw [I.ok.glob]; exact I.mod.glob.keeps I.bk) hm (by rw [I.ok.blt]; exact h1.keeps I.bk) ((h2 x hn).trans hv) h) hd
theorem Ax {x : Str} {v : V} {u : Value} {pos : Pos} (hg : Gl X x) (hm : X.mg x = some u) (r : RelV v u) (hd : (x == ("__debug__" : Str)) = false := by decide) : PE X (.Name x pos) (tC v) :=
 fun _ _ _ H _ I h => dZ I hg hm ⟨v,H,I,r,h⟩ hd
theorem AA {x : Str} {v : V} {u : Value} {pos : Pos} (hg : Gl X x) (hm : X.mg x = none) (hv : bootBuiltins x = some u) (r : RelV v u) (hn : x ≠ "__name__" := by decide) (hd : (x == ("__debug__" : Str)) = false := by decide) : PE X (.Name x pos) (tC v) :=
 fun _ _ _ H _ I h => ko I hg hm hv ⟨v,H,I,r,h⟩ hn hd
variable {a b : Expr} {ta tb : TE} {pos : Pos}
noncomputable def tB (t : TE) : TT := fun σ H Q => t σ H fun x H1 => ∃ c,x = .bl c /\ Q c H1
theorem DR {e : Expr} {t : TE} (h : PE X e t) (he : ∀ whole,isTrue e X.env whole = (do let v <- whole; standAt e.pos; holding [v] (truthy v)) := by intro _; rfl) : PT X e (tB t) := by
 intro pins s σ H Q I hw
 refine isTrue_plain (aW (h pins s σ H _ I hw) fun v s1 ⟨x,H1,I1,r1,q1⟩ => ?_) (he _)
 obtain ⟨d,rfl,q⟩ := q1
 cases r1
 exact wpAny_truthy_bool ⟨H1,I1,q⟩
variable {tA JY : TT} {rest : List Expr}
noncomputable def Hf (t u : TT) : TT := fun σ H Q => t σ H fun c H1 => if c = true then u σ H1 Q else Q false H1
noncomputable def tOr (t u : TT) : TT := fun σ H Q => t σ H fun c H1 => if c = true then Q true H1 else u σ H1 Q
noncomputable def G4 (t : TT) : TT := fun σ H Q => t σ H fun c H1 => Q (!c) H1
theorem pw_and1 (ha : PT X a tA) : PW X (.BoolOp .And [a] pos) tA := by
 intro wh pins s σ H Q I h
 refine isTrue_and (aW (ha pins s σ H Q I h) fun c s1 e => ?_)
 cases c with
 | true => exact isTrue_and_nil e
 | false => exact e
theorem pw_or1 (ha : PT X a tA) : PW X (.BoolOp .Or [a] pos) tA := by
 intro wh pins s σ H Q I h
 refine isTrue_or (aW (ha pins s σ H Q I h) fun c s1 e => ?_)
 cases c with
 | false => exact isTrue_or_nil e
 | true => exact e
theorem pw_and (ha : PT X a tA) (hb : PW X (.BoolOp .And (b :: rest) pos) JY) : PW X (.BoolOp .And (a :: b :: rest) pos) (Hf tA JY) := by
 intro wh pins s σ H Q I h
 refine isTrue_and (aW (ha pins s σ H _ I h) fun c s1 ⟨H1,I1,q1⟩ => ?_)
 cases c with
 | true => exact hb wh pins s1 σ H1 Q I1 q1
 | false => exact ⟨H1,I1,q1⟩
theorem pw_or (ha : PT X a tA) (hb : PW X (.BoolOp .Or (b :: rest) pos) JY) : PW X (.BoolOp .Or (a :: b :: rest) pos) (tOr tA JY) := by
 intro wh pins s σ H Q I h
 refine isTrue_or (aW (ha pins s σ H _ I h) fun c s1 ⟨H1,I1,q1⟩ => ?_)
 cases c with
 | true => exact ⟨H1,I1,q1⟩
 | false => exact hb wh pins s1 σ H1 Q I1 q1
theorem DS (ha : PT X a tA) : PT X (.UnaryOp .Not a pos) (G4 tA) := by
 intro pins s σ H Q I h
 exact isTrue_not (ha pins s σ H (fun c H1 => Q (!c) H1) I h)
noncomputable def Cg (ta tb : TE) : TE := fun σ H Q => ta σ H fun x H1 => ∃ c,x = .bl c /\ if c = true then tb σ H1 Q else Q (.bl false) H1
noncomputable def G3 (ta tb : TE) : TE := fun σ H Q => ta σ H fun x H1 => ∃ c,x = .bl c /\ if c = true then Q (.bl true) H1 else tb σ H1 Q
noncomputable def Cd (ta : TE) : TE := fun σ H Q => ta σ H fun x H1 => ∃ c,x = .bl c /\ Q (.bl (!c)) H1
theorem D7 {op} {t : TE} (h : PE X a t) : PE X (.BoolOp op [a] pos) t := fun pins s σ H Q I hw => BoolOp_one (h pins s σ H Q I hw)
theorem Ef (ha : PE X a ta) (hb : PE X (.BoolOp .And (b :: rest) pos) tb) : PE X (.BoolOp .And (a :: b :: rest) pos) (Cg ta tb) := by
 intro pins s σ H Q I h
 refine BoolOp_and (aW (ha pins s σ H _ I h) fun v s1 ⟨x,H1,I1,r1,q1⟩ => ?_)
 obtain ⟨c,rfl,q1⟩ := q1
 cases r1
 refine wpAny_truthy_bool ?_
 cases c with
 | true => exact hb pins s1 σ H1 Q I1 q1
 | false => exact ⟨.bl false,H1,I1,rfl,q1⟩
theorem HW (ha : PE X a ta) (hb : PE X (.BoolOp .Or (b :: rest) pos) tb) : PE X (.BoolOp .Or (a :: b :: rest) pos) (G3 ta tb) := by
 intro pins s σ H Q I h
 refine BoolOp_or (aW (ha pins s σ H _ I h) fun v s1 ⟨x,H1,I1,r1,q1⟩ => ?_)
 obtain ⟨c,rfl,q1⟩ := q1
 cases r1
 refine wpAny_truthy_bool ?_
 cases c with
 | false => exact hb pins s1 σ H1 Q I1 q1
 | true => exact ⟨.bl true,H1,I1,rfl,q1⟩
theorem D8 (ha : PE X a ta) : PE X (.UnaryOp .Not a pos) (Cd ta) := by
 intro pins s σ H Q I h
 refine UnaryOp_ (aW (ha pins s σ H _ I h) fun v s1 ⟨x,H1,I1,r1,q1⟩ => ?_)
 obtain ⟨c,rfl,q1⟩ := q1
 cases r1
 exact not_of (wpAny_truthy_bool ⟨.bl (!c),H1,I1,rfl,q1⟩)
noncomputable def tIf (t : TT) (ta tb : TE) : TE := fun σ H Q => t σ H fun c H1 => if c = true then ta σ H1 Q else tb σ H1 Q
theorem wD {c : Expr} (hc : PT X c tA) (ha : PE X a ta) (hb : PE X b tb) : PE X (.IfExp c a b pos) (tIf tA ta tb) := by
 intro pins s σ H Q I h
 refine wpAny_IfExp (aW (hc pins s σ H _ I h) fun d s1 ⟨H1,I1,q1⟩ => ?_)
 cases d with
 | true => exact ha pins s1 σ H1 Q I1 q1
 | false => exact hb pins s1 σ H1 Q I1 q1
end
end L2
namespace L2
open PySem PySem.Spec PyProof.Rows
noncomputable def fk (K : PySem.W.Frag) (H : Hp) (a : Addr) (xs : List V) : Prop :=
 Rd H a (.lst xs) \/
  ∃ (o : Obj) (its : Array Value) (n : Nat), K.lookup a = some o /\ o.cls = .type "list" /\ o.dict = none /\ o.data = .seq its n /\ its.size <= sizeLine /\ Vals xs its.toList
noncomputable def jv (K : PySem.W.Frag) (H : Hp) (a : Addr) (xs : List V) : Prop :=
 Rd H a (.tup xs) \/
  ∃ (o : Obj) (its : Array Value) (n : Nat), K.lookup a = some o /\ o.cls = .type "tuple" /\ o.data = .seq its n /\ its.size <= sizeLine /\ Vals xs its.toList
noncomputable def absV : Value -> Option V
 | .none => some .ak
 | .bool b => some (.bl b)
 | .int i _ => some (.int i)
 | .str x _ => some (.str x)
 | .bytes b _ => some (.vh b)
 | .float b _ => some (.GI b)
 | .ref a => some (.ref a)
 | .type n => some (.ty n)
 | _ => none
theorem RelV.abs {x : V} {u : Value} (r : RelV x u) : absV u = some x := by
 cases x with
 | ak => cases r; rfl
 | bl _ => cases r; rfl
 | int _ => obtain ⟨t,rfl⟩ := r; rfl
 | str _ => obtain ⟨t,rfl⟩ := r; rfl
 | vh _ => obtain ⟨t,rfl⟩ := r; rfl
 | GI _ => obtain ⟨t,rfl⟩ := r; rfl
 | ref _ => cases r; rfl
 | ty _ => cases r; rfl
theorem RelV.inj {x y : V} {u : Value} (r : RelV x u) (q : RelV y u) : x = y := Option.some.inj (r.abs.symm.trans q.abs)
theorem Vals.inj : ∀ {xs ys : List V} {us : List Value},Vals xs us -> Vals ys us -> xs = ys
 | _,_,_,.nil,.nil => rfl
 | _,_,_,.cons r t,.cons r' t' => by rw [r.inj r',Vals.inj t t']
section
variable {X : Cx} {pins : List (Addr × Obj)} {σ : St} {H : Hp} {s : Shared} {a : Addr} {xs ys : List V}
theorem Inv.list (I : Inv X pins σ H s) (h : fk X.K H a xs) : ∃ its : List Value,Vals xs its /\ PlainL s.heap a its.toArray /\ xs.length <= sizeLine := by
 rcases h with h | ⟨o,its,n,hk,hc,hd,hs,hz,r⟩
 ·obtain ⟨z,its,n,r,e⟩ := h.ok I.hok
  exact ⟨its,r,⟨_,n,e,rfl,rfl,rfl⟩,z⟩
 ·refine ⟨its.toList,r,⟨o,n,I.gw a o hk,hc,hd,by simpa using hs⟩,?_⟩
  have e := r.length
  simp only [Array.length_toList] at e
  omega
theorem Inv.tuple (I : Inv X pins σ H s) (h : jv X.K H a xs) : ∃ its : List Value,Vals xs its /\ IsTup s.heap a its.toArray /\ xs.length <= sizeLine := by
 rcases h with h | ⟨o,its,n,hk,hc,hs,hz,r⟩
 ·obtain ⟨z,its,r,p⟩ := h.ok I.hok
  exact ⟨its,r,p,z⟩
 ·refine ⟨its.toList,r,⟨o,I.gw a o hk,hc,n,by simpa using hs⟩,?_⟩
  have e := r.length
  simp only [Array.length_toList] at e
  omega
theorem Inv.kj (I : Inv X pins σ H s) (h : fk X.K H a xs) (h' : fk X.K H a ys) : xs = ys := by
 obtain ⟨its,r,⟨o,n,e,_,_,d⟩,_⟩ := I.list h
 obtain ⟨its',r',⟨o',n',e',_,_,d'⟩,_⟩ := I.list h'
 rw [e] at e'; cases e'
 rw [d] at d'
 injection d' with d1 _
 have : its = its' := by simpa using congrArg Array.toList d1
 subst this
 exact r.inj r'
theorem Inv.kY (I : Inv X pins σ H s) (h : jv X.K H a xs) (h' : jv X.K H a ys) : xs = ys := by
 obtain ⟨its,r,⟨o,e,_,n,d⟩,_⟩ := I.tuple h
 obtain ⟨its',r',⟨o',e',_,n',d'⟩,_⟩ := I.tuple h'
 rw [e] at e'; cases e'
 rw [d] at d'
 injection d' with d1 _
 have : its = its' := by simpa using congrArg Array.toList d1
 subst this
 exact r.inj r'
end
noncomputable abbrev Cx.bI (X : Cx) (E : Value -> Shared -> Prop) : Cx := { X with xe := E }
noncomputable abbrev Cx.Cy (X : Cx) : Cx := X.bI fun _ _ => False
theorem Cx.Ok.bI {X : Cx} (ok : X.Ok) (E : Value -> Shared -> Prop) : (X.bI E).Ok :=
 ⟨ok.mod,ok.kind,ok.glob,ok.blt,ok.above,ok.inj,ok.has,ok.C0,ok.hd,ok.frames,ok.stk,ok.Jj,ok.bs,ok.vj,ok.oR,ok.qX,ok.gx,ok.zb⟩
theorem Cx.Ok.aY {X : Cx} {E : Value -> Shared -> Prop} (ok : (X.bI E).Ok) : X.Ok :=
 ⟨ok.mod,ok.kind,ok.glob,ok.blt,ok.above,ok.inj,ok.has,ok.C0,ok.hd,ok.frames,ok.stk,ok.Jj,ok.bs,ok.vj,ok.oR,ok.qX,ok.gx,ok.zb⟩
section
variable {X : Cx} {pins : List (Addr × Obj)} {σ : St} {H : Hp} {s : Shared} {E : Value -> Shared -> Prop}
theorem Inv.bI (I : Inv X pins σ H s) (E : Value -> Shared -> Prop) : Inv (X.bI E) pins σ H s := ⟨I.ok.bI E,I.os,I.bare,I.base,I.loc,I.cell,I.free,I.b7,I.pin,I.hok,I.len⟩
theorem Inv.aY (I : Inv (X.bI E) pins σ H s) : Inv X pins σ H s := ⟨I.ok.aY,I.os,I.bare,I.base,I.loc,I.cell,I.free,I.b7,I.pin,I.hok,I.len⟩
theorem SP.aY {D : Ends} {f : Flow} {s' : Shared} (h : SP (X.bI E) pins D f s') : SP X pins D f s' := by
 cases f with
 | next => obtain ⟨σ',H',I,q⟩ := h; exact ⟨σ',H',I.aY,q⟩
 | brk => obtain ⟨σ',H',I,q⟩ := h; exact ⟨σ',H',I.aY,q⟩
 | cont => obtain ⟨σ',H',I,q⟩ := h; exact ⟨σ',H',I.aY,q⟩
 | ret u => obtain ⟨v,σ',H',I,r,q⟩ := h; exact ⟨v,σ',H',I.aY,r,q⟩
theorem PE.Cy {e : Expr} {t : TE} (h : PE X.Cy e t) : PE X e t := fun pins s σ H Q I hw =>
 wpAny_mono (h pins s σ H Q (I.bI _) hw) (fun _ _ ⟨v,H',I',r,q⟩ => ⟨v,H',I'.aY,r,q⟩) fun _ _ z => False.elim z
theorem PT.Cy {e : Expr} {t : TT} (h : PT X.Cy e t) : PT X e t := fun pins s σ H Q I hw =>
 wpAny_mono (h pins s σ H Q (I.bI _) hw) (fun _ _ ⟨H',I',q⟩ => ⟨H',I'.aY,q⟩) fun _ _ z => False.elim z
theorem jP.Cy {st : List Stmt} {t : TS} (h : jP X.Cy st t) : jP X st t := fun pins s σ H D I hw =>
 wpAny_mono (h pins s σ H D (I.bI _) hw) (fun _ _ q => q.aY) fun _ _ z => False.elim z
end
section
variable {X : Cx} {st : Stmt} {rest : List Stmt} {t u : TS} {e : Expr} {te : TE} {pos : Pos}
noncomputable def Ce : TS := fun D σ H => D.nx σ H
noncomputable def G1 (t u : TS) : TS := fun D σ H => t { D with nx := u D } σ H
theorem sE : jP X [] Ce := fun _ _ σ H _ I h => wpAny_execs_nil ⟨σ,H,I,h⟩
theorem oK (h1 : PS X st t) (h2 : jP X rest u) : jP X (st :: rest) (G1 t u) := by
 intro pins s σ H D I h
 refine wpAny_execs_cons (aW (h1 pins s σ H { D with nx := u D } I h) fun f s1 q => ?_)
 cases f with
 | next =>
  obtain ⟨σ',H',I',q⟩ := q
  exact h2 pins s1 σ' H' D I' q
 | ret v => exact q
 | brk => exact q
 | cont => exact q
theorem Inv.quiet {pins : List (Addr × Obj)} {σ : St} {H : Hp} {s : Shared} (I : Inv X pins σ H s) : interactive X.env = false := by simp [interactive,I.ok.kind]
noncomputable def Cf (te : TE) : TS := fun D σ H => te σ H fun _ H1 => D.nx σ H1
theorem Ao (he : PE X e te) (hs : swapsWith e none pos.line X.env = pure false := by rfl) : PS X (.Expr e pos) (Cf te) := by
 intro pins s σ H D I h
 exact wpAny_Expr_any (aW (he pins s σ H _ I h) fun v s1 ⟨x,H1,I1,r1,q1⟩ => ⟨σ,H1,I1,q1⟩) I.quiet hs
noncomputable def G2 (te : TE) : TS := fun D σ H => te σ H D.rt
theorem DU (he : PE X e te) : PS X (.Return (some e) pos) (G2 te) := by
 intro pins s σ H D I h
 exact wpAny_Return_some (aW (he pins s σ H _ I h) fun v s1 ⟨x,H1,I1,r1,q1⟩ => ⟨x,σ,H1,I1,r1,q1⟩)
noncomputable def G6 (c : TT) (t u : TS) : TS := fun D σ H => c σ H fun b H1 => if b = true then t D σ H1 else u D σ H1
theorem HQ {c : Expr} {a b : List Stmt} {tc : TT} (hc : PT X c tc) (ha : jP X a t) (hb : jP X b u) : PS X (.If c a b pos) (G6 tc t u) := by
 intro pins s σ H D I h
 refine wpAny_If (aW (hc pins s σ H _ I h) fun d s1 ⟨H1,I1,q1⟩ => ?_)
 cases d with
 | true => exact ha pins s1 σ H1 D I1 q1
 | false => exact hb pins s1 σ H1 D I1 q1
end
noncomputable abbrev TG := V -> St -> Hp -> (St -> Hp -> Prop) -> Prop
noncomputable abbrev Gw := List V -> St -> Hp -> (St -> Hp -> Prop) -> Prop
noncomputable def PG (X : Cx) (target : Expr) (t : TG) : Prop :=
 ∀ (pins : List (Addr × Obj)) (s : Shared) (σ : St) (H : Hp) (v : V) (u : Value) (Q : St -> Hp -> Prop),Inv X pins σ H s -> RelV v u -> t v σ H Q ->
  wpAny (model X.prog X.w) X.A (assign target X.env u) (fun _ s' => ∃ σ' H',Inv X pins σ' H' s' /\ Q σ' H') X.xe s
noncomputable def KY (X : Cx) (ts : List Expr) (t : Gw) : Prop :=
 ∀ (pins : List (Addr × Obj)) (s : Shared) (σ : St) (H : Hp) (vs : List V) (us : List Value) (Q : St -> Hp -> Prop),Inv X pins σ H s -> Vals vs us -> t vs σ H Q ->
  wpAny (model X.prog X.w) X.A (assignInOrder ((assignEach ts X.env).map (·.2)) us) (fun _ s' => ∃ σ' H',Inv X pins σ' H' s' /\ Q σ' H') X.xe s
noncomputable abbrev TSet := V -> V -> V -> Hp -> (Hp -> Prop) -> Prop
noncomputable def PSet (X : Cx) (t : TSet) : Prop :=
 ∀ (pins : List (Addr × Obj)) (s : Shared) (σ : St) (H : Hp) (o i v : V) (ov iv u : Value) (Q : Hp -> Prop),Inv X pins σ H s -> RelV o ov -> RelV i iv -> RelV v u -> t o i v H Q ->
  wpAny (model X.prog X.w) X.A (setItem ov iv u) (fun _ s' => ∃ H',Inv X pins σ H' s' /\ Q H') X.xe s
section
variable {X : Cx} {pos : Pos}
noncomputable def lH (i : Nat) : TG := fun v σ H Q => Q (σ.set i (some v)) H
theorem Av {i : Nat} {x : Str} (hN : X.N.Nodup) (hi : X.N[i]? = some x) (hx : Loc X.env.scope x) (hf : X.fn x = true \/ X.env.scope.names.lookup x = some .local := by first | exact .inl rfl | exact .inr rfl | assumption) : PG X (.Name x pos) (lH i) := by
 intro pins s σ H v u Q I r h
 exact wpAny_assign_Name (nW I hN hi hx r (fun s' I' => ⟨_,H,I',h⟩) hf)
noncomputable def gNil : Gw := fun vs σ H Q => vs = [] /\ Q σ H
noncomputable def IU (t : TG) (u : Gw) : Gw := fun vs σ H Q => ∃ v r,vs = v :: r /\ t v σ H fun σ' H' => u r σ' H' Q
theorem Au : KY X [] gNil := by
 intro pins s σ H vs us Q I r h
 obtain ⟨e,h⟩ := h
 subst e
 cases r
 exact assignInOrder_nil ⟨σ,H,I,h⟩
theorem oN {e : Expr} {es : List Expr} {t : TG} {u : Gw} (h1 : PG X e t) (h2 : KY X es u)
  (hs : (assignEach (e :: es) X.env).map (·.2) = assign e X.env :: (assignEach es X.env).map (·.2) := by rfl) : KY X (e :: es) (IU t u) := by
 intro pins s σ H vs us Q I r h
 obtain ⟨v,vr,e1,h⟩ := h
 subst e1
 cases r with
 | cons r rr =>
  rw [hs]
  refine assignInOrder_cons (aW (h1 pins s σ H _ _ _ I r h) fun _ s1 ⟨σ1,H1,I1,q1⟩ => ?_)
  exact h2 pins s1 σ1 H1 _ _ Q I1 rr q1
noncomputable def gTup (K : PySem.W.Frag) (n : Nat) (t : Gw) : TG := fun v σ H Q => ∃ a xs,v = .ref a /\ jv K H a xs /\ xs.length = n /\ t xs σ H Q
theorem D4 {es : List Expr} {k : Nat} {t : Gw} {n : Nat} (hc : X.calm = true) (h : KY X es t)
  (hn : (assignEach es X.env).length = n := by rfl) (hst : (assignEach es X.env).findIdx? (·.1) = none := by rfl) : PG X (.Tuple es k pos) (gTup X.K n t) := by
 intro pins s σ H v u Q I r hw
 obtain ⟨a,xs,e1,hq,hl,hw⟩ := hw
 subst e1
 cases r
 obtain ⟨its,rv,ht,hz⟩ := I.tuple hq
 refine assign_Tuple_tuple (I.ok.hd hc) ht (by simp [hn,<- hl,rv.length]) hst fun h' hx => ?_
 have I1 : Inv X pins σ H { s with heap := h' } := I.kept (t' := s.toks) fun b o e => hx b o (Nat.ne_of_lt (Heap.lt_size e)) e
 exact h pins _ σ H xs _ Q I1 (by simpa using rv) hw
noncomputable def vB (te : TE) (g : TG) : TS := fun D σ H => te σ H fun x H1 => g x σ H1 D.nx
theorem DY {tg e : Expr} {te : TE} {g : TG} (he : PE X e te) (hg : PG X tg g) (hs : swapsWithSole [tg] e pos.line X.env = pure false := by rfl) (hw : swappedStores [tg] e X.env = pure none := by rfl)
  (h1 : (assignEach [tg] X.env).map (·.2) = [assign tg X.env] := by rfl) : PS X (.Assign [tg] e pos) (vB te g) := by
 intro pins s σ H D I h
 refine wpAny_Assign_stores (aW (he pins s σ H _ I h) fun v s1 ⟨x,H1,I1,r1,q1⟩ => ?_) hs hw
 rw [h1]
 exact aW (hg pins s1 σ H1 x v _ I1 r1 q1) fun _ s2 q => q
theorem wm {i : Nat} {x : Str} {e : Expr} {te : TE} {pos' : Pos} (hN : X.N.Nodup) (hi : X.N[i]? = some x) (hx : Loc X.env.scope x) (he : PE X e te) (hs : swapsWith e (some (.Name x pos')) pos.line X.env = pure false := by rfl) (hf : X.fn x = true \/ X.env.scope.names.lookup x = some .local := by first | exact .inl rfl | exact .inr rfl | assumption) :
  PS X (.Assign [.Name x pos'] e pos) (vB te (lH i)) := by
 intro pins s σ H D I h
 refine wpAny_Assign_Name (aW (he pins s σ H _ I h) fun v s1 ⟨y,H1,I1,r1,q1⟩ => ?_) hs
 exact nW I1 hN hi hx r1 (fun s2 I2 => ⟨_,H1,I2,q1⟩) hf
end
section
variable {X : Cx} {pos : Pos}
noncomputable def vz (c : TT) (tb : TS) : TS := fun D σ H => ∃ W : Nat -> St -> Hp -> Prop,(∃ m,W m σ H) /\ ∀ m σ H,W m σ H ->
 c σ H fun b H1 => if b = true then ∃ N : St -> Hp -> Prop,(∀ σ' H',N σ' H' -> ∃ m',m' < m /\ W m' σ' H') /\ tb { D with nx := N,ct := N,bk := D.nx } σ H1 else D.nx σ H1
theorem wj {c : Expr} {body : List Stmt} {tc : TT} {tb : TS} (hp : PassesOwn (model X.prog X.w) X.A X.env X.xe) (hc : PT X c tc) (hb : jP X body tb) : PS X (.While c body [] pos) (vz tc tb) := by
 intro pins s σ H D I h
 obtain ⟨W,⟨m0,w0⟩,turn⟩ := h
 refine wpAny_While (codeAny_whileLoop (fun n s' => ∃ σ' H',Inv X pins σ' H' s' /\ W n σ' H') ?_ m0 ⟨σ,H,I,w0⟩)
 rintro n s1 ⟨σ1,H1,I1,w1⟩
 refine wpAny_passesOwn hp (aW (hc pins s1 σ1 H1 _ I1 (turn n σ1 H1 w1)) fun b s2 ⟨H2,I2,q2⟩ => ?_)
 cases b with
 | true =>
  obtain ⟨N,hN,q2⟩ := q2
  rw [if_pos rfl]
  refine wpAny_passesOwn hp (aW (hb pins s2 σ1 H2 _ I2 q2) fun f s3 q3 => ?_)
  cases f with
  | next =>
   obtain ⟨σ3,H3,I3,n3⟩ := q3
   obtain ⟨m',hm,w3⟩ := hN σ3 H3 n3
   exact ⟨m',hm,σ3,H3,I3,w3⟩
  | cont =>
   obtain ⟨σ3,H3,I3,n3⟩ := q3
   obtain ⟨m',hm,w3⟩ := hN σ3 H3 n3
   exact ⟨m',hm,σ3,H3,I3,w3⟩
  | brk => exact q3
  | ret v => exact q3
 | false =>
  rw [if_neg Bool.false_ne_true]
  exact wpAny_execs_nil ⟨σ1,H2,I2,q2⟩
end
structure It where
 go : Nat -> Hp -> Prop
 JT : Nat -> Hp -> V -> Hp -> Prop
 stop : Nat -> Hp -> Prop
noncomputable def kN (X : Cx) (pins : List (Addr × Obj)) (H : Hp) (b : Addr) : Prop :=
 H b = none /\ b ≠ X.env.locals /\ b ∉ X.fs /\ (b ∈ X.ex \/ X.s₀.heap.objs.size <= b) /\ (∀ x c,X.env.cells.lookup x = some c -> c ≠ b) /\ ∀ p ∈ X.pn ++ pins,p.1 ≠ b
theorem Inv.uS {X : Cx} {pins : List (Addr × Obj)} {σ : St} {H H' : Hp} {s : Shared} {b : Addr} (I : Inv X pins σ H s) (hb : s.heap.objs.size <= b) (hn : H' b = none) : kN X pins H' b := by
 refine ⟨hn,Nat.ne_of_gt (Nat.lt_of_lt_of_le I.lt hb),I.Il hb,.inr (Nat.le_trans I.sz hb),fun x c e z => ?_,fun p hp z => ?_⟩
 ·obtain ⟨v,q⟩ := I.cell x c e
  exact absurd (Nat.lt_of_lt_of_le q.lt (by rw [z]; exact hb)) (Nat.lt_irrefl _)
 ·exact absurd (Nat.lt_of_lt_of_le (Heap.lt_size (I.pin p hp).1) (by rw [z]; exact hb)) (Nat.lt_irrefl _)
structure Turn (P : Program) (w : World) (K : PySem.W.Frag) (tg : Expr) (J : It) (fp : List Addr) (it : Addr) (tn : Nat -> Heap -> Prop) : Prop where
 mem : it ∈ fp
 obj : ∀ i h,tn i h -> ∀ b ∈ fp,∃ o,h.get? b = some o /\ ∀ v,o.data ≠ .cell v
 keep : ∀ i h h',tn i h -> (∀ b ∈ fp,∀ o,h.get? b = some o -> h'.get? b = some o) -> tn i h'
 item : ∀ (X : Cx),X.prog = P -> X.w = w -> X.K = K -> X.calm = true -> ∀ (i : Nat) (pins : List (Addr × Obj)) (s : Shared) (σ : St) (H : Hp) (E : Value -> Shared -> Prop),Inv X pins σ H s -> (∀ b ∈ fp,kN X pins H b) -> tn i s.heap -> J.go i H ->
  wpAny (model P w) X.A (pyNext (.ref it)) (fun r s1 => ∃ u,r = some u /\
   wpAny (model P w) X.A (letOwnedTupleGo tg (.ref it) u) (fun _ s2 => ∃ x H',Inv X pins σ H' s2 /\ RelV x u /\ J.JT i H x H' /\ tn (i + 1) s2.heap /\ ∀ b ∈ fp,H' b = none) E s1) E s
 done : ∀ (X : Cx),X.prog = P -> X.w = w -> X.K = K -> X.calm = true -> ∀ (i : Nat) (pins : List (Addr × Obj)) (s : Shared) (σ : St) (H : Hp) (E : Value -> Shared -> Prop),Inv X pins σ H s -> (∀ b ∈ fp,kN X pins H b) -> tn i s.heap -> J.stop i H ->
  wpAny (model P w) X.A (pyNext (.ref it)) (fun r s1 => r = none /\ Inv X pins σ H s1) E s
 self : ∀ (A : Around) (i : Nat) (s : Shared) (Q : Value -> Shared -> Prop) (E : Value -> Shared -> Prop),tn i s.heap -> Q (.ref it) s -> wpAny (model P w) A (pyIter (.ref it)) Q E s
noncomputable abbrev TI := St -> Hp -> (It -> Hp -> Prop) -> Prop
noncomputable def PIE (X : Cx) (pins : List (Addr × Obj)) (σ : St) (tg : Expr) (R : It -> Hp -> Prop) (itv : Value) (s2 : Shared) : Prop :=
 ∃ (it : Addr) (fp : List Addr) (tn : Nat -> Heap -> Prop) (J : It) (H' : Hp),itv = .ref it /\ Inv X pins σ H' s2 /\ Turn X.prog X.w X.K tg J fp it tn /\ tn 0 s2.heap /\ (∀ b ∈ fp,kN X pins H' b) /\ R J H'
noncomputable def PI (X : Cx) (tg iter : Expr) (wi : TI) : Prop :=
 ∀ (pins : List (Addr × Obj)) (s : Shared) (σ : St) (H : Hp) (R : It -> Hp -> Prop),Inv X pins σ H s -> wi σ H R ->
  wpAny (model X.prog X.w) X.A (eval iter X.env) (fun v s1 => wpAny (model X.prog X.w) X.A (pyIter v) (PIE X pins σ tg R) X.xe s1) X.xe s
theorem oY {M : Model} {A : Around} {E : Value -> Shared -> Prop} {s : Shared} {tg : Expr} {it : Addr} {u : Value} {o : Obj} {n : String} {vs : Array Value} {Q : Unit -> Shared -> Prop} (ho : s.heap.get? it = some o) (hc : o.cls = .type n) (hd : o.data = .fields vs)
    (hn : ["enumerate", "zip", "dict_itemiterator", "dict_reverseitemiterator", "odict_iterator", "itertools.zip_longest", "itertools.pairwise"].contains n = false) (hQ : Q () s) : wpAny M A (letOwnedTupleGo tg (.ref it) u) Q E s := by
  unfold letOwnedTupleGo
  cases tg <;> first
    | exact wpAny_pure hQ
    | (cases u <;> first
        | exact wpAny_pure hQ
        | (refine wpAny_bind (wpAny_load ho ?_)
           rw [hc,hd]
           show wpAny M A (if (["enumerate", "zip", "dict_itemiterator", "dict_reverseitemiterator", "odict_iterator", "itertools.zip_longest", "itertools.pairwise"].contains n && vs[0]? == some (rawInt _)) = true then _ else _) Q E s
           rw [if_neg (by intro h; rw [hn,Bool.false_and] at h; cases h)]
           exact wpAny_pure hQ))
noncomputable def Itl (K : PySem.W.Frag) (a : Addr) : It :=
 ⟨fun i H => ∃ xs x,fk K H a xs /\ xs[i]? = some x,fun i H x H' => H' = H /\ ∀ xs,fk K H a xs -> xs[i]? = some x,fun i H => ∃ xs,fk K H a xs /\ xs.length <= i⟩
noncomputable def Itt (K : PySem.W.Frag) (a : Addr) : It :=
 ⟨fun i H => ∃ xs x,jv K H a xs /\ xs[i]? = some x,fun i H x H' => H' = H /\ ∀ xs,jv K H a xs -> xs[i]? = some x,fun i H => ∃ xs,jv K H a xs /\ xs.length <= i⟩
noncomputable def K1 (lo : Int) (n : Nat) : It := ⟨fun i _ => i < n,fun i H x H' => H' = H /\ x = .int (lo + i),fun i _ => n <= i⟩
theorem ua {P : Program} {w : World} {K : PySem.W.Frag} {tg : Expr} (a it : Addr) : Turn P w K tg (Itl K a) [it] it (fun i h => h.IsListIter it a i) where
 mem := by simp
 obj := fun i h st b hb => by
  have e : b = it := by simpa using hb
  subst e
  obtain ⟨o,e,c,d⟩ := st
  exact ⟨o,e,fun v z => by rw [d] at z; cases z⟩
 keep := fun i h h' st k => st.at fun o e => k it (by simp) o e
 item := by
  intro X hP hw hK hc i pins s σ H E I hf st hg
  subst hP hw hK
  obtain ⟨xs,x,hq,hx⟩ := hg
  obtain ⟨its,rv,p,hz⟩ := I.list hq
  obtain ⟨u,hu,ru⟩ := rv.get hx
  obtain ⟨f0,f1,f2,f3,f4,f5⟩ := hf it (by simp)
  refine wpAny_pyNext_list_item st p.isList (x := u) (by simpa using hu) fun h' st' sb => ?_
  have I1 : Inv X pins σ H { s with heap := h' } := I.turned (t' := s.toks) (fun b o hb e => (sb.2 b hb).trans e) f0 f1 f3 f4 f5
  obtain ⟨o,e,c,d⟩ := id st'
  exact ⟨u,rfl,oY (s := { s with heap := h' }) e c d (by decide) ⟨x,H,I1,ru,⟨rfl,fun ys hy => by rw [I.kj hy hq]; exact hx⟩,st',fun b hb => (hf b hb).1⟩⟩
 done := by
  intro X hP hw hK hc i pins s σ H E I hf st hg
  subst hP hw hK
  obtain ⟨xs,hq,hx⟩ := hg
  obtain ⟨its,rv,p,hz⟩ := I.list hq
  obtain ⟨f0,f1,f2,f3,f4,f5⟩ := hf it (by simp)
  have hl := rv.length
  exact wpAny_pyNext_list_end (I.ok.hd hc) st p.isList (by simp; omega) fun h' eb => ⟨rfl,I.turned (t' := s.toks) (fun b o hb e => eb b o hb e) f0 f1 f3 f4 f5⟩
 self := fun _ _ _ _ _ st h => wpAny_pyIter_listiter st h
theorem pX {P : Program} {w : World} {K : PySem.W.Frag} {tg : Expr} (a it : Addr) : Turn P w K tg (Itt K a) [it] it (fun i h => h.IsTupleIter it a i) where
 mem := by simp
 obj := fun i h st b hb => by
  have e : b = it := by simpa using hb
  subst e
  obtain ⟨o,e,c,d⟩ := st
  exact ⟨o,e,fun v z => by rw [d] at z; cases z⟩
 keep := fun i h h' st k => st.at fun o e => k it (by simp) o e
 item := by
  intro X hP hw hK hc i pins s σ H E I hf st hg
  subst hP hw hK
  obtain ⟨xs,x,hq,hx⟩ := hg
  obtain ⟨its,rv,p,hz⟩ := I.tuple hq
  obtain ⟨u,hu,ru⟩ := rv.get hx
  obtain ⟨f0,f1,f2,f3,f4,f5⟩ := hf it (by simp)
  refine wpAny_pyNext_tuple_item st (show s.heap.IsTuple a its.toArray from p) (x := u) (by simpa using hu) fun h' st' sb => ?_
  have I1 : Inv X pins σ H { s with heap := h' } := I.turned (t' := s.toks) (fun b o hb e => (sb.2 b hb).trans e) f0 f1 f3 f4 f5
  obtain ⟨o,e,c,d⟩ := id st'
  exact ⟨u,rfl,oY (s := { s with heap := h' }) e c d (by decide) ⟨x,H,I1,ru,⟨rfl,fun ys hy => by rw [I.kY hy hq]; exact hx⟩,st',fun b hb => (hf b hb).1⟩⟩
 done := by
  intro X hP hw hK hc i pins s σ H E I hf st hg
  subst hP hw hK
  obtain ⟨xs,hq,hx⟩ := hg
  obtain ⟨its,rv,p,hz⟩ := I.tuple hq
  obtain ⟨f0,f1,f2,f3,f4,f5⟩ := hf it (by simp)
  have hl := rv.length
  exact wpAny_pyNext_tuple_end (I.ok.hd hc) st (show s.heap.IsTuple a its.toArray from p) (by simp; omega) fun h' eb => ⟨rfl,I.turned (t' := s.toks) (fun b o hb e => eb b o hb e) f0 f1 f3 f4 f5⟩
 self := fun _ _ _ _ _ st h => wpAny_pyIter_tupleiter st h
theorem pY {P : Program} {w : World} {K : PySem.W.Frag} {tg : Expr} (it : Addr) (lo : Int) (n : Nat) : Turn P w K tg (K1 lo n) [it] it (fun i h => IsRangeIter h it (lo + (i : Nat) * 1) ((n : Int) - (i : Nat)) 1) where
 mem := by simp
 obj := fun i h st b hb => by
  have e : b = it := by simpa using hb
  subst e
  exact ⟨_,st,fun v z => by
   have z' : Data.fields _ = Data.cell v := z
   cases z'⟩
 keep := fun i h h' st k => k it (by simp) _ st
 item := by
  intro X hP hw hK hc i pins s σ H E I hf st hg
  subst hP hw hK
  obtain ⟨f0,f1,f2,f3,f4,f5⟩ := hf it (by simp)
  have W := Walks.range (prog := X.prog) (w := X.w) (I.ok.hd hc) it lo 1 n
  refine W.item i s _ _ hg st fun v h' tk hv st' kk => ?_
  obtain ⟨t,rfl⟩ := hv
  have I1 : Inv X pins σ H { s with heap := h',toks := tk } := I.turned (fun b o hb e => kk b o (by simpa using hb) e) f0 f1 f3 f4 f5
  refine ⟨_, rfl, oY (s := { s with heap := h', toks := tk }) (n := "range_iterator") st' rfl rfl (by decide) ⟨.int (lo + i), H, I1, ⟨t, ?_⟩, ⟨rfl, rfl⟩, st', fun b hb => (hf b hb).1⟩⟩
  rw [Int.mul_one]
 done := by
  intro X hP hw hK hc i pins s σ H E I hf st hg
  subst hP hw hK
  obtain ⟨f0,f1,f2,f3,f4,f5⟩ := hf it (by simp)
  exact wpAny_pyNext_range_end (I.ok.hd hc) st (by have : n <= i := hg; omega) fun h' eb => ⟨rfl,I.turned (t' := s.toks) (fun b o hb e => eb b o hb e) f0 f1 f3 f4 f5⟩
 self := fun _ _ _ _ _ st h => wpAny_pyIter_rangeiter st h
end L2
namespace L2
open PySem PySem.Spec PyProof.Rows
section
variable {X : Cx} {tg : Expr}
theorem v9 {pins : List (Addr × Obj)} {σ : St} {H : Hp} {s : Shared} {R : It -> Hp -> Prop} {E : Value -> Shared -> Prop} {lo hi : Int} {t u v : Tok} {tk : Nat} (I : Inv X pins σ H s) (h1 : -(2 ^ 62) <= lo) (h2 : lo < 2 ^ 62) (h3 : -(2 ^ 62) <= hi) (h4 : hi < 2 ^ 62)
  (q : R (K1 lo (hi - lo).toNat) H) : wpAny (model X.prog X.w) X.A (pyIter (.ref s.heap.objs.size)) (PIE X pins σ tg R) E { s with heap := s.heap.push { cls := .type "range", data := .fields #[.int lo t, .int hi u, .int 1 v] }, toks := tk } := by
 refine wpAny_pyIter_range (IsRange.new ..) (small_one h1 h2 h3 h4) ?_
 have I1 : Inv X pins σ H { s with heap := s.heap.push { cls := .type "range", data := .fields #[.int lo t, .int hi u, .int 1 v] }, toks := tk } := I.kept fun b o e => Heap.get?_push_of_some _ e
 refine ⟨(s.heap.push { cls := .type "range", data := .fields #[.int lo t, .int hi u, .int 1 v] }).objs.size, [(s.heap.push { cls := .type "range", data := .fields #[.int lo t, .int hi u, .int 1 v] }).objs.size], _, _, H, rfl,
  I1.kept (t' := tk) fun b o e => Heap.get?_push_of_some _ e,pY _ lo (hi - lo).toNat,?_,fun b hb => ?_,q⟩
 ·have e1 : lo + ((0 : Nat) : Int) * 1 = lo := by simp
  have e2 : (((hi - lo).toNat : Nat) : Int) - ((0 : Nat) : Int) = Builtin.Range.rangeSize lo hi 1 := by rw [rangeSize_one]; split <;> omega
  show IsRangeIter _ _ (lo + ((0 : Nat) : Int) * 1) ((((hi - lo).toNat : Nat) : Int) - ((0 : Nat) : Int)) 1
  rw [e1,e2]
  exact Heap.get?_push_size _ rfl
 ·have e : b = (s.heap.push { cls := .type "range", data := .fields #[.int lo t, .int hi u, .int 1 v] }).objs.size := by simpa using hb
  subst e
  exact I1.uS (Nat.le_refl _) (I1.hok.fresh (Nat.le_refl _))
noncomputable def CI (ta : TA) : TI := fun σ H R => ta σ H fun vs H1 => ∃ j : Int,vs = [.int j] /\ -(2 ^ 62) <= j /\ j < 2 ^ 62 /\ R (K1 0 j.toNat) H1
theorem uy {a : Expr} {ta : TA} {p pos : Pos} (hg : Gl X "range") (hm : X.mg "range" = none) (ha : PA X [a] ta) (hs : starEach [a] X.env = [(false, eval a X.env)] := by rfl) : PI X tg (.Call (.Name "range" p) [a] [] pos) (CI ta) := by
 intro pins s σ H R I h
 refine Call_ (ko I hg hm boot_range (PyProof.Rows.callWith_type1 (aW (ha pos pins s σ H _ I h) fun us s1 ⟨vs,H1,I1,r1,q1⟩ => ?_) hs rfl))
 obtain ⟨j,e,q1,q2,q⟩ := q1
 subst e
 cases r1 with
 | cons r rr =>
  cases rr
  obtain ⟨t,rfl⟩ := r
  exact call_range_1 (v9 I1 (by omega) (by omega) q1 q2 (by simpa using q))
noncomputable def G7 (wi : TI) (g : TG) (tb : TS) : TS := fun D σ H => wi σ H fun J H1 => ∃ W : Nat -> Nat -> St -> Hp -> Prop,(∃ m,W 0 m σ H1) /\ ∀ i m σ H,W i m σ H ->
 (J.stop i H /\ D.nx σ H) \/ (J.go i H /\ ∃ N : St -> Hp -> Prop,(∀ σ' H',N σ' H' -> ∃ m',m' < m /\ W (i + 1) m' σ' H') /\ ∀ x H',J.JT i H x H' -> g x σ H' fun σ2 H2 => tb { D with nx := N,ct := N,bk := D.nx } σ2 H2)
noncomputable def j7 (fp : List Addr) (h : Heap) : List (Addr × Obj) := fp.filterMap fun b => (h.get? b).map fun o => (b,o)
theorem dW {fp : List Addr} {h : Heap} {b : Addr} {o : Obj} (hb : b ∈ fp) (e : h.get? b = some o) : (b,o) ∈ j7 fp h := List.mem_filterMap.mpr ⟨b,hb,by rw [e]; rfl⟩
theorem uG {fp : List Addr} {h : Heap} {p : Addr × Obj} (hp : p ∈ j7 fp h) : p.1 ∈ fp /\ h.get? p.1 = some p.2 := by
 obtain ⟨b,hb,e⟩ := List.mem_filterMap.mp hp
 cases q : h.get? b with
 | none => rw [q] at e; cases e
 | some o =>
  rw [q] at e
  have e' : (b,o) = p := Option.some.inj e
  subst e'
  exact ⟨hb,q⟩
theorem Inv.pinned {pins : List (Addr × Obj)} {σ : St} {H : Hp} {s : Shared} {fp : List Addr} (I : Inv X pins σ H s) (hf : ∀ b ∈ fp,kN X pins H b) (ho : ∀ b ∈ fp,∃ o,s.heap.get? b = some o /\ ∀ v,o.data ≠ .cell v) : Inv X (pins ++ j7 fp s.heap) σ H s :=
 I.sG fun p hp => (List.mem_append.mp hp).elim (fun z => I.pin p (List.mem_append_right _ z)) fun z => by
  obtain ⟨hb,e⟩ := uG z
  obtain ⟨f0,f1,f2,_⟩ := hf p.1 hb
  obtain ⟨o,e',d⟩ := ho p.1 hb
  rw [e] at e'; cases e'
  exact ⟨e,f0,f1,f2,d⟩
theorem Inv.gO {pins pl : List (Addr × Obj)} {σ : St} {H : Hp} {s : Shared} (I : Inv X (pins ++ pl) σ H s) : Inv X pins σ H s := I.sG fun p hp => I.pin p (List.mem_append_right _ (List.mem_append_left _ hp))
theorem DW {iter : Expr} {body : List Stmt} {wi : TI} {g : TG} {tb : TS} {pos : Pos} (hp : PassesOwn (model X.prog X.w) X.A X.env X.xe) (hc : X.calm = true) (hi : PI X tg iter wi) (hg : PG X tg g) (hb : jP X body tb)
  (hs : ∀ x,foldedSetIterable iter X.env x = pure x := by intro _; rfl) : PS X (.For tg iter body [] pos) (G7 wi g tb) := by
 intro pins s σ H D I h
 refine wpAny_For (aW (hi pins s σ H _ I h) fun v s1 h1 => aW h1 fun itv s2 h2 => ?_) hs
 obtain ⟨it,fp,tn,J,H2,e,I2,T,st2,f2,W,⟨m0,w0⟩,turn⟩ := h2
 subst e
 have stat : ∀ {H' : Hp},(∀ b ∈ fp,H' b = none) -> ∀ b ∈ fp,kN X pins H' b := fun hn b hb => ⟨hn b hb,(f2 b hb).2⟩
 refine codeAny_forLoop_any (fun n s' => ∃ i σ' H',Inv X pins σ' H' s' /\ tn i s'.heap /\ (∀ b ∈ fp,H' b = none) /\ W i n σ' H') ?_ m0 ⟨0,σ,H2,I2,st2,fun b hb => (f2 b hb).1,w0⟩
 rintro n s3 ⟨i,σ3,H3,I3,st3,IV,w3⟩
 rcases turn i n σ3 H3 w3 with ⟨stop,qn⟩ | ⟨go,N,hN,step⟩
 ·refine wpAny_passesOwn hp (aW (T.done X rfl rfl rfl hc i pins s3 σ3 H3 X.xe I3 (stat IV) st3 stop) fun r s4 ⟨hr,I4⟩ => ?_)
  subst hr
  exact wpAny_execs_nil ⟨σ3,H3,I4,qn⟩
 ·refine wpAny_passesOwn hp (aW (T.item X rfl rfl rfl hc i pins s3 σ3 H3 X.xe I3 (stat IV) st3 go) fun r s4 ⟨u,hr,h4⟩ => ?_)
  subst hr
  refine wpAny_passesOwn hp (aW h4 fun _ s5 ⟨x,H5,I5,r5,y5,Dq,fr5⟩ => ?_)
  have I5' := I5.pinned (stat fr5) (T.obj _ _ Dq)
  refine wpAny_passesOwn hp (aW (hg _ s5 σ3 H5 x u _ I5' r5 (step x H5 y5)) fun _ s6 ⟨σ6,H6,I6,q6⟩ => ?_)
  refine wpAny_passesOwn hp (aW (hb _ s6 σ6 H6 _ I6 q6) fun f s7 q7 => ?_)
  have again : ∀ {σ7 : St} {H7 : Hp},Inv X (pins ++ j7 fp s5.heap) σ7 H7 s7 -> N σ7 H7 -> ∃ m,m < n /\ ∃ i σ' H',Inv X pins σ' H' s7 /\ tn i s7.heap /\ (∀ b ∈ fp,H' b = none) /\ W i m σ' H' := fun {σ7 H7} I7 n7 => by
   obtain ⟨m',hm,w7⟩ := hN σ7 H7 n7
   refine ⟨m',hm,i + 1,σ7,H7,I7.gO,T.keep _ _ _ Dq fun b hb o e => (I7.pin (b,o) (List.mem_append_right _ (List.mem_append_right _ (dW hb e)))).1,fun b hb => ?_,w7⟩
   obtain ⟨o,e,d⟩ := T.obj _ _ Dq b hb
   exact (I7.pin (b,o) (List.mem_append_right _ (List.mem_append_right _ (dW hb e)))).2.1
  cases f with
  | next => obtain ⟨σ7,H7,I7,n7⟩ := q7; exact again I7 n7
  | cont => obtain ⟨σ7,H7,I7,n7⟩ := q7; exact again I7 n7
  | brk => obtain ⟨σ7,H7,I7,q7⟩ := q7; exact ⟨σ7,H7,I7.gO,q7⟩
  | ret v => obtain ⟨x7,σ7,H7,I7,r7,q7⟩ := q7; exact ⟨x7,σ7,H7,I7.gO,r7,q7⟩
end
end L2
namespace L2
open PySem PySem.Spec PyProof.Rows
noncomputable abbrev R2 := V -> V -> Hp -> VK -> Prop
noncomputable def dP (X : Cx) (f : Value -> Value -> Sem Value) (r : R2) : Prop :=
 ∀ (pins : List (Addr × Obj)) (s : Shared) (σ : St) (H : Hp) (x y : V) (v u : Value) (Q : VK),Inv X pins σ H s -> RelV x v -> RelV y u -> r x y H Q ->
  wpAny (model X.prog X.w) X.A (f v u) (EP X pins σ Q) X.xe s
noncomputable def UnR (X : Cx) (f : Value -> Sem Value) (r : V -> Hp -> VK -> Prop) : Prop :=
 ∀ (pins : List (Addr × Obj)) (s : Shared) (σ : St) (H : Hp) (x : V) (v : Value) (Q : VK),Inv X pins σ H s -> RelV x v -> r x H Q ->
  wpAny (model X.prog X.w) X.A (f v) (EP X pins σ Q) X.xe s
noncomputable def c5 (X : Cx) (f : Value) (r : List V -> Hp -> VK -> Prop) : Prop :=
 ∀ (pins : List (Addr × Obj)) (s : Shared) (σ : St) (H : Hp) (xs : List V) (us : List Value) (Q : VK),Inv X pins σ H s -> Vals xs us -> r xs H Q ->
  wpAny (model X.prog X.w) X.A (call f us) (EP X pins σ Q) X.xe s
noncomputable def Dl (r : R2) (ta tb : TE) : TE := fun σ H Q => ta σ H fun x H1 => tb σ H1 fun y H2 => r x y H2 Q
noncomputable def tUn (r : V -> Hp -> VK -> Prop) (ta : TE) : TE := fun σ H Q => ta σ H fun x H1 => r x H1 Q
noncomputable def rI (C : Int -> Int -> Prop) (g : Int -> Int -> V) : R2 := fun x y H Q => ∃ i j,x = .int i /\ y = .int j /\ C i j /\ Q (g i j) H
noncomputable def qt (g : Int -> Int -> V) : R2 := fun x y H Q => ∃ i j,x = .int i /\ y = .int j /\ Q (g i j) H
noncomputable def rU (g : Int -> V) : V -> Hp -> VK -> Prop := fun x H Q => ∃ i,x = .int i /\ Q (g i) H
section
variable {X : Cx} {a b c : Expr} {ta tb tc : TE} {pos : Pos}
theorem Gq (ha : PE X a ta) (hb : PE X b tb) {pins : List (Addr × Obj)} {s : Shared} {σ : St} {H : Hp} {R : V -> V -> Hp -> Prop} (I : Inv X pins σ H s)
  (h : ta σ H fun x H1 => tb σ H1 fun y H2 => R x y H2) {Q : Value -> Shared -> Prop} {f : Value -> Value -> Sem Value}
  (hf : ∀ v u s2 x y H2,Inv X pins σ H2 s2 -> RelV x v -> RelV y u -> R x y H2 -> wpAny (model X.prog X.w) X.A (f v u) Q X.xe s2) :
  wpAny (model X.prog X.w) X.A (eval a X.env) (fun v s₁ => wpAny (model X.prog X.w) X.A (eval b X.env) (fun u s₂ => wpAny (model X.prog X.w) X.A (f v u) Q X.xe s₂) X.xe s₁) X.xe s := by
 refine aW (ha pins s σ H _ I h) fun v s1 ⟨x,H1,I1,r1,q1⟩ => ?_
 refine aW (hb pins s1 σ H1 _ I1 q1) fun u s2 ⟨y,H2,I2,r2,q2⟩ => ?_
 exact hf v u s2 x y H2 I2 r1 r2 q2
theorem HX {op : Operator} {r : R2} (ho : dP X (binaryOp op) r) (ha : PE X a ta) (hb : PE X b tb) : PE X (.BinOp a op b pos) (Dl r ta tb) := by
 intro pins s σ H Q I h
 exact wpAny_BinOp (Gq ha hb I h fun v u s2 x y H2 I2 rx ry q => ho pins s2 σ H2 x y v u Q I2 rx ry q)
theorem HV {op : UnaryOp} {r : V -> Hp -> VK -> Prop} (ho : UnR X (unaryOp op) r) (ha : PE X a ta) : PE X (.UnaryOp op a pos) (tUn r ta) := by
 intro pins s σ H Q I h
 exact UnaryOp_ (aW (ha pins s σ H _ I h) fun v s1 ⟨x,H1,I1,r1,q1⟩ => ho pins s1 σ H1 x v Q I1 r1 q1)
theorem J2 {f : Value -> Value -> Sem Value} {C : Int -> Int -> Prop} {g : Int -> Int -> Int}
  (rule : ∀ (i j : Int) (t u : Tok) (s : Shared) (Q : Value -> Shared -> Prop) (E : Value -> Shared -> Prop),C i j -> Q (.int (g i j) s.toks) { s with toks := s.toks + 1 } -> wpAny (model X.prog X.w) X.A (f (.int i t) (.int j u)) Q E s) :
  dP X f (rI C fun i j => .int (g i j)) := by
 intro pins s σ H x y v u Q I rx ry h
 obtain ⟨i,j,rfl,rfl,hc,q⟩ := h
 obtain ⟨t,rfl⟩ := rx
 obtain ⟨t',rfl⟩ := ry
 exact rule i j t t' s _ _ hc ⟨.int (g i j),H,I.tok _,⟨_,rfl⟩,q⟩
theorem Ii {f : Value -> Value -> Sem Value} {g : Int -> Int -> Int}
  (rule : ∀ (i j : Int) (t u : Tok) (s : Shared) (Q : Value -> Shared -> Prop) (E : Value -> Shared -> Prop),Q (.int (g i j) s.toks) { s with toks := s.toks + 1 } -> wpAny (model X.prog X.w) X.A (f (.int i t) (.int j u)) Q E s) :
  dP X f (qt fun i j => .int (g i j)) := by
 intro pins s σ H x y v u Q I rx ry h
 obtain ⟨i,j,rfl,rfl,q⟩ := h
 obtain ⟨t,rfl⟩ := rx
 obtain ⟨t',rfl⟩ := ry
 exact rule i j t t' s _ _ ⟨.int (g i j),H,I.tok _,⟨_,rfl⟩,q⟩
theorem AJ {f : Value -> Value -> Sem Value} {g : Int -> Int -> Bool}
  (rule : ∀ (i j : Int) (t u : Tok) (s : Shared) (Q : Value -> Shared -> Prop) (E : Value -> Shared -> Prop),Q (.bool (g i j)) s -> wpAny (model X.prog X.w) X.A (f (.int i t) (.int j u)) Q E s) :
  dP X f (qt fun i j => .bl (g i j)) := by
 intro pins s σ H x y v u Q I rx ry h
 obtain ⟨i,j,rfl,rfl,q⟩ := h
 obtain ⟨t,rfl⟩ := rx
 obtain ⟨t',rfl⟩ := ry
 exact rule i j t t' s _ _ ⟨.bl (g i j),H,I,rfl,q⟩
noncomputable def JS (i j : Int) : Prop := 0 < j /\ j < 1073741824
noncomputable def JR (i j : Int) : Prop := 0 <= j /\ j <= 1000000 /\ i.natAbs < 2 ^ 64
noncomputable def B6 (i j : Int) : Prop := (-(2 ^ 64) < i /\ i < 2 ^ 64) \/ (-(2 ^ 64) < j /\ j < 2 ^ 64)
theorem B6.ok {i j : Int} (h : B6 i j) : IntMulOk i j := by
 rcases h with ⟨h1,h2⟩ | ⟨h1,h2⟩
 ·exact .of_left (intBits_le_64 h1 h2)
 ·exact .of_right (intBits_le_64 h1 h2)
theorem Ez : dP X (binaryOp .Add) (qt fun i j => .int (i + j)) := Ii fun _ _ _ _ _ _ _ q => add_int q
theorem Ei : dP X (binaryOp .Sub) (qt fun i j => .int (i - j)) := Ii fun _ _ _ _ _ _ _ q => sub_int q
theorem En : dP X (binaryOp .Mult) (rI B6 fun i j => .int (i * j)) := J2 fun _ _ _ _ _ _ _ hc q => mul_int q hc.ok
theorem AG : dP X (binaryOp .FloorDiv) (rI JS fun i j => .int (i / j)) := J2 fun i j _ _ _ _ _ hc q => by
 have h1 : (0 : Int) < j := hc.1
 have h2 : j < 1073741824 := hc.2
 exact floordiv_int (by omega) (by rw [Int.fdiv_eq_ediv_of_nonneg i (by omega)]; exact q) (.inl (PyProof.noPylong_small (by omega)))
theorem Eo : dP X (binaryOp .Mod) (rI (fun _ j => 0 < j) fun i j => .int (i % j)) := J2 fun i j _ _ _ _ _ hc q => by
 have h1 : (0 : Int) < j := hc
 exact mod_int' (by omega) (by rw [Int.fmod_eq_emod_of_nonneg i (by omega)]; exact q)
theorem Ej : dP X (binaryOp .Pow) (rI JR fun i j => .int (i ^ j.toNat)) := J2 fun _ _ _ _ _ _ _ hc q => pow_int_small hc.1 hc.2.1 hc.2.2 q
theorem unI {f : Value -> Sem Value} {g : Int -> Int}
  (rule : ∀ (i : Int) (t : Tok) (s : Shared) (Q : Value -> Shared -> Prop) (E : Value -> Shared -> Prop),Q (.int (g i) s.toks) { s with toks := s.toks + 1 } -> wpAny (model X.prog X.w) X.A (f (.int i t)) Q E s) :
  UnR X f (rU fun i => .int (g i)) := by
 intro pins s σ H x v Q I rx h
 obtain ⟨i,rfl,q⟩ := h
 obtain ⟨t,rfl⟩ := rx
 exact rule i t s _ _ ⟨.int (g i),H,I.tok _,⟨_,rfl⟩,q⟩
theorem Di : UnR X (unaryOp .USub) (rU fun i => .int (-i)) := unI fun _ _ _ _ _ q => neg_int q
end
noncomputable def Hu : V -> V -> Bool
 | .ak,.ak => true | .ak,.int _ => true | .int _,.ak => true | .ak,.bl _ => true | .bl _,.ak => true | .ak,.str _ => true | .str _,.ak => true
 | .int _,.int _ => true | .bl _,.bl _ => true | .str _,.str _ => true | .vh _,.vh _ => true
 | .int _,.str _ => true | .str _,.int _ => true | .bl _,.str _ => true | .str _,.bl _ => true
 | _,_ => false
noncomputable def rEq : R2 := fun x y H Q => Hu x y = true /\ Q (.bl (decide (x = y))) H
noncomputable def rNe : R2 := fun x y H Q => Hu x y = true /\ Q (.bl (!decide (x = y))) H
theorem tG {i j : Int} : decide (V.int i = V.int j) = (i == j) := by
 rw [Bool.eq_iff_iff]
 simp
theorem nv {i j : Bool} : decide (V.bl i = V.bl j) = (i == j) := by
 rw [Bool.eq_iff_iff]
 simp
theorem tF {i j : Str} : decide (V.str i = V.str j) = (i == j) := by
 rw [Bool.eq_iff_iff]
 simp
theorem tH {i j : Array UInt8} : decide (V.vh i = V.vh j) = (i.toList == j.toList) := by
 rw [Bool.eq_iff_iff]
 cases i
 cases j
 simp
section
variable {X : Cx} {a b c : Expr} {ta tb tc : TE} {pos : Pos}
theorem aC {pins : List (Addr × Obj)} {σ : St} {H : Hp} {s : Shared} {Q : VK} {k k' : Bool} (I : Inv X pins σ H s) (q : Q (.bl k) H) (e : k = k') : EP X pins σ Q (.bool k') s := by
 subst e
 exact ⟨.bl k,H,I,rfl,q⟩
theorem Ih : dP X (compareOp .Eq) rEq := by
 intro pins s σ H x y v u Q I rx ry h
 obtain ⟨hs,q⟩ := h
 cases x with
 | ak =>
  cases rx
  cases y with
  | ak => cases ry; exact PySem.EqNone.eq_none_none (aC I q (by simp))
  | bl j => cases ry; exact PySem.EqNone.eq_none_bool (aC I q (by simp))
  | int j => obtain ⟨t',rfl⟩ := ry; exact PySem.EqNone.eq_none_int (aC I q (by simp))
  | str j => obtain ⟨t',rfl⟩ := ry; exact PySem.EqNone.eq_none_str (aC I q (by simp))
  | _ => exact absurd (show false = true from hs) Bool.false_ne_true
 | bl i =>
  cases rx
  cases y with
  | ak => cases ry; exact PySem.EqNone.eq_bool_none (aC I q (by simp))
  | bl j => cases ry; exact eq_bool (aC I q nv)
  | str j => obtain ⟨t',rfl⟩ := ry; exact PySem.EqMixed.eq_bool_str (aC I q (by simp))
  | _ => exact absurd (show false = true from hs) Bool.false_ne_true
 | int i =>
  obtain ⟨t,rfl⟩ := rx
  cases y with
  | ak => cases ry; exact PySem.EqNone.eq_int_none (aC I q (by simp))
  | int j => obtain ⟨t',rfl⟩ := ry; exact eq_int (aC I q tG)
  | str j => obtain ⟨t',rfl⟩ := ry; exact PySem.EqMixed.eq_int_str (aC I q (by simp))
  | _ => exact absurd (show false = true from hs) Bool.false_ne_true
 | str i =>
  obtain ⟨t,rfl⟩ := rx
  cases y with
  | ak => cases ry; exact PySem.EqNone.eq_str_none (aC I q (by simp))
  | bl j => cases ry; exact PySem.EqMixed.eq_str_bool (aC I q (by simp))
  | int j => obtain ⟨t',rfl⟩ := ry; exact PySem.EqMixed.eq_str_int (aC I q (by simp))
  | str j => obtain ⟨t',rfl⟩ := ry; exact eq_str (aC I q tF)
  | _ => exact absurd (show false = true from hs) Bool.false_ne_true
 | vh i =>
  obtain ⟨t,rfl⟩ := rx
  cases y with
  | vh j => obtain ⟨t',rfl⟩ := ry; exact PySem.W.eq_bytes (aC I q tH)
  | _ => exact absurd (show false = true from hs) Bool.false_ne_true
 | _ => cases y <;> exact absurd (show false = true from hs) Bool.false_ne_true
theorem Ia : dP X (compareOp .NotEq) rNe := by
 intro pins s σ H x y v u Q I rx ry h
 obtain ⟨hs,q⟩ := h
 cases x with
 | ak =>
  cases rx
  cases y with
  | ak => cases ry; exact PySem.EqNone.ne_none_none (aC I q (by simp))
  | bl j => cases ry; exact PySem.EqNone.ne_none_bool (aC I q (by simp))
  | int j => obtain ⟨t',rfl⟩ := ry; exact PySem.EqNone.ne_none_int (aC I q (by simp))
  | str j => obtain ⟨t',rfl⟩ := ry; exact PySem.EqNone.ne_none_str (aC I q (by simp))
  | _ => exact absurd (show false = true from hs) Bool.false_ne_true
 | bl i =>
  cases rx
  cases y with
  | ak => cases ry; exact PySem.EqNone.ne_bool_none (aC I q (by simp))
  | bl j => cases ry; exact ne_bool (aC I q (congrArg not nv))
  | str j => obtain ⟨t',rfl⟩ := ry; exact PySem.EqMixed.ne_bool_str (aC I q (by simp))
  | _ => exact absurd (show false = true from hs) Bool.false_ne_true
 | int i =>
  obtain ⟨t,rfl⟩ := rx
  cases y with
  | ak => cases ry; exact PySem.EqNone.ne_int_none (aC I q (by simp))
  | int j => obtain ⟨t',rfl⟩ := ry; exact ne_int (aC I q (congrArg not tG))
  | str j => obtain ⟨t',rfl⟩ := ry; exact PySem.EqMixed.ne_int_str (aC I q (by simp))
  | _ => exact absurd (show false = true from hs) Bool.false_ne_true
 | str i =>
  obtain ⟨t,rfl⟩ := rx
  cases y with
  | ak => cases ry; exact PySem.EqNone.ne_str_none (aC I q (by simp))
  | bl j => cases ry; exact PySem.EqMixed.ne_str_bool (aC I q (by simp))
  | int j => obtain ⟨t',rfl⟩ := ry; exact PySem.EqMixed.ne_str_int (aC I q (by simp))
  | str j => obtain ⟨t',rfl⟩ := ry; exact ne_str (aC I q (congrArg not tF))
  | _ => exact absurd (show false = true from hs) Bool.false_ne_true
 | vh i =>
  obtain ⟨t,rfl⟩ := rx
  cases y with
  | vh j => obtain ⟨t',rfl⟩ := ry; exact PySem.W.ne_bytes (aC I q (congrArg not tH))
  | _ => exact absurd (show false = true from hs) Bool.false_ne_true
 | _ => cases y <;> exact absurd (show false = true from hs) Bool.false_ne_true
theorem Ib : dP X (compareOp .Lt) (qt fun i j => .bl (decide (i < j))) := AJ fun _ _ _ _ _ _ _ q => lt_int q
theorem Ic : dP X (compareOp .LtE) (qt fun i j => .bl (decide (i <= j))) := AJ fun _ _ _ _ _ _ _ q => le_int q
theorem Ie : dP X (compareOp .Gt) (qt fun i j => .bl (decide (j < i))) := AJ fun _ _ _ _ _ _ _ q => gt_int q
theorem Ig : dP X (compareOp .GtE) (qt fun i j => .bl (decide (j <= i))) := AJ fun _ _ _ _ _ _ _ q => ge_int q
theorem Ep : dP X (compareOp .Is) (fun x y H Q => y = .ak /\ Q (.bl (decide (x = .ak))) H) := by
 intro pins s σ H x y v u Q I rx ry h
 obtain ⟨rfl,q⟩ := h
 cases ry
 refine is_none_gen (aC I q ?_)
 cases x <;> first
  | (cases rx; rfl)
  | (obtain ⟨t,rfl⟩ := rx; rfl)
theorem AE : dP X (compareOp .IsNot) (fun x y H Q => y = .ak /\ Q (.bl (!decide (x = .ak))) H) := by
 intro pins s σ H x y v u Q I rx ry h
 obtain ⟨rfl,q⟩ := h
 cases ry
 refine isnot_none_gen (aC I q ?_)
 cases x <;> first
  | (cases rx; rfl)
  | (obtain ⟨t,rfl⟩ := rx; rfl)
theorem dP.or {f : Value -> Value -> Sem Value} {r r' : R2} (h : dP X f r) (h' : dP X f r') : dP X f (fun x y H Q => r x y H Q \/ r' x y H Q) := by
 intro pins s σ H x y v u Q I rx ry q
 rcases q with q | q
 ·exact h pins s σ H x y v u Q I rx ry q
 ·exact h' pins s σ H x y v u Q I rx ry q
theorem Az {op : CmpOp} {r : R2} (ho : dP X (compareOp op) r) (ha : PE X a ta) (hb : PE X b tb) (hm : behindInMarks op b = false) : PE X (.Compare a [op] [b] pos) (Dl r ta tb) := by
 intro pins s σ H Q I h
 exact wpAny_Compare1 (Gq ha hb I h fun v u s2 x y H2 I2 rx ry q => ho pins s2 σ H2 x y v u Q I2 rx ry q) hm
noncomputable def G0 (t : TE) : TT := fun σ H Q => t σ H fun x H' => ∃ k,x = .bl k /\ Q k H'
theorem Al {op : CmpOp} {r : R2} (ho : dP X (compareOp op) r) (ha : PE X a ta) (hb : PE X b tb) (hm : behindInMarks op b = false) : PT X (.Compare a [op] [b] pos) (G0 (Dl r ta tb)) := by
 intro pins s σ H Q I h
 refine wpAny_isTrue_Compare1 (aW (ha pins s σ H _ I h) fun v s1 ⟨x,H1,I1,r1,q1⟩ => aW (hb pins s1 σ H1 _ I1 q1) fun u s2 ⟨y,H2,I2,r2,q2⟩ =>
  aW (ho pins s2 σ H2 x y v u _ I2 r1 r2 q2) fun c s3 ⟨z,H3,I3,r3,k,e,q3⟩ => ?_) hm
 subst e
 cases r3
 exact wpAny_truthy_bool ⟨H3,I3,q3⟩
theorem iR : (sizeLine : Nat) < 2 ^ 63 := by rw [sizeLine_eq]; decide
theorem qz : dP X (binaryOp .Add) (fun x y H Q => ∃ i j,x = .str i /\ y = .str j /\ i.length + j.length <= sizeLine /\ Q (.str (i ++ j)) H) := by
 intro pins s σ H x y v u Q I rx ry h
 obtain ⟨i,j,rfl,rfl,hz,q⟩ := h
 obtain ⟨t,rfl⟩ := rx
 obtain ⟨t',rfl⟩ := ry
 exact add_str (fun t' tk => ⟨.str (i ++ j),H,I.tok _,⟨_,rfl⟩,q⟩) hz
theorem vals1 {x : V} {us : List Value} (r : Vals [x] us) : ∃ u,us = [u] /\ RelV x u := by
 cases r with
 | cons r1 r2 => cases r2; exact ⟨_,rfl,r1⟩
end
end L2
namespace L2
open PySem PySem.Spec PyProof.Rows
structure rJ (h : Heap) (x dx C : Addr) (mA : Str -> Option Value) : Prop where
 obj : h.get? x = some (PySem.W.instObj C dx)
 ns : h.Ns1 dx mA
 ne : dx ≠ x
theorem uI {h : Heap} {dx : Addr} {mA : Str -> Option Value} (n : h.Ns1 dx mA) : ∃ od,h.get? dx = some od /\ ∀ name,PySem.W.lookIn name od = some (mA name) := by
 obtain ⟨o,es,ep,ho,hd,hk,_,hm⟩ := n
 refine ⟨o,ho,fun name => ?_⟩
 have e := hm name
 unfold nsFind findBy at e
 rw [<- Array.find?_toList] at e
 unfold PySem.W.lookIn
 rw [hd]
 dsimp only
 split
 ·rename_i y q
  rw [q] at e
  exact congrArg some e
 ·rename_i q
  rw [q] at e
  have a : es.toList.any (·.refKey) = false := by
   rw [List.any_eq_false]
   intro y hy
   obtain ⟨z,t,hkey⟩ := hk y (Array.mem_toList_iff.mp hy)
   simp [DictEntry.refKey,hkey]
  have a' : ¬ es.toList.any (·.refKey) = true := by rw [a]; exact Bool.false_ne_true
  rw [if_neg a']
  exact congrArg some e
theorem rJ.look {h : Heap} {x dx C : Addr} {mA : Str -> Option Value} (I : rJ h x dx C mA) : ∃ od,PySem.W.InstAt h x (PySem.W.instObj C dx) C (some od) /\ ∀ name,PySem.W.lookIn name od = some (mA name) :=
 let ⟨od,ho,hl⟩ := uI I.ns
 ⟨od,⟨I.obj,rfl,rfl,ho⟩,hl⟩
section
variable {prog : Program} {w : World} {A : Around} {E : Value -> Shared -> Prop} {s : Shared} {K : PySem.W.Frag} {x dx C f : Addr} {mA : Str -> Option Value} {name : Str} {v : Value}
theorem get_map {expr : Bool} {Q : Value -> Shared -> Prop} (X : K.In s.heap) (I : rJ s.heap x dx C mA) (hg : PySem.W.plainGet K C name = true) (hh : PySem.W.hasDictIn K C = true)
  (ha : PySem.W.findIn K (.ref C) name = some none) (hv : mA name = some v) (hv' : PySem.W.handedIn v = true) (h : Q v { s with toks := s.toks + 1 }) :
  wpAny (model prog w) A (getAttr (.ref x) name expr) Q E s := by
 obtain ⟨od,J,hl⟩ := I.look
 exact PySem.W.get_value X J (PySem.W.plainGet_of hg).1 (PySem.W.findObj_own hh ha rfl (by rw [hl,hv])) hv' h
theorem xX {pl : Sem Bool} {Q : Value × List Value -> Shared -> Prop} (X : K.In s.heap) (I : rJ s.heap x dx C mA) (hg : PySem.W.plainGet K C name = true)
  (hf : PySem.W.findIn K (.ref C) name = some (some (.ref f))) (ht : PySem.W.isFn K (.ref f) = true) (hv : mA name = none) (h : Q (.ref f,[.ref x]) s) :
  wpAny (model prog w) A (getMethod (.ref x) name pl) Q E s := by
 obtain ⟨od,J,hl⟩ := I.look
 exact PySem.W.method_fn X J (PySem.W.plainGet_of hg).1 (PySem.W.plainGet_of hg).2 hf (beq_iff_eq.mp ht) (by show (PySem.W.lookIn name od).map (·.isSome) = some false; rw [hl,hv]; rfl) h
theorem Ad {ns : List Str} {Q : Unit -> Shared -> Prop} (X : K.In s.heap) (I : rJ s.heap x dx C mA)
  (hs : PySem.W.findIn K (.ref C) "__setattr__" = some (some (.builtin "object.__setattr__"))) (hp : PySem.W.plainOver K C = true) (ht : PySem.W.takerIn K C name = some none) (hh : PySem.W.hasDictIn K C = true)
  (hw : PySem.Within mA ns) (hsz : ns.length <= sizeLine)
  (h : ∀ h',rJ h' x dx C (fun y => if y = name then some v else mA y) -> Heap.SameBut dx s.heap h' -> Q () { s with heap := h',toks := s.toks + 2 }) :
  wpAny (model prog w) A (setAttr (.ref x) name v) Q E s := by
 obtain ⟨od,J,hl⟩ := I.look
 refine PySem.W.set_plain X J hs (PySem.W.osa_open (s := { s with toks := s.toks + 1 }) (r := none) X J hp ht fun b => ?_)
 obtain ⟨cd,hc,hd'⟩ := PySem.W.any_some hh
 have hx : s.heap.get? x = some ⟨.ref C,some dx,.plain,#[]⟩ := I.obj
 refine wpAny_bind (wpAny_pure (wpAny_bind (wpAny_bind (wpAny_loadPart hx (wpAny_bind (PySem.W.Looks.here (s := { s with toks := s.toks + 1 }) (PySem.W.looks_clsIn X hc) ?_))))))
 rw [hd']
 refine wpAny_pure (a := some dx) (wpAny_bind (wpAny_pure (wpAny_bind ?_)))
 refine wpAny_nsSet1 (s := { s with toks := s.toks + 1 }) I.ns fun h' hn2 hs2 => ?_
 obtain ⟨oD,esD,epD,hoD,hdD,hcD⟩ := hn2.count (PySem.Within.cons name v hw)
 refine wpAny_bind (wpAny_lookBehind hoD (by rw [hdD]; exact pastItsLine_dict (Nat.le_trans hcD (by rw [List.length_cons]; omega))) ?_)
 exact wpAny_pure (h _ ⟨(hs2.2 _ (Ne.symm I.ne)).trans I.obj,hn2,I.ne⟩ hs2)
theorem w9 {R : Result -> Shared -> Prop} {vs : List Value} {kw : List (Str × Value)} (X : K.In s.heap) (hm : PySem.W.makesIn K C = true)
  (hi : PySem.W.findIn K (.ref C) "__init__" = some (some (.ref f))) (hf : PySem.W.typeIn K (.ref f) = some (.type "function"))
  (h : codeAny (model prog w) (A.under (.builtin "type.__call__" ⟨.ref C :: vs, kw⟩)) (.call (.ref f) ⟨.ref (s.heap.objs.size + 1) :: vs, kw⟩) (PySem.W.InitBack (s.heap.objs.size + 1) R)
   { s with heap := (s.heap.push PySem.W.emptyDict).push (PySem.W.instObj C s.heap.objs.size) }) :
  codeAny (model prog w) A (.call (.ref C) ⟨vs,kw⟩) R s := by
 obtain ⟨hh,g,d,t,os⟩ := s
 exact PySem.W.make_core (PySem.W.makes_of X hm) (PySem.W.looks_findIn X hi) (fun self => PySem.W.bind_fn X self hf) (.inl rfl) h
end
noncomputable def c7 (f : Str) (v : V) : List (Str × V) -> List (Str × V)
 | [] => [(f,v)]
 | (g,x) :: r => if g = f then (g,v) :: r else (g,x) :: c7 f v r
theorem je (f g : Str) (v : V) : ∀ fs : List (Str × V),(c7 f v fs).lookup g = if g = f then some v else fs.lookup g
 | [] => by
  show List.lookup g [(f,v)] = _
  by_cases h : g = f
  ·have hb : (g == f) = true := beq_iff_eq.mpr h
   simp only [List.lookup,hb,if_pos h]
  ·have hb : (g == f) = false := beq_eq_false_iff_ne.mpr h
   simp only [List.lookup,hb,if_neg h]
 | (k, x) :: r => by
  have ih := je f g v r
  rw [show c7 f v ((k,x) :: r) = (if k = f then (k,v) :: r else (k,x) :: c7 f v r) from rfl]
  by_cases hk : k = f
  ·rw [if_pos hk]
   by_cases h : g = k
   ·have hb : (g == k) = true := beq_iff_eq.mpr h
    simp only [List.lookup,hb,if_pos (h.trans hk)]
   ·have hb : (g == k) = false := beq_eq_false_iff_ne.mpr h
    simp only [List.lookup,hb,if_neg (fun e : g = f => h (e.trans hk.symm))]
  ·rw [if_neg hk]
   by_cases h : g = k
   ·have hb : (g == k) = true := beq_iff_eq.mpr h
    simp only [List.lookup,hb,if_neg (fun e : g = f => hk (h.symm.trans e))]
   ·have hb : (g == k) = false := beq_eq_false_iff_ne.mpr h
    simp only [List.lookup,hb]
    exact ih
theorem iS (f : Str) (v : V) : ∀ fs : List (Str × V),f ∈ (c7 f v fs).map (·.1) /\ ∀ g,g ∈ fs.map (·.1) -> g ∈ (c7 f v fs).map (·.1)
 | [] => ⟨by simp [c7],fun g h => by simp at h⟩
 | (k, x) :: r => by
  obtain ⟨i1,i2⟩ := iS f v r
  rw [show c7 f v ((k,x) :: r) = (if k = f then (k,v) :: r else (k,x) :: c7 f v r) from rfl]
  by_cases hk : k = f
  ·rw [if_pos hk]
   subst hk
   exact ⟨by simp,fun g h => by simpa using h⟩
  ·rw [if_neg hk]
   refine ⟨?_,fun g h => ?_⟩
   ·rw [List.map_cons]
    exact List.mem_cons_of_mem _ i1
   ·rw [List.map_cons] at h ⊢
    rcases List.mem_cons.mp h with e | e
    ·exact List.mem_cons.mpr (.inl e)
    ·exact List.mem_cons_of_mem _ (i2 g e)
theorem jg (f : Str) (v : V) : ∀ fs : List (Str × V),(c7 f v fs).length <= fs.length + 1
 | [] => by simp [c7]
 | (k,x) :: r => by
  have ih := jg f v r
  rw [show c7 f v ((k,x) :: r) = (if k = f then (k,v) :: r else (k,x) :: c7 f v r) from rfl]
  by_cases hk : k = f
  ·rw [if_pos hk,List.length_cons,List.length_cons]; omega
  ·rw [if_neg hk,List.length_cons,List.length_cons]; omega
theorem gI.some_of {v : V} {o : Option Value} (r : gI (some v) o) : ∃ u,o = some u /\ RelV v u := by
 cases o with
 | none => exact (show False from r).elim
 | some u => exact ⟨u,rfl,r⟩
theorem gI.none_of {o : Option Value} (r : gI none o) : o = none := by
 cases o with
 | none => rfl
 | some u => exact (show False from r).elim
theorem uQ {v : V} {u : Value} (r : RelV v u) : PySem.W.handedIn u = true := by
 cases v with
 | ak => cases (show u = Value.none from r); rfl
 | bl b => cases (show u = Value.bool b from r); rfl
 | int i => obtain ⟨t,e⟩ := (show ∃ t,u = Value.int i t from r); cases e; rfl
 | str x => obtain ⟨t,e⟩ := (show ∃ t,u = Value.str x t from r); cases e; rfl
 | vh b => obtain ⟨t,e⟩ := (show ∃ t,u = Value.bytes b t from r); cases e; rfl
 | GI b => obtain ⟨t,e⟩ := (show ∃ t,u = Value.float b t from r); cases e; rfl
 | ref a => cases (show u = Value.ref a from r); rfl
 | ty n => cases (show u = Value.type n from r); rfl
section
variable {P : Program} {w : World} {H H' : Hp} {h h' : Heap} {a C dx : Addr} {fs fs' : List (Str × V)}
theorem mR (hok : gf P w H h) (e : H a = some (.ins C dx fs)) : ∃ mA,rJ h a dx C mA /\ (∀ f,gI (fs.lookup f) (mA f)) /\ PySem.Within mA (fs.map (·.1)) /\ fs.length <= 1000 /\ H dx = some (.own a) := by
 obtain ⟨d,z,ne,ob,mA,n,r,q⟩ := (show aV P w H h a (.ins C dx fs) from hok a _ e)
 exact ⟨mA,⟨ob,n,ne⟩,r,q,z,d⟩
end
structure tX (K : PySem.W.Frag) (C : Addr) : Prop where
 pg : PySem.W.plainGet K C Str.empty = true
 hd : PySem.W.hasDictIn K C = true
 po : PySem.W.plainOver K C = true
 sa : PySem.W.findIn K (.ref C) "__setattr__" = some (some (.builtin "object.__setattr__"))
theorem tX.get {K : PySem.W.Frag} {C : Addr} (c : tX K C) (f : Str) : PySem.W.plainGet K C f = true := c.pg
noncomputable def dh (K : PySem.W.Frag) (C : Addr) (f : Str) : Prop := PySem.W.findIn K (.ref C) f = some none
theorem dh.GW {K : PySem.W.Frag} {C : Addr} {f : Str} (n : dh K C f) : PySem.W.takerIn K C f = some none := by
 unfold PySem.W.takerIn
 rw [show PySem.W.findIn K (.ref C) f = some none from n]
 rfl
structure Con (K : PySem.W.Frag) (C : Addr) (f : Str) (v : V) (u : Value) : Prop where
 at_ : PySem.W.findIn K (.ref C) f = some (some u)
 rel : RelV v u
 get : PySem.W.specialIn K u "__get__" = some none
 cp : PySem.W.copiedNames.contains f = false
structure Meth (K : PySem.W.Frag) (C : Addr) (m : Str) (f : Addr) : Prop where
 at_ : PySem.W.findIn K (.ref C) m = some (some (.ref f))
 fn : PySem.W.isFn K (.ref f) = true
 kp : PySem.W.keepIn K (.ref f) = true
section
variable {X : Cx} {pins : List (Addr × Obj)} {σ : St} {H : Hp} {s : Shared} {a C dx : Addr} {fs : List (Str × V)} {f : Str} {v : V} {A : Around} {E : Value -> Shared -> Prop}
theorem qT {b : Bool} {Q : Value -> Shared -> Prop} (I : Inv X pins σ H s) (e : H a = some (.ins C dx fs)) (c : tX X.K C) (n : dh X.K C f) (l : fs.lookup f = some v)
  (h : ∀ u s',Inv X pins σ H s' -> RelV v u -> Q u s') : wpAny (model X.prog X.w) A (getAttr (.ref a) f b) Q E s := by
 obtain ⟨mA,O,r,_,_,_⟩ := mR I.hok e
 obtain ⟨u,hu,ru⟩ := gI.some_of (v := v) (o := mA f) (by rw [<- l]; exact r f)
 exact get_map I.gw O (c.get f) c.hd n hu (uQ ru) (h u _ (I.tok _) ru)
theorem kC {m : Str} {g : Addr} {pl : Sem Bool} {Q : Value × List Value -> Shared -> Prop} (I : Inv X pins σ H s) (e : H a = some (.ins C dx fs)) (c : tX X.K C) (k : Meth X.K C m g) (l : fs.lookup m = none)
  (h : Q (.ref g,[.ref a]) s) : wpAny (model X.prog X.w) A (getMethod (.ref a) m pl) Q E s := by
 obtain ⟨mA,O,r,_,_,_⟩ := mR I.hok e
 have hn : mA m = none := gI.none_of (by rw [<- l]; exact r m)
 exact xX I.gw O (c.get m) k.at_ k.fn hn h
theorem qg {y : V} {u : Value} {Q : Unit -> Shared -> Prop} (I : Inv X pins σ H s) (e : H a = some (.ins C dx fs)) (c : tX X.K C) (n : dh X.K C f) (hl : fs.length < 1000) (ry : RelV y u)
  (h : ∀ s',Inv X pins σ (upd H a (.ins C dx (c7 f y fs))) s' -> Q () s') : wpAny (model X.prog X.w) A (setAttr (.ref a) f u) Q E s := by
 obtain ⟨mA,O,r,wi,_,ho⟩ := mR I.hok e
 have hz : (fs.map (·.1)).length <= sizeLine := by rw [List.length_map,sizeLine_eq]; omega
 refine Ad I.gw O c.sa c.po n.GW c.hd wi hz fun h' O' sb => h _ ?_
 have hd : ∃ o,h'.get? dx = some o := let ⟨o,_,_,e',_⟩ := O'.ns; ⟨o,e'⟩
 refine I.write (x := a) (e := dx) (by rw [e]; exact True.intro) (.inr ho) (fun b q hb z => (sb.2 b hb).trans z) hd ?_
 refine ⟨by rw [aq O.ne]; exact ho,?_,O.ne,O'.obj,_,O'.ns,fun g => ?_,fun g hg => ?_⟩
 ·have := jg f y fs; omega
 ·show gI ((c7 f y fs).lookup g) (if g = f then some u else mA g)
  rw [je]
  by_cases q : g = f
  ·rw [if_pos q,if_pos q]; exact ry
  ·rw [if_neg q,if_neg q]; exact r g
 ·by_cases q : g = f
  ·rw [q]; exact (iS f y fs).1
  ·refine (iS f y fs).2 g (wi g fun z => hg ?_)
   show (if g = f then some u else mA g) = none
   rw [if_neg q]; exact z
theorem Inv.made (I : Inv X pins σ H s) : Inv X pins σ (upd (upd H s.heap.objs.size (.own (s.heap.objs.size + 1))) (s.heap.objs.size + 1) (.ins C s.heap.objs.size []))
  { s with heap := (s.heap.push PySem.W.emptyDict).push (PySem.W.instObj C s.heap.objs.size) } := by
 have e1 : (s.heap.push PySem.W.emptyDict).get? s.heap.objs.size = some PySem.W.emptyDict := Heap.get?_push_size s.heap rfl
 have e2 : ((s.heap.push PySem.W.emptyDict).push (PySem.W.instObj C s.heap.objs.size)).get? (s.heap.objs.size + 1) = some (PySem.W.instObj C s.heap.objs.size) := by
  have := Heap.get?_push_size (s.heap.push PySem.W.emptyDict) (o := PySem.W.instObj C s.heap.objs.size) rfl
  rwa [Heap.size_push] at this
 have e3 : (s.heap.push PySem.W.emptyDict).Ns s.heap.objs.size (fun _ => none) := ⟨PySem.W.emptyDict,#[],_,e1,rfl,(fun e he => absurd he (by simp)),fun _ => rfl⟩
 have I1 := I.laid (a := s.heap.objs.size) (o := .own (s.heap.objs.size + 1)) (h' := s.heap.push PySem.W.emptyDict) (t' := s.toks) (fun b u q => Heap.get?_push_of_some _ q) (Nat.le_refl _) ⟨_,e1⟩
 refine I1.laid (a := s.heap.objs.size + 1) (o := .ins C s.heap.objs.size []) (t' := s.toks) (fun b u q => Heap.get?_push_of_some _ q) (Nat.le_of_eq (Heap.size_push _ _)) ?_
 have ne : s.heap.objs.size ≠ s.heap.objs.size + 1 := Nat.ne_of_lt (Nat.lt_succ_self _)
 refine ⟨by rw [aq ne,aA],Nat.zero_le _,ne,e2,fun _ => none,(Heap.Ns1.of_empty e3).at fun o q => Heap.get?_push_of_some _ q,fun _ => True.intro,fun y hy => absurd rfl hy⟩
theorem BX {prog : Program} {w : World} {env : Env} {e : Expr} {f : Str} {pos : Pos} {s : Shared} {Q : Value -> Shared -> Prop} (hb : attributeBase e f env (eval e env) = eval e env)
  (h : wpAny (model prog w) A (eval e env) (fun o s₁ => wpAny (model prog w) A (getAttr o f true) Q E s₁) E s) : wpAny (model prog w) A (eval (.Attribute e f pos) env) Q E s :=
 Attribute_any_ h (by rw [arm_eval_Attribute,hb])
end
noncomputable def G8 (K : PySem.W.Frag) (ta : TE) (f : Str) : TE := fun σ H Q => ta σ H fun x H1 => ∃ a C dx fs v,x = .ref a /\ H1 a = some (.ins C dx fs) /\ tX K C /\ dh K C f /\ fs.lookup f = some v /\ Q v H1
noncomputable def Hw (K : PySem.W.Frag) (ta tv : TE) (f : Str) : TS := fun D σ H => tv σ H fun y H1 => ta σ H1 fun x H2 => ∃ a C dx fs,x = .ref a /\ H2 a = some (.ins C dx fs) /\ tX K C /\ dh K C f /\ fs.length < 1000 /\
 D.nx σ (upd H2 a (.ins C dx (c7 f y fs)))
section
variable {X : Cx} {o e value : Expr} {f : Str} {pos pos' tpos : Pos} {ta tv : TE}
theorem Ed (he : PE X e ta) (hb : attributeBase e f X.env (eval e X.env) = eval e X.env) : PE X (.Attribute e f pos) (G8 X.K ta f) := by
 intro pins s σ H Q I h
 refine BX hb (aW (he pins s σ H _ I h) fun u s1 ⟨x,H1,I1,rx,a,C,dx,fs,v,ex,ea,c,n,l,q⟩ => ?_)
 subst ex
 obtain rfl : u = Value.ref a := rx
 exact qT I1 ea c n l fun u' s2 I2 ru => ⟨v,H1,I2,ru,q⟩
theorem DX (ha : PE X o ta) (hv : PE X value tv) (hs : swapsWith value (some (.Attribute o f pos')) pos.line X.env = pure false) : PS X (.Assign [.Attribute o f pos'] value pos) (Hw X.K ta tv f) := by
 intro pins s σ H D I h
 refine plainObj_wpAny_Assign_Attribute (aW (hv pins s σ H _ I h) fun u s1 ⟨y,H1,I1,ry,q⟩ => aW (ha pins s1 σ H1 _ I1 q) fun ov s2 ⟨x,H2,I2,rx,a,C,dx,fs,ex,ea,c,n,l,q2⟩ => ?_) hs
 subst ex
 obtain rfl : ov = Value.ref a := rx
 exact qg I2 ea c n l ry fun s3 I3 => ⟨σ,_,I3,q2⟩
end
section
variable {X : Cx} {pins : List (Addr × Obj)} {σ : St} {H : Hp} {s : Shared} {A : Around} {E : Value -> Shared -> Prop} {Q : Value -> Shared -> Prop} {c : Value} {b : Bool}
inductive kM (K : PySem.W.Frag) (H : Hp) : V -> Value -> Prop where
 | ak : kM K H .ak (.type "NoneType")
 | bl (x : Bool) : kM K H (.bl x) (.type "bool")
 | int (i : Int) : kM K H (.int i) (.type "int")
 | str (x : Str) : kM K H (.str x) (.type "str")
 | GI (x : UInt64) : kM K H (.GI x) (.type "float")
 | lst {a : Addr} {xs : List V} (e : H a = some (.lst xs)) : kM K H (.ref a) (.type "list")
 | fh {a : Addr} {o : Obj} {xs : List V} (e : H a = some (.fh o (.lst xs))) : kM K H (.ref a) (.type "list")
 | tup {a : Addr} {xs : List V} (e : H a = some (.tup xs)) : kM K H (.ref a) (.type "tuple")
 | dK {a : Addr} {kvs : List (Key × V)} (e : H a = some (.dK kvs)) : kM K H (.ref a) (.type "dict")
 | dT {a : Addr} {kvs : List (List Key × V)} (e : H a = some (.dT kvs)) : kM K H (.ref a) (.type "dict")
 | ins {a C dx : Addr} {fs : List (Str × V)} (e : H a = some (.ins C dx fs)) (cl : tX K C) (ha : PySem.W.findIn K (.ref C) "__class__" = some (some (.builtin "object.__class__")))
   (hn : PySem.W.specialIn K (.builtin "object.__class__") "__get__" = some (some (.builtin "getset_descriptor.__get__"))) (htk : PySem.W.takesIn K (.builtin "object.__class__") = some true)
   (hm : PySem.W.mroIn K C (.type "object") = some true) : kM K H (.ref a) (.ref C)
end
end L2
namespace L2
open PySem PySem.Spec PyProof.Rows
structure cy (k : Nat) (A : Around) : Prop where
 hd : A.handled = none
 dp : A.depth + 3 * k + 5 < recursionLimit
 un : A.units + 16 * k + 200 < cLine
theorem cy.deeper {k : Nat} {A : Around} (r : cy (k + 1) A) (env : Env) : cy k (A.deeper env) :=
 ⟨r.hd,by have := r.dp; show A.depth + 1 + 3 * k + 5 < _; omega,by have := r.un; show A.units + 3 + 16 * k + 200 < _; omega⟩
theorem qI {A : Around} {C : Addr} {us : List Value} {kw : List (Str × Value)} : (A.under (.builtin "type.__call__" ⟨.ref C :: us, kw⟩)).depth = A.depth + 1 := by
 first | rfl | simp [Around.under,Code.weight,Code.isCreation,Code.isGuard,Code.isCaller,Code.frames,Code.isFrame,guardIds]
theorem qH {A : Around} {C : Addr} {us : List Value} {kw : List (Str × Value)} : (A.under (.builtin "type.__call__" ⟨.ref C :: us, kw⟩)).units = A.units + 1 := by
 first | rfl | simp [Around.under,Code.cUnits,Code.frames,Code.isFrame]
theorem cy.make {k : Nat} {A : Around} (r : cy (k + 1) A) (C : Addr) (us : List Value) (kw : List (Str × Value)) : cy k (A.under (.builtin "type.__call__" ⟨.ref C :: us, kw⟩)) :=
 ⟨r.hd,by have := r.dp; rw [qI]; omega,by have := r.un; rw [qH]; omega⟩
theorem cy.depth {k : Nat} {A : Around} (r : cy k A) : A.depth < recursionLimit := by have := r.dp; omega
noncomputable def l7 : TA := fun _ H Q => Q [] H
noncomputable def jW (ta : TE) (tr : TA) : TA := fun σ H Q => ta σ H fun x H1 => tr σ H1 fun xs H2 => Q (x :: xs) H2
section
variable {X : Cx} {e : Expr} {es : List Expr} {te : TE} {t : TA} {pos : Pos}
theorem gu : PA X [] l7 := fun _ _ _ _ H Q I h => Calls.spliced_nil ⟨[],H,I,.nil,h⟩
theorem cW (ha : PE X e te) (hr : PA X es t) (hs : starEach (e :: es) X.env = (false,eval e X.env) :: starEach es X.env := by rfl) : PA X (e :: es) (jW te t) := by
 intro pos pins s σ H Q I h
 rw [hs]
 show wpAny _ _ (spliced ((false,eval e X.env) :: backTo pos (starEach es X.env))) _ _ s
 refine Calls.spliced_cons (aW (ha pins s σ H _ I h) fun u s1 ⟨x,H1,I1,r1,q1⟩ => ?_)
 exact aW (hr pos pins s1 σ H1 _ I1 q1) fun us s2 ⟨xs,H2,I2,r2,q2⟩ => ⟨x :: xs,H2,I2,.cons r1 r2,q2⟩
noncomputable def GZ (t : TA) : TE := fun σ H Q => t σ H fun xs H1 => xs.length <= sizeLine /\ ∀ p,H1 p = none -> Q (.ref p) (upd H1 p (.tup xs))
noncomputable def G5 (t : TA) : TE := fun σ H Q => t σ H fun xs H1 => xs.length <= sizeLine /\ ∀ p,H1 p = none -> Q (.ref p) (upd H1 p (.lst xs))
theorem D6 {x1} (h : PA X es t) : PE X (.Tuple es x1 pos) (GZ t) := by
 intro pins s σ H Q I hq
 refine wpAny_Tuple_spliced (aW (h pos pins s σ H _ I hq) fun us s1 ⟨xs,H1,I1,r,z,q⟩ => ⟨by rw [<- r.length]; exact z,?_⟩)
 have hf : H1 s1.heap.objs.size = none := I1.hok.fresh (Nat.le_refl _)
 refine ⟨.ref s1.heap.objs.size,upd H1 s1.heap.objs.size (.tup xs),I1.laid (t' := s1.toks) (fun b u e => Heap.get?_push_of_some _ e) (Nat.le_refl _) ?_,rfl,q _ hf⟩
 exact ⟨z,us,r,⟨_,Heap.get?_push_size _ rfl,rfl,_,rfl⟩⟩
theorem Eb (h : PA X es t) : PE X (.List es pos) (G5 t) := by
 intro pins s σ H Q I hq
 refine wpAny_List_spliced (aW (h pos pins s σ H _ I hq) fun us s1 ⟨xs,H1,I1,r,z,q⟩ => ⟨by rw [<- r.length]; exact z,?_⟩)
 have hf : H1 s1.heap.objs.size = none := I1.hok.fresh (Nat.le_refl _)
 refine ⟨.ref s1.heap.objs.size,upd H1 s1.heap.objs.size (.lst xs),I1.laid (t' := s1.toks) (fun b u e => Heap.get?_push_of_some _ e) (Nat.le_refl _) ?_,rfl,q _ hf⟩
 exact ⟨z,us,0,r,Heap.get?_push_size _ rfl⟩
end
noncomputable abbrev Sp := List V -> Hp -> VK -> XK -> Prop
noncomputable abbrev yY := List Env -> Hp -> Shared -> XK -> Value -> Shared -> Prop
structure rM (P : Program) (w : World) (K : PySem.W.Frag) (mg : Str -> Option Value) (base : Heap) (A : Around) (outer : List Env) (s : Shared) (H : Hp) : Prop where
 frames : A.frames = some outer
 mod : Mod K mg base
 bs : ∀ b o,base.get? b = some o -> s.heap.get? b = some o /\ H b = none
 vj : base.objs.size <= s.heap.objs.size
 gx : s.heap.FunFrames base outer
 zb : ∀ b ∈ frs outer,H b = none
 hok : gf P w H s.heap
 bare : AllBare s.gens
noncomputable def CE (outer : List Env) (P : Program) (w : World) (H : Hp) (s : Shared) (Q : VK) (u : Value) (s' : Shared) : Prop :=
 ∃ v H',s'.os = s.os /\ AllBare s'.gens /\ Un (frs outer) [] H H' s.heap s'.heap /\ gf P w H' s'.heap /\ RelV v u /\ Q v H'
noncomputable def CR (CX : yY) (outer : List Env) (P : Program) (w : World) (H : Hp) (s : Shared) (Q : VK) (E : XK) (r : Result) (s' : Shared) : Prop :=
 match r with
 | .ok (.ret u) => CE outer P w H s Q u s'
 | .ok _ => False
 | .error e => CX outer H s E e s'
structure ck (P : Program) (w : World) (K : PySem.W.Frag) (mg : Str -> Option Value) (base : Heap) (CX : yY) (k : Nat) (f : Addr) (fd : FuncData) (ps : List Str) (sp : Sp) : Prop where
 len : ∀ vs H Q E,sp vs H Q E -> vs.length = ps.length
 run : ∀ (A : Around) (outer : List Env) (s : Shared) (H : Hp) (args : Args) (us : List Value) (vs : List V) (Q : VK) (E : XK),cy k A -> rM P w K mg base A outer s H -> BindsTo s fd args (ps.zip us) -> Vals vs us -> sp vs H Q E ->
  codeAny (model P w) A (.call (.ref f) args) (CR CX outer P w H s Q E) s
theorem ck.imp {P : Program} {w : World} {K : PySem.W.Frag} {mg : Str -> Option Value} {base : Heap} {CX : yY} {k : Nat} {f : Addr} {fd : FuncData} {ps : List Str} {sp sp' : Sp} (F : ck P w K mg base CX k f fd ps sp)
  (h : ∀ vs H Q E,sp' vs H Q E -> sp vs H Q E) : ck P w K mg base CX k f fd ps sp' :=
 ⟨fun vs H Q E q => F.len vs H Q E (h _ _ _ _ q),fun A outer s H args us vs Q E hr he hb hv hs => F.run A outer s H args us vs Q E hr he hb hv (h _ _ _ _ hs)⟩
theorem rM.make {P : Program} {w : World} {K : PySem.W.Frag} {mg : Str -> Option Value} {base : Heap} {A : Around} {outer : List Env} {s : Shared} {H : Hp} (e : rM P w K mg base A outer s H) (C : Addr) (us : List Value) (kw : List (Str × Value)) :
  rM P w K mg base (A.under (.builtin "type.__call__" ⟨.ref C :: us, kw⟩)) outer s H := ⟨by first | exact e.frames | (simpa [Around.under, Code.envs, Code.isFrame, pushEnvs] using e.frames), e.mod, e.bs, e.vj, e.gx, e.zb, e.hok, e.bare⟩
section
variable {X : Cx} {pins : List (Addr × Obj)} {σ : St} {H : Hp} {s s' : Shared}
theorem Inv.kF (I : Inv X pins σ H s) : rM X.prog X.w X.K X.mg X.base X.A X.stack s H :=
 ⟨I.ok.frames,I.ok.mod,I.bs,Nat.le_trans I.ok.vj I.sz,I.stack,I.fO,I.hok,I.bare⟩
theorem Inv.after {Q : VK} {u : Value} (I : Inv X pins σ H s) (h : CE X.stack X.prog X.w H s Q u s') : EP X pins σ Q u s' := by
 obtain ⟨v,H',os,bare,un,hok,r,q⟩ := h
 obtain ⟨hh,g,d,t,os'⟩ := s'
 obtain rfl : os' = s.os := os
 exact ⟨v,H',I.call (h' := hh) (g' := g) (d' := d) (t' := t) (ch := []) un hok bare (fun b z => absurd z (by simp)),r,q⟩
end
noncomputable def Binds (K : PySem.W.Frag) (fd : FuncData) (ps : List Str) (ds : List Value) : Prop :=
 ∀ (s : Shared) (us : List Value),K.In s.heap -> (us ++ ds).length = ps.length -> BindsTo s fd ⟨us,[]⟩ (ps.zip (us ++ ds))
theorem Binds.all {K : PySem.W.Frag} {fd : FuncData} {ps : List Str} (h : ∀ us : List Value,us.length = ps.length -> bindArgs fd ⟨us,[]⟩ = pure (ps.zip us)) : Binds K fd ps [] := fun s us _ hl => by
 rw [List.append_nil] at hl ⊢
 exact .of_eq (h us hl)
section
variable {X : Cx} {CX : yY} {k : Nat} {f C : Addr} {fd : FuncData} {ps : List Str} {sp : Sp} {dvs : List V} {ds : List Value} {E : XK} {x m : Str} {p pos apos : Pos} {e o : Expr} {es : List Expr} {ta : TE} {t : TA}
structure Mk (K : PySem.W.Frag) (C f : Addr) : Prop where
 makes : PySem.W.makesIn K C = true
 init : PySem.W.findIn K (.ref C) "__init__" = some (some (.ref f))
 fn : PySem.W.isFn K (.ref f) = true
 kp : PySem.W.keepIn K (.ref C) = true
end
section
variable {X : Cx} {CX : yY} {k : Nat} {f C : Addr} {fd : FuncData} {ps ks : List Str} {sp : Sp} {E : XK} {x m : Str} {p pos apos kpos : Pos} {e o : Expr} {es : List Expr} {kws : List Keyword} {te ta : TE} {t tk : TA} {nm : Option Str}
structure KBinds (K : PySem.W.Frag) (fd : FuncData) (ps ks : List Str) (g : List Value -> List Value -> List Value) (gV : List V -> List V -> List V) : Prop where
 to : ∀ (s : Shared) (us ws : List Value),K.In s.heap -> (g us ws).length = ps.length -> BindsTo s fd ⟨us,ks.zip ws⟩ (ps.zip (g us ws))
 rel : ∀ {vs : List V} {us : List Value} {zs : List V} {ws : List Value},Vals vs us -> Vals zs ws -> Vals (gV vs zs) (g us ws)
variable {g : List Value -> List Value -> List Value} {gV : List V -> List V -> List V}
end
structure cZ (N P : List Str) (sc : Scope) : Prop where
 kind : sc.kind = .function
 co : sc.isCoroutine = false
 gen : sc.isGenerator = false
 nd : N.Nodup
 pre : N.take P.length = P
 par : ∀ x ∈ P,sc.names.lookup x = some .local \/ sc.names.lookup x = some .cell
 EE : ∀ y ∈ sc.names,y.2 ≠ .free
theorem lR {kindOf : Str -> Option NameKind} {x : Str} : ∀ {binds : List (Str × Value)} {m : Str -> Option Value},(∀ v,(x,v) ∉ binds) -> bindL kindOf binds m x = m x
 | [],_,_ => rfl
 | (n, v) :: r, m, h => by
  unfold bindL
  rw [lR fun w hw => h w (List.mem_cons_of_mem _ hw)]
  split
  ·have : x ≠ n := by rintro rfl; exact h v List.mem_cons_self
   simp [this]
  ·rfl
theorem lU {kindOf : Str -> Option NameKind} {x : Str} : ∀ {binds : List (Str × Value)} {m : Str -> Option Value},(∀ v,(x,v) ∉ binds) -> bindC kindOf binds m x = m x
 | [],_,_ => rfl
 | (n, v) :: r, m, h => by
  unfold bindC
  rw [lU fun w hw => h w (List.mem_cons_of_mem _ hw)]
  split
  ·rfl
  ·have : x ≠ n := by rintro rfl; exact h v List.mem_cons_self
   simp [this]
theorem lS {kindOf : Str -> Option NameKind} {x : Str} {v : Value} : ∀ {P : List Str} {vs : List Value} {i : Nat} {m : Str -> Option Value},P.Nodup -> P[i]? = some x -> vs[i]? = some v -> kindOf x = some .local ->
  bindL kindOf (P.zip vs) m x = some v
 | [],_,_,_,_,h,_,_ => by simp at h
 | _ :: _,[],_,_,_,_,h,_ => by simp at h
 | p :: P,w :: vs,0,m,nd,h1,h2,hk => by
  simp at h1 h2; subst h1; subst h2
  show bindL kindOf ((p,w) :: P.zip vs) m p = _
  unfold bindL
  rw [lR fun v hv => (List.nodup_cons.mp nd).1 (List.of_mem_zip hv).1,if_pos hk]
  simp
 | p :: P,w :: vs,i + 1,m,nd,h1,h2,hk => by
  show bindL kindOf ((p,w) :: P.zip vs) m x = _
  unfold bindL
  exact lS (i := i) (List.nodup_cons.mp nd).2 (by simpa using h1) (by simpa using h2) hk
theorem lV {kindOf : Str -> Option NameKind} {x : Str} {v : Value} : ∀ {P : List Str} {vs : List Value} {i : Nat} {m : Str -> Option Value},P.Nodup -> P[i]? = some x -> vs[i]? = some v -> kindOf x ≠ some .local ->
  bindC kindOf (P.zip vs) m x = some v
 | [],_,_,_,_,h,_,_ => by simp at h
 | _ :: _,[],_,_,_,_,h,_ => by simp at h
 | p :: P,w :: vs,0,m,nd,h1,h2,hk => by
  simp at h1 h2; subst h1; subst h2
  show bindC kindOf ((p,w) :: P.zip vs) m p = _
  unfold bindC
  rw [lU fun v hv => (List.nodup_cons.mp nd).1 (List.of_mem_zip hv).1,if_neg hk]
  simp
 | p :: P,w :: vs,i + 1,m,nd,h1,h2,hk => by
  show bindC kindOf ((p,w) :: P.zip vs) m x = _
  unfold bindC
  exact lV (i := i) (List.nodup_cons.mp nd).2 (by simpa using h1) (by simpa using h2) hk
noncomputable def start (N : List Str) (vs : List V) : St := vs.map some ++ List.replicate (N.length - vs.length) none
noncomputable def iH (CX : yY) (P : Program) (w : World) (K : PySem.W.Frag) (mg : Str -> Option Value) (base : Heap) (N : List Str) (qual : Str) (scope : Scope) (f : Addr) (cd : Value) (A : Around) (outer : List Env) (s : Shared) (H : Hp) (E : XK) : Cx where
 prog := P
 w := w
 K := K
 mg := mg
 base := base
 A := A.deeper (envOfC qual scope s.heap.objs.size f cd)
 N := N
 s₀ := s
 H₀ := H
 env := envOfC qual scope s.heap.objs.size f cd
 outer := outer
 stack := envOfC qual scope s.heap.objs.size f cd :: outer
 ex := []
 calm := true
 fn := fun _ => true
 pn := []
 xe := fun e s' => wpAny (model P w) (A.deeper (envOfC qual scope s.heap.objs.size f cd)) (leaving (envOfC qual scope s.heap.objs.size f cd) e) (fun _ s'' => CX outer H s E e s'') (fun e' s'' => CX outer H s E e' s'') s'
theorem pO {sc : Scope} {n : Nat} {x : Str} (h : sc.names.lookup x = some .cell) : ∃ c,(cellsFrom n sc.names []).lookup x = some c := by
 have q := PySem.W.cellsFrom_some sc.names n [] (.inl h)
 exact Option.isSome_iff_exists.mp q
theorem uN {CX : yY} {P : Program} {w : World} {K : PySem.W.Frag} {mg : Str -> Option Value} {base : Heap} {N ps : List Str} {qual : Str} {scope : Scope} {f : Addr} {cd : Value} {A : Around} {outer : List Env} {s s1 : Shared} {H : Hp} {E : XK} {us : List Value} {vs : List V}
  (S : cZ N ps scope) (hd : A.handled = none) (e0 : rM P w K mg base A outer s H) (hl : vs.length = ps.length) (r : Vals vs us)
  (x : InCallC s s.heap.objs.size (bindL (envOfC qual scope s.heap.objs.size f cd).kindOf (ps.zip us) fun _ => none) (cellsFrom (s.heap.objs.size + 1) scope.names []) (bindC (envOfC qual scope s.heap.objs.size f cd).kindOf (ps.zip us) fun _ => none) s1) :
  Inv (iH CX P w K mg base N qual scope f cd A outer s H E) [] (start N vs) H s1 := by
 have hpl : ps.length <= N.length := by have := congrArg List.length S.pre; rw [List.length_take] at this; omega
 obtain ⟨h1,tk,rfl,hk⟩ := x.done
 have Im : ∀ b : Addr,b ∉ (iH CX P w K mg base N qual scope f cd A outer s H E).ex := fun b z => absurd (show b ∈ ([] : List Addr) from z) (by simp)
 refine ⟨⟨e0.mod,S.kind,rfl,rfl,Nat.le_refl _,fun y z c h1 h2 => ?_,fun y hy => ?_,fun y c _ h => ?_,fun _ => hd,Around.frames_deeper e0.frames,.inr ⟨rfl,rfl⟩,fun b z => absurd z (Im b),e0.bs,e0.vj,fun b _ _ => Im b,fun b z => absurd z (Im b),e0.gx,e0.zb⟩,
  rfl,e0.bare,Un.kept hk,⟨_,x.toInCall.ns,fun i y v h1 h2 h3 => ?_⟩,fun y c h => ⟨_,x.cell y c h⟩,e0.hok.fresh (Nat.le_refl _),fun y c h => ?_,fun p hp => absurd (show p ∈ ([] : List (Addr × Obj)) from hp) (by simp),e0.hok.kept hk,?_⟩
 ·exact name_of_addr x.apart (PySem.mem_of_lookup h1) (PySem.mem_of_lookup h2)
 ·have hy : scope.names.lookup y = some .cell \/ scope.names.lookup y = some .free := hy
  rcases hy with hy | hy
  ·exact pO hy
  ·exact absurd rfl (S.EE _ (PySem.mem_of_lookup hy))
 ·exact Nat.le_of_lt (x.above y c (PySem.mem_of_lookup h))
 ·have hi : i < vs.length := by
   unfold start at h2
   by_cases hi : i < vs.length
   ·exact hi
   ·rw [List.getElem?_append_right (by simpa using hi)] at h2
    rw [List.getElem?_replicate] at h2
    split at h2 <;> cases h2
  have ha : vs[i]? = some v := by
   unfold start at h2
   rw [List.getElem?_append_left (by simpa using hi),List.getElem?_map] at h2
   cases e : vs[i]? with
   | none => rw [e] at h2; cases h2
   | some a => rw [e] at h2; cases h2; rfl
  obtain ⟨u,hu,rv⟩ := r.get ha
  have hp : ps[i]? = some y := by
   rw [<- S.pre,List.getElem?_take_of_lt (by omega)]; exact h1
  have ndP : ps.Nodup := by rw [<- S.pre]; exact S.nd.sublist (List.take_sublist _ _)
  refine ⟨u,rv,?_⟩
  rcases S.par y (List.mem_of_getElem? hp) with k | k
  ·exact .inl ⟨k,lS ndP hp hu k⟩
  ·obtain ⟨c,e⟩ := pO (n := s.heap.objs.size + 1) k
   refine .inr ⟨.inl k,c,e,?_⟩
   have q := x.cell y c e
   rw [lV ndP hp hu (by show scope.names.lookup y ≠ _; rw [k]; decide)] at q
   exact q
 ·exact e0.hok.fresh (Nat.le_of_lt (x.above y c (PySem.mem_of_lookup h)))
 ·unfold start
  show _ = N.length
  rw [List.length_append,List.length_map,List.length_replicate]
  omega
theorem CM {CX : yY} {P : Program} {w : World} {K : PySem.W.Frag} {mg : Str -> Option Value} {base : Heap} {k : Nat} {f : Addr} {name qual : Str} {params : Arguments} {body : List Stmt} {scope : Scope} {dV kV doc pm cdv ct oc : Value} {an od : Option Addr}
  {osl : Array (Option Value)} {N ps : List Str} {sp : Sp} (lk : K.lookup f = some ⟨oc,od,.func (PySem.W.fnOf name qual params body scope dV kV doc pm an cdv ct),osl⟩) (hcd : PySem.W.codeIn K cdv qual = true) (S : cZ N ps scope)
  (len : ∀ vs H Q E,sp vs H Q E -> vs.length = ps.length)
  (hbody : ∀ (A : Around) (outer : List Env) (s : Shared) (H : Hp) (vs : List V) (Q : VK) (E : XK),cy k (A.deeper (envOfC qual scope s.heap.objs.size f cdv)) -> sp vs H Q E ->
   ∃ t,jP (iH CX P w K mg base N qual scope f cdv A outer s H E) body t /\ t { nx := fun _ H' => Q .ak H',rt := Q } (start N vs) H) :
  ck P w K mg base CX (k + 1) f (PySem.W.fnOf name qual params body scope dV kV doc pm an cdv ct) ps sp := by
 refine ⟨len,fun A outer s H args us vs Q E hr e0 hb r GF => ?_⟩
 have hl := len _ _ _ _ GF
 have KX : K.In s.heap := e0.mod.A3.keeps fun b o e => (e0.bs b o e).1
 have lim : s.heap.NoLimit := e0.mod.nolimit.keeps fun b o e => (e0.bs b o e).1
 have hkind : ∀ y ∈ ps.zip us,scope.names.lookup y.1 = some .local \/ (scope.names.lookup y.1 = some .cell /\ ((cellsFrom (s.heap.objs.size + 1) scope.names []).lookup y.1).isSome = true) := fun ⟨n,v⟩ hy => by
  rcases S.par n (List.of_mem_zip hy).1 with q | q
  ·exact .inl q
  ·exact .inr ⟨q,PySem.W.cellsFrom_some _ _ _ (.inl q)⟩
 refine codeAny_call_function hr.depth (KX _ _ lk) rfl S.co S.gen rfl (PySem.W.codeRec_of KX hcd) (hb _ _ _ _ ?_)
 refine wpAny_newFunctionEnv_cells S.kind hkind fun env he s1 x => ?_
 subst he
 refine ⟨lim.keeps x.toInCall.keep,codeAny_func ?_⟩
 obtain ⟨t,ht,hq⟩ := hbody A outer s H vs Q E (hr.deeper _) GF
 have I : Inv (iH CX P w K mg base N qual scope f cdv A outer s H E) [] (start N vs) H s1 := uN S hr.hd e0 hl r x
 refine wpAny_mono (ht [] s1 (start N vs) H _ I hq) (fun fl s' hs => ?_) fun e s' hs => hs
 have fin : ∀ {σ' : St} {H' : Hp} {v : V} {u : Value},Inv (iH CX P w K mg base N qual scope f cdv A outer s H E) [] σ' H' s' -> RelV v u -> Q v H' -> CE outer P w H s Q u s' :=
  fun {σ' H' v u} J rv q => ⟨v,H',J.os,J.bare,J.base,J.hok,rv,q⟩
 cases fl with
 | ret u =>
  obtain ⟨v,σ',H',J,rv,q⟩ := hs
  exact fin J rv q
 | next =>
  obtain ⟨σ',H',J,q⟩ := hs
  exact fin (v := V.ak) (u := Value.none) J rfl q
 | brk =>
  obtain ⟨_,_,_,q⟩ := hs
  exact False.elim q
 | cont =>
  obtain ⟨_,_,_,q⟩ := hs
  exact False.elim q
end L2
namespace L2
open PySem PySem.Spec PyProof.Rows
section
variable {X : Cx} {x : Str} {p pos : Pos} {e : Expr} {es : List Expr} {t : TA} {id T : String} {r : List V -> Hp -> VK -> Prop}
noncomputable def G9 (r : List V -> Hp -> VK -> Prop) (t : TA) : TE := fun σ H Q => t σ H fun vs H1 => r vs H1 Q
theorem kc (hc : c5 X (.builtin id) r) (hg : Gl X x) (hm : X.mg x = none) (hv : bootBuiltins x = some (.builtin id)) (ha : PA X (e :: es) t) (hn : x ≠ "__name__" := by decide) (hdb : (x == ("__debug__" : Str)) = false := by decide)
  (he : starEach (e :: es) X.env = (false,eval e X.env) :: starEach es X.env := by rfl) (hpl : (backTo pos (starEach es X.env)).any (·.1) = false := by rfl) : PE X (.Call (.Name x p) (e :: es) [] pos) (G9 r t) := by
 intro pins s σ H Q I h
 refine wpAny_Call_Name_kw (ko I hg hm hv ?_ hn hdb)
 exact PyProof.Rows.callWith_builtin1 (aW (ha pos pins s σ H _ I h) fun us s1 ⟨vs,H1,I1,r1,q1⟩ => hc pins s1 σ H1 vs us Q I1 r1 q1) he hpl
theorem lz (hc : c5 X (.type T) r) (hg : Gl X x) (hm : X.mg x = none) (hv : bootBuiltins x = some (.type T)) (ha : PA X (e :: es) t) (hn : x ≠ "__name__" := by decide) (hdb : (x == ("__debug__" : Str)) = false := by decide)
  (he : starEach (e :: es) X.env = (false,eval e X.env) :: starEach es X.env := by rfl) (hpl : (backTo pos (starEach es X.env)).any (·.1) = false := by rfl) : PE X (.Call (.Name x p) (e :: es) [] pos) (G9 r t) := by
 intro pins s σ H Q I h
 refine wpAny_Call_Name_kw (ko I hg hm hv ?_ hn hdb)
 exact PyProof.Rows.callWith_type1 (aW (ha pos pins s σ H _ I h) fun us s1 ⟨vs,H1,I1,r1,q1⟩ => hc pins s1 σ H1 vs us Q I1 r1 q1) he hpl
end
end L2
namespace HT
open PySem PyProof.Rows
section
open PySem.SeqAt
open PySem.AutoSeq1 (wpAny_loadPart')
open PySem.MeetsSeq PySem.MeetsSeq2 PySem.MeetsSeq3
end
section
variable {prog : Program} {w : World} {A : Around} {E : Value -> Shared -> Prop} {s : Shared}
theorem BF {t b : Addr} {vs ws : List Value} {Q : Value -> Shared -> Prop} (ht : IsTup s.heap t vs.toArray) (hb : IsTup s.heap b ws.toArray) (hv : vs ≠ [])
  (h1 : ws = [] -> Q (.ref t) s) (h2 : ws ≠ [] -> Q (.ref s.heap.objs.size) { s with heap := s.heap.push { cls := .type "tuple", data := .seq (vs ++ ws).toArray } })
  (hsz : vs.length + ws.length <= sizeLine) : wpAny (model prog w) A (binaryOp .Add (.ref t) (.ref b)) Q E s := by
 obtain ⟨⟨cls,dd,data,sl⟩,ho,hc,n,hd⟩ := id ht
 obtain ⟨⟨JB,dd2,data2,sl2⟩,ho2,hc2,n2,hd2⟩ := id hb
 simp only at hc hd hc2 hd2
 subst hc hd hc2 hd2
 have e : vs.toArray ++ ws.toArray = (vs ++ ws).toArray := by simp
 by_cases hw : ws = []
 ·exact concat_meets ⟨_,ho,rfl⟩ ⟨_,ho2,rfl⟩ noFill_tuple_add seq_tuple_add PySem.F.slot_tuple_add PySem.F.entry_tuple_add (PySem.F.args_tuple_add_2 _ _)
   (tuple_addW1 t b vs.toArray ws.toArray n n2 dd dd2 sl sl2 (by simpa using hv) (by simp [hw])) ⟨ho,ho2,h1 hw⟩
 ·refine concat_meets ⟨_,ho,rfl⟩ ⟨_,ho2,rfl⟩ noFill_tuple_add seq_tuple_add PySem.F.slot_tuple_add PySem.F.entry_tuple_add (PySem.F.args_tuple_add_2 _ _)
   (tuple_addW2 t b vs.toArray ws.toArray n n2 dd dd2 sl sl2 (by simpa using hv) (by simpa using hw) (by rw [List.size_toArray,List.size_toArray]; exact hsz)) ⟨ho,ho2,?_⟩
  rw [e]
  exact h2 hw
noncomputable def cu (n d : Nat) : Option Int -> Nat
 | none => d
 | some v => if v < 0 then (v + (n : Int)).toNat else min v.toNat n
theorem DF (n d : Nat) (hd : d <= n) (o : Option Int) : cu n d o <= n := by
 cases o with
 | none => exact hd
 | some v =>
  show (if v < 0 then (v + (n : Int)).toNat else min v.toNat n) <= n
  by_cases hv : v < 0
  ·rw [if_pos hv]; omega
  ·rw [if_neg hv]; exact Nat.min_le_right _ _
theorem tN (v : Int) (n d : Nat) : (if v < 0 then max (v + (n : Int)) 0 else min v (n : Int)) = ((cu n d (some v) : Nat) : Int) := by
 show (if v < 0 then max (v + (n : Int)) 0 else min v (n : Int)) = (((if v < 0 then (v + (n : Int)).toNat else min v.toNat n) : Nat) : Int)
 by_cases hv : v < 0
 ·simp only [if_pos hv]; omega
 ·simp only [if_neg hv]; omega
theorem rH (lo hi : Option Int) (n : Nat) : Builtin.Slice.sliceAdjust lo hi 1 (n : Int) = (((cu n 0 lo : Nat) : Int),((cu n n hi : Nat) : Int)) := by
 have h1 : ¬ ((1 : Int) < 0) := by omega
 unfold Builtin.Slice.sliceAdjust
 simp only [h1,if_false]
 refine Prod.ext ?_ ?_
 ·cases lo with
  | none => rfl
  | some v => exact tN v n 0
 ·cases hi with
  | none => rfl
  | some v => exact tN v n n
theorem qw (i j : Nat) : Builtin.Slice.slicePlaces (i : Int) (j : Int) 1 = j - i := by
 unfold Builtin.Slice.slicePlaces
 have h1 : (1 : Int) > 0 := by omega
 simp only [h1,if_true,Int.ediv_one]
 split <;> omega
theorem jX {v : Value} {o : Option Int} {Q : Option Int -> Shared -> Prop} (p : IsPart v o) (h : Q o s) : wpAny (model prog w) A (Builtin.Slice.slicePartIndex v) Q E s := by
 cases p with
 | none => exact slicePart_none h
 | int i t => exact slicePart_int h
theorem iP {sl : Addr} {vl vu : Value} {lo hi : Option Int} {n : Nat} {Q : Int × Int × Nat -> Shared -> Prop} (hs : s.heap.IsSliceOf sl vl vu .none) (pl : IsPart vl lo) (pu : IsPart vu hi)
  (h : Q (((cu n 0 lo : Nat) : Int),1,cu n n hi - cu n 0 lo) s) : wpAny (model prog w) A (Builtin.Slice.sliceApplied (.ref sl) (pure (n : Int))) Q E s := by
 obtain ⟨os,hos,hcs,hds⟩ := id hs
 unfold Builtin.Slice.sliceApplied Builtin.Slice.sliceFields
 refine wpAny_bind (wpAny_bind (wpAny_field hos hds (x := vl) rfl (wpAny_bind (wpAny_field hos hds (x := vu) rfl (wpAny_bind (wpAny_field hos hds (x := .none) rfl (wpAny_pure ?_)))))))
 refine wpAny_bind (slicePart_none ?_)
 show wpAny _ _ (if ((1 : Int) == 0) = true then _ else _) _ _ s
 rw [if_neg (by decide)]
 refine wpAny_bind (jX pl (wpAny_bind (jX pu (wpAny_bind (wpAny_pure ?_)))))
 show wpAny _ _ (match Builtin.Slice.sliceAdjust lo hi 1 (n : Int) with | (lo,hi) => pure (lo,(1 : Int),Builtin.Slice.slicePlaces lo hi 1)) _ _ s
 rw [rH lo hi n]
 show wpAny _ _ (pure (((cu n 0 lo : Nat) : Int),(1 : Int),Builtin.Slice.slicePlaces ((cu n 0 lo : Nat) : Int) ((cu n n hi : Nat) : Int) 1)) _ _ s
 rw [qw]
 exact wpAny_pure h
theorem wo (xs : Array Value) (i k : Nat) : ((List.range k).filterMap fun (m : Nat) => xs[((i : Int) + (m : Int) * 1).toNat]?).toArray = ((xs.toList.drop i).take k).toArray := by
 have e : (fun (m : Nat) => xs[((i : Int) + (m : Int) * 1).toNat]?) = fun m => xs[i + m]? := by
  funext m
  have : ((i : Int) + (m : Int) * 1).toNat = i + m := by omega
  rw [this]
 rw [e]
 have := pick_run xs i k
 rw [List.filterMap_map] at this
 have e2 : ((fun x => xs[x]?) ∘ fun x => i + x) = fun m => xs[i + m]? := rfl
 rw [e2] at this
 rw [this]
theorem ic {t sl : Addr} {items : Array Value} {vl vu : Value} {lo hi : Option Int} {Q : Value -> Shared -> Prop} (ht : IsTup s.heap t items) (hs : s.heap.IsSliceOf sl vl vu .none) (pl : IsPart vl lo) (pu : IsPart vu hi)
  (hw : ¬ (cu items.size 0 lo = 0 /\ cu items.size items.size hi = items.size))
  (h : Q (.ref s.heap.objs.size) { s with heap := s.heap.push { cls := .type "tuple", data := .seq ((items.toList.drop (cu items.size 0 lo)).take (cu items.size items.size hi - cu items.size 0 lo)).toArray } })
  (hsz : items.size <= sizeLine) : wpAny (model prog w) A (getItem (.ref t) (.ref sl)) Q E s := by
 have sW : sizeOk (.seq ((items.toList.drop (cu items.size 0 lo)).take (cu items.size items.size hi - cu items.size 0 lo)).toArray) := by
  show ((items.toList.drop (cu items.size 0 lo)).take (cu items.size items.size hi - cu items.size 0 lo)).toArray.size <= sizeLine
  rw [List.size_toArray,List.length_take,List.length_drop,Array.length_toList]
  omega
 have hj : cu items.size items.size hi <= items.size := DF _ _ (Nat.le_refl _) hi
 obtain ⟨os,hos,hcs,hds⟩ := id hs
 have hTs : s.TypeIs (.ref sl) "slice" := ⟨os, hos, hcs⟩
 unfold getItem
 try with_reducible refine wpAny_holding ?_
 first | refine wpAny_bind (wpAny_pure ?_) | skip
 refine wpAny_bind (wpAny_sequenceKey ht.typeIs (by decide) ?_)
 refine wpAny_bind (wpAny_callSpecial?_slot (name := Str.ofString "__getitem__") ht.typeIs PyProof.Rows.slot_tuple_getitem
  (wpAny_call_entry PyProof.Rows.slot_tuple_getitem ht.typeIs entry_tuple_getitem ?_ (args_tuple_getitem _ _)))
 show wpAny _ _ (Builtin.Tuple.tupleItemsOf (.ref t) >>= _) _ _ s
 refine wpAny_bind (tupleItemsOf_ ht ?_)
 refine wpAny_bind (wpAny_typeOf hTs ?_)
 rw [if_pos (by decide)]
 refine wpAny_bind (iP hs pl pu ?_)
 have hno : ¬ ((((cu items.size 0 lo : Nat) : Int) == 0 && (1 : Int) == 1 && (cu items.size items.size hi - cu items.size 0 lo) == items.size) = true) := by
  intro q
  rw [Bool.and_eq_true,Bool.and_eq_true] at q
  have q1 : ((cu items.size 0 lo : Nat) : Int) = 0 := eq_of_beq q.1.1
  have q2 : cu items.size items.size hi - cu items.size 0 lo = items.size := eq_of_beq q.2
  exact hw ⟨by omega,by omega⟩
 show wpAny _ _ (if (((cu items.size 0 lo : Nat) : Int) == 0 && (1 : Int) == 1 && (cu items.size items.size hi - cu items.size 0 lo) == items.size) = true then _ else _) _ _ s
 rw [if_neg hno,wo]
 first
  | exact wpAny_bind (m := Builtin.Tuple.tupleExact _) (wpAny_newObj_type (wpAny_pure ⟨_,rfl,wpAny_pure h⟩) sW)
  | exact wpAny_bind (m := Builtin.Tuple.tupleExact _) (wpAny_newObj_type (wpAny_bind (wpAny_pure (wpAny_pure ⟨_,rfl,wpAny_pure h⟩))) sW)
  | exact wpAny_bind (wpAny_bind (m := Builtin.Tuple.tupleExact _) (wpAny_newObj_type (wpAny_pure (wpAny_pure ⟨_,rfl,wpAny_pure h⟩)) sW))
  | exact wpAny_bind (wpAny_bind (m := Builtin.Tuple.tupleExact _) (wpAny_newObj_type (wpAny_pure ⟨_,rfl,wpAny_pure h⟩) sW))
end
end HT
namespace L2
open PySem PySem.Spec PyProof.Rows
noncomputable abbrev TO := St -> Hp -> (Option Int -> Hp -> Prop) -> Prop
noncomputable def PO (X : Cx) (e : Option Expr) (t : TO) : Prop :=
 ∀ (pins : List (Addr × Obj)) (s : Shared) (σ : St) (H : Hp) (Q : Option Int -> Hp -> Prop),Inv X pins σ H s -> t σ H Q ->
  wpAny (model X.prog X.w) X.A (evalPart e X.env) (fun u s' => ∃ o H',Inv X pins σ H' s' /\ IsPart u o /\ Q o H') X.xe s
noncomputable def rT : TO := fun _ H Q => Q none H
noncomputable def Cc (t : TE) : TO := fun σ H Q => t σ H fun x H1 => ∃ i,x = .int i /\ Q (some i) H1
section
variable {X : Cx} {e : Expr} {te : TE} {lo hi : Option Expr} {tl th : TO} {pos p2 : Pos}
theorem As : PO X none rT := by
 intro pins s σ H Q I h
 rw [evalPart_none]
 exact wpAny_pure ⟨none,H,I,.none,h⟩
theorem Ar (h : PE X e te) : PO X (some e) (Cc te) := by
 intro pins s σ H Q I hw
 rw [evalPart_some]
 refine aW (h pins s σ H _ I hw) fun u s1 ⟨x,H1,I1,r1,q1⟩ => ?_
 obtain ⟨i,rfl,q⟩ := q1
 obtain ⟨t,rfl⟩ := r1
 exact ⟨some i,H1,I1,.int i t,q⟩
noncomputable def B0 (X : Cx) (r : V -> Option Int -> Option Int -> Hp -> VK -> Prop) : Prop :=
 ∀ (pins : List (Addr × Obj)) (s : Shared) (σ : St) (H : Hp) (x : V) (v vl vu : Value) (lo hi : Option Int) (sl : Addr) (Q : VK),Inv X pins σ H s -> RelV x v -> s.heap.IsSliceOf sl vl vu .none -> IsPart vl lo -> IsPart vu hi -> r x lo hi H Q ->
  ∃ T id, typeLookup (.type T) "__getitem__" = pure (some (.builtin id)) /\ s.TypeIs v T /\ wpAny (model X.prog X.w) X.A (getItem v (.ref sl)) (EP X pins σ Q) X.xe s
theorem B0.or {r r' : V -> Option Int -> Option Int -> Hp -> VK -> Prop} (h : B0 X r) (h' : B0 X r') : B0 X (fun x lo hi H Q => r x lo hi H Q \/ r' x lo hi H Q) := by
 intro pins s σ H x v vl vu lo hi sl Q I rx hs pl pu q
 rcases q with q | q
 ·exact h pins s σ H x v vl vu lo hi sl Q I rx hs pl pu q
 ·exact h' pins s σ H x v vl vu lo hi sl Q I rx hs pl pu q
noncomputable def tSl (r : V -> Option Int -> Option Int -> Hp -> VK -> Prop) (te : TE) (tl th : TO) : TE := fun σ H Q => te σ H fun x H1 => tl σ H1 fun l H2 => th σ H2 fun u H3 => r x l u H3 Q
theorem wu {r : V -> Option Int -> Option Int -> Hp -> VK -> Prop} (hr : B0 X r) (he : PE X e te) (hl : PO X lo tl) (hu : PO X hi th) : PE X (.Subscript e (.Slice lo hi none p2) pos) (tSl r te tl th) := by
 intro pins s σ H Q I h
 refine Subscript_ (aW (he pins s σ H _ I h) fun v s1 ⟨x,H1,I1,r1,q1⟩ => ?_)
 refine wpAny_Slice (aW (hl pins s1 σ H1 _ I1 q1) fun vl s2 ⟨l,H2,I2,pl,q2⟩ => aW (hu pins s2 σ H2 _ I2 q2) fun vu s3 ⟨u,H3,I3,pu,q3⟩ => ?_)
 rw [evalPart_none]
 refine wpAny_pure ?_
 have I4 : Inv X pins σ H3 { s3 with heap := s3.heap.push { cls := .type "slice", data := .fields #[vl, vu, .none] } } := I3.kept (t' := s3.toks) fun b ob q => Heap.get?_push_of_some _ q
 obtain ⟨T, id, hT, ht, hg⟩ := hr pins { s3 with heap := s3.heap.push { cls := .type "slice", data := .fields #[vl, vu, .none] } } σ H3 x v vl vu l u s3.heap.objs.size Q I4 r1 (Heap.IsSliceOf.new ..) pl pu q3
 show wpAny (model X.prog X.w) X.A (subscriptTail e (.Slice lo hi none p2) v (.ref s3.heap.objs.size)) (EP X pins σ Q) X.xe { s3 with heap := s3.heap.push { cls := .type "slice", data := .fields #[vl, vu, .none] } }
 exact tail_any (ops := [.ref s3.heap.objs.size,v]) ht hT hg (by with_unfolding_all rfl)
noncomputable def pL (xs : List V) (lo hi : Option Int) : List V := (xs.drop (HT.cu xs.length 0 lo)).take (HT.cu xs.length xs.length hi - HT.cu xs.length 0 lo)
theorem jt (xs : List V) (lo hi : Option Int) : (pL xs lo hi).length <= xs.length := by
 unfold pL
 rw [List.length_take,List.length_drop]
 omega
noncomputable def HD (K : PySem.W.Frag) : V -> Option Int -> Option Int -> Hp -> VK -> Prop := fun x lo hi H Q => ∃ a xs,x = .ref a /\ jv K H a xs /\
 ¬ (HT.cu xs.length 0 lo = 0 /\ HT.cu xs.length xs.length hi = xs.length) /\ ∀ p,H p = none -> Q (.ref p) (upd H p (.tup (pL xs lo hi)))
theorem Dr : B0 X (HD X.K) := by
 intro pins s σ H x v vl vu lo hi sl Q I rx hs pl pu h
 obtain ⟨a,xs,rfl,hx,hw,q⟩ := h
 cases rx
 obtain ⟨its,r,ht,hz⟩ := I.tuple hx
 have hlen : its.toArray.size = xs.length := by rw [List.size_toArray]; exact r.length.symm
 refine ⟨"tuple", _, PyProof.Rows.slot_tuple_getitem.lookup, ht.typeIs, ?_⟩
 refine HT.ic ht hs pl pu (by rw [hlen]; exact hw) ?_ (by rw [hlen]; exact hz)
 rw [hlen]
 refine ⟨.ref s.heap.objs.size,_,I.laid (t' := s.toks) (o := .tup (pL xs lo hi)) (fun b ob q => Heap.get?_push_of_some _ q) (Nat.le_refl _) ?_,rfl,q _ (I.hok.fresh (Nat.le_refl _))⟩
 exact ⟨Nat.le_trans (jt xs lo hi) hz,_,(r.drop (HT.cu xs.length 0 lo)).take (HT.cu xs.length xs.length hi - HT.cu xs.length 0 lo),IsTup.new _ _⟩
noncomputable def Cu (K : PySem.W.Frag) : R2 := fun x y H Q => ∃ a b xs ys,x = .ref a /\ y = .ref b /\ jv K H a xs /\ jv K H b ys /\ xs ≠ [] /\ xs.length + ys.length <= sizeLine /\
 (ys = [] -> Q (.ref a) H) /\ (ys ≠ [] -> ∀ p,H p = none -> Q (.ref p) (upd H p (.tup (xs ++ ys))))
theorem Vals.mJ {xs : List V} {us : List Value} (r : Vals xs us) : us = [] ↔ xs = [] := by
 cases r with
 | nil => simp
 | cons _ _ => simp
theorem AH : dP X (binaryOp .Add) (Cu X.K) := by
 intro pins s σ H x y v u Q I rx ry h
 obtain ⟨a,b,xs,ys,rfl,rfl,ha,hb,hx,hz,q1,q2⟩ := h
 cases rx
 cases ry
 obtain ⟨its,r1,p1,_⟩ := I.tuple ha
 obtain ⟨its2,r2,p2,_⟩ := I.tuple hb
 refine HT.BF p1 p2 (fun z => hx (r1.mJ.mp z)) (fun z => ⟨.ref a,H,I,rfl,q1 (r2.mJ.mp z)⟩) (fun z => ?_) (by rw [<- r1.length,<- r2.length]; exact hz)
 refine ⟨.ref s.heap.objs.size,_,I.laid (t' := s.toks) (o := .tup (xs ++ ys)) (fun b ob q => Heap.get?_push_of_some _ q) (Nat.le_refl _) ?_,rfl,q2 (fun w => z (r2.mJ.mpr w)) _ (I.hok.fresh (Nat.le_refl _))⟩
 exact ⟨by rw [List.length_append]; exact hz,_,r1.append r2,IsTup.new _ _⟩
end
end L2
namespace L2
open PySem PySem.Spec PyProof.Rows
noncomputable def GD (n : Nat) (i : Int) : Option Nat := if 0 <= i then (if i < n then some i.toNat else none) else if -(n : Int) <= i then some (i + n).toNat else none
noncomputable def Gs {α : Type} (xs : List α) (i : Int) : Option α := (GD xs.length i).bind fun j => xs[j]?
theorem sQ {n : Nat} {i : Int} {j : Nat} (h : GD n i = some j) : seqIndex? i n = some j /\ j < n /\ -(n : Int) <= i /\ i < n := by
 unfold GD at h
 by_cases h0 : 0 <= i
 ·rw [if_pos h0] at h
  by_cases h1 : i < n
  ·rw [if_pos h1] at h
   have e : i.toNat = j := Option.some.inj h
   exact ⟨by rw [seqIndex_of h0 h1,e],by omega,by omega,h1⟩
  ·rw [if_neg h1] at h; cases h
 ·rw [if_neg h0] at h
  by_cases h1 : -(n : Int) <= i
  ·rw [if_pos h1] at h
   have e : (i + n).toNat = j := Option.some.inj h
   exact ⟨by rw [seqIndex_neg (by omega) h1,e],by omega,h1,by omega⟩
  ·rw [if_neg h1] at h; cases h
theorem nJ {α : Type} {xs : List α} {i : Int} {v : α} (h : Gs xs i = some v) : ∃ j,seqIndex? i xs.length = some j /\ xs[j]? = some v /\ j < xs.length /\ -(xs.length : Int) <= i /\ i < xs.length := by
 unfold Gs at h
 cases e : GD xs.length i with
 | none => rw [e] at h; cases h
 | some j =>
  rw [e] at h
  obtain ⟨h1,h2,h3,h4⟩ := sQ e
  exact ⟨j,h1,h,h2,h3,h4⟩
noncomputable def tW (b : Expr) : Prop := ∀ o i,subscripted b false o i = operate [o,i] (getItem o i)
noncomputable def zj (X : Cx) (r : R2) : Prop :=
 ∀ (value slice : Expr) (pins : List (Addr × Obj)) (s : Shared) (σ : St) (H : Hp) (x y : V) (v u : Value) (Q : VK),Inv X pins σ H s -> RelV x v -> RelV y u -> r x y H Q ->
  subscripted slice false v u = operate [v,u] (getItem v u) -> wpAny (model X.prog X.w) X.A (subscriptTail value slice v u) (EP X pins σ Q) X.xe s
noncomputable def MtR (X : Cx) (id : String) (r : V -> List V -> Hp -> VK -> Prop) : Prop :=
 ∀ (pins : List (Addr × Obj)) (s : Shared) (σ : St) (H : Hp) (x : V) (xs : List V) (v : Value) (us : List Value) (Q : VK),Inv X pins σ H s -> RelV x v -> Vals xs us -> r x xs H Q ->
  wpAny (model X.prog X.w) X.A (call (.builtin id) (v :: us)) (EP X pins σ Q) X.xe s
section
variable {X : Cx} {a b : Expr} {ta tb : TE} {pos : Pos}
theorem zj.or {r r' : R2} (h : zj X r) (h' : zj X r') : zj X (fun x y H Q => r x y H Q \/ r' x y H Q) := by
 intro value slice pins s σ H x y v u Q I rx ry q hs
 rcases q with q | q
 ·exact h value slice pins s σ H x y v u Q I rx ry q hs
 ·exact h' value slice pins s σ H x y v u Q I rx ry q hs
theorem HY {r : R2} (hr : zj X r) (ha : PE X a ta) (hb : PE X b tb) (hs : tW b) : PE X (.Subscript a b pos) (Dl r ta tb) := by
 intro pins s σ H Q I h
 exact Subscript_ (Gq ha hb I h fun v u s2 x y H2 I2 rx ry q => hr a b pins s2 σ H2 x y v u Q I2 rx ry q (hs _ _))
noncomputable def HK (K : PySem.W.Frag) : R2 := fun x y H Q => ∃ p xs i v,x = .ref p /\ y = .int i /\ fk K H p xs /\ Gs xs i = some v /\ Q v H
noncomputable def HH (K : PySem.W.Frag) : R2 := fun x y H Q => ∃ p xs i v,x = .ref p /\ y = .int i /\ jv K H p xs /\ Gs xs i = some v /\ Q v H
noncomputable def HJ : R2 := fun x y H Q => ∃ z i c,x = .str z /\ y = .int i /\ z.length <= sizeLine /\ Gs z.cps.toList i = some c /\ Q (.str ⟨#[c]⟩) H
theorem Bc : zj X (HK X.K) := by
 intro value slice pins s σ H x y v u Q I rx ry h hs
 obtain ⟨p,xs,i,z,rfl,rfl,hq,he,q⟩ := h
 cases rx
 obtain ⟨t,rfl⟩ := ry
 obtain ⟨its,r,pl,hz⟩ := I.list hq
 obtain ⟨j,h1,h2,h3,h4,h5⟩ := nJ he
 obtain ⟨w,ew,rw'⟩ := r.get h2
 have hl := r.length
 have hn := iR
 have fin : EP X pins σ Q w s := ⟨z,H,I,rw',q⟩
 by_cases h0 : 0 <= i
 ·have hj : i.toNat = j := by
   rw [seqIndex_of h0 h5] at h1
   exact Option.some.inj h1
  exact item_listR pl.isList h0 (by omega) (by rw [hj]; simpa using ew) fin hs
 ·have hj : (i + (its.toArray.size : Int)).toNat = j := by
   rw [seqIndex_neg (by omega) h4] at h1
   rw [List.size_toArray,<- hl]
   exact Option.some.inj h1
  exact subscriptTail_builtinR (x := w) pl.isList.typeIs slot_list_getitem.lookup
   (wpAny_getItem_list_neg (Q := fun r s' => r = w /\ EP X pins σ Q r s') pl.isList (by omega) (by rw [List.size_toArray] <;> omega) (by omega) (by rw [hj]; simpa using ew) ⟨rfl,fin⟩) hs
theorem Fw : zj X (HH X.K) := by
 intro value slice pins s σ H x y v u Q I rx ry h hs
 obtain ⟨p,xs,i,z,rfl,rfl,hq,he,q⟩ := h
 cases rx
 obtain ⟨t,rfl⟩ := ry
 obtain ⟨its,r,pl,hz⟩ := I.tuple hq
 obtain ⟨j,h1,h2,h3,h4,h5⟩ := nJ he
 obtain ⟨w,ew,rw'⟩ := r.get h2
 have hl := r.length
 have hn := iR
 have fin : EP X pins σ Q w s := ⟨z,H,I,rw',q⟩
 exact subscriptTail_builtinR (x := w) pl.typeIs slot_tuple_getitem.lookup
  (getItem_tuple (j := j) (Q := fun r s' => r = w /\ EP X pins σ Q r s') pl (by omega) (by omega) (by rw [List.size_toArray,<- hl]; exact h1) (by simpa using ew) ⟨rfl,fin⟩) hs
theorem Fx : zj X HJ := by
 intro value slice pins s σ H x y v u Q I rx ry h hs
 obtain ⟨z,i,c,rfl,rfl,hz,he,q⟩ := h
 obtain ⟨t,rfl⟩ := rx
 obtain ⟨t',rfl⟩ := ry
 obtain ⟨j,h1,h2,h3,h4,h5⟩ := nJ he
 have hl : z.cps.toList.length = z.length := by simp [Str.length]
 rw [hl] at h1 h4 h5
 have hn := iR
 exact tail_any (typeIs_str s z t) slot_str_getitem.lookup (getItem_str (c := c) (by
  have e1 : decide (i < -(2 ^ 63 : Int)) = false := decide_eq_false (by omega)
  have e2 : decide (i ≥ 2 ^ 63) = false := decide_eq_false (by omega)
  rw [e1,e2,Bool.or_false]) (by rw [h1]; simpa using h2) ⟨.str ⟨#[c]⟩,H,I.tok _,⟨_,rfl⟩,q⟩) hs
theorem qG (its : List Value) (n j : Nat) (u : Value) : Obj.mapSeq (·.setIfInBounds j u) { cls := .type "list", data := .seq its.toArray n } = { cls := .type "list", data := .seq (its.set j u).toArray n } := by
 simp [Obj.mapSeq]
theorem Inv.lst {pins : List (Addr × Obj)} {σ : St} {H : Hp} {s : Shared} {p : Addr} {xs : List V} (I : Inv X pins σ H s) (h : H p = some (.lst xs)) :
  ∃ (its : List Value) (n : Nat), Vals xs its /\ s.heap.get? p = some { cls := .type "list", data := .seq its.toArray n } /\ xs.length <= sizeLine := by
 obtain ⟨z,its,n,r,e⟩ := I.hok p _ h
 exact ⟨its,n,r,e,z⟩
theorem Inv.EL {pins : List (Addr × Obj)} {σ : St} {H : Hp} {s : Shared} {p : Addr} {xs ys : List V} {its its' : List Value} {n n' : Nat} {f : Obj -> Obj} (I : Inv X pins σ H s) (h : H p = some (.lst xs))
  (ho : s.heap.get? p = some { cls := .type "list", data := .seq its.toArray n }) (hf : f { cls := .type "list", data := .seq its.toArray n } = { cls := .type "list", data := .seq its'.toArray n' }) (r : Vals ys its') (hz : ys.length <= sizeLine) (t : Nat) :
  Inv X pins σ (upd H p (.lst ys)) { s with heap := s.heap.update p f,toks := t } := by
 have e : (s.heap.update p f).get? p = some { cls := .type "list", data := .seq its'.toArray n' } := by
  rw [Heap.get?_update_self f ho (by rw [hf] <;> rfl),hf]
 refine I.write (x := p) (e := p) (by rw [h]; trivial) (.inl rfl) (fun b u hb q => (Heap.get?_update_other _ _ (Ne.symm hb)).trans q) ⟨_,e⟩ ?_
 exact ⟨hz,its',n',r,e⟩
noncomputable def Cq : V -> V -> V -> Hp -> (Hp -> Prop) -> Prop := fun o i v H Q => ∃ p xs k j,o = .ref p /\ i = .int k /\ H p = some (.lst xs) /\ GD xs.length k = some j /\ Q (upd H p (.lst (xs.set j v)))
theorem set_list : PSet X Cq := by
 intro pins s σ H o i v ov iv u Q I ro ri rv h
 obtain ⟨p,xs,k,j,rfl,rfl,hp,hj,q⟩ := h
 cases ro
 obtain ⟨t,rfl⟩ := ri
 obtain ⟨its,n,r,ho,hz⟩ := I.lst hp
 obtain ⟨h1,h2,h3,h4⟩ := sQ hj
 have hl := r.length
 have hn := iR
 have I' : Inv X pins σ (upd H p (.lst (xs.set j v))) { s with heap := s.heap.update p (Obj.mapSeq (·.setIfInBounds j u)) } :=
  I.EL hp ho (qG its n j u) (r.set rv j) (by rw [List.length_set]; exact hz) s.toks
 by_cases h0 : 0 <= k
 ·have hk : k.toNat = j := by
   rw [seqIndex_of h0 h4] at h1
   exact Option.some.inj h1
  exact PySem.W.ki_setAt ho h0 (by omega) (by rw [List.size_toArray,<- hl]; exact h4) (by rw [hk]; exact ⟨_,I',q⟩)
 ·have hk : (k + (its.toArray.size : Int)).toNat = j := by
   rw [seqIndex_neg (by omega) h3] at h1
   rw [List.size_toArray,<- hl]
   exact Option.some.inj h1
  exact PySem.W.ki_setBack ho (by omega) (by rw [List.size_toArray,<- hl]; exact h3) (by omega) (by rw [hk]; exact ⟨_,I',q⟩)
theorem mh (lo hi : Option Int) (n : Nat) : (sliceBounds lo hi none n).1 = ((HT.cu n 0 lo : Nat) : Int) /\ (sliceBounds lo hi none n).2.1 = ((HT.cu n n hi : Nat) : Int) /\ (sliceBounds lo hi none n).2.2 = 1 := by
 refine ⟨?_,?_,rfl⟩
 ·cases lo with
  | none => simp [sliceBounds,HT.cu]
  | some i =>
   simp only [sliceBounds,HT.cu,Option.getD_none,show (1 : Int) > 0 by decide,if_true]
   by_cases h : i < 0
   ·simp only [h,if_true] <;> omega
   ·simp only [h,if_false] <;> omega
 ·cases hi with
  | none => simp [sliceBounds,HT.cu]
  | some i =>
   simp only [sliceBounds,HT.cu,Option.getD_none,show (1 : Int) > 0 by decide,if_true]
   by_cases h : i < 0
   ·simp only [h,if_true] <;> omega
   ·simp only [h,if_false] <;> omega
theorem kO (its : List Value) (lo hi : Option Int) : slicePick its.toArray lo hi none = ((its.drop (HT.cu its.length 0 lo)).take (HT.cu its.length its.length hi - HT.cu its.length 0 lo)).toArray := by
 obtain ⟨h1,h2,h3⟩ := mh lo hi its.toArray.size
 unfold slicePick
 rw [h1,h2,h3]
 simp only [sliceRange_one,pick_run,List.size_toArray] <;> rfl
noncomputable def HF (K : PySem.W.Frag) : V -> Option Int -> Option Int -> Hp -> VK -> Prop := fun x lo hi H Q => ∃ a xs,x = .ref a /\ fk K H a xs /\ ∀ p,H p = none -> Q (.ref p) (upd H p (.lst (pL xs lo hi)))
theorem zO : B0 X (HF X.K) := by
 intro pins s σ H x v vl vu lo hi sl Q I rx hs pl pu h
 obtain ⟨a,xs,rfl,hx,q⟩ := h
 cases rx
 obtain ⟨its,r,ht,hz⟩ := I.list hx
 have hlen := r.length
 refine ⟨"list", _, slot_list_getitem.lookup, ht.isList.typeIs, ?_⟩
 refine wpAny_getItem_list_slice ht.isList hs pl pu .none (by simp) ?_ (by rw [List.size_toArray] <;> omega)
 rw [kO,<- hlen]
 refine ⟨.ref s.heap.objs.size,_,I.laid (t' := s.toks) (o := .lst (pL xs lo hi)) (fun b ob q => Heap.get?_push_of_some _ q) (Nat.le_refl _) ?_,rfl,q _ (I.hok.fresh (Nat.le_refl _))⟩
 exact ⟨Nat.le_trans (jt xs lo hi) hz,_,0,(r.drop (HT.cu xs.length 0 lo)).take (HT.cu xs.length xs.length hi - HT.cu xs.length 0 lo),Heap.get?_push_size _ rfl⟩
noncomputable def gi : V -> Bool
 | .ak => true
 | .bl _ => true
 | .int _ => true
 | .str _ => true
 | _ => false
noncomputable def zd : V -> V -> Bool
 | .ak,.ak => true
 | .bl a,.bl b => a == b
 | .bl a,.int b => (if a then 1 else 0) == b
 | .int a,.bl b => a == (if b then 1 else 0)
 | .int a,.int b => a == b
 | .str a,.str b => a == b
 | _,_ => false
theorem F8 {A : Around} {s : Shared} {y x : V} {u v : Value} (ry : RelV y u) (rx : RelV x v) (fy : gi y = true) (fx : gi x = true) : SeqAt.EqAt A s u v (zd y x) := by
 cases y with
 | ak =>
  cases ry
  cases x with
  | ak => cases rx; exact SeqAt.EqAt.same _
  | bl b => cases rx; exact SeqAt.EqAt.none_bool b
  | int b => obtain ⟨t,rfl⟩ := rx; exact SeqAt.EqAt.none_int b t
  | str b => obtain ⟨t,rfl⟩ := rx; exact SeqAt.EqAt.none_str b t
  | _ => exact absurd (show false = true from fx) Bool.false_ne_true
 | bl a =>
  cases ry
  cases x with
  | ak => cases rx; exact SeqAt.EqAt.bool_none a
  | bl b => cases rx; exact SeqAt.EqAt.bool_bool a b
  | int b => obtain ⟨t,rfl⟩ := rx; exact SeqAt.EqAt.bool_int a b t
  | str b => obtain ⟨t,rfl⟩ := rx; exact SeqAt.EqAt.bool_str a b t
  | _ => exact absurd (show false = true from fx) Bool.false_ne_true
 | int a =>
  obtain ⟨t',rfl⟩ := ry
  cases x with
  | ak => cases rx; exact SeqAt.EqAt.int_none a t'
  | bl b => cases rx; exact SeqAt.EqAt.int_bool a t' b
  | int b => obtain ⟨t,rfl⟩ := rx; exact SeqAt.EqAt.int_int a t' b t
  | str b => obtain ⟨t,rfl⟩ := rx; exact SeqAt.EqAt.int_str a t' b t
  | _ => exact absurd (show false = true from fx) Bool.false_ne_true
 | str a =>
  obtain ⟨t',rfl⟩ := ry
  cases x with
  | ak => cases rx; exact SeqAt.EqAt.str_none a t'
  | bl b => cases rx; exact SeqAt.EqAt.str_bool a t' b
  | int b => obtain ⟨t,rfl⟩ := rx; exact SeqAt.EqAt.str_int a t' b t
  | str b => obtain ⟨t,rfl⟩ := rx; exact SeqAt.EqAt.str_str a t' b t
  | _ => exact absurd (show false = true from fx) Bool.false_ne_true
 | _ => exact absurd (show false = true from fy) Bool.false_ne_true
noncomputable def rj (x : V) (u : Value) : Bool := match u with
 | .none => zd .ak x
 | .bool b => zd (.bl b) x
 | .int i _ => zd (.int i) x
 | .str z _ => zd (.str z) x
 | _ => false
theorem yo {x y : V} {u : Value} (r : RelV y u) (f : gi y = true) : rj x u = zd y x := by
 cases y with
 | ak => cases r; rfl
 | bl b => cases r; rfl
 | int i => obtain ⟨t,rfl⟩ := r; rfl
 | str z => obtain ⟨t,rfl⟩ := r; rfl
 | _ => exact absurd (show false = true from f) Bool.false_ne_true
theorem iK {x : V} : ∀ {xs : List V} {us : List Value},Vals xs us -> xs.all gi = true -> us.any (rj x) = xs.any fun y => zd y x
 | _,_,.nil,_ => rfl
 | y :: xs,u :: us,.cons r t,f => by
  rw [List.all_cons,Bool.and_eq_true] at f
  rw [List.any_cons,List.any_cons,yo r f.1,iK t f.2]
theorem fE {A : Around} {s : Shared} {x : V} {v : Value} (rx : RelV x v) (fx : gi x = true) : ∀ {xs : List V} {us : List Value},Vals xs us -> xs.all gi = true -> ∀ u ∈ us,SeqAt.EqAt A s u v (rj x u)
 | _,_,.nil,_ => fun u hu => by cases hu
 | y :: xs,u :: us,.cons r t,f => fun u' hu => by
  rw [List.all_cons,Bool.and_eq_true] at f
  rcases List.mem_cons.mp hu with rfl | hu
  ·rw [yo r f.1]; exact F8 r rx f.1 fx
  ·exact fE rx fx t f.2 u' hu
noncomputable def II (x : V) (xs : List V) : Bool := xs.any fun y => zd y x
noncomputable def HN (K : PySem.W.Frag) (neg : Bool) : R2 := fun x y H Q => ∃ p xs,y = .ref p /\ (fk K H p xs \/ jv K H p xs) /\ gi x = true /\ xs.all gi = true /\ Q (.bl (if neg then !II x xs else II x xs)) H
theorem uD : dP X (compareOp .In) (HN X.K false) := by
 intro pins s σ H x y v u Q I rx ry h
 obtain ⟨p,xs,rfl,hq,fx,fs,q⟩ := h
 cases ry
 rcases hq with hq | hq
 ·obtain ⟨its,r,pl,hz⟩ := I.list hq
  refine SeqAt.in_listAt (rj x) pl.isList (fun w hw => fE rx fx r fs w (by simpa using hw)) ⟨.bl _,H,I,rfl,?_⟩
  rw [show its.toArray.any (rj x) = its.any (rj x) by simp,iK r fs]
  exact q
 ·obtain ⟨its,r,pl,hz⟩ := I.tuple hq
  refine SeqAt.in_tupleAt (rj x) pl (fun w hw => fE rx fx r fs w (by simpa using hw)) ⟨.bl _,H,I,rfl,?_⟩
  rw [show its.toArray.any (rj x) = its.any (rj x) by simp,iK r fs]
  exact q
theorem mG : dP X (compareOp .NotIn) (HN X.K true) := by
 intro pins s σ H x y v u Q I rx ry h
 obtain ⟨p,xs,rfl,hq,fx,fs,q⟩ := h
 cases ry
 rcases hq with hq | hq
 ·obtain ⟨its,r,pl,hz⟩ := I.list hq
  refine SeqAt.notIn_listAt (rj x) pl.isList (fun w hw => fE rx fx r fs w (by simpa using hw)) ⟨.bl _,H,I,rfl,?_⟩
  rw [show its.toArray.any (rj x) = its.any (rj x) by simp,iK r fs]
  exact q
 ·obtain ⟨its,r,pl,hz⟩ := I.tuple hq
  refine SeqAt.notIn_tupleAt (rj x) pl (fun w hw => fE rx fx r fs w (by simpa using hw)) ⟨.bl _,H,I,rfl,?_⟩
  rw [show its.toArray.any (rj x) = its.any (rj x) by simp,iK r fs]
  exact q
theorem nH : c5 X (.builtin "len") (fun xs H Q => ∃ p ys, xs = [.ref p] /\ (fk X.K H p ys \/ jv X.K H p ys) /\ Q (.int ys.length) H) := by
 intro pins s σ H xs us Q I r h
 obtain ⟨p,ys,rfl,hq,q⟩ := h
 obtain ⟨u,rfl,rx⟩ := vals1 r
 cases rx
 have hn := iR
 rcases hq with hq | hq
 ·obtain ⟨its,r',pl,hz⟩ := I.list hq
  have hlen := r'.length
  exact Calls.call_len_list pl.isList (by simp only [List.size_toArray] <;> omega) ⟨.int ys.length,H,I.tok _,⟨s.toks + 1,by rw [List.size_toArray,hlen]⟩,q⟩
 ·obtain ⟨its,r',pl,hz⟩ := I.tuple hq
  have hlen := r'.length
  exact len_tuple pl (by simp only [List.size_toArray] <;> omega) ⟨.int ys.length,H,I.tok _,⟨s.toks + 1,by rw [List.size_toArray,hlen]⟩,q⟩
theorem nG : c5 X (.builtin "len") (fun xs H Q => ∃ z, xs = [.str z] /\ z.length <= sizeLine /\ Q (.int z.length) H) := by
 intro pins s σ H xs us Q I r h
 obtain ⟨z,rfl,hz,q⟩ := h
 obtain ⟨u,rfl,t,rfl⟩ := vals1 r
 have hn := iR
 exact len_str (by omega) ⟨.int z.length,H,I.tok _,⟨_,rfl⟩,q⟩
theorem c5.or {f : Value} {r r' : List V -> Hp -> VK -> Prop} (h : c5 X f r) (h' : c5 X f r') : c5 X f (fun xs H Q => r xs H Q \/ r' xs H Q) := by
 intro pins s σ H xs us Q I rs q
 rcases q with q | q
 ·exact h pins s σ H xs us Q I rs q
 ·exact h' pins s σ H xs us Q I rs q
theorem nE : c5 X (.type "list") (fun xs H Q => ∃ p ys, xs = [.ref p] /\ (fk X.K H p ys \/ jv X.K H p ys) /\ ∀ l, H l = none -> Q (.ref l) (upd H l (.lst ys))) := by
 intro pins s σ H xs us Q I r h
 obtain ⟨p,ys,rfl,hq,q⟩ := h
 obtain ⟨u,rfl,rx⟩ := vals1 r
 cases rx
 have fin : ∀ (its : List Value),Vals ys its -> ys.length <= sizeLine -> ∀ (h' : Heap) (c' : Nat),(∀ b o',s.heap.get? b = some o' -> h'.get? b = some o') ->
   h'.get? s.heap.objs.size = some { cls := .type "list", dict := none, data := .seq its.toArray c', slots := #[] } -> EP X pins σ Q (.ref s.heap.objs.size) { s with heap := h' } := fun its r' hz h' c' kp e =>
  ⟨.ref s.heap.objs.size,_,I.laid (t' := s.toks) kp (Nat.le_refl _) (show aV X.prog X.w _ h' _ (.lst ys) from ⟨hz,its,c',r',e⟩),rfl,q _ (I.hok.fresh (Nat.le_refl _))⟩
 rcases hq with hq | hq
 ·obtain ⟨its,r',pl,hz⟩ := I.list hq
  have hlen := r'.length
  obtain ⟨o,ho,hc,n,hd⟩ := pl.isList
  exact call_list_seq p (.inl rfl) ho hc hd (fun h' c' kp e => fin its r' hz h' c' kp e) (by simp only [List.size_toArray] <;> omega)
 ·obtain ⟨its,r',pl,hz⟩ := I.tuple hq
  have hlen := r'.length
  obtain ⟨o,ho,hc,n,hd⟩ := pl
  exact call_list_seq p (.inr rfl) ho hc hd (fun h' c' kp e => fin its r' hz h' c' kp e) (by simp only [List.size_toArray] <;> omega)
noncomputable def JW (K : PySem.W.Frag) (T : String) (x : V) (H : Hp) : Prop := match x with
 | .str _ => T = "str"
 | .int _ => T = "int"
 | .ref p => (T = "list" /\ ∃ xs, fk K H p xs) \/ (T = "tuple" /\ ∃ o, K.lookup p = some o /\ o.cls = .type "tuple" /\ o.dict = none) \/
   (T = "dict" /\ ((∃ kvs, H p = some (.dK kvs)) \/ ∃ kvs, H p = some (.dT kvs))) \/ (T = "set" /\ ∃ S n, H p = some (.set S n))
 | _ => False
theorem vo {pins : List (Addr × Obj)} {σ : St} {H : Hp} {s : Shared} {T : String} {x : V} {v : Value} (I : Inv X pins σ H s) (r : RelV x v) (ty : JW X.K T x H) :
  s.TypeIs v T /\ ∀ a,v = .ref a -> ∃ ob,s.heap.get? a = some ob /\ ob.dict = none := by
 cases x with
 | str z =>
  obtain ⟨t,rfl⟩ := r
  cases (show T = "str" from ty)
  exact ⟨typeIs_str s z t,fun _ e => nomatch e⟩
 | int i =>
  obtain ⟨t,rfl⟩ := r
  cases (show T = "int" from ty)
  exact ⟨typeIs_int s i t,fun _ e => nomatch e⟩
 | ref p =>
  cases r
  rcases ty with ⟨rfl,xs,hq⟩ | ⟨rfl,o,hk,hc,hd⟩ | ⟨rfl,hk⟩ | ⟨rfl,S,n,hk⟩
  ·obtain ⟨its,_,pl,_⟩ := I.list hq
   refine ⟨pl.isList.typeIs,fun a e => ?_⟩
   cases e
   obtain ⟨o,n,e,c,hd,_⟩ := pl
   exact ⟨o,e,hd⟩
  ·refine ⟨⟨o,I.gw p o hk,hc⟩,fun a e => ?_⟩
   cases e
   exact ⟨o,I.gw _ o hk,hd⟩
  ·have z : ∃ o,s.heap.get? p = some o /\ o.ExactDict := by
    rcases hk with ⟨kvs,hk⟩ | ⟨kvs,hk⟩
    ·obtain ⟨_,_,_,_,o,_,_,e,ex,_⟩ := I.hok p _ hk
     exact ⟨o,e,ex⟩
    ·obtain ⟨_,_,_,_,o,_,_,e,ex,_⟩ := I.hok p _ hk
     exact ⟨o,e,ex⟩
   obtain ⟨o,e,ex⟩ := z
   refine ⟨⟨o,e,ex.1⟩,fun a e2 => ?_⟩
   cases e2
   exact ⟨o,e,ex.2.1⟩
  ·obtain ⟨o,_,_,_,e,ex,_⟩ := I.hok p _ hk
   refine ⟨⟨o,e,ex.1⟩,fun a e2 => ?_⟩
   cases e2
   exact ⟨o,e,ex.2.1⟩
 | _ => exact False.elim ty
noncomputable def zw (K : PySem.W.Frag) (T : String) (r : V -> List V -> Hp -> VK -> Prop) (to : TE) : TE := fun σ H Q => to σ H fun x H1 => JW K T x H1 /\ r x [] H1 Q
noncomputable def tBM (K : PySem.W.Frag) (T : String) (r : V -> List V -> Hp -> VK -> Prop) (to : TE) (t : TA) : TE := fun σ H Q => to σ H fun x H1 => JW K T x H1 /\ t σ H1 fun xs H2 => r x xs H2 Q
variable {o e : Expr} {es : List Expr} {to : TE} {t : TA} {name : Str} {apos cpos : Pos} {T id : String} {r : V -> List V -> Hp -> VK -> Prop}
theorem wH (pa : PlainAttrs T) (slot : Slot T name id) (hty : typeOf (.builtin id) = pure (.type "method_descriptor")) (hm : MtR X id r) (ho : PE X o to)
  (hbase : attributeBase o name X.env (eval o X.env) = eval o X.env := by rfl) (hline : (apos.endLine == cpos.line) = true := by rfl) : PE X (.Call (.Attribute o name apos) [] [] cpos) (zw X.K T r to) := by
 intro pins s σ H Q I h
 refine wpAny_Call_method0_late hbase hline (aW (ho pins s σ H _ I h) fun v s1 ⟨x,H1,I1,r1,ty,q1⟩ => ?_)
 obtain ⟨h1,h2⟩ := vo I1 r1 ty
 exact ⟨T,id,pa,slot,hty,h1,h2,Calls.callWith_builtin rfl (PySem.evalArgs_none (hm pins s1 σ H1 x [] v [] Q I1 r1 .nil q1))⟩
theorem Cw (pa : PlainAttrs T) (slot : Slot T name id) (hty : typeOf (.builtin id) = pure (.type "method_descriptor")) (hm : MtR X id r) (ho : PE X o to) (ha : PA X (e :: es) t)
  (hbase : attributeBase o name X.env (eval o X.env) = eval o X.env := by rfl)
  (hfew : ((backTo cpos (starEach (e :: es) X.env)).all (fun x => !x.1) && (backToKw cpos (keywordEach [] X.env)).all (fun x => x.1.isSome)
   && decide ((e :: es).length + ([] : List Keyword).length + (if ([] : List Keyword).isEmpty then 0 else 1) < 30)) = true := by rfl)
  (hline : (apos.endLine == cpos.line) = true := by rfl) (hs : starEach (e :: es) X.env = (false,eval e X.env) :: starEach es X.env := by rfl) (hplain : (backTo cpos (starEach es X.env)).any (·.1) = false := by rfl) :
  PE X (.Call (.Attribute o name apos) (e :: es) [] cpos) (tBM X.K T r to t) := by
 intro pins s σ H Q I h
 refine wpAny_Call_method_late hbase hfew hline rfl (aW (ho pins s σ H _ I h) fun v s1 ⟨x,H1,I1,r1,ty,q1⟩ => ?_)
 obtain ⟨h1,h2⟩ := vo I1 r1 ty
 refine ⟨T,id,pa,slot,hty,h1,h2,?_⟩
 have hA := ha cpos pins s1 σ H1 _ I1 q1
 rw [hs] at hA ⊢
 refine Calls.callWith_builtin (by show (false || (backTo cpos (starEach es X.env)).any (·.1)) = false; rw [hplain] <;> rfl) (Calls.evalArgs_plain ?_)
 exact aW hA fun us s2 ⟨vs,H2,I2,r2,q2⟩ => hm pins s2 σ H2 x vs v us Q I2 r1 r2 q2
end
end L2
namespace L2
open PySem PySem.Spec PyProof.Rows
noncomputable def KZ (X : Cx) (id : String) (r : V -> List V -> Hp -> VK -> Prop) : Prop :=
 ∀ (pins : List (Addr × Obj)) (s : Shared) (σ : St) (H : Hp) (x : V) (xs : List V) (v : Value) (us : List Value) (Q : VK),Inv X pins σ H s -> RelV x v -> Vals xs us -> r x xs H Q ->
  wpAny (model X.prog X.w) X.A (call (.builtin id) (v :: us)) (EP X pins σ Q) X.xe s
theorem Vals.one : ∀ {x : V} {us : List Value},Vals [x] us -> ∃ u,us = [u] /\ RelV x u
 | _,_,.cons r .nil => ⟨_,rfl,r⟩
theorem Vals.zero : ∀ {us : List Value},Vals [] us -> us = []
 | _,.nil => rfl
theorem Vals.dropLast {xs : List V} {us : List Value} (h : Vals xs us) : Vals xs.dropLast us.dropLast := by
 induction h with
 | nil => exact .nil
 | cons r t ih =>
  cases t with
  | nil => exact .nil
  | cons q t' => exact .cons r ih
theorem Vals.reverse {xs : List V} {us : List Value} (h : Vals xs us) : Vals xs.reverse us.reverse := by
 induction h with
 | nil => exact .nil
 | cons r t ih => rw [List.reverse_cons,List.reverse_cons]; exact Vals.append ih (.cons r .nil)
theorem qZ {α : Type} (l : List α) : l.eraseIdx (l.length - 1) = l.dropLast := by
 induction l with
 | nil => rfl
 | cons a r ih =>
  cases r with
  | nil => rfl
  | cons b r =>
   have e : (a :: b :: r).length - 1 = ((b :: r).length - 1) + 1 := by
    have h1 : (a :: b :: r).length = r.length + 2 := rfl
    have h2 : (b :: r).length = r.length + 1 := rfl
    omega
   rw [e,List.eraseIdx_cons_succ,ih]
   all_goals rfl
section
variable {X : Cx} {pins : List (Addr × Obj)} {σ : St} {H : Hp} {s : Shared} {l b : Addr} {xs ys zs : List V}
theorem Inv.AU {its its' : List Value} {n : Nat} {f : Array Value -> Array Value} {t' : Nat} (I : Inv X pins σ H s) (hH : H l = some (.lst xs))
  (e : s.heap.get? l = some { cls := .type "list", data := .seq its.toArray n }) (hf : f its.toArray = its'.toArray) (hv : Vals ys its') (hz : ys.length <= sizeLine) :
  Inv X pins σ (upd H l (.lst ys)) { s with heap := s.heap.update l (Obj.mapSeq f),toks := t' } := by
 have q := PySem.IsL.update e f
 rw [hf] at q
 refine I.write (x := l) (e := l) (by rw [hH]; exact trivial) (.inl rfl) (fun b' u hb hu => (Heap.get?_update_other s.heap (Obj.mapSeq f) (Ne.symm hb)).trans hu) ⟨_,q⟩ ?_
 exact ⟨hz,its',_,hv,q⟩
theorem Inv.Iz {its : List Value} {t' : Nat} (I : Inv X pins σ H s) (hv : Vals ys its) (hz : ys.length <= sizeLine) :
  Inv X pins σ (upd H s.heap.objs.size (.lst ys)) { s with heap := s.heap.push { cls := .type "list", data := .seq its.toArray }, toks := t' } :=
 I.laid (fun _ _ q => Heap.get?_push_of_some _ q) (Nat.le_refl _) ⟨hz,its,0,hv,Heap.get?_push_size _ rfl⟩
theorem Inv.fresh (I : Inv X pins σ H s) : H s.heap.objs.size = none := I.hok.fresh (Nat.le_refl _)
theorem Inv.AS (I : Inv X pins σ H s) (hH : H l = some (.lst xs)) : xs.length <= sizeLine /\ ∃ (its : List Value) (n : Nat), Vals xs its /\ xs.length = its.length /\ s.heap.get? l = some { cls := .type "list", data := .seq its.toArray n } := by
 obtain ⟨z,its,n,r,e⟩ := I.hok l _ hH
 exact ⟨z,its,n,r,r.length,e⟩
theorem wM {n : Nat} (h : n <= sizeLine) : Builtin.List.listTooLong n = false := by
 unfold Builtin.List.listTooLong
 exact decide_eq_false (by omega)
end
section
variable {X : Cx}
noncomputable def mD : V -> List V -> Hp -> VK -> Prop := fun x vs H Q => ∃ l xs y,x = .ref l /\ vs = [y] /\ H l = some (.lst xs) /\ xs.length < sizeLine /\ Q .ak (upd H l (.lst (xs ++ [y])))
theorem lC : KZ X "list.append" mD := by
 intro pins s σ H x vs v us Q I rx rv h
 obtain ⟨l,xs,y,rfl,rfl,hH,hz,q⟩ := h
 cases rx
 obtain ⟨u,rfl,ru⟩ := rv.one
 obtain ⟨z,its,n,r,hl,e⟩ := I.AS hH
 refine call_meets F.slot_list_append ⟨_,e,rfl⟩ F.entry_list_append (F.args_list_append_2 _ _) (PySem.list_append l its.toArray n u (by rw [List.size_toArray]; omega)) ⟨e,?_⟩
 refine ⟨.ak,_,I.AU (its' := its ++ [u]) hH e (by simp) (r.append (.cons ru .nil)) ?_,rfl,q⟩
 rw [List.length_append,List.length_singleton]
 omega
noncomputable def DN : V -> List V -> Hp -> VK -> Prop := fun x vs H Q => ∃ l xs y,x = .ref l /\ vs = [] /\ H l = some (.lst xs) /\ xs[xs.length - 1]? = some y /\ Q y (upd H l (.lst xs.dropLast))
theorem EF : KZ X "list.pop" DN := by
 intro pins s σ H x vs v us Q I rx rv h
 obtain ⟨l,xs,y,rfl,rfl,hH,hy,q⟩ := h
 cases rx
 have hus := rv.zero
 subst hus
 obtain ⟨z,its,n,r,hl,e⟩ := I.AS hH
 obtain ⟨u,hu,ru⟩ := r.get hy
 have hy' : its.toArray[its.toArray.size - 1]? = some u := by
  show its.toArray[its.length - 1]? = some u
  rw [<- Array.getElem?_toList,<- hl]
  exact hu
 refine call_meets F.slot_list_pop ⟨_,e,rfl⟩ F.entry_list_pop (F.args_list_pop_1 _) (MeetsSeq.list_pop_last l its.toArray n u hy' (by rw [List.size_toArray]; omega)) ⟨e,?_⟩
 refine ⟨y,_,I.AU (its' := its.dropLast) hH e ?_ r.dropLast ?_,ru,q⟩
 ·show its.toArray.eraseIdxIfInBounds (its.toArray.size - 1) = its.dropLast.toArray
  rw [List.size_toArray,List.eraseIdxIfInBounds_toArray,qZ]
 ·rw [List.length_dropLast]
  omega
noncomputable def j5 : V -> List V -> Hp -> VK -> Prop := fun x vs H Q => ∃ l xs,x = .ref l /\ vs = [] /\ H l = some (.lst xs) /\ Q .ak (upd H l (.lst xs.reverse))
theorem qE : KZ X "list.reverse" j5 := by
 intro pins s σ H x vs v us Q I rx rv h
 obtain ⟨l,xs,rfl,rfl,hH,q⟩ := h
 cases rx
 have hus := rv.zero
 subst hus
 obtain ⟨z,its,n,r,hl,e⟩ := I.AS hH
 refine call_meets F.slot_list_reverse ⟨_,e,rfl⟩ F.entry_list_reverse (F.args_list_reverse_1 _) (AutoSeq1.list_reverse_list_0 l its.toArray n (by rw [List.size_toArray]; omega)) ⟨e,?_⟩
 refine ⟨.ak,_,I.AU (its' := its.reverse) hH e (by simp) r.reverse ?_,rfl,q⟩
 rw [List.length_reverse]
 omega
end
section
variable {prog : Program} {w : World} {A : Around} {E : Value -> Shared -> Prop} {s : Shared}
end
section
variable {X : Cx}
end
end L2
namespace L2
open PySem PySem.Spec PyProof.Rows
section
variable {κ : Type} [DecidableEq κ]
noncomputable def cC (kvs : List (κ × V)) (k : κ) : Option V := (kvs.find? fun kv => decide (kv.1 = k)).map (·.2)
noncomputable def putK (kvs : List (κ × V)) (k : κ) (v : V) : List (κ × V) :=
 if (kvs.any fun kv => decide (kv.1 = k)) = true then kvs.map (fun kv => if kv.1 = k then (kv.1,v) else kv) else kvs ++ [(k,v)]
theorem jS {p : κ × V} {r : List (κ × V)} {k : κ} (e : p.1 = k) : cC (p :: r) k = some p.2 := by simp [cC,List.find?_cons,e]
theorem jT {p : κ × V} {r : List (κ × V)} {k : κ} (e : ¬ p.1 = k) : cC (p :: r) k = cC r k := by simp [cC,List.find?_cons,e]
theorem nT (k : κ) : ∀ kvs : List (κ × V),(kvs.any fun kv => decide (kv.1 = k)) = (cC kvs k).isSome
 | [] => rfl
 | p :: r => by
  rw [List.any_cons]
  by_cases e : p.1 = k
  ·simp only [jS e,decide_eq_true e,Bool.true_or,Option.isSome_some]
  ·rw [jT e,decide_eq_false e,Bool.false_or]; exact nT k r
theorem jf (kvs : List (κ × V)) (k : κ) (v : V) : (putK kvs k v).length <= kvs.length + 1 := by
 unfold putK
 split
 ·rw [List.length_map]; omega
 ·rw [List.length_append,List.length_cons,List.length_nil]; omega
theorem gI.iU {o : Option V} {u : Option Value} (r : gI o u) : o.isSome = u.isSome := by
 cases o with
 | none => cases u with
  | none => rfl
  | some _ => exact (show False from r).elim
 | some _ => cases u with
  | none => exact (show False from r).elim
  | some _ => rfl
theorem KV.val {kvs : List (κ × V)} {vs : List (κ × Value)} (r : KV kvs vs) (k : κ) : gI (cC kvs k) (valueAt vs k) := by
 unfold KV at r
 induction r with
 | nil => exact True.intro
 | @cons p q ps qs h t ih =>
  obtain ⟨h1,h2⟩ := h
  by_cases e : p.1 = k
  ·have e' : q.1 = k := h1.symm.trans e
   have b : valueAt (q :: qs) k = some q.2 := by simp [valueAt,List.find?_cons,e']
   rw [jS e,b]; exact h2
  ·have e' : ¬ q.1 = k := fun z => e (h1.trans z)
   have b : valueAt (q :: qs) k = valueAt qs k := by simp [valueAt,List.find?_cons,e']
   rw [jT e,b]; exact ih
theorem KV.any {kvs : List (κ × V)} {vs : List (κ × Value)} (r : KV kvs vs) (k : κ) : (kvs.any fun kv => decide (kv.1 = k)) = vs.any fun kv => decide (kv.1 = k) := by
 unfold KV at r
 induction r with
 | nil => rfl
 | cons h t ih => rw [List.any_cons,List.any_cons,ih,h.1]
theorem KV.repl {kvs : List (κ × V)} {vs : List (κ × Value)} (r : KV kvs vs) (k : κ) {y : V} {u : Value} (ry : RelV y u) :
  KV (kvs.map fun kv => if kv.1 = k then (kv.1,y) else kv) (vs.map fun kv => if kv.1 = k then (kv.1,u) else kv) := by
 unfold KV at r ⊢
 induction r with
 | nil => exact .nil
 | @cons p q ps qs h t ih =>
  rw [List.map_cons,List.map_cons]
  refine .cons ?_ ih
  obtain ⟨h1,h2⟩ := h
  by_cases e : p.1 = k
  ·rw [if_pos e,if_pos (h1.symm.trans e)]; exact ⟨h1,ry⟩
  ·rw [if_neg e,if_neg (fun z => e (h1.trans z))]; exact ⟨h1,h2⟩
theorem KV.put {kvs : List (κ × V)} {vs : List (κ × Value)} (r : KV kvs vs) (k : κ) {y : V} {u : Value} (ry : RelV y u) : KV (putK kvs k y) (stored vs k u) := by
 unfold putK stored
 rw [r.any k]
 by_cases e : (vs.any fun kv => decide (kv.1 = k)) = true
 ·rw [if_pos e,if_pos e]; exact r.repl k ry
 ·rw [if_neg e,if_neg e]; exact Paired.snoc r ⟨rfl,ry⟩
theorem KV.length {kvs : List (κ × V)} {vs : List (κ × Value)} (r : KV kvs vs) : kvs.length = vs.length := Paired.length r
end
theorem oX {P : Program} {w : World} {k : Key} {u : Value} (r : RelV (kV k) u) : (aJ P w).is k u = true := by
 cases k with
 | inl i => obtain ⟨t,e⟩ := (show ∃ t,u = Value.int i t from r); subst e; exact oV P w i t
 | inr x => obtain ⟨t,e⟩ := (show ∃ t,u = Value.str x t from r); subst e; exact oU P w x t
theorem lG {P : Program} {w : World} : ∀ {ks : List Key} {us : List Value},Vals (ks.map kV) us -> ItemsAre (aJ P w) ks us
 | [],_,r => by rw [List.map_nil] at r; cases r; exact .nil
 | k :: ks,_,r => by
  rw [List.map_cons] at r
  cases r with
  | cons h t => exact .cons (oX h) (lG t)
noncomputable abbrev KT (H : Hp) : List (List Key × V) -> List (List Key × Addr × Value) -> Prop := Paired fun p q => p.1 = q.1 /\ H q.2.1 = some (.tup (p.1.map kV)) /\ RelV p.2 q.2.2
theorem KT.val {H : Hp} {kvs : List (List Key × V)} {xs : List (List Key × Addr × Value)} (r : KT H kvs xs) (k : List Key) : gI (cC kvs k) ((atKey xs k).map (·.2)) := by
 induction r with
 | nil => exact True.intro
 | @cons p q ps qs h t ih =>
  obtain ⟨h1,_,h2⟩ := h
  by_cases e : p.1 = k
  ·have e' : q.1 = k := h1.symm.trans e
   have b : atKey (q :: qs) k = some q.2 := by simp [atKey,List.find?_cons,e']
   rw [jS e,b]; exact h2
  ·have e' : ¬ q.1 = k := fun z => e (h1.trans z)
   have b : atKey (q :: qs) k = atKey qs k := by simp [atKey,List.find?_cons,e']
   rw [jT e,b]; exact ih
theorem KT.repl {H : Hp} {kvs : List (List Key × V)} {xs : List (List Key × Addr × Value)} (r : KT H kvs xs) (k : List Key) {y : V} {u : Value} (ry : RelV y u) :
  KT H (kvs.map fun kv => if kv.1 = k then (kv.1,y) else kv) (xs.map (putAt k u)) := by
 induction r with
 | nil => exact .nil
 | @cons p q ps qs h t ih =>
  rw [List.map_cons,List.map_cons]
  refine .cons ?_ ih
  obtain ⟨h1,h2,h3⟩ := h
  unfold putAt
  by_cases e : p.1 = k
  ·rw [if_pos e,if_pos (h1.symm.trans e)]; exact ⟨h1,h2,ry⟩
  ·rw [if_neg e,if_neg (fun z => e (h1.trans z))]; exact ⟨h1,h2,h3⟩
theorem KT.put {H : Hp} {kvs : List (List Key × V)} {xs : List (List Key × Addr × Value)} (r : KT H kvs xs) (k : List Key) {b : Addr} {y : V} {u : Value} (hb : H b = some (.tup (k.map kV))) (ry : RelV y u) :
  KT H (putK kvs k y) (storedH xs k b u) := by
 have e : (kvs.any fun kv => decide (kv.1 = k)) = (atKey xs k).isSome := by
  rw [nT,(r.val k).iU,Option.isSome_map]
 unfold putK storedH
 rw [e]
 by_cases q : (atKey xs k).isSome = true
 ·rw [if_pos q,if_pos q]; exact r.repl k ry
 ·rw [if_neg q,if_neg q]; exact Paired.snoc r ⟨rfl,hb,ry⟩
theorem KT.keeps {H H' : Hp} {kvs : List (List Key × V)} {xs : List (List Key × Addr × Value)} (r : KT H kvs xs) (ht : ∀ b ys,H b = some (.tup ys) -> H' b = some (.tup ys)) : KT H' kvs xs :=
 Paired.EG r fun _ _ z => ⟨z.1,ht _ _ z.2.1,z.2.2⟩
section
variable {P : Program} {w : World} {H : Hp} {h : Heap} {a : Addr}
theorem Co {u : HO} (ok : gf P w H h) (e : Rd H a u) : aV P w H h a u := e.ok ok
theorem CY {kvs : List (Key × V)} (ok : gf P w H h) (e : Rd H a (.dK kvs)) : kvs.length <= sizeLine /\ (a == sysModules) = false /\ ∃ vs,KV kvs vs /\ h.DictOf (aJ P w) a vs :=
 show aV P w H h a (.dK kvs) from Co ok e
theorem JA {kvs : List (Key × V)} (ok : gf P w H h) (e : H a = some (.dK kvs)) : kvs.length <= sizeLine /\ (a == sysModules) = false /\ ∃ vs,KV kvs vs /\ h.DictOf (aJ P w) a vs := CY ok (.inl e)
theorem xA {ks : List Key} (ok : gf P w H h) (e : H a = some (.tup (ks.map kV))) : (tupleKind (aJ P w)).is h ks a := by
 obtain ⟨_,its,r,o,h1,h2,n,h3⟩ := (show aV P w H h a (.tup (ks.map kV)) from ok a _ e)
 exact ⟨o,its.toArray,n,h1,h2,h3,by simpa using lG r⟩
theorem Jy {kvs : List (List Key × V)} (ok : gf P w H h) (e : Rd H a (.dT kvs)) : kvs.length <= sizeLine /\ (a == sysModules) = false /\
  ∃ xs,KT H kvs xs /\ h.DictOfH (tupleKind (aJ P w)) a xs := by
 obtain ⟨z,y,xs,r,o,es,ep,h1,h2,h3,h4,h5⟩ := (show aV P w H h a (.dT kvs) from Co ok e)
 refine ⟨z,y,xs,r,o,es,ep,h1,h2,h3,h4,fun x hx => ?_,h5⟩
 have all : ∀ {l : List (List Key × V)} {m : List (List Key × Addr × Value)},KT H l m -> ∀ x ∈ m,(tupleKind (aJ P w)).is h x.1 x.2.1 := by
  intro l m q
  induction q with
  | nil => intro x hx; exact nomatch hx
  | @cons p q ps qs hq t ih =>
   intro x hx
   rcases List.mem_cons.mp hx with e | hx
   ·subst e
    exact xA ok (by rw [<- hq.1]; exact hq.2.1)
   ·exact ih x hx
 exact all r x hx
theorem Jz {kvs : List (List Key × V)} (ok : gf P w H h) (e : H a = some (.dT kvs)) : kvs.length <= sizeLine /\ (a == sysModules) = false /\
  ∃ xs,KT H kvs xs /\ h.DictOfH (tupleKind (aJ P w)) a xs := Jy ok (.inl e)
end
noncomputable def B5 (H : Hp) (a : Addr) (y : V) (r : Option V) : Prop :=
 (∃ kvs k,Rd H a (.dK kvs) /\ y = kV k /\ r = cC kvs k) \/ ∃ kvs k b,Rd H a (.dT kvs) /\ y = .ref b /\ H b = some (.tup (k.map kV)) /\ r = cC kvs k
noncomputable def rN (H : Hp) (a : Addr) (y v : V) (H' : Hp) : Prop :=
 (∃ kvs k,H a = some (.dK kvs) /\ y = kV k /\ kvs.length < sizeLine /\ H' = upd H a (.dK (putK kvs k v))) \/
 ∃ kvs k b,H a = some (.dT kvs) /\ y = .ref b /\ H b = some (.tup (k.map kV)) /\ kvs.length < sizeLine /\ H' = upd H a (.dT (putK kvs k v))
theorem B5.k {H : Hp} {a : Addr} {kvs : List (Key × V)} {k : Key} (e : H a = some (.dK kvs)) : B5 H a (kV k) (cC kvs k) := .inl ⟨kvs,k,.inl e,rfl,rfl⟩
theorem B5.t {H : Hp} {a b : Addr} {kvs : List (List Key × V)} {k : List Key} (e : H a = some (.dT kvs)) (eb : H b = some (.tup (k.map kV))) : B5 H a (.ref b) (cC kvs k) := .inr ⟨kvs,k,b,.inl e,rfl,eb,rfl⟩
theorem rN.k {H : Hp} {a : Addr} {kvs : List (Key × V)} {k : Key} {v : V} (e : H a = some (.dK kvs)) (hl : kvs.length < sizeLine) : rN H a (kV k) v (upd H a (.dK (putK kvs k v))) := .inl ⟨kvs,k,e,rfl,hl,rfl⟩
theorem rN.t {H : Hp} {a b : Addr} {kvs : List (List Key × V)} {k : List Key} {v : V} (e : H a = some (.dT kvs)) (eb : H b = some (.tup (k.map kV))) (hl : kvs.length < sizeLine) :
  rN H a (.ref b) v (upd H a (.dT (putK kvs k v))) := .inr ⟨kvs,k,b,e,rfl,eb,hl,rfl⟩
section
variable {X : Cx} {pins : List (Addr × Obj)} {σ : St} {H : Hp} {s : Shared} {a : Addr} {y v : V} {u r : Value} {o : Option V} {A : Around} {E : Value -> Shared -> Prop}
theorem tK {h' : Heap} {t' : Nat} {ob : HO} (I : Inv X pins σ H s) (mu : JP (H a)) (hs : Heap.SameBut a s.heap h') (he : ∃ q,h'.get? a = some q) (new : aV X.prog X.w (upd H a ob) h' a ob) :
  Inv X pins σ (upd H a ob) { s with heap := h',toks := t' } :=
 I.write (x := a) (e := a) mu (.inl rfl) (fun b q hb z => (hs.2 b hb).trans z) he new
theorem Ga {P : Program} {w : World} {H' : Hp} {h' : Heap} {kvs : List (Key × V)} {vs : List (Key × Value)} (z : kvs.length <= sizeLine) (hd : (a == sysModules) = false) (rel : KV kvs vs) (dd : h'.DictOf (aJ P w) a vs) :
  aV P w H' h' a (.dK kvs) := ⟨z,hd,vs,rel,dd⟩
theorem uV {H' : Hp} {Q : Unit -> Shared -> Prop} (hu : A.units + 1 < cLine) (I : Inv X pins σ H s) (g : rN H a y v H') (ry : RelV y u) (rv : RelV v r) (h : ∀ s',Inv X pins σ H' s' -> Q () s') :
  wpAny (model X.prog X.w) A (setItem (.ref a) u r) Q E s := by
 rcases g with ⟨kvs,k,e,ey,l,eH⟩ | ⟨kvs,k,b,e,ey,eb,l,eH⟩
 ·subst ey eH
  obtain ⟨z,hd,vs,rel,dd⟩ := JA I.hok e
  have hz : vs.length <= sizeLine := by rw [<- rel.length]; exact z
  have hl : (putK kvs k v).length <= sizeLine := by have := jf kvs k v; omega
  refine wpAny_setItem_pairs (hsz := hz) (oX ry) dd fun h' Gb hs => h _ ?_
  have he : ∃ q,h'.get? a = some q := let ⟨q,_,_,hq,_⟩ := Gb; ⟨q,hq⟩
  exact tK I (by rw [e]; exact True.intro) hs he (Ga hl hd (rel.put k rv) Gb)
 ·subst ey eH
  cases (show u = Value.ref b from ry)
  obtain ⟨z,hd,xs,rel,dd⟩ := Jz I.hok e
  have hz : xs.length <= sizeLine := by rw [<- Paired.length rel]; exact z
  have hl : (putK kvs k v).length <= sizeLine := by have := jf kvs k v; omega
  refine wpAny_setItem_heap (hsz := hz) (tupleKind_room_in1 hu) (xA I.hok eb) dd fun h' Gb hs => h _ ?_
  obtain ⟨q,es,ep,hq,h2,h3,h4,_,h5⟩ := Gb
  refine tK I (by rw [e]; exact True.intro) hs ⟨q,hq⟩ ⟨hl,hd,_,(rel.put k eb rv).keeps fun c ys ec => ?_,q,es,ep,hq,h2,h3,h4,h5⟩
  rw [aq (Io ec e (fun z => nomatch z))]
  exact ec
end
section
variable {X : Cx} {pins : List (Addr × Obj)} {σ : St} {H : Hp} {s : Shared} {a : Addr} {kvs : List (Key × V)} {k : Key} {u : Value} {A : Around} {E : Value -> Shared -> Prop}
end
section
variable {X : Cx} {o i e value : Expr} {pos pos' tpos : Pos} {td ty tv : TE}
end
section
variable {X : Cx} {pos : Pos}
end
structure M1 (X : Cx) (o : Expr) (m : Str) (apos : Pos) (e : Expr) (cpos : Pos) : Prop where
 base : attributeBase o m X.env (eval o X.env) = eval o X.env
 few : ((backTo cpos (starEach [e] X.env)).all (fun x => !x.1) && (backToKw cpos (keywordEach [] X.env)).all (fun x => x.1.isSome)
  && decide (([e] : List Expr).length + ([] : List Keyword).length + (if ([] : List Keyword).isEmpty then 0 else 1) < 30)) = true
 line : (apos.endLine == cpos.line) = true
 trees : backTo cpos (starEach [e] X.env) = [(false,eval e X.env)]
structure M2 (X : Cx) (o : Expr) (m : Str) (apos : Pos) (e f : Expr) (cpos : Pos) : Prop where
 base : attributeBase o m X.env (eval o X.env) = eval o X.env
 few : ((backTo cpos (starEach [e,f] X.env)).all (fun x => !x.1) && (backToKw cpos (keywordEach [] X.env)).all (fun x => x.1.isSome)
  && decide (([e,f] : List Expr).length + ([] : List Keyword).length + (if ([] : List Keyword).isEmpty then 0 else 1) < 30)) = true
 line : (apos.endLine == cpos.line) = true
 trees : backTo cpos (starEach [e,f] X.env) = [(false,eval e X.env),(false,eval f X.env)]
section
variable {X : Cx} {pins : List (Addr × Obj)} {σ : St} {H : Hp} {s : Shared} {a : Addr} {y d : V} {u r : Value} {o : Option V} {A : Around} {E : Value -> Shared -> Prop}
end
section
variable {X : Cx} {o e f : Expr} {apos cpos : Pos} {td ty tx : TE}
end
section
variable {X : Cx} {pins : List (Addr × Obj)} {σ : St} {H : Hp} {s : Shared} {a : Addr} {kvs : List (Key × V)} {A : Around} {E : Value -> Shared -> Prop}
end
section
variable {X : Cx} {pins : List (Addr × Obj)} {σ : St} {H : Hp} {s : Shared} {a : Addr} {y : V} {u : Value} {A : Around} {E : Value -> Shared -> Prop}
end
end L2
namespace Att
open PySem PySem.W PySem.Calls PyProof.Rows
theorem jy {P : Params} {h : Heap} : ∀ (ns : List Int) (vs : List Value),WellAll P h vs (ns.map WData.int) -> IntsAre vs ns := by
 intro ns
 induction ns with
 | nil =>
  intro vs w
  rw [List.map_nil] at w
  cases w
  exact .nil
 | cons n ns ih =>
  intro vs w
  rw [List.map_cons] at w
  cases w with
  | cons a b =>
   cases a
   exact .cons _ _ (ih _ b)
theorem ur {l : OpenLaw} {n : Nat} (hn : l.most = some n) {P : Params} {h : Heap} {args : List WData} {vals : List Value}
  (hpre : l.row.toRowW.claim.pre args = true) (hwl : WellAll P h vals args) :
  ∃ a vs ns, vals = [Value.ref a] /\ args = [WData.list (ns.map WData.int)] /\ h.get? a = some { cls := .type "list", data := .seq vs.toArray } /\ IntsAre vs ns /\ ns.length <= n := by
 have hsh : WShape.hasAll [] args [.list .int] = true := (pre_splitW hpre).1
 have hc : l.pre.holds [] { args := args } = true := (pre_splitW hpre).2
 obtain ⟨d,r,rfl,h1,h2⟩ := hasAllW_cons hsh
 obtain rfl := hasAllW_nil h2
 obtain ⟨xs,rfl,h3⟩ := hasW_list h1
 obtain ⟨ns,rfl⟩ := items_int h3
 have hlen : ns.length <= n := by
  unfold OpenLaw.pre at hc
  have h4 : (WTm.not (.lt (.lit (.int (n : Int))) (.len (.arg 0)))).holds [] { args := [.list (ns.map .int)] } = true := by
   have h4 := (holds_andW hc).1
   rw [hn] at h4
   exact h4
  have h5 := condW_of h4 (w_not (w_lt w_lit (w_len_list (w_arg rfl))))
  rw [List.length_map] at h5
  refine Nat.le_of_not_lt fun q => ?_
  have q' : (n : Int) < ((ns.length : Nat) : Int) := by omega
  first
   | (rw [decide_eq_true q'] at h5; exact absurd h5 (by decide))
   | (simp at h5; omega)
 cases hwl with
 | cons w1 w2 =>
  cases w2
  cases w1 with
  | list ho hall => exact ⟨_,_,ns,rfl,rfl,ho,jy ns _ hall,hlen⟩
theorem ux (l : OpenLaw) (args : List WData) : l.row.toRowW.claim.post args (.bool true) args = true :=
 postW_of (r := l.row.toRowW) (X := (true == true))
  (show WShape.has [] (.bool true) .bool = true by first | rfl | decide | simp [WShape.has,WShape.arms,WShape.armsAll])
  (show (WTm.eq .res (.lit (.bool true))).value [] { args := args,res := some (.bool true),after := args } = some (.bool (true == true)) from w_eq_bool (w_res rfl) w_lit) rfl
theorem pR {l : OpenLaw} {n : Nat} {q : Program} {loose : List Str} {XP : (Str -> Option Value) -> Heap -> Prop} {YP : World -> Heap -> Prop} {d : DefRec}
  (hn : l.most = some n) (hdf : d.params.defaults = [])
  (call : ∀ (w : World) (s₀ s₁ : Shared) (mg mb : Str -> Option Value) (fa : Addr) (o : Obj) (pm cd doc : Value) (a : Addr) (vs : List Value) (ns : List Int),
   Ground q loose [] XP w s₀ mg mb s₁.heap -> YP w s₁.heap ->
   s₁.heap.get? fa = some o -> o.data = .func (docDef d.name d.params d.body d.scope pm cd doc) -> s₁.heap.CodeRec cd d.name -> mg d.name = some (.ref fa) ->
   s₁.heap.get? a = some { cls := .type "list", data := .seq vs.toArray } -> IntsAre vs ns -> ns.length <= n -> s₁.gens = #[] ->
   codeAny (model l.prog w) callerA (.call (.ref fa) ⟨[.ref a],[]⟩) (fun r s' => r = .ok (.ret (.bool true)) /\ OldK s₁.heap s'.heap /\ s'.os = s₁.os /\ AllBare s'.gens) s₁) :
  WalkO q loose XP YP l.row.toRowW d [] (fun f vs => PySem.call f vs) := by
 intro w s₀ s₁ mg mb G Y fa o pm cd doc dV kV ho hd hcd hD hmg hg args vals as hpre hlay hrd hwl hlo
 obtain rfl : dV = .none := Dflts.none hD hdf
 obtain rfl : kV = .none := Dflts.noKw hD
 obtain ⟨a,vs,ns,rfl,rfl,hobj,hints,hlen⟩ := ur hn hpre hwl
 refine enter_call (codeAny_mono (call w s₀ s₁ mg mb fa o pm cd doc a vs ns G Y ho (fd_plain hd) hcd hmg hobj hints hlen hg) fun r s' hq => ?_)
 obtain ⟨rfl,h2,h3,h4⟩ := hq
 exact ⟨.inl ⟨.bool true,.bool true,[],rfl,fun _ => rfl,.bool true,ux l _,fun _ => ⟨List.Pairwise.nil,fun _ hm => (nomatch hm)⟩⟩,h2,h3,h4⟩
section
variable {prog : Program} {w : World} {A : Around} {E : Value -> Shared -> Prop} {s : Shared} {K : Frag}
end
end Att
namespace L2
open PySem PySem.Spec PyProof.Rows
theorem kX : ∀ {vs : List Value} {ns : List Int},IntsAre vs ns -> Vals (ns.map V.int) vs
 | _,_,.nil => .nil
 | _,_,.cons n t h => .cons ⟨t,rfl⟩ (kX h)
noncomputable def JO (H : Hp) : Prop := ∀ b,H b = none \/ ∃ o xs,H b = some (.fh o (.lst xs))
theorem xx {P : Program} {w : World} {K : PySem.W.Frag} {mg mb : Str -> Option Value} {CX : yY} {k : Nat} {fa a : Addr} {fd : FuncData} {x : Str} {sp : Sp} {s₁ : Shared} {vs : List Value} {ns : List Int}
  (KX : K.In s₁.heap) (hns : s₁.heap.Ns mainGlobals mg) (hb : s₁.heap.Ns builtinsNs mb) (hbb : ∀ x : Str, x ≠ "__name__" -> mb x = bootBuiltins x) (hlim : s₁.heap.NoLimit) (hg : s₁.gens = #[])
  (ha : s₁.heap.get? a = some { cls := .type "list", data := .seq vs.toArray }) (hi : IntsAre vs ns) (hl : ns.length <= sizeLine) (hr : cy k callerA)
  (F : ∀ base : Heap,K.In base -> base.Ns mainGlobals mg -> ck P w K mg base CX k fa fd [x] sp) (hbind : ∀ (s : Shared) (u : Value),BindsTo s fd ⟨[u],[]⟩ [(x,u)])
  (GF : ∀ H : Hp,JO H -> fk K H a (ns.map V.int) -> sp [.ref a] H (fun v _ => v = .bl true) fun _ _ _ => False)
  (hCX : ∀ H e s',CX [] H s₁ (fun _ _ _ => False) e s' -> False) :
  codeAny (model P w) callerA (.call (.ref fa) ⟨[.ref a],[]⟩) (fun r s' => r = .ok (.ret (.bool true)) /\ OldK s₁.heap s'.heap /\ s'.os = s₁.os /\ AllBare s'.gens) s₁ := by
 have rv := kX hi
 have lenV := hi.length
 have core : ∀ H : Hp,JO H -> fk K H a (ns.map V.int) -> gf P w H s₁.heap -> (∀ b,H b ≠ none -> b = a) -> (H a ≠ none -> K.lookup a = none) ->
   codeAny (model P w) callerA (.call (.ref fa) ⟨[.ref a],[]⟩) (fun r s' => r = .ok (.ret (.bool true)) /\ OldK s₁.heap s'.heap /\ s'.os = s₁.os /\ AllBare s'.gens) s₁ := by
  intro H hO hS hok hA hK
  have jO : ∀ {b : Addr} {o : Obj},s₁.heap.get? b = some o -> H b = none -> (mU s₁.heap H).get? b = some o := fun e n => xW e n
  have Im : ∀ {b : Addr} {o : Obj} {es : Array DictEntry} {ep : Nat},s₁.heap.get? b = some o -> o.data = .dict es ep -> H b = none := fun {b o es ep} e d => by
   cases q : H b with
   | none => rfl
   | some u =>
    have e' : b = a := hA b (by rw [q]; simp)
    subst e'
    rw [ha] at e; cases e
    have d' : Data.seq vs.toArray _ = Data.dict es ep := d
    cases d'
  have J8 : ∀ {b : Addr} {m : Str -> Option Value},s₁.heap.Ns b m -> (mU s₁.heap H).Ns b m := fun {b m} ⟨o,es,ep,e,d,r⟩ => ⟨o,es,ep,jO e (Im e d),d,r⟩
  have hKb : K.In (mU s₁.heap H) := fun b o e => jO (KX b o e) (by
   cases q : H b with
   | none => rfl
   | some u =>
    have e' : b = a := hA b (by rw [q]; simp)
    subst e'
    rw [hK (by rw [q]; simp)] at e; cases e)
  have hM : Mod K mg (mU s₁.heap H) := ⟨hKb,J8 hns,⟨mb,J8 hb,hbb⟩,let ⟨mc,h1,h2⟩ := hlim; ⟨mc,J8 h1,h2⟩⟩
  have e0 : rM P w K mg (mU s₁.heap H) callerA [] s₁ H := ⟨rfl,hM,fun b o e => AM e,Nat.le_of_eq (uP _ _),trivial,fun b hb => absurd (show b ∈ ([] : List Addr) from hb) (by simp),hok,.of_eq hg⟩
  refine codeAny_mono ((F _ hKb (J8 hns)).run callerA [] s₁ H ⟨[.ref a],[]⟩ [.ref a] [.ref a] _ _ hr e0 (hbind s₁ (.ref a)) (.cons rfl .nil) (GF H hO hS)) fun r s' h => ?_
  cases r with
  | error e => exact (hCX H e s' h).elim
  | ok fl =>
   cases fl with
   | next => exact False.elim h
   | brk => exact False.elim h
   | cont => exact False.elim h
   | ret u =>
    obtain ⟨v,H',os,bare,un,hok',r',q⟩ := h
    have q' : v = .bl true := q
    subst q'
    obtain rfl : u = Value.bool true := r'
    refine ⟨rfl,OldK.of_keep fun b o e => ?_,os,bare⟩
    cases q : H b with
    | none => exact un.keep b o e q (by intro z; exact absurd (show b ∈ ([] : List Addr) from z) (by simp)) (by simp)
    | some u =>
     rcases hO b with z | ⟨ob,xs,z⟩
     ·rw [q] at z; cases z
     ·have z2 := un.fV b ob _ z
      obtain ⟨e1,_⟩ := hok b _ z
      obtain ⟨e2,_⟩ := hok' b _ z2
      rw [e] at e1; cases e1
      exact e2
 cases hk : K.lookup a with
 | some o =>
  have e := KX a o hk
  rw [ha] at e
  cases e
  refine core (fun _ => none) (fun _ => .inl rfl) (.inr ⟨_,vs.toArray,_,hk,rfl,rfl,rfl,by rw [List.size_toArray,lenV]; exact hl,by simpa using rv⟩) (fun b u z => by have z' : (none : Option HO) = some u := z; cases z') (fun b z => absurd rfl z) fun z => absurd rfl z
 | none =>
  refine core (fun b => if b = a then some (.fh { cls := .type "list", data := .seq vs.toArray } (.lst (ns.map V.int))) else none) (fun b => ?_) (.inl (.inr ⟨{ cls := .type "list", data := .seq vs.toArray }, if_pos rfl⟩)) (fun b u z => ?_) (fun b z => ?_) fun _ => hk
  ·by_cases hb : b = a
   ·exact .inr ⟨_,_,if_pos hb⟩
   ·exact .inl (if_neg hb)
  ·by_cases hb : b = a
   ·have z' := (if_pos hb).symm.trans z
    cases z'
    subst hb
    exact ⟨ha,by rw [List.length_map]; exact hl,vs,_,rv,ha⟩
   ·have z' := (if_neg hb).symm.trans z
    cases z'
  ·by_cases hb : b = a
   ·exact hb
   ·exact absurd (if_neg hb) z
end L2
namespace L2
open PySem PySem.Spec PyProof.Rows
end L2
namespace L2
open PySem PySem.Spec PyProof.Rows
noncomputable abbrev CX0 : yY := fun _ _ _ _ _ _ => False
structure Fun (K : PySem.W.Frag) (x qual : Str) (st : Stmt) (f : Addr) (fd : FuncData) : Prop where
 ex : ∃ (oc : Value) (od : Option Addr) (kV doc pm : Value) (an : Option Addr) (cdv ct : Value) (osl : Array (Option Value)),
  fd = PySem.W.fnOf x qual (iG st) (bX st) (aD st) .none kV doc pm an cdv ct /\ K.lookup f = some ⟨oc,od,.func fd,osl⟩ /\ PySem.W.codeIn K cdv qual = true
 kp : PySem.W.keepIn K (.ref f) = true
section
variable {P : Program} {w : World} {K : PySem.W.Frag} {mg : Str -> Option Value} {base : Heap}
theorem Fun.ok {x qual : Str} {st : Stmt} {f : Addr} {fd : FuncData} {N ps : List Str} {k : Nat} {sp : Sp} (F : Fun K x qual st f fd) (S : cZ N ps (aD st)) (len : ∀ vs H Q E,sp vs H Q E -> vs.length = ps.length)
  (hbody : ∀ (cdv : Value) (A : Around) (outer : List Env) (s : Shared) (H : Hp) (vs : List V) (Q : VK) (E : XK),cy k (A.deeper (envOfC qual (aD st) s.heap.objs.size f cdv)) -> sp vs H Q E ->
   ∃ t,jP (iH CX0 P w K mg base N qual (aD st) f cdv A outer s H E).Cy (bX st) t /\ t { nx := fun _ H' => Q .ak H',rt := Q } (start N vs) H) : ck P w K mg base CX0 (k + 1) f fd ps sp := by
 obtain ⟨oc,od,kV,doc,pm,an,cdv,ct,osl,rfl,lk,hcd⟩ := F.ex
 refine CM lk hcd S len fun A outer s H vs Q E hr GF => ?_
 obtain ⟨t,h,q⟩ := hbody cdv A outer s H vs Q E hr GF
 exact ⟨t,h.Cy,q⟩
end
section
variable {X : Cx}
end
noncomputable def vc (H H' : Hp) : Prop := ∀ b o,H b = some o -> H' b = some o
theorem vc.trans {H H1 H2 : Hp} (a : vc H H1) (b : vc H1 H2) : vc H H2 := fun c o h => b c o (a c o h)
theorem vc.free {H H' : Hp} (e : vc H H') {l : Addr} (h : H' l = Option.none) : H l = Option.none := by
 cases q : H l with
 | none => rfl
 | some o =>
  rw [e l o q] at h
  cases h
section
variable {κ : Type} [DecidableEq κ]
end
end L2
end
section
set_option autoImplicit false
namespace Fg
open PySem
section
variable {Φ : aQ} {σ : Sg} {M : MH}
@[simp] theorem gF {i : Nat} : ev Φ (.v i) σ M = match σ[i]? with | some (some d) => .ok d M | _ => .bad := rfl
@[simp] theorem yj {d : D} : ev Φ (.k d) σ M = .ok d M := rfl
@[simp] theorem ev_g {i : Nat} : ev Φ (.g i) σ M = match Φ.glob i with | some d => .ok d M | none => .bad := rfl
@[simp] theorem gG {es : Es} : ev Φ (.tup es) σ M = (cA Φ es σ M).bind fun ds M1 => .ok (.tup ds) M1 := rfl
@[simp] theorem yi {fz : Bool} {es : Es} : ev Φ (.lst fz es) σ M = (cA Φ es σ M).bind fun ds M1 => cK fz ds M1 := rfl
@[simp] theorem KJ : ev Φ .BD σ M = .ok (.ref M.length) (M ++ [.dct []]) := rfl
@[simp] theorem jo {o : B3} {fz : Bool} {a b : E} : ev Φ (.op o fz a b) σ M = (ev Φ a σ M).bind fun x M1 => (ev Φ b σ M1).bind fun y M2 => uE o fz M2 x y := rfl
@[simp] theorem F5 {a : E} : ev Φ (.neg a) σ M = (ev Φ a σ M).bind fun x M1 => match x with | .int i => .ok (.int (-i)) M1 | _ => .bad := rfl
@[simp] theorem fK {o : zk} {a b : E} : ev Φ (.cmp o a b) σ M = (ev Φ a σ M).bind fun x M1 => (ev Φ b σ M1).bind fun y M2 => cj o M2 x y := rfl
@[simp] theorem Jr {o o' : zk} {a b c : E} : ev Φ (.chain o o' a b c) σ M = (ev Φ a σ M).bind fun x M1 => (ev Φ b σ M1).bind fun y M2 => (cj o M2 x y).bind fun t M3 => match t with
  | .bl true => (ev Φ c σ M3).bind fun z M4 => cj o' M4 y z
  | .bl false => .ok (.bl false) M3
  | _ => .bad := rfl
@[simp] theorem iZ {a b : E} : ev Φ (.and a b) σ M = (ev Φ a σ M).bind fun x M1 => match x with | .bl true => (ev Φ b σ M1) | .bl false => .ok (.bl false) M1 | _ => .bad := rfl
@[simp] theorem sY {a b : E} : ev Φ (.or a b) σ M = (ev Φ a σ M).bind fun x M1 => match x with | .bl true => .ok (.bl true) M1 | .bl false => (ev Φ b σ M1) | _ => .bad := rfl
@[simp] theorem yh {a : E} : ev Φ (.not a) σ M = (ev Φ a σ M).bind fun x M1 => match x with | .bl b => .ok (.bl (!b)) M1 | _ => .bad := rfl
@[simp] theorem F6 {c a b : E} : ev Φ (.y9 c a b) σ M = (ev Φ c σ M).bind fun x M1 => match x with | .bl true => ev Φ a σ M1 | .bl false => ev Φ b σ M1 | _ => .bad := rfl
@[simp] theorem nh {a b : E} : ev Φ (.idx a b) σ M = (ev Φ a σ M).bind fun x M1 => (ev Φ b σ M1).bind fun y M2 => mS M2 x y := rfl
@[simp] theorem ev_sl {fz : Bool} {a : E} {lo hi : O} : ev Φ (.sl fz a lo hi) σ M = (ev Φ a σ M).bind fun x M1 => (Br Φ lo σ M1).bind fun l M2 => (Br Φ hi σ M2).bind fun h M3 => sl2 fz M3 x l h := rfl
@[simp] theorem fT {f : Nat} {es : Es} : ev Φ (.call f es) σ M = (cA Φ es σ M).bind fun ds M1 => Φ.call f ds M1 := rfl
@[simp] theorem ev_isi {a : E} {t : Ty} : ev Φ (.vg a t) σ M = (ev Φ a σ M).bind fun x M1 => if wK M1 x then .ok (.bl (FD M1 t x)) M1 else .bad := rfl
@[simp] theorem ym {b : Bl} {fz : Bool} {es : Es} : ev Φ (.blt b fz es) σ M = (cA Φ es σ M).bind fun ds M1 => yP b fz M1 ds := rfl
@[simp] theorem gH {m : Mt} {fz : Bool} {a : E} {es : Es} : ev Φ (.bK m fz a es) σ M = (ev Φ a σ M).bind fun x M1 => if mO m M1 x then (cA Φ es σ M1).bind fun ds M2 => fU m fz M2 x ds else .bad := rfl
@[simp] theorem nj {fz : Bool} {caps tg : List Nat} {elt : E} {it : Src} {cond : O} : ev Φ (.comp fz caps tg elt it cond) σ M = (bP Φ it σ M).bind fun p M1 =>
   ((bw (nQ Φ cond) (ev Φ elt) tg (aP M1 p.1) p.2.1 (nC σ caps ++ List.replicate tg.length none) M1 []).fin (c6 p.2.2 p.1)).bind fun ds M2 => cK fz ds M2 := rfl
@[simp] theorem cR {a : E} {f : Str} : ev Φ (.fld a f) σ M = (ev Φ a σ M).bind fun x M1 => match x with
  | .ref n => match M1[n]? with
   | some (.ins _ fs) => match fs.lookup f with
    | some d => .ok d M1
    | none => .bad
   | _ => .bad
  | _ => .bad := rfl
@[simp] theorem FY {c m : Nat} {nm : Str} {a : E} {es : Es} : ev Φ (.cF c m nm a es) σ M = (ev Φ a σ M).bind fun x M1 => match x with
  | .ref n => match M1[n]? with
   | some (.ins c' fs) => if decide (c' = c) && (fs.lookup nm).isNone then (cA Φ es σ M1).bind fun ds M2 => Φ.call m (.ref n :: ds) M2 else .bad
   | _ => .bad
  | _ => .bad := rfl
@[simp] theorem FZ {c i : Nat} {es : Es} : ev Φ (.new c i es) σ M = (cA Φ es σ M).bind fun ds M1 => (Φ.ini i (.ref M1.length :: ds) (M1 ++ [.ins c []])).bind fun r M2 => match r with
  | .ak => .ok (.ref M1.length) M2
  | _ => .bad := rfl
@[simp] theorem ev_mx {hi : Bool} {a b : E} : ev Φ (.mx hi a b) σ M = (ev Φ a σ M).bind fun x M1 => (ev Φ b σ M1).bind fun y M2 => match x,y with
  | .int i,.int j => .ok (.int (if hi then (if j > i then j else i) else (if j < i then j else i))) M2
  | _,_ => .bad := rfl
@[simp] theorem ev_lrg {fz : Bool} {a b : E} : ev Φ (.Kc fz a b) σ M = (ev Φ a σ M).bind fun x M1 => (ev Φ b σ M1).bind fun y M2 => match x,y with
  | .int i,.int j => if qB i && (qB j && decide ((j - i).toNat <= line)) then cK fz (eS i j) M2 else .bad
  | _,_ => .bad := rfl
@[simp] theorem F7 {f : F1} {a : E} : ev Φ (.x8 f a) σ M = (ev Φ a σ M).bind fun x M1 => match uT f x with
  | some d => .ok d M1
  | none => .bad := rfl
@[simp] theorem KL {a : E} : ev Φ (.all1 a) σ M = (ev Φ a σ M).bind fun x M1 => match vw M1 x with
  | .lst ds => match boolsOf ds with
   | some bs => .ok (.bl (bs.all id)) M1
   | none => .bad
  | _ => .bad := rfl
@[simp] theorem bh : cA Φ .nil σ M = .ok [] M := rfl
@[simp] theorem au {e : E} {es : Es} : cA Φ (.cons e es) σ M = (ev Φ e σ M).bind fun x M1 => (cA Φ es σ M1).bind fun xs M2 => .ok (x :: xs) M2 := rfl
@[simp] theorem Jo : Br Φ .none σ M = .ok none M := rfl
@[simp] theorem Jm {e : E} : Br Φ (.some e) σ M = (ev Φ e σ M).bind fun x M1 => match x with | .int i => .ok (some i) M1 | _ => .bad := rfl
@[simp] theorem yg : nQ Φ .none σ M = .ok (.bl true) M := rfl
@[simp] theorem Jq {e : E} : nQ Φ (.some e) σ M = ev Φ e σ M := rfl
@[simp] theorem CP {a : E} : bP Φ (.e a) σ M = (ev Φ a σ M).bind fun x M1 => match itemsOf M1 x with | some ds => .ok (x,ds,wk M1 x) (walk M1 x) | none => .bad := rfl
@[simp] theorem Bu {a : E} : bP Φ (.gK a) σ M = (ev Φ a σ M).bind fun x M1 => match x with
  | .int j => if qB j then .ok (.ak,eS 0 j,false) M1 else .bad
  | _ => .bad := rfl
@[simp] theorem Jp {a b : E} : bP Φ (.DJ a b) σ M = (ev Φ a σ M).bind fun x M1 => (ev Φ b σ M1).bind fun y M2 => match tU x,tU y with
  | some i,some j => if qB i && qB j then .ok (.ak,eS i j,false) M2 else .bad
  | _,_ => .bad := rfl
@[simp] theorem KI {a : E} : bP Φ (.rev a) σ M = (ev Φ a σ M).bind fun x M1 => match sM x with
  | some ds => .ok (.ak,ds.reverse,false) M1
  | none => .bad := rfl
@[simp] theorem yk {f : Nat} {es : Es} {d : Int} : ev Φ (.gp f es d) σ M = (cA Φ es σ M).bind fun ds M1 => Φ.call f (ds ++ [.int d]) M1 := rfl
@[simp] theorem KH {a b : E} : bP Φ (.zip a b) σ M = (ev Φ a σ M).bind fun x M1 => (ev Φ b σ M1).bind fun y M2 => match Bg x,Bg y with
  | some ds,some es => .ok (.ak,GP ds es,false) M2
  | _,_ => .bad := rfl
@[simp] theorem FW {i : Nat} {e : E} : ex Φ (.set i e) σ M = (ev Φ e σ M).use σ fun x M1 => .ok (.nx (σ.set i (some x))) M1 := rfl
@[simp] theorem Bq {a b e : E} : ex Φ (.kP a b e) σ M = (ev Φ e σ M).use σ fun x M1 => (ev Φ a σ M1).use σ fun y M2 => (ev Φ b σ M2).use σ fun z M3 => (mq M3 y z x).use σ fun _ M4 => .ok (.nx σ) M4 := rfl
@[simp] theorem m9 {a : E} {f : Str} {e : E} : ex Φ (.bJ a f e) σ M = (ev Φ e σ M).use σ fun x M1 => (ev Φ a σ M1).use σ fun y M2 => match y with
  | .ref n => match M2[n]? with
   | some (.ins c fs) => if decide (fs.length < 1000) then .ok (.nx σ) (M2.set n (.ins c (bE f x fs))) else .bad
   | _ => .bad
  | _ => .bad := rfl
@[simp] theorem Bs : Bt Φ .nil σ M = .ok () M := rfl
@[simp] theorem yf {e : E} {es : Es} : Bt Φ (.cons e es) σ M = (ev Φ e σ M).bind fun x M1 => if bL x then Bt Φ es σ M1 else .bad := rfl
@[simp] theorem ye {c : Nat} {es : Es} : ex Φ (.raise c es) σ M = (Bt Φ es σ M).use σ fun _ M1 => .ok (.xc c σ) M1 := rfl
@[simp] theorem yd {b : Ss} {hs : Hs} {els : Ss} : ex Φ (.try b hs els) σ M = (exs Φ b σ M).bind fun o M1 => match o with
  | .nx σ1 => exs Φ els σ1 M1
  | .xc c σ1 => zc Φ hs c σ1 M1
  | o => .ok o M1 := rfl
@[simp] theorem KA {c : Nat} : zc Φ .nil c σ M = .bad := rfl
@[simp] theorem pA {cs : List Nat} {b : Ss} {hs : Hs} {c : Nat} : zc Φ (.cons cs b hs) c σ M = if cs.any (fun d => Φ.sub c d) then exs Φ b σ M else zc Φ hs c σ M := rfl
@[simp] theorem FU {tg : List Nat} {e : E} : ex Φ (.Dh tg e) σ M = (ev Φ e σ M).use σ fun x M1 => match sets tg M1 x σ with | some σ1 => .ok (.nx σ1) M1 | none => .bad := rfl
@[simp] theorem Jk {e : E} : ex Φ (.ex e) σ M = (ev Φ e σ M).use σ fun _ M1 => .ok (.nx σ) M1 := rfl
@[simp] theorem ex_ret {e : E} : ex Φ (.ret e) σ M = (ev Φ e σ M).use σ fun x M1 => .ok (.rt x) M1 := rfl
@[simp] theorem KC : ex Φ .DK σ M = .ok (.rt .ak) M := rfl
@[simp] theorem nc {c : E} {a b : Ss} : ex Φ (.ifs c a b) σ M = (ev Φ c σ M).use σ fun t M1 => match t with | .bl true => exs Φ a σ M1 | .bl false => exs Φ b σ M1 | _ => .bad := rfl
@[simp] theorem qY {tg : List Nat} {it : Src} {b : Ss} : ex Φ (.for tg it b) σ M = (bP Φ it σ M).use σ fun p M1 => (b6 (exs Φ b) tg (aP M1 p.1) p.2.1 σ M1).fin (c6 p.2.2 p.1) := rfl
@[simp] theorem iC {c : E} {b : Ss} : ex Φ (.while c b) σ M = bf (ev Φ c) (exs Φ b) Φ.turns σ M := rfl
@[simp] theorem ex_brk : ex Φ .brk σ M = .ok (.bk σ) M := rfl
@[simp] theorem KG : ex Φ .cont σ M = .ok (.ct σ) M := rfl
@[simp] theorem KD : ex Φ .pass σ M = .ok (.nx σ) M := rfl
@[simp] theorem Kz : exs Φ .nil σ M = .ok (.nx σ) M := rfl
@[simp] theorem bO {s : S} {ss : Ss} : exs Φ (.cons s ss) σ M = (ex Φ s σ M).bind fun o M1 => match o with | .nx σ1 => exs Φ ss σ1 M1 | o => .ok o M1 := rfl
end
@[simp] theorem fin_ok {α : Type} {a : α} {M : MH} {f : MH -> MH} : (R.ok a M).fin f = .ok a (f M) := rfl
@[simp] theorem Kv {α : Type} {c : Nat} {M : MH} {f : MH -> MH} : (R.exc c M : R α).fin f = .exc c (f M) := rfl
@[simp] theorem Kw {α : Type} {f : MH -> MH} : (R.bad : R α).fin f = .bad := rfl
@[simp] theorem unwk_f {d : D} {M : MH} : c6 false d M = M := by cases d <;> rfl
@[simp] theorem lI {α : Type} {x : R α} {d : D} : x.fin (c6 false d) = x := by cases x <;> simp
@[simp] theorem wk_tup {M : MH} {ds : List D} : wk M (.tup ds) = false := rfl
@[simp] theorem wk_lst {M : MH} {ds : List D} : wk M (.lst ds) = false := rfl
@[simp] theorem wk_str {M : MH} {x : Str} : wk M (.str x) = false := rfl
@[simp] theorem GQ {M : MH} {ds : List D} : walk M (.tup ds) = M := rfl
@[simp] theorem GS {M : MH} {ds : List D} : walk M (.lst ds) = M := rfl
@[simp] theorem GR {M : MH} {x : Str} : walk M (.str x) = M := rfl
theorem fQ {α : Type} {l : List α} {n : Nat} {a b : α} (h : l[n]? = some a) : (l.set n b)[n]? = some b := by
 obtain ⟨q,_⟩ := List.getElem?_eq_some_iff.mp h
 exact List.getElem?_set_self q
theorem dN {P : lX} {k i : Nat} {ds : List D} {M : MH} {fn : Fn} (h : P.fn i = some fn) : (aa P (k + 1)).call i ds M = kQ (aa P k) fn ds M := by simp only [aa,h]
@[simp] theorem rD {P : lX} {k : Nat} : (aa P k).glob = P.glob := by cases k <;> rfl
@[simp] theorem cY {P : lX} {k : Nat} : (aa P k).turns = P.turns := by cases k <;> rfl
@[simp] theorem u0 {P : lX} {k : Nat} : (aa P k).sub = P.sub := by cases k <;> rfl
end Fg
namespace Fg
open PySem
theorem kh {cond elt : Sg -> MH -> R D} {i : Nat} {eZ : MH -> Bool} {M : MH} {f : D -> D} {p : D -> Bool} (hc : eZ M = true) : ∀ (ds acc : List D) (σ : Sg),(∀ d ∈ ds,cond (σ.set i (some d)) M = .ok (.bl (p d)) M /\ (p d = true -> elt (σ.set i (some d)) M = .ok (f d) M)) ->
  acc.length + ds.length <= line -> bw cond elt [i] eZ ds σ M acc = .ok (acc ++ (ds.filter p).map f) M
 | [],acc,σ,_,_ => by simp [bw]
 | d :: ds,acc,σ,h,hl => by
  obtain ⟨h1,h2⟩ := h d List.mem_cons_self
  have ih := fun acc' => kh (cond := cond) (elt := elt) (i := i) (eZ := eZ) (M := M) (f := f) (p := p) hc ds acc' (σ.set i (some d)) (fun e he => by rw [List.set_set]; exact h e (List.mem_cons_of_mem _ he))
  simp only [List.length_cons] at hl
  rw [bw]
  simp only [sets,h1,R.af]
  cases hp : p d with
  | true =>
   have hlt : acc.length < line := by omega
   simp only [h2 hp,R.af,hc,if_true,hlt,decide_true]
   rw [ih (acc ++ [f d]) (by simp; omega)]
   simp [List.filter_cons,hp]
  | false =>
   simp only [hc,if_true]
   rw [ih acc (by omega)]
   simp [List.filter_cons,hp]
@[simp] theorem bB {α : Type} {a : α} {l : List α} : cB (a :: l) 0 = some a := by
 have : (0 : Int) < ((a :: l).length : Int) := by simp only [List.length_cons]; omega
 simp only [cB,yZ,if_pos (Int.le_refl 0),if_pos this]; rfl
@[simp] theorem gq {α : Type} {a b : α} {l : List α} : cB (a :: b :: l) 1 = some b := by
 have : (1 : Int) < ((a :: b :: l).length : Int) := by simp only [List.length_cons]; omega
 simp only [cB,yZ,if_pos (show (0 : Int) <= 1 by decide),if_pos this]; rfl
@[simp] theorem JI {α : Type} {a b c : α} {l : List α} : cB (a :: b :: c :: l) 2 = some c := by
 have : (2 : Int) < ((a :: b :: c :: l).length : Int) := by simp only [List.length_cons]; omega
 simp only [cB,yZ,if_pos (show (0 : Int) <= 2 by decide),if_pos this]; rfl
@[simp] theorem CU : aI D.ak D.ak = true := by simp only [aI]
@[simp] theorem CV {x : Int} {y : Int} : aI (D.int x) (D.int y) = decide (x = y) := by simp only [aI]
@[simp] theorem CT {x : Str} {y : Str} : aI (D.str x) (D.str y) = decide (x = y) := by simp only [aI]
@[simp] theorem CS {x : List D} {y : List D} : aI (D.tup x) (D.tup y) = dI x y := by simp only [aI]
@[simp] theorem pC {x : List D} {y : List D} : aI (D.lst x) (D.lst y) = dI x y := by simp only [aI]
@[simp] theorem KN : dI [] [] = true := by simp only [dI]
@[simp] theorem Bv {a : D} {l : List D} : dI (a :: l) [] = false := by simp only [dI]
@[simp] theorem KO {a b : D} {l m : List D} : dI (a :: l) (b :: m) = (aI a b && dI l m) := by simp only [dI]
section
variable {Φ : aQ} {σ σ' : Sg} {M M1 M2 : MH} {e c : E} {x : D} {ss a b : Ss} {i : Nat}
theorem ao (h : ev Φ e σ M = .ok x M1) : exs Φ (.cons (.set i e) ss) σ M = exs Φ ss (σ.set i (some x)) M1 := by simp [h]
theorem bZ (h : ev Φ e σ M = .ok x M1) : exs Φ (.cons (.ex e) ss) σ M = exs Φ ss σ M1 := by simp [h]
theorem aR (h : ev Φ e σ M = .ok x M1) : exs Φ (.cons (.ret e) ss) σ M = .ok (.rt x) M1 := by simp [h]
theorem bG (h : ev Φ c σ M = .ok (.bl false) M1) : exs Φ (.cons (.ifs c a .nil) ss) σ M = exs Φ ss σ M1 := by simp [h]
theorem dU (h : ev Φ c σ M = .ok (.bl false) M1) (hb : exs Φ b σ M1 = .ok (.nx σ') M2) : exs Φ (.cons (.ifs c a b) ss) σ M = exs Φ ss σ' M2 := by simp [h,hb]
theorem gS (h : ev Φ c σ M = .ok (.bl true) M1) (ha : exs Φ a σ M1 = .ok (.nx σ') M2) : exs Φ (.cons (.ifs c a b) ss) σ M = exs Φ ss σ' M2 := by simp [h,ha]
theorem ja (h : ev Φ c σ M = .ok (.bl true) M1) (ha : exs Φ a σ M1 = .ok (.rt x) M2) : exs Φ (.cons (.ifs c a b) ss) σ M = .ok (.rt x) M2 := by simp [h,ha]
theorem aO {P : lX} {k f : Nat} {fn : Fn} {ds : List D} {d : D} {M' : MH} {r : R D} (hf : P.fn f = some fn) (hn : ds.length = fn.np) (hb : exs (aa P k) fn.body (ds.map some ++ List.replicate (fn.ns - fn.np) none) M = .ok (.rt d) M') (hr : eU fn.keep M d M' = r) : (aa P (k + 1)).call f ds M = r := by
 rw [dN hf]
 have h1 : ds.length + fn.kI.length - fn.np = fn.kI.length := by omega
 simp only [kQ,h1,List.drop_length,List.append_nil,hb]
 rw [if_pos (by simp; omega)]
 exact hr
theorem cJ {M : MH} {d : D} {M' : MH} (h : nr M.length d = true) (ht : M'.take M.length = M) : eU false M d M' = .ok d M := by
 unfold eU; rw [if_pos ⟨rfl,ht⟩,if_pos h]
end
theorem AL {n : Nat} (h : n <= 1000000) : qB (n : Int) = true := by simp only [qB,decide_eq_true_eq]; omega
@[simp] theorem J3 {M : MH} {ds : List D} : wK M (.tup ds) = true := rfl
@[simp] theorem J6 {M : MH} {ds : List D} : wK M (.lst ds) = true := rfl
@[simp] theorem J7 {M : MH} {i : Int} : wK M (.int i) = true := rfl
@[simp] theorem J4 {M : MH} {x : Str} : wK M (.str x) = true := rfl
@[simp] theorem okT_bl {M : MH} {b : Bool} : wK M (.bl b) = true := rfl
@[simp] theorem J5 {M : MH} : wK M .ak = true := rfl
end Fg
end
section
namespace Fg
open PySem L2
structure Bd where
 K : W.Frag
 dk : Addr -> List (Key × V) -> Prop
 cls : Nat -> Option Addr
 exc : Nat -> Value -> Prop
 JU : Nat -> Option Addr
noncomputable def KTup (K : W.Frag) (a : Addr) (xs : List V) : Prop :=
 ∃ (o : Obj) (its : Array Value) (n : Nat), K.lookup a = some o /\ o.cls = .type "tuple" /\ o.data = .seq its n /\ its.size <= sizeLine /\ Vals xs its.toList
noncomputable def KLst (K : W.Frag) (a : Addr) (xs : List V) : Prop :=
 ∃ (o : Obj) (its : Array Value) (n : Nat), K.lookup a = some o /\ o.cls = .type "list" /\ o.dict = none /\ o.data = .seq its n /\ its.size <= sizeLine /\ Vals xs its.toList
noncomputable def FzT (B : Bd) (F : Addr -> Prop) (H : Hp) (a : Addr) (xs : List V) : Prop := (F a /\ Rd H a (.tup xs)) \/ KTup B.K a xs
noncomputable def FzL (B : Bd) (F : Addr -> Prop) (H : Hp) (a : Addr) (xs : List V) : Prop := (F a /\ Rd H a (.lst xs)) \/ KLst B.K a xs
noncomputable def FzD (B : Bd) (F : Addr -> Prop) (H : Hp) (a : Addr) (kvs : List (Key × V)) : Prop := (F a /\ Rd H a (.dK kvs)) \/ B.dk a kvs
theorem FzT.sq {B : Bd} {F : Addr -> Prop} {H : Hp} {a : Addr} {xs : List V} (h : FzT B F H a xs) : jv B.K H a xs := by
 rcases h with ⟨_,h⟩ | h
 ·exact .inl h
 ·exact .inr h
theorem FzL.sq {B : Bd} {F : Addr -> Prop} {H : Hp} {a : Addr} {xs : List V} (h : FzL B F H a xs) : fk B.K H a xs := by
 rcases h with ⟨_,h⟩ | h
 ·exact .inl h
 ·exact .inr h
mutual
noncomputable def RD (B : Bd) (F : Addr -> Prop) (ρ : List Addr) (H : Hp) : D -> V -> Prop
 | .ak,v => v = .ak
 | .bl b,v => v = .bl b
 | .int i,v => v = .int i
 | .str x,v => v = .str x
 | .tup ds,v => ∃ a vs,v = .ref a /\ FzT B F H a vs /\ aj B F ρ H ds vs
 | .lst ds,v => ∃ a vs,v = .ref a /\ FzL B F H a vs /\ aj B F ρ H ds vs
 | .dct ks ds,v => ∃ a kvs,v = .ref a /\ FzD B F H a kvs /\ kvs.map (·.1) = ks /\ aj B F ρ H ds (kvs.map (·.2))
 | .ref n,v => ∃ a,ρ[n]? = some a /\ v = .ref a
noncomputable def aj (B : Bd) (F : Addr -> Prop) (ρ : List Addr) (H : Hp) : List D -> List V -> Prop
 | [],vs => vs = []
 | d :: ds,vs => ∃ v ws,vs = v :: ws /\ RD B F ρ H d v /\ aj B F ρ H ds ws
end
structure Ext0 (F : Addr -> Prop) (ρ : List Addr) (H : Hp) (F' : Addr -> Prop) (ρ' : List Addr) (H' : Hp) : Prop where
 s : ∀ a ∈ ρ,¬ F a
 f : ∀ a,F a -> F' a
 h : ∀ a,H a ≠ none -> a ∉ ρ -> H' a = H a
 r : ρ <+: ρ'
 n : ∀ a ∈ ρ',a ∈ ρ \/ H a = none
 g : ∀ a,F' a -> F a \/ (H a = none \/ a ∈ ρ)
structure pU (F : Addr -> Prop) (ρ : List Addr) (H : Hp) (F' : Addr -> Prop) (ρ' : List Addr) (H' : Hp) : Prop where
 f : ∀ a,F a -> F' a
 k : ∀ a,F a -> H a ≠ none -> H' a = H a
 r : ρ <+: ρ'
theorem Ext0.Jl {F F' : Addr -> Prop} {ρ ρ' : List Addr} {H H' : Hp} (e : Ext0 F ρ H F' ρ' H') : pU F ρ H F' ρ' H' := ⟨e.f,fun a fa h => e.h a h fun z => e.s a z fa,e.r⟩
section
variable {B : Bd} {F F' F1 : Addr -> Prop} {ρ ρ' ρ1 : List Addr} {H H' H1 : Hp}
theorem Cp {a : Addr} {u : HO} (h : Rd H a u) : H a ≠ none := by
 rcases h with h | ⟨o,h⟩ <;> rw [h] <;> simp
theorem pU.rd (e : pU F ρ H F' ρ' H') {a : Addr} {u : HO} (f : F a) (h : Rd H a u) : Rd H' a u := by
 have q := e.k a f (Cp h)
 rcases h with h | ⟨o,h⟩
 ·exact .inl (q.trans h)
 ·exact .inr ⟨o,q.trans h⟩
theorem pU.at (e : pU F ρ H F' ρ' H') {n : Nat} {a : Addr} (h : ρ[n]? = some a) : ρ'[n]? = some a := by
 obtain ⟨t,rfl⟩ := e.r
 have hn : n < ρ.length := by
  rcases Nat.lt_or_ge n ρ.length with q | q
  ·exact q
  ·rw [List.getElem?_eq_none_iff.mpr q] at h; cases h
 rw [List.getElem?_append_left hn]; exact h
mutual
theorem RD.aU (e : pU F ρ H F' ρ' H') : ∀ (d : D) (v : V),RD B F ρ H d v -> RD B F' ρ' H' d v
 | .ak,v,h => h
 | .bl _,v,h => h
 | .int _,v,h => h
 | .str _,v,h => h
 | .tup ds,v,h => by
  simp only [RD] at h ⊢
  obtain ⟨a,vs,h1,h2,h3⟩ := h
  refine ⟨a,vs,h1,?_,aj.aU e ds vs h3⟩
  rcases h2 with ⟨f,r⟩ | h2
  ·exact .inl ⟨e.f a f,e.rd f r⟩
  ·exact .inr h2
 | .lst ds,v,h => by
  simp only [RD] at h ⊢
  obtain ⟨a,vs,h1,h2,h3⟩ := h
  refine ⟨a,vs,h1,?_,aj.aU e ds vs h3⟩
  rcases h2 with ⟨f,r⟩ | h2
  ·exact .inl ⟨e.f a f,e.rd f r⟩
  ·exact .inr h2
 | .dct ks ds,v,h => by
  simp only [RD] at h ⊢
  obtain ⟨a,kvs,h1,h2,h4,h3⟩ := h
  refine ⟨a,kvs,h1,?_,h4,aj.aU e ds _ h3⟩
  rcases h2 with ⟨f,r⟩ | h2
  ·exact .inl ⟨e.f a f,e.rd f r⟩
  ·exact .inr h2
 | .ref n,v,h => by
  simp only [RD] at h ⊢
  obtain ⟨a,h1,h2⟩ := h
  exact ⟨a,e.at h1,h2⟩
theorem aj.aU (e : pU F ρ H F' ρ' H') : ∀ (ds : List D) (vs : List V),aj B F ρ H ds vs -> aj B F' ρ' H' ds vs
 | [],vs,h => h
 | d :: ds,vs,h => by
  simp only [aj] at h ⊢
  obtain ⟨v,ws,h1,h2,h3⟩ := h
  exact ⟨v,ws,h1,RD.aU e d v h2,aj.aU e ds ws h3⟩
end
theorem Ext0.at (e : Ext0 F ρ H F' ρ' H') {n : Nat} {a : Addr} (h : ρ[n]? = some a) : ρ'[n]? = some a := e.Jl.at h
theorem RD.bz (e : Ext0 F ρ H F' ρ' H') (d : D) (v : V) (h : RD B F ρ H d v) : RD B F' ρ' H' d v := RD.aU e.Jl d v h
theorem aj.bz (e : Ext0 F ρ H F' ρ' H') (ds : List D) (vs : List V) (h : aj B F ρ H ds vs) : aj B F' ρ' H' ds vs := aj.aU e.Jl ds vs h
structure Ext (F : Addr -> Prop) (ρ : List Addr) (H : Hp) (F' : Addr -> Prop) (ρ' : List Addr) (H' : Hp) : Prop extends Ext0 F ρ H F' ρ' H' where
 z : ∀ a o u,H a = some (.fh o u) -> H' a = some (.fh o u)
theorem RD.mono (e : Ext F ρ H F' ρ' H') (d : D) (v : V) (h : RD B F ρ H d v) : RD B F' ρ' H' d v := RD.bz e.toExt0 d v h
theorem aj.mono (e : Ext F ρ H F' ρ' H') (ds : List D) (vs : List V) (h : aj B F ρ H ds vs) : aj B F' ρ' H' ds vs := aj.bz e.toExt0 ds vs h
theorem Ext.trans (a : Ext F ρ H F1 ρ1 H1) (b : Ext F1 ρ1 H1 F' ρ' H') : Ext F ρ H F' ρ' H' where
 s := a.s
 f := fun x h => b.f x (a.f x h)
 h := fun x h1 h2 => by
  have q := a.h x h1 h2
  have n1 : x ∉ ρ1 := fun z => (a.n x z).elim h2 h1
  exact (b.h x (by rw [q]; exact h1) n1).trans q
 r := List.IsPrefix.trans a.r b.r
 n := fun x hx => by
  rcases b.n x hx with q | q
  ·exact a.n x q
  ·by_cases hr : x ∈ ρ
   ·exact .inl hr
   ·refine .inr ?_
    cases hh : H x with
    | none => rfl
    | some u =>
     have := a.h x (by rw [hh]; simp) hr
     rw [q,hh] at this; cases this
 g := fun x hx => by
  rcases b.g x hx with q | q | q
  ·exact a.g x q
  ·by_cases hr : x ∈ ρ
   ·exact .inr (.inr hr)
   ·refine .inr (.inl ?_)
    cases hh : H x with
    | none => rfl
    | some u =>
     have := a.h x (by rw [hh]; simp) hr
     rw [q,hh] at this; cases this
  ·rcases a.n x q with z | z
   ·exact .inr (.inr z)
   ·exact .inr (.inl z)
 z := fun x o u h => b.z x o u (a.z x o u h)
theorem Ext.refl (s : ∀ a ∈ ρ,¬ F a) : Ext F ρ H F ρ H := ⟨⟨s,fun _ h => h,fun _ _ _ => rfl,List.prefix_refl _,fun _ h => .inl h,fun _ h => .inl h⟩,fun _ _ _ h => h⟩
end
noncomputable def MR (B : Bd) (F : Addr -> Prop) (ρ : List Addr) (H : Hp) : MO -> Addr -> Prop
 | .lst ds,a => ∃ vs,H a = some (.lst vs) /\ aj B F ρ H ds vs
 | .dct kvs,a => ∃ kws,H a = some (.dK kws) /\ kws.map (·.1) = kvs.map (·.1) /\ aj B F ρ H (kvs.map (·.2)) (kws.map (·.2))
 | .pI kvs,a => ∃ o kws,H a = some (.fh o (.dK kws)) /\ kws.map (·.1) = kvs.map (·.1) /\ aj B F ρ H (kvs.map (·.2)) (kws.map (·.2))
 | .ins c fs,a => ∃ C dx eF,B.cls c = some C /\ H a = some (.ins C dx eF) /\ eF.map (·.1) = fs.map (·.1) /\ aj B F ρ H (fs.map (·.2)) (eF.map (·.2))
theorem MR.aU {B : Bd} {F F' : Addr -> Prop} {ρ ρ' : List Addr} {H H' : Hp} (e : pU F ρ H F' ρ' H') {a : Addr} (ha : H' a = H a) : ∀ {o : MO},MR B F ρ H o a -> MR B F' ρ' H' o a
 | .lst ds,⟨vs,h1,h2⟩ => ⟨vs,ha.trans h1,aj.aU e _ _ h2⟩
 | .dct kvs,⟨kws,h1,h2,h3⟩ => ⟨kws,ha.trans h1,h2,aj.aU e _ _ h3⟩
 | .pI kvs,⟨o,kws,h1,h2,h3⟩ => ⟨o,kws,ha.trans h1,h2,aj.aU e _ _ h3⟩
 | .ins c fs,⟨C,dx,eF,h0,h1,h2,h3⟩ => ⟨C,dx,eF,h0,ha.trans h1,h2,aj.aU e _ _ h3⟩
theorem MR.bz {B : Bd} {F F' : Addr -> Prop} {ρ ρ' : List Addr} {H H' : Hp} (e : Ext0 F ρ H F' ρ' H') {a : Addr} (ha : H' a = H a) {o : MO} (h : MR B F ρ H o a) : MR B F' ρ' H' o a := h.aU e.Jl ha
theorem MR.mono {B : Bd} {F F' : Addr -> Prop} {ρ ρ' : List Addr} {H H' : Hp} (e : Ext F ρ H F' ρ' H') {a : Addr} (ha : H' a = H a) {o : MO} (h : MR B F ρ H o a) : MR B F' ρ' H' o a := h.bz e.toExt0 ha
theorem MR.ne {B : Bd} {F : Addr -> Prop} {ρ : List Addr} {H : Hp} {a : Addr} : ∀ {o : MO},MR B F ρ H o a -> H a ≠ none
 | .lst ds,⟨vs,h1,h2⟩ => by rw [h1]; simp
 | .dct kvs,⟨kws,h1,_⟩ => by rw [h1]; simp
 | .pI kvs,⟨o,kws,h1,_⟩ => by rw [h1]; simp
 | .ins c fs,⟨C,dx,eF,_,h1,_⟩ => by rw [h1]; simp
structure SR (B : Bd) (F : Addr -> Prop) (ρ : List Addr) (M : MH) (H : Hp) : Prop where
 len : ρ.length = M.length
 nd : ρ.Nodup
 sep : ∀ a ∈ ρ,¬ F a
 Bh : ∀ a,F a -> H a ≠ none
 obj : ∀ (n : Nat) (a : Addr) (o : MO),ρ[n]? = some a -> M[n]? = some o -> MR B F ρ H o a
section
variable {B : Bd} {F F' F1 : Addr -> Prop} {ρ ρ' ρ1 : List Addr} {H H' H1 : Hp} {M M' : MH}
theorem SR.ne (S : SR B F ρ M H) {a : Addr} (h : a ∈ ρ) : H a ≠ none := by
 obtain ⟨n,hn,e⟩ := List.mem_iff_getElem.mp h
 have hm : n < M.length := by rw [<- S.len]; exact hn
 exact (S.obj n a M[n] (by rw [List.getElem?_eq_getElem hn,e]) (List.getElem?_eq_getElem hm)).ne
theorem SR.new (S : SR B F ρ M H) {p : Addr} (h : H p = none) : p ∉ ρ /\ ¬ F p := ⟨fun z => S.ne z h,fun z => S.Bh p z h⟩
theorem SR.refl (S : SR B F ρ M H) : Ext F ρ H F ρ H := Ext.refl S.sep
theorem SR.fz (S : SR B F ρ M H) {p : Addr} (h : H p = none) (o : HO) : SR B (fun a => F a \/ a = p) ρ M (upd H p o) /\ Ext F ρ H (fun a => F a \/ a = p) ρ (upd H p o) := by
 obtain ⟨np,nf⟩ := S.new h
 have e : Ext F ρ H (fun a => F a \/ a = p) ρ (upd H p o) := ⟨⟨S.sep,fun a q => .inl q,fun a q _ => aq (by rintro rfl; exact q h),List.prefix_refl _,fun a q => .inl q,fun a q => q.elim .inl fun z => .inr (.inl (z ▸ h))⟩,fun b w u q => by rw [aq (by rintro rfl; rw [h] at q; cases q)]; exact q⟩
 refine ⟨⟨S.len,S.nd,fun a ha z => ?_,fun a z => ?_,fun n a u h1 h2 => ?_⟩,e⟩
 ·rcases z with z | z
  ·exact S.sep a ha z
  ·subst z; exact np ha
 ·by_cases q : a = p
  ·subst q; rw [aA]; simp
  ·rw [aq q]
   rcases z with z | z
   ·exact S.Bh a z
   ·exact absurd z q
 ·have m := S.obj n a u h1 h2
  exact m.mono e (aq (by rintro rfl; exact m.ne h))
theorem SR.lv (S : SR B F ρ M H) {p : Addr} (h : H p = none) {o : HO} {u : MO} (hu : MR B F (ρ ++ [p]) (upd H p o) u p) : SR B F (ρ ++ [p]) (M ++ [u]) (upd H p o) /\ Ext F ρ H F (ρ ++ [p]) (upd H p o) := by
 obtain ⟨np,nf⟩ := S.new h
 have e : Ext F ρ H F (ρ ++ [p]) (upd H p o) := ⟨⟨S.sep,fun a q => q,fun a q _ => aq (by rintro rfl; exact q h),List.prefix_append _ _,fun a q => by
  rcases List.mem_append.mp q with q | q
  ·exact .inl q
  ·rw [List.mem_singleton.mp q]; exact .inr h,fun _ q => .inl q⟩,fun b w u q => by rw [aq (by rintro rfl; rw [h] at q; cases q)]; exact q⟩
 refine ⟨⟨by simp [S.len],?_,fun a ha z => ?_,fun a z => ?_,fun n a w h1 h2 => ?_⟩,e⟩
 ·rw [List.nodup_append]
  refine ⟨S.nd,by simp,fun a ha b hb => ?_⟩
  rw [List.mem_singleton.mp hb]
  rintro rfl
  exact np ha
 ·rcases List.mem_append.mp ha with q | q
  ·exact S.sep a q z
  ·rw [List.mem_singleton.mp q] at z; exact nf z
 ·have q : a ≠ p := by rintro rfl; exact nf z
  rw [aq q]; exact S.Bh a z
 ·by_cases hn : n < ρ.length
  ·rw [List.getElem?_append_left hn] at h1
   rw [List.getElem?_append_left (by rw [<- S.len]; exact hn)] at h2
   have m := S.obj n a w h1 h2
   exact m.mono e (aq (by rintro rfl; exact m.ne h))
  ·have hn' : ρ.length <= n := Nat.le_of_not_lt hn
   rw [List.getElem?_append_right hn'] at h1
   rw [List.getElem?_append_right (by rw [<- S.len]; exact hn'),<- S.len] at h2
   cases k : n - ρ.length with
   | zero =>
    rw [k] at h1 h2
    cases h1; cases h2
    exact hu
   | succ j => rw [k] at h1; simp at h1
theorem SR.jw (S : SR B F ρ M H) {n : Nat} {a : Addr} {o : HO} {u : MO} (hn : ρ[n]? = some a) (hu : MR B F ρ (upd H a o) u a) : SR B F ρ (M.set n u) (upd H a o) /\ Ext0 F ρ H F ρ (upd H a o) := by
 have ha : a ∈ ρ := List.mem_of_getElem? hn
 have e : Ext0 F ρ H F ρ (upd H a o) := ⟨S.sep,fun _ q => q,fun b q nb => aq (by rintro rfl; exact nb ha),List.prefix_refl _,fun _ q => .inl q,fun _ q => .inl q⟩
 refine ⟨⟨by simp [S.len],S.nd,S.sep,fun b z => ?_,fun m b w h1 h2 => ?_⟩,e⟩
 ·have q : b ≠ a := by rintro rfl; exact S.sep b ha z
  rw [aq q]; exact S.Bh b z
 ·by_cases q : m = n
  ·subst q
   rw [hn] at h1; cases h1
   rw [List.getElem?_set] at h2
   split at h2
   ·split at h2
    ·cases h2; exact hu
    ·cases h2
   ·rename_i z; exact absurd rfl z
  ·rw [List.getElem?_set_ne (Ne.symm q)] at h2
   have ne : b ≠ a := by
    rintro rfl
    obtain ⟨m1,e1⟩ := List.getElem?_eq_some_iff.mp h1
    obtain ⟨m2,e2⟩ := List.getElem?_eq_some_iff.mp hn
    exact q ((List.getElem_inj S.nd).mp (e1.trans e2.symm))
   exact (S.obj m b w h1 h2).bz e (aq ne)
theorem SR.st (S : SR B F ρ M H) {n : Nat} {a : Addr} {o : HO} {u : MO} (hn : ρ[n]? = some a) (hz : ∀ w v,H a ≠ some (.fh w v)) (hu : MR B F ρ (upd H a o) u a) : SR B F ρ (M.set n u) (upd H a o) /\ Ext F ρ H F ρ (upd H a o) :=
 ⟨(S.jw hn hu).1,⟨(S.jw hn hu).2,fun b w v q => by rw [aq (by rintro rfl; exact hz w v q)]; exact q⟩⟩
theorem Ext0.at_ (S : SR B F ρ M H) {n : Nat} {a : Addr} {o : HO} (hn : ρ[n]? = some a) : Ext0 F ρ H F ρ (upd H a o) :=
 ⟨S.sep,fun _ q => q,fun b q nb => aq (by rintro rfl; exact nb (List.mem_of_getElem? hn)),List.prefix_refl _,fun _ q => .inl q,fun _ q => .inl q⟩
theorem pU.side {D : Addr} (hF : ¬ F D) (o : HO) : pU F ρ H F ρ (upd H D o) := ⟨fun _ h => h,fun a fa _ => aq (by rintro rfl; exact hF fa),List.prefix_refl _⟩
theorem SR.side (S : SR B F ρ M H) {D : Addr} (hD : D ∉ ρ) (hF : ¬ F D) (o : HO) : SR B F ρ M (upd H D o) :=
 ⟨S.len,S.nd,S.sep,fun a fa => by rw [aq (by rintro rfl; exact hF fa)]; exact S.Bh a fa,fun n a w h1 h2 => (S.obj n a w h1 h2).aU (pU.side hF o) (aq (by rintro rfl; exact hD (List.mem_of_getElem? h1)))⟩
theorem SR.take (S : SR B F ρ M H) {D : Addr} (hD : D ∉ ρ) (hn : H D ≠ none) : SR B (fun a => F a \/ a = D) ρ M H :=
 ⟨S.len,S.nd,fun a ha z => z.elim (S.sep a ha) fun e => hD (e ▸ ha),fun a z => z.elim (S.Bh a) fun e => e ▸ hn,fun n a w h1 h2 => (S.obj n a w h1 h2).aU ⟨fun _ h => .inl h,fun _ _ _ => rfl,List.prefix_refl _⟩ rfl⟩
theorem SR.hold (S : SR B F ρ M H) {D : Addr} {u : MO} (hD : D ∉ ρ) (hF : ¬ F D) (hu : MR B F (ρ ++ [D]) H u D) : SR B F (ρ ++ [D]) (M ++ [u]) H := by
 refine ⟨by simp [S.len],?_,fun a ha z => ?_,S.Bh,fun n a w h1 h2 => ?_⟩
 ·rw [List.nodup_append]
  refine ⟨S.nd,by simp,fun a ha b hb => ?_⟩
  rw [List.mem_singleton.mp hb]
  rintro rfl
  exact hD ha
 ·rcases List.mem_append.mp ha with q | q
  ·exact S.sep a q z
  ·rw [List.mem_singleton.mp q] at z; exact hF z
 ·by_cases hn : n < ρ.length
  ·rw [List.getElem?_append_left hn] at h1
   rw [List.getElem?_append_left (by rw [<- S.len]; exact hn)] at h2
   exact (S.obj n a w h1 h2).aU ⟨fun _ h => h,fun _ _ _ => rfl,List.prefix_append _ _⟩ rfl
  ·have hn' : ρ.length <= n := Nat.le_of_not_lt hn
   rw [List.getElem?_append_right hn'] at h1
   rw [List.getElem?_append_right (by rw [<- S.len]; exact hn'),<- S.len] at h2
   cases k : n - ρ.length with
   | zero =>
    rw [k] at h1 h2
    cases h1; cases h2
    exact hu
   | succ j => rw [k] at h1; simp at h1
theorem SR.wk (S : SR B F ρ M H) {n : Nat} {a : Addr} {kvs : List (Ky × D)} {kws : List (Key × V)} (o : Obj) (hn : ρ[n]? = some a) (hM : M[n]? = some (.dct kvs)) (hH : H a = some (.dK kws)) :
  SR B F ρ (M.set n (.pI kvs)) (upd H a (.fh o (.dK kws))) /\ Ext F ρ H F ρ (upd H a (.fh o (.dK kws))) := by
 obtain ⟨kws',h1,h2,h3⟩ := S.obj n a _ hn hM
 rw [hH] at h1; cases h1
 exact S.st (o := .fh o (.dK kws)) (u := .pI kvs) hn (fun w v q => by rw [hH] at q; cases q) ⟨o,kws,aA,h2,aj.bz (Ext0.at_ S hn) _ _ h3⟩
theorem SR.uw (S : SR B F ρ M H) {n : Nat} {a : Addr} {kvs : List (Ky × D)} (hn : ρ[n]? = some a) (hM : M[n]? = some (.pI kvs)) : ∃ o kws,H a = some (.fh o (.dK kws)) /\
  SR B F ρ (M.set n (.dct kvs)) (upd H a (.dK kws)) := by
 obtain ⟨o,kws,h1,h2,h3⟩ := S.obj n a _ hn hM
 exact ⟨o,kws,h1,(S.jw (o := .dK kws) (u := .dct kvs) hn ⟨kws,aA,h2,aj.bz (Ext0.at_ S hn) _ _ h3⟩).1⟩
theorem Ext.thaw (e : Ext F ρ H F' ρ' H') {a : Addr} {o : HO} (ha : a ∈ ρ') (hn : ∀ w v,H a ≠ some (.fh w v)) (hF : ∀ b ∈ ρ',¬ F' b) : Ext F ρ H F' ρ' (upd H' a o) :=
 ⟨⟨e.s,e.f,fun b q nb => by
  by_cases hb : b = a
  ·subst hb
   rcases e.n b ha with z | z
   ·exact absurd z nb
   ·exact absurd z q
  ·rw [aq hb]; exact e.h b q nb,e.r,e.n,e.g⟩,fun b w v q => by rw [aq (by rintro rfl; exact hn w v q)]; exact e.z b w v q⟩
end
section
variable {B : Bd} {F F' F1 : Addr -> Prop} {ρ ρ' ρ1 : List Addr} {H H' H1 : Hp} {M M' : MH}
theorem aj.length : ∀ {ds : List D} {vs : List V},aj B F ρ H ds vs -> ds.length = vs.length
 | [],vs,h => by simp only [aj] at h; subst h; rfl
 | d :: ds,vs,h => by
  simp only [aj] at h
  obtain ⟨v,ws,rfl,_,h3⟩ := h
  simp [aj.length h3]
theorem aj.cons {d : D} {v : V} {ds : List D} {vs : List V} (h : RD B F ρ H d v) (t : aj B F ρ H ds vs) : aj B F ρ H (d :: ds) (v :: vs) := by
 simp only [aj]; exact ⟨v,vs,rfl,h,t⟩
theorem aj.nil : aj B F ρ H [] [] := by simp only [aj]
theorem aj.append : ∀ {ds es : List D} {vs ws : List V},aj B F ρ H ds vs -> aj B F ρ H es ws -> aj B F ρ H (ds ++ es) (vs ++ ws)
 | [],es,vs,ws,h,t => by simp only [aj] at h; subst h; exact t
 | d :: ds,es,vs,ws,h,t => by
  simp only [aj] at h
  obtain ⟨v,us,rfl,h2,h3⟩ := h
  exact aj.cons h2 (aj.append h3 t)
theorem aj.get : ∀ {ds : List D} {vs : List V} {i : Nat} {d : D},aj B F ρ H ds vs -> ds[i]? = some d -> ∃ v,vs[i]? = some v /\ RD B F ρ H d v
 | [],vs,i,d,h,e => by simp at e
 | d :: ds,vs,i,d',h,e => by
  simp only [aj] at h
  obtain ⟨v,ws,rfl,h2,h3⟩ := h
  cases i with
  | zero => simp at e; subst e; exact ⟨v,rfl,h2⟩
  | succ i => simp at e; simpa using aj.get (i := i) h3 e
theorem aj.take : ∀ {ds : List D} {vs : List V} (n : Nat),aj B F ρ H ds vs -> aj B F ρ H (ds.take n) (vs.take n)
 | [],vs,n,h => by simp only [aj] at h; subst h; simp [aj]
 | d :: ds,vs,n,h => by
  simp only [aj] at h
  obtain ⟨v,ws,rfl,h2,h3⟩ := h
  cases n with
  | zero => simp [aj]
  | succ n => simp only [List.take_succ_cons]; exact aj.cons h2 (aj.take n h3)
theorem aj.drop : ∀ {ds : List D} {vs : List V} (n : Nat),aj B F ρ H ds vs -> aj B F ρ H (ds.drop n) (vs.drop n)
 | [],vs,n,h => by simp only [aj] at h; subst h; simp [aj]
 | d :: ds,vs,n,h => by
  cases n with
  | zero => exact h
  | succ n =>
   simp only [aj] at h
   obtain ⟨v,ws,rfl,h2,h3⟩ := h
   simp only [List.drop_succ_cons]; exact aj.drop n h3
theorem aj.set : ∀ {ds : List D} {vs : List V} {d : D} {v : V} (i : Nat),aj B F ρ H ds vs -> RD B F ρ H d v -> aj B F ρ H (ds.set i d) (vs.set i v)
 | [],vs,d,v,i,h,q => by simp only [aj] at h; subst h; simp [aj]
 | e :: ds,vs,d,v,i,h,q => by
  simp only [aj] at h
  obtain ⟨u,ws,rfl,h2,h3⟩ := h
  cases i with
  | zero => simp only [List.set_cons_zero]; exact aj.cons q h3
  | succ i => simp only [List.set_cons_succ]; exact aj.cons h2 (aj.set i h3 q)
mutual
theorem RD.nr : ∀ {d : D} {v : V},RD B F ρ H d v -> nr ρ.length d = true
 | .ak,v,h => by simp [Fg.nr]
 | .bl _,v,h => by simp [Fg.nr]
 | .int _,v,h => by simp [Fg.nr]
 | .str _,v,h => by simp [Fg.nr]
 | .tup ds,v,h => by simp only [RD] at h; obtain ⟨a,vs,h1,h2,h3⟩ := h; simp only [Fg.nr]; exact aj.nr h3
 | .lst ds,v,h => by simp only [RD] at h; obtain ⟨a,vs,h1,h2,h3⟩ := h; simp only [Fg.nr]; exact aj.nr h3
 | .dct ks ds,v,h => by simp only [RD] at h; obtain ⟨a,vs,h1,h2,_,h3⟩ := h; simp only [Fg.nr]; exact aj.nr h3
 | .ref n,v,h => by
  simp only [RD] at h; obtain ⟨a,h1,h2⟩ := h; simp only [Fg.nr]
  obtain ⟨q,_⟩ := List.getElem?_eq_some_iff.mp h1
  exact decide_eq_true q
theorem aj.nr : ∀ {ds : List D} {vs : List V},aj B F ρ H ds vs -> fc ρ.length ds = true
 | [],vs,h => by simp [fc]
 | d :: ds,vs,h => by
  simp only [aj] at h
  obtain ⟨v,ws,rfl,h2,h3⟩ := h
  simp only [fc,RD.nr h2,aj.nr h3,Bool.and_self]
end
mutual
theorem RD.cut (hp : ρ <+: ρ') : ∀ {d : D} {v : V},Fg.nr ρ.length d = true -> RD B F ρ' H d v -> RD B F ρ H d v
 | .ak,v,_,h => h
 | .bl _,v,_,h => h
 | .int _,v,_,h => h
 | .str _,v,_,h => h
 | .tup ds,v,q,h => by
  simp only [Fg.nr] at q; simp only [RD] at h ⊢
  obtain ⟨a,vs,h1,h2,h3⟩ := h
  exact ⟨a,vs,h1,h2,aj.cut hp q h3⟩
 | .lst ds,v,q,h => by
  simp only [Fg.nr] at q; simp only [RD] at h ⊢
  obtain ⟨a,vs,h1,h2,h3⟩ := h
  exact ⟨a,vs,h1,h2,aj.cut hp q h3⟩
 | .dct ks ds,v,q,h => by
  simp only [Fg.nr] at q; simp only [RD] at h ⊢
  obtain ⟨a,vs,h1,h2,h4,h3⟩ := h
  exact ⟨a,vs,h1,h2,h4,aj.cut hp q h3⟩
 | .ref n,v,q,h => by
  simp only [Fg.nr] at q; simp only [RD] at h ⊢
  obtain ⟨a,h1,h2⟩ := h
  obtain ⟨t,rfl⟩ := hp
  rw [List.getElem?_append_left (of_decide_eq_true q)] at h1
  exact ⟨a,h1,h2⟩
theorem aj.cut (hp : ρ <+: ρ') : ∀ {ds : List D} {vs : List V},fc ρ.length ds = true -> aj B F ρ' H ds vs -> aj B F ρ H ds vs
 | [],vs,_,h => h
 | d :: ds,vs,q,h => by
  simp only [fc,Bool.and_eq_true] at q; simp only [aj] at h ⊢
  obtain ⟨v,ws,rfl,h2,h3⟩ := h
  exact ⟨v,ws,rfl,RD.cut hp q.1 h2,aj.cut hp q.2 h3⟩
end
theorem MR.cut (hp : ρ <+: ρ') {a : Addr} {F0 : Addr -> Prop} {H0 : Hp} {a0 : Addr} : ∀ {o : MO},MR B F0 ρ H0 o a0 -> MR B F ρ' H o a -> MR B F ρ H o a
 | .lst ds,⟨_,_,k⟩,⟨vs,h1,h2⟩ => ⟨vs,h1,aj.cut hp (aj.nr k) h2⟩
 | .dct kvs,⟨_,_,_,k⟩,⟨kws,h1,h2,h3⟩ => ⟨kws,h1,h2,aj.cut hp (aj.nr k) h3⟩
 | .pI kvs,⟨_,_,_,_,k⟩,⟨o,kws,h1,h2,h3⟩ => ⟨o,kws,h1,h2,aj.cut hp (aj.nr k) h3⟩
 | .ins c fs,⟨_,_,_,_,_,_,k⟩,⟨C,dx,eF,h0,h1,h2,h3⟩ => ⟨C,dx,eF,h0,h1,h2,aj.cut hp (aj.nr k) h3⟩
theorem SR.cut (S : SR B F ρ M H) (S' : SR B F' ρ' M' H') (e : Ext F ρ H F' ρ' H') (hm : M'.take M.length = M) : SR B F' ρ M H' where
 len := S.len
 nd := S.nd
 sep := fun a ha => S'.sep a (e.r.subset ha)
 Bh := S'.Bh
 obj := fun n a o h1 h2 => by
  have m' : M'[n]? = some o := by
   rw [<- hm] at h2
   rw [List.getElem?_take] at h2
   split at h2
   ·exact h2
   ·cases h2
  exact MR.cut e.r (S.obj n a o h1 h2) (S'.obj n a o (e.at h1) m')
theorem Ext.cut (e : Ext F ρ H F' ρ' H') : Ext F ρ H F' ρ H' := ⟨⟨e.s,e.f,e.h,List.prefix_refl _,fun _ h => .inl h,e.g⟩,e.z⟩
end
end Fg
end
section
set_option autoImplicit false
namespace Fg
open PySem L2
noncomputable def ze (th : Addr -> Prop) (H H' : Hp) : Prop := H' = H \/ ∃ a o kvs,th a /\ H a = some (.fh o (.dK kvs)) /\ H' = upd H a (.dK kvs)
noncomputable abbrev XS := Value -> Option Addr -> St -> Hp -> Prop
structure Gx where
 e : XS
 th : Addr -> Prop
 cl : ∀ cv x σ H H',ze th H H' -> e cv x σ H' -> e cv x σ H
noncomputable def ai {α β : Type} (rel : (Addr -> Prop) -> List Addr -> Hp -> α -> β -> Prop) (B : Bd) (r : R α) (F : Addr -> Prop) (ρ : List Addr) (H : Hp) (Q : β -> Hp -> Prop) (E : XK) : Prop :=
 match r with
 | .ok d M' => ∀ F' ρ' H' v,Ext F ρ H F' ρ' H' -> SR B F' ρ' M' H' -> rel F' ρ' H' d v -> Q v H'
 | .exc c M' => ∀ F' ρ' H' cv x,Ext F ρ H F' ρ' H' -> SR B F' ρ' M' H' -> B.exc c cv -> E cv x H'
 | .bad => False
noncomputable abbrev Post (B : Bd) := ai (RD B) B
noncomputable abbrev JM (B : Bd) := ai (aj B) B
section
variable {B : Bd} {F F' F1 : Addr -> Prop} {ρ ρ' ρ1 : List Addr} {H H' H1 : Hp} {M M' : MH} {E : XK}
theorem ai.weak {α β : Type} {rel : (Addr -> Prop) -> List Addr -> Hp -> α -> β -> Prop} {r : R α} {Q : β -> Hp -> Prop} (e : Ext F ρ H F1 ρ1 H1) (h : ai rel B r F ρ H Q E) : ai rel B r F1 ρ1 H1 Q E := by
 cases r with
 | ok d M' => exact fun F' ρ' H' v e' S r => h F' ρ' H' v (e.trans e') S r
 | exc c M' => exact fun F' ρ' H' cv x e' S r => h F' ρ' H' cv x (e.trans e') S r
 | bad => exact h
theorem ai.imp {α β : Type} {rel : (Addr -> Prop) -> List Addr -> Hp -> α -> β -> Prop} {r : R α} {Q Q' : β -> Hp -> Prop} (h : ai rel B r F ρ H Q E) (k : ∀ v H',Q v H' -> Q' v H') : ai rel B r F ρ H Q' E := by
 cases r with
 | ok d M' => exact fun F' ρ' H' v e' S r => k _ _ (h F' ρ' H' v e' S r)
 | exc c M' => exact h
 | bad => exact h
theorem ai.bind {α β α' β' : Type} {rel : (Addr -> Prop) -> List Addr -> Hp -> α -> β -> Prop} {rel' : (Addr -> Prop) -> List Addr -> Hp -> α' -> β' -> Prop} {x : R α} {f : α -> MH -> R α'} {Q : β' -> Hp -> Prop} (h : ai rel' B (x.bind f) F ρ H Q E) :
  ai rel B x F ρ H (fun v H' => ∃ d M' F' ρ',Ext F ρ H F' ρ' H' /\ SR B F' ρ' M' H' /\ rel F' ρ' H' d v /\ ai rel' B (f d M') F' ρ' H' Q E) E := by
 cases x with
 | ok d M' => exact fun F' ρ' H' v e S r => ⟨d,M',F',ρ',e,S,r,ai.weak e h⟩
 | exc c M' => exact h
 | bad => exact h
theorem ai.run {α β : Type} {rel : (Addr -> Prop) -> List Addr -> Hp -> α -> β -> Prop} {d : α} {Q : β -> Hp -> Prop} {v : β} (h : ai rel B (.ok d M) F ρ H Q E) (S : SR B F ρ M H) (r : rel F ρ H d v) : Q v H :=
 h F ρ H v S.refl S r
end
structure RS (B : Bd) (F : Addr -> Prop) (ρ : List Addr) (H : Hp) (σD : Sg) (σ : St) : Prop where
 len : σ.length = σD.length
 get : ∀ (i : Nat) (d : D),σD[i]? = some (some d) -> ∃ v,σ[i]? = some (some v) /\ RD B F ρ H d v
section
variable {B : Bd} {F F' F1 : Addr -> Prop} {ρ ρ' ρ1 : List Addr} {H H' H1 : Hp} {M M' : MH} {σD : Sg} {σ : St}
theorem RS.mono (e : Ext F ρ H F' ρ' H') (h : RS B F ρ H σD σ) : RS B F' ρ' H' σD σ :=
 ⟨h.len,fun i d q => let ⟨v,h1,h2⟩ := h.get i d q; ⟨v,h1,RD.mono e d v h2⟩⟩
theorem RS.set (h : RS B F ρ H σD σ) {d : D} {v : V} (r : RD B F ρ H d v) (i : Nat) : RS B F ρ H (σD.set i (some d)) (σ.set i (some v)) := by
 refine ⟨by simp [h.len],fun j d' q => ?_⟩
 rw [List.getElem?_set] at q ⊢
 split at q
 ·rename_i e
  split at q
  ·rename_i l
   cases q
   refine ⟨v,?_,r⟩
   rw [if_pos e,if_pos (by rw [h.len]; exact l)]
  ·cases q
 ·rename_i e
  rw [if_neg e]
  exact h.get j d' q
end
noncomputable def T (B : Bd) (Φ : aQ) (E : Gx) (c : Fg.E) : TE := fun σ H Q => ∃ (σD : Sg) (M : MH) (F : Addr -> Prop) (ρ : List Addr),
 SR B F ρ M H /\ RS B F ρ H σD σ /\ Post B (ev Φ c σD M) F ρ H Q (fun cv x H' => E.e cv x σ H')
noncomputable def TB (B : Bd) (Φ : aQ) (E : Gx) (c : Fg.E) : TT := fun σ H Q => T B Φ E c σ H fun v H' => ∃ b,v = .bl b /\ Q b H'
noncomputable def TL (B : Bd) (Φ : aQ) (E : Gx) (c : Es) : TA := fun σ H Q => ∃ (σD : Sg) (M : MH) (F : Addr -> Prop) (ρ : List Addr),
 SR B F ρ M H /\ RS B F ρ H σD σ /\ JM B (cA Φ c σD M) F ρ H Q (fun cv x H' => E.e cv x σ H')
noncomputable def TP (B : Bd) (Φ : aQ) (E : Gx) (c : O) : TO := fun σ H Q => ∃ (σD : Sg) (M : MH) (F : Addr -> Prop) (ρ : List Addr),
 SR B F ρ M H /\ RS B F ρ H σD σ /\ ai (fun _ _ _ (a b : Option Int) => a = b) B (Br Φ c σD M) F ρ H Q (fun cv x H' => E.e cv x σ H')
section
variable {B : Bd} {Φ : aQ} {E : Gx} {F F' F1 : Addr -> Prop} {ρ ρ' ρ1 : List Addr} {H H' H1 : Hp} {M M' : MH} {σD : Sg} {σ : St} {Q : VK}
theorem T.one {a : Fg.E} {g : D -> MH -> R D} {W : V -> Hp -> Prop} {X : XK} (S : SR B F ρ M H) (r : RS B F ρ H σD σ) (hX : X = fun cv x H' => E.e cv x σ H') (h : Post B ((ev Φ a σD M).bind g) F ρ H Q X)
  (k : ∀ x M1 F1 ρ1 H1 v,Ext F ρ H F1 ρ1 H1 -> SR B F1 ρ1 M1 H1 -> RS B F1 ρ1 H1 σD σ -> RD B F1 ρ1 H1 x v -> Post B (g x M1) F1 ρ1 H1 Q X -> W v H1) : T B Φ E a σ H W := by
 subst hX
 refine ⟨σD,M,F,ρ,S,r,ai.imp (ai.bind (rel := RD B) h) fun v H1 ⟨x,M1,F1,ρ1,e,S1,rx,h1⟩ => ?_⟩
 exact k x M1 F1 ρ1 H1 v e S1 (r.mono e) rx h1
theorem T.two {a b : Fg.E} {g : D -> D -> MH -> R D} {W : V -> V -> Hp -> Prop} {X : XK} (S : SR B F ρ M H) (r : RS B F ρ H σD σ) (hX : X = fun cv x H' => E.e cv x σ H')
  (h : Post B ((ev Φ a σD M).bind fun x M1 => (ev Φ b σD M1).bind fun y M2 => g x y M2) F ρ H Q X)
  (k : ∀ x y M2 F2 ρ2 H2 v w,SR B F2 ρ2 M2 H2 -> RS B F2 ρ2 H2 σD σ -> RD B F2 ρ2 H2 x v -> RD B F2 ρ2 H2 y w -> Post B (g x y M2) F2 ρ2 H2 Q X -> W v w H2) :
  T B Φ E a σ H fun v H1 => T B Φ E b σ H1 fun w H2 => W v w H2 := by
 refine T.one S r hX h fun x M1 F1 ρ1 H1 v e1 S1 r1 rx h1 => ?_
 refine T.one S1 r1 hX h1 fun y M2 F2 ρ2 H2 w e2 S2 r2 ry h2 => ?_
 exact k x y M2 F2 ρ2 H2 v w S2 r2 (RD.mono e2 _ _ rx) ry h2
theorem TL.one {a : Es} {g : List D -> MH -> R D} {W : List V -> Hp -> Prop} {X : XK} (S : SR B F ρ M H) (r : RS B F ρ H σD σ) (hX : X = fun cv x H' => E.e cv x σ H') (h : Post B ((cA Φ a σD M).bind g) F ρ H Q X)
  (k : ∀ x M1 F1 ρ1 H1 v,Ext F ρ H F1 ρ1 H1 -> SR B F1 ρ1 M1 H1 -> RS B F1 ρ1 H1 σD σ -> aj B F1 ρ1 H1 x v -> Post B (g x M1) F1 ρ1 H1 Q X -> W v H1) : TL B Φ E a σ H W := by
 subst hX
 refine ⟨σD,M,F,ρ,S,r,ai.imp (ai.bind (rel := aj B) h) fun v H1 ⟨x,M1,F1,ρ1,e,S1,rx,h1⟩ => ?_⟩
 exact k x M1 F1 ρ1 H1 v e S1 (r.mono e) rx h1
theorem Hr {i : Nat} (h : T B Φ E (.v i) σ H Q) : GY i σ H Q := by
 obtain ⟨σD,M,F,ρ,S,r,h⟩ := h
 simp only [ev] at h
 split at h
 ·rename_i d hd
  obtain ⟨v,h1,h2⟩ := r.get _ _ hd
  exact ⟨v,h1,ai.run h S h2⟩
 ·exact h.elim
noncomputable def scl : D -> Option V
 | .ak => some .ak
 | .bl b => some (.bl b)
 | .int i => some (.int i)
 | .str x => some (.str x)
 | _ => none
theorem DC {d : D} {v : V} (h : scl d = some v) : RD B F ρ H d v := by
 cases d <;> simp only [scl] at h <;> first | (cases h; simp only [RD]) | cases h
theorem r9 {d : D} {v : V} (hv : scl d = some v) (h : T B Φ E (.k d) σ H Q) : tC v σ H Q := by
 obtain ⟨σD,M,F,ρ,S,r,h⟩ := h
 simp only [ev] at h
 exact ai.run h S (DC hv)
theorem dm {fz : Bool} {ds : List D} {vs : List V} {X : XK} (S : SR B F ρ M H) (h : Post B (cK fz ds M) F ρ H Q X) (r : aj B F ρ H ds vs) : ∀ p,H p = none -> Q (.ref p) (upd H p (.lst vs)) := by
 intro p hp
 cases fz with
 | true =>
  simp only [cK,if_true] at h
  obtain ⟨S',e⟩ := S.fz hp (.lst vs)
  refine h _ _ _ _ e S' ?_
  simp only [RD]
  exact ⟨p,vs,rfl,.inl ⟨.inr rfl,.inl aA⟩,aj.mono e _ _ r⟩
 | false =>
  simp only [cK,Bool.false_eq_true,if_false] at h
  have e0 : Ext F ρ H F (ρ ++ [p]) (upd H p (.lst vs)) := ⟨⟨S.sep,fun _ q => q,fun a q _ => aq (by rintro rfl; exact q hp),List.prefix_append _ _,fun a q => by
   rcases List.mem_append.mp q with q | q
   ·exact .inl q
   ·rw [List.mem_singleton.mp q]; exact .inr hp,fun _ q => .inl q⟩,fun b w u q => by rw [aq (by rintro rfl; rw [hp] at q; cases q)]; exact q⟩
  obtain ⟨S',e⟩ := S.lv (o := .lst vs) (u := .lst ds) hp ⟨vs,aA,aj.mono e0 _ _ r⟩
  refine h _ _ _ _ e S' ?_
  simp only [RD]
  refine ⟨p,?_,rfl⟩
  rw [<- S.len,List.getElem?_append_right (Nat.le_refl _),Nat.sub_self]; rfl
theorem jG {ds : List D} {vs : List V} {X : XK} (S : SR B F ρ M H) (h : Post B (.ok (.tup ds) M) F ρ H Q X) (r : aj B F ρ H ds vs) : ∀ p,H p = none -> Q (.ref p) (upd H p (.tup vs)) := by
 intro p hp
 obtain ⟨S',e⟩ := S.fz hp (.tup vs)
 refine h _ _ _ _ e S' ?_
 simp only [RD]
 exact ⟨p,vs,rfl,.inl ⟨.inr rfl,.inl aA⟩,aj.mono e _ _ r⟩
theorem zR {es : Es} (hz : ∀ {σ : Sg} {M : MH} {ds M'},cA Φ es σ M = .ok ds M' -> ds.length <= sizeLine) (h : T B Φ E (.tup es) σ H Q) : GZ (TL B Φ E es) σ H Q := by
 obtain ⟨σD,M,F,ρ,S,r,h⟩ := h
 simp only [ev] at h
 refine ⟨σD,M,F,ρ,S,r,?_⟩
 cases hx : cA Φ es σD M with
 | ok ds M1 =>
  rw [hx] at h
  intro F1 ρ1 H1 vs e S1 rv
  refine ⟨by rw [<- aj.length rv]; exact hz hx,jG (X := fun cv x H' => E.e cv x σ H') S1 (ai.weak e h) rv⟩
 | exc c M1 => rw [hx] at h; exact h
 | bad => rw [hx] at h; exact h
theorem zY {fz : Bool} {es : Es} (hz : ∀ {σ : Sg} {M : MH} {ds M'},cA Φ es σ M = .ok ds M' -> ds.length <= sizeLine) (h : T B Φ E (.lst fz es) σ H Q) : G5 (TL B Φ E es) σ H Q := by
 obtain ⟨σD,M,F,ρ,S,r,h⟩ := h
 simp only [ev] at h
 refine ⟨σD,M,F,ρ,S,r,?_⟩
 cases hx : cA Φ es σD M with
 | ok ds M1 =>
  rw [hx] at h
  intro F1 ρ1 H1 vs e S1 rv
  refine ⟨by rw [<- aj.length rv]; exact hz hx,dm (X := fun cv x H' => E.e cv x σ H') S1 (ai.weak e h) rv⟩
 | exc c M1 => rw [hx] at h; exact h
 | bad => rw [hx] at h; exact h
theorem gQ {Q : List V -> Hp -> Prop} (h : TL B Φ E .nil σ H Q) : l7 σ H Q := by
 obtain ⟨σD,M,F,ρ,S,r,h⟩ := h
 simp only [cA] at h
 exact ai.run h S aj.nil
theorem vS {e : Fg.E} {es : Es} {Q : List V -> Hp -> Prop} (h : TL B Φ E (.cons e es) σ H Q) : jW (T B Φ E e) (TL B Φ E es) σ H Q := by
 obtain ⟨σD,M,F,ρ,S,r,h⟩ := h
 simp only [cA] at h
 refine ⟨σD,M,F,ρ,S,r,ai.imp (ai.bind (rel := RD B) h) fun v H1 ⟨x,M1,F1,ρ1,e1,S1,rx,h1⟩ => ?_⟩
 refine ⟨σD,M1,F1,ρ1,S1,r.mono e1,ai.imp (ai.bind (rel := aj B) h1) fun vs H2 ⟨xs,M2,F2,ρ2,e2,S2,rxs,h2⟩ => ?_⟩
 exact ai.run h2 S2 (aj.cons (RD.mono e2 _ _ rx) rxs)
theorem sr {a b : Fg.E} (h : T B Φ E (.and a b) σ H Q) : Cg (T B Φ E a) (T B Φ E b) σ H Q := by
 obtain ⟨σD,M,F,ρ,S,r,h⟩ := h
 simp only [ev] at h
 refine T.one S r rfl h fun x M1 F1 ρ1 H1 v e1 S1 r1 rx h1 => ?_
 split at h1
 ·simp only [RD] at rx; subst rx
  exact ⟨true,rfl,by rw [if_pos rfl]; exact ⟨σD,M1,F1,ρ1,S1,r1,h1⟩⟩
 ·simp only [RD] at rx; subst rx
  exact ⟨false,rfl,by rw [if_neg Bool.false_ne_true]; exact ai.run h1 S1 (by simp only [RD])⟩
 ·exact h1.elim
theorem vR {a b : Fg.E} (h : T B Φ E (.or a b) σ H Q) : G3 (T B Φ E a) (T B Φ E b) σ H Q := by
 obtain ⟨σD,M,F,ρ,S,r,h⟩ := h
 simp only [ev] at h
 refine T.one S r rfl h fun x M1 F1 ρ1 H1 v e1 S1 r1 rx h1 => ?_
 split at h1
 ·simp only [RD] at rx; subst rx
  exact ⟨true,rfl,by rw [if_pos rfl]; exact ai.run h1 S1 (by simp only [RD])⟩
 ·simp only [RD] at rx; subst rx
  exact ⟨false,rfl,by rw [if_neg Bool.false_ne_true]; exact ⟨σD,M1,F1,ρ1,S1,r1,h1⟩⟩
 ·exact h1.elim
theorem rZ {a : Fg.E} (h : T B Φ E (.not a) σ H Q) : Cd (T B Φ E a) σ H Q := by
 obtain ⟨σD,M,F,ρ,S,r,h⟩ := h
 simp only [ev] at h
 refine T.one S r rfl h fun x M1 F1 ρ1 H1 v e1 S1 r1 rx h1 => ?_
 split at h1
 ·simp only [RD] at rx; subst rx
  exact ⟨_,rfl,ai.run h1 S1 (by simp only [RD])⟩
 ·exact h1.elim
theorem vV {a b : Fg.E} {Q : Bool -> Hp -> Prop} (h : TB B Φ E (.and a b) σ H Q) : Hf (TB B Φ E a) (TB B Φ E b) σ H Q := by
 have h' := sr h
 obtain ⟨σD,M,F,ρ,S,r,h⟩ := h'
 refine ⟨σD,M,F,ρ,S,r,ai.imp h fun v H' ⟨c,e,q⟩ => ⟨c,e,?_⟩⟩
 cases c with
 | true => rw [if_pos rfl] at q ⊢; exact q
 | false => rw [if_neg Bool.false_ne_true] at q ⊢; obtain ⟨b,e,q⟩ := q; cases e; exact q
theorem Ab {a b : Fg.E} {Q : Bool -> Hp -> Prop} (h : TB B Φ E (.or a b) σ H Q) : tOr (TB B Φ E a) (TB B Φ E b) σ H Q := by
 have h' := vR h
 obtain ⟨σD,M,F,ρ,S,r,h⟩ := h'
 refine ⟨σD,M,F,ρ,S,r,ai.imp h fun v H' ⟨c,e,q⟩ => ⟨c,e,?_⟩⟩
 cases c with
 | true => rw [if_pos rfl] at q ⊢; obtain ⟨b,e,q⟩ := q; cases e; exact q
 | false => rw [if_neg Bool.false_ne_true] at q ⊢; exact q
theorem vU {a : Fg.E} {Q : Bool -> Hp -> Prop} (h : TB B Φ E (.not a) σ H Q) : G4 (TB B Φ E a) σ H Q := by
 have h' := rZ h
 obtain ⟨σD,M,F,ρ,S,r,h⟩ := h'
 refine ⟨σD,M,F,ρ,S,r,ai.imp h fun v H' ⟨c,e,q⟩ => ⟨c,e,?_⟩⟩
 obtain ⟨b,e,q⟩ := q; cases e; exact q
theorem z7 {c a b : Fg.E} (h : T B Φ E (.y9 c a b) σ H Q) : tIf (TB B Φ E c) (T B Φ E a) (T B Φ E b) σ H Q := by
 obtain ⟨σD,M,F,ρ,S,r,h⟩ := h
 simp only [ev] at h
 refine T.one S r rfl h fun x M1 F1 ρ1 H1 v e1 S1 r1 rx h1 => ?_
 split at h1
 ·simp only [RD] at rx; subst rx
  exact ⟨true,rfl,by dsimp only; rw [if_pos rfl]; exact ⟨σD,M1,F1,ρ1,S1,r1,h1⟩⟩
 ·simp only [RD] at rx; subst rx
  exact ⟨false,rfl,by dsimp only; rw [if_neg Bool.false_ne_true]; exact ⟨σD,M1,F1,ρ1,S1,r1,h1⟩⟩
 ·exact h1.elim
theorem bS {d : D} {v : V} {ds : List D} (S : SR B F ρ M H) (r : RD B F ρ H d v) (h : vw M d = .lst ds) : ∃ a vs,v = .ref a /\ fk B.K H a vs /\ aj B F ρ H ds vs := by
 cases d with
 | lst xs => simp only [vw] at h; cases h; simp only [RD] at r; obtain ⟨a,vs,e,z,q⟩ := r; exact ⟨a,vs,e,z.sq,q⟩
 | ref n =>
  simp only [vw] at h
  split at h
  ·rename_i xs hx
   cases h
   simp only [RD] at r
   obtain ⟨a,h1,h2⟩ := r
   obtain ⟨vs,h3,h4⟩ := S.obj n a _ h1 hx
   exact ⟨a,vs,h2,.inl (.inl h3),h4⟩
  ·cases h
  ·cases h
  ·cases h
 | tup _ => simp only [vw] at h; cases h
 | dct _ _ => simp only [vw] at h; cases h
 | ak => simp only [vw] at h; cases h
 | bl _ => simp only [vw] at h; cases h
 | int _ => simp only [vw] at h; cases h
 | str _ => simp only [vw] at h; cases h
theorem jR {d : D} {v : V} {ds : List D} (S : SR B F ρ M H) (r : RD B F ρ H d v) (h : vw M d = .tup ds) : ∃ a vs,v = .ref a /\ jv B.K H a vs /\ aj B F ρ H ds vs := by
 cases d with
 | tup xs => simp only [vw] at h; cases h; simp only [RD] at r; obtain ⟨a,vs,e,z,q⟩ := r; exact ⟨a,vs,e,z.sq,q⟩
 | ref n =>
  simp only [vw] at h
  split at h <;> cases h
 | lst _ => simp only [vw] at h; cases h
 | dct _ _ => simp only [vw] at h; cases h
 | ak => simp only [vw] at h; cases h
 | bl _ => simp only [vw] at h; cases h
 | int _ => simp only [vw] at h; cases h
 | str _ => simp only [vw] at h; cases h
noncomputable def Gz (B : Bd) (H : Hp) (a : Addr) (kvs : List (Key × V)) : Prop := Rd H a (.dK kvs) \/ B.dk a kvs
theorem nR {α β : Type} : ∀ (ks : List α) (ds : List β),ks.length = ds.length -> (ks.zip ds).map (·.1) = ks /\ (ks.zip ds).map (·.2) = ds
 | [],[],_ => ⟨rfl,rfl⟩
 | k :: ks,d :: ds,h => by
  obtain ⟨a,b⟩ := nR ks ds (by simpa using h)
  simp only [List.zip_cons_cons,List.map_cons,a,b,and_self]
 | [],_ :: _,h => by simp at h
 | _ :: _,[],h => by simp at h
theorem lY {d : D} {v : V} {di : List (Ky × D)} (S : SR B F ρ M H) (r : RD B F ρ H d v) (h : vw M d = .dct di) : ∃ a kvs,v = .ref a /\ Gz B H a kvs /\ kvs.map (·.1) = di.map (·.1) /\ aj B F ρ H (di.map (·.2)) (kvs.map (·.2)) := by
 cases d with
 | dct ks ds =>
  simp only [vw] at h; cases h; simp only [RD] at r
  obtain ⟨a,kvs,e,z,q1,q2⟩ := r
  have hl : ks.length = ds.length := by rw [<- q1,List.length_map,aj.length q2,List.length_map]
  obtain ⟨z1,z2⟩ := nR ks ds hl
  refine ⟨a,kvs,e,?_,by rw [q1,z1],by rw [z2]; exact q2⟩
  rcases z with ⟨_,z⟩ | z
  ·exact .inl z
  ·exact .inr z
 | ref n =>
  simp only [vw] at h
  split at h
  ·cases h
  ·rename_i xs hx
   cases h
   simp only [RD] at r
   obtain ⟨a,h1,h2⟩ := r
   obtain ⟨kws,h3,h4,h5⟩ := S.obj n a _ h1 hx
   exact ⟨a,kws,h2,.inl (.inl h3),h4,h5⟩
  ·rename_i xs hx
   cases h
   simp only [RD] at r
   obtain ⟨a,h1,h2⟩ := r
   obtain ⟨o,kws,h3,h4,h5⟩ := S.obj n a _ h1 hx
   exact ⟨a,kws,h2,.inl (.inr ⟨o,h3⟩),h4,h5⟩
  ·cases h
 | tup _ => simp only [vw] at h; cases h
 | lst _ => simp only [vw] at h; cases h
 | ak => simp only [vw] at h; cases h
 | bl _ => simp only [vw] at h; cases h
 | int _ => simp only [vw] at h; cases h
 | str _ => simp only [vw] at h; cases h
theorem ki {k : Key} : ∀ {di : List (Ky × D)} {kvs : List (Key × V)},kvs.map (·.1) = di.map (·.1) -> aj B F ρ H (di.map (·.2)) (kvs.map (·.2)) ->
  (∀ d,look di k = some d -> ∃ v,cC kvs k = some v /\ RD B F ρ H d v) /\ (look di k = none -> cC kvs k = none) /\ ((look di k).isSome = (cC kvs k).isSome)
 | [],kvs,h1,h2 => by
  have : kvs = [] := by cases kvs with | nil => rfl | cons _ _ => simp at h1
  subst this
  exact ⟨fun d h => by simp [look] at h,fun _ => by simp [cC],by simp [look,cC]⟩
 | (k', d') :: di, kvs, h1, h2 => by
  cases kvs with
  | nil => simp at h1
  | cons p kvs =>
   obtain ⟨pk,pv⟩ := p
   simp only [List.map_cons,List.cons.injEq] at h1
   simp only [List.map_cons,aj] at h2
   obtain ⟨v,ws,e,r1,r2⟩ := h2
   cases e
   obtain ⟨e1,e2⟩ := h1
   subst e1
   have ih := ki (k := k) e2 r2
   by_cases hk : pk = k
   ·subst hk
    simp only [look,cC,List.find?_cons,decide_true]
    exact ⟨fun d h => by cases h; exact ⟨_,rfl,r1⟩,fun h => by simp at h,rfl⟩
   ·have hkd : decide (pk = k) = false := decide_eq_false hk
    simp only [look,cC,List.find?_cons,hkd] at ih ⊢
    exact ih
theorem oh {i : Int} (h : small i = true) : -(2 ^ 64) < i /\ i < 2 ^ 64 := by
 simp only [small,decide_eq_true_eq] at h
 omega
noncomputable def rStr : R2 := fun x y H Q => ∃ i j,x = .str i /\ y = .str j /\ i.length + j.length <= sizeLine /\ Q (.str (i ++ j)) H
noncomputable def Cv (K : W.Frag) : R2 := fun x y H Q => ∃ l b xs zs,x = .ref l /\ y = .ref b /\ fk K H l xs /\ fk K H b zs /\ xs.length + zs.length <= sizeLine /\ ∀ p,H p = none -> Q (.ref p) (upd H p (.lst (xs ++ zs)))
noncomputable def Cs (K : W.Frag) : R2 := fun x y H Q => ∃ (l : Addr) (xs : List V) (k : Int),x = .ref l /\ y = .int k /\ fk K H l xs /\ xs.length * k.toNat <= sizeLine /\ k.natAbs <= 1000000 /\ ∀ p,H p = none -> Q (.ref p) (upd H p (.lst (List.replicate k.toNat xs).flatten))
noncomputable def HG (K : W.Frag) : B3 -> R2
 | .add => fun x y H Q => qt (fun i j => .int (i + j)) x y H Q \/ (rStr x y H Q \/ (Cv K x y H Q \/ Cu K x y H Q))
 | .sub => qt fun i j => .int (i - j)
 | .mul => fun x y H Q => rI B6 (fun i j => .int (i * j)) x y H Q \/ Cs K x y H Q
 | .fdiv => rI JS fun i j => .int (i / j)
 | .mod => rI (fun _ j => 0 < j) fun i j => .int (i % j)
 | .pow => rI JR fun i j => .int (i ^ j.toNat)
theorem bM : line <= sizeLine := by decide
theorem aj.rep {ds : List D} {vs : List V} (r : aj B F ρ H ds vs) : ∀ k : Nat,aj B F ρ H (List.replicate k ds).flatten (List.replicate k vs).flatten
 | 0 => aj.nil
 | k + 1 => by
  rw [List.replicate_succ,List.replicate_succ,List.flatten_cons,List.flatten_cons]
  exact r.append (aj.rep r k)
theorem AK {o : B3} {fz : Bool} {x y : D} {v w : V} {X : XK} (S : SR B F ρ M H) (rx : RD B F ρ H x v) (ry : RD B F ρ H y w) (h : Post B (uE o fz M x y) F ρ H Q X) : HG B.K o v w H Q := by
 unfold uE at h
 split at h
 ·rename_i i j
  simp only [RD] at rx ry
  subst rx ry
  cases o with
  | add => simp only [jx] at h; exact .inl ⟨i,j,rfl,rfl,ai.run h S (by simp only [RD])⟩
  | sub => simp only [jx] at h; exact ⟨i,j,rfl,rfl,ai.run h S (by simp only [RD])⟩
  | mul =>
   simp only [jx] at h
   split at h
   ·rename_i k hk
    split at hk
    ·rename_i hs
     cases hk
     refine .inl ⟨i,j,rfl,rfl,?_,ai.run h S (by simp only [RD])⟩
     simp only [Bool.or_eq_true] at hs
     rcases hs with hs | hs
     ·exact .inl (oh hs)
     ·exact .inr (oh hs)
    ·cases hk
   ·exact h.elim
  | fdiv =>
   simp only [jx] at h
   split at h
   ·rename_i k hk
    split at hk
    ·rename_i hs
     cases hk
     simp only [Bool.and_eq_true,decide_eq_true_eq] at hs
     exact ⟨i,j,rfl,rfl,⟨hs.1,by have := hs.2; omega⟩,ai.run h S (by simp only [RD])⟩
    ·cases hk
   ·exact h.elim
  | mod =>
   simp only [jx] at h
   split at h
   ·rename_i k hk
    split at hk
    ·rename_i hs
     cases hk
     exact ⟨i,j,rfl,rfl,of_decide_eq_true hs,ai.run h S (by simp only [RD])⟩
    ·cases hk
   ·exact h.elim
  | pow =>
   simp only [jx] at h
   split at h
   ·rename_i k hk
    split at hk
    ·rename_i hs
     cases hk
     simp only [Bool.and_eq_true,decide_eq_true_eq] at hs
     exact ⟨i,j,rfl,rfl,⟨hs.1,hs.2.1,hs.2.2⟩,ai.run h S (by simp only [RD])⟩
    ·cases hk
   ·exact h.elim
 ·rename_i a b
  simp only [RD] at rx ry
  subst rx ry
  cases o with
  | add =>
   simp only at h
   split at h
   ·rename_i hl
    exact .inr (.inl ⟨a,b,rfl,rfl,Nat.le_trans (of_decide_eq_true hl) bM,ai.run h S (by simp only [RD])⟩)
   ·exact h.elim
  | sub => exact h.elim
  | mul => exact h.elim
  | fdiv => exact h.elim
  | mod => exact h.elim
  | pow => exact h.elim
 ·cases o with
  | add =>
   simp only at h
   split at h
   ·rename_i xs ys hx hy
    split at h
    ·rename_i hl
     obtain ⟨a,vs,rfl,q1,r1⟩ := bS S rx hx
     obtain ⟨b,ws,rfl,q2,r2⟩ := bS S ry hy
     refine .inr (.inr (.inl ⟨a,b,vs,ws,rfl,rfl,q1,q2,?_,dm S h (r1.append r2)⟩))
     rw [<- aj.length r1,<- aj.length r2]
     exact Nat.le_trans (of_decide_eq_true hl) bM
    ·exact h.elim
   ·rename_i xs ys hx hy
    split at h
    ·rename_i hl
     simp only [Bool.and_eq_true,Bool.not_eq_true',decide_eq_true_eq] at hl
     cases x with
     | tup xs' =>
      simp only [vw] at hx; cases hx
      simp only [RD] at rx
      obtain ⟨a,vs,rfl,z1,r1⟩ := rx
      obtain ⟨b,ws,rfl,q2,r2⟩ := jR S ry hy
      refine .inr (.inr (.inr ⟨a,b,vs,ws,rfl,rfl,z1.sq,q2,?_,?_,fun e => ?_,fun _ => jG S h (r1.append r2)⟩))
      ·rintro rfl
       have := aj.length r1
       cases xs with
       | nil => simp at hl
       | cons _ _ => simp at this
      ·rw [<- aj.length r1,<- aj.length r2]
       exact Nat.le_trans hl.2 bM
      ·refine ai.run h S ?_
       simp only [RD]
       refine ⟨a,vs,rfl,z1,?_⟩
       have := r1.append r2
       rw [e,List.append_nil] at this
       exact this
     | ref n => simp only [vw] at hx; split at hx <;> cases hx
     | lst _ => simp only [vw] at hx; cases hx
     | dct _ _ => simp only [vw] at hx; cases hx
     | ak => simp only [vw] at hx; cases hx
     | bl _ => simp only [vw] at hx; cases hx
     | int _ => simp only [vw] at hx; cases hx
     | str _ => simp only [vw] at hx; cases hx
    ·exact h.elim
   ·exact h.elim
  | sub => exact h.elim
  | mul =>
   simp only at h
   split at h
   ·rename_i xs k hx _ _
    split at h
    ·rename_i hl
     simp only [Bool.and_eq_true,decide_eq_true_eq] at hl
     obtain ⟨a,vs,rfl,q1,r1⟩ := bS S rx (by assumption)
     simp only [RD] at ry
     subst ry
     refine .inr ⟨a,vs,k,rfl,rfl,q1,?_,hl.2,dm S h (aj.rep r1 _)⟩
     rw [<- aj.length r1]
     exact Nat.le_trans hl.1 bM
    ·exact h.elim
   ·exact h.elim
  | fdiv => exact h.elim
  | mod => exact h.elim
  | pow => exact h.elim
theorem Dw {o : B3} {fz : Bool} {a b : Fg.E} (h : T B Φ E (.op o fz a b) σ H Q) : Dl (HG B.K o) (T B Φ E a) (T B Φ E b) σ H Q := by
 obtain ⟨σD,M,F,ρ,S,r,h⟩ := h
 simp only [ev] at h
 exact T.two S r rfl h fun x y M2 F2 ρ2 H2 v w S2 _ rx ry h2 => AK S2 rx ry h2
theorem zX {a : Fg.E} (h : T B Φ E (.neg a) σ H Q) : tUn (rU fun i => .int (-i)) (T B Φ E a) σ H Q := by
 obtain ⟨σD,M,F,ρ,S,r,h⟩ := h
 simp only [ev] at h
 refine T.one S r rfl h fun x M1 F1 ρ1 H1 v e1 S1 r1 rx h1 => ?_
 split at h1
 ·simp only [RD] at rx; subst rx
  exact ⟨_,rfl,ai.run h1 S1 (by simp only [RD])⟩
 ·exact h1.elim
end
end Fg
end
section
set_option autoImplicit false
namespace Fg
open PySem PySem.Spec L2
noncomputable def Up (B : Heap) (l : List Env) (a : Addr) (C a0 : Value) (h : Heap) : Prop := B.StaysIn h /\ B.get? a = none /\ h.FunFrames B l /\ ∃ fl,h.TracedAtW B a C a0 fl
theorem Up.EA {B h : Heap} {l : List Env} {a : Addr} {C a0 : Value} (x : Heap.FlyingW B l a C a0 h) : Up B l a C a0 h := ⟨x.1,x.2.1,x.2.2.1,_,x.2.2.2.at⟩
theorem Up.sL {B h : Heap} {l : List Env} {a L : Addr} {C a0 : Value} (x : Heap.HeldW B l a C a0 L h) : Up B l a C a0 h := ⟨x.1,x.2.1,x.2.2.1,_,x.2.2.2⟩
theorem mH {e : Value} {env env' : Env} (h : env.frame = env'.frame) : noteFrame e env = noteFrame e env' := by
 unfold noteFrame frameOf
 rw [h]
section
variable {M : Model} {A : Around} {E : Value -> Shared -> Prop} {s : Shared} {B : Heap} {env : Env} {outer : List Env} {L a : Addr} {C a0 : Value}
theorem Up.note {Q : Unit -> Shared -> Prop} (hfr : A.frames = some (env :: outer)) (hf : env.frame = some L) (up : Up B (env :: outer) a C a0 s.heap) (k : ∀ h',Heap.HeldW B (env :: outer) a C a0 L h' -> s.heap.UpToSlots h' -> Q () { s with heap := h' }) :
  wpAny M A (noteFrame (.ref a) env) Q E s := by
 obtain ⟨st,ne,hl,fl,oe,vs,T,oT,ts,q1,⟨q2,q2'⟩,q3,q4,q5,q6,q7,q8,q9⟩ := up
 by_cases same : (fl == rawInt L) = true
 ·have e : fl = rawInt L := by simpa using same
  subst e
  exact wpAny_noteFrame_againW hf ⟨oe,vs,T,oT,ts,q1,⟨q2,q2'⟩,q3,q4,q5,q6,q7,q8,q9⟩ (k s.heap ⟨st,ne,hl,oe,vs,T,oT,ts,q1,⟨q2,q2'⟩,q3,q4,q5,q6,q7,q8,q9⟩ (Heap.UpToSlots.refl _))
 ·subst q2
  unfold noteFrame
  simp only [hf]
  refine wpAny_bind (wpAny_field q1 q3 q4 ?_)
  rw [if_pos (by simp)]
  refine wpAny_bind (wpAny_field q7 q8 q9 ?_)
  rw [if_neg same]
  refine wpAny_bind (wpAny_setField q7 q8 (Array.getElem?_eq_some_iff.mp q9).1 ?_)
  have sH : ∀ b,b ≠ T -> (s.heap.update T (Obj.mapFields (·.setIfInBounds 3 Value.none))).get? b = s.heap.get? b := fun b hb => Heap.get?_update_other _ _ fun z => hb z.symm
  have oJ : ∀ b o,s.heap.get? b = some o -> (∀ vs,o.data ≠ .fields vs) -> b ≠ T := fun b o hb hn z => by
   subst z; rw [q7] at hb; cases hb; exact hn ts q8
  refine wpAny_entryW (base := B) (a0 := a0) hfr ?_ hf ?_ ?_ ne q3 (Array.getElem?_eq_some_iff.mp q4).1 q2' fun h' nw => ?_
  ·exact hl.of_keeps fun b o hb hn => ⟨o,by rw [sH b (oJ b o hb hn),hb],rfl⟩
  ·rw [sH a fun z => q6 z.symm]; exact q1
  ·intro b o e
   rw [sH b (by rintro rfl; rw [q5] at e; cases e)]
   exact st b o e
  ·obtain ⟨x1,x2,x3,x4⟩ := nw
   exact k h' ⟨x1,ne,x2,x3⟩ fun b o hb hn => x4 b o (by rw [sH b (oJ b o hb hn),hb]) hn
theorem Up.leave {Q : Unit -> Shared -> Prop} (hfr : A.frames = some (env :: outer)) (hf : env.frame = some L) (up : Up B (env :: outer) a C a0 s.heap) (k : ∀ h',Heap.FlyingW B outer a C a0 h' -> s.heap.UpToSlots h' -> Q () { s with heap := h' }) :
  wpAny M A (leaving env (.ref a)) Q E s :=
 wpAny_bind (up.note hfr hf fun h4 held vM => wpAny_landsW held fun h5 fl zN => k h5 ⟨fl.1,fl.2.1,fl.2.2.1.2.2,fl.2.2.2⟩ (vM.trans zN))
end
end Fg
end
section
set_option autoImplicit false
namespace Fg
open PySem PySem.Spec L2
open PyProof.Rows (AllBare envOfC)
theorem lA {P : Program} {w : World} {H : Hp} {h : Heap} {a : Addr} {o : HO} (x : aV P w H h a o) : ∃ ob,h.get? a = some ob := by
 cases o with
 | lst xs => obtain ⟨_,_,_,_,e⟩ := x; exact ⟨_,e⟩
 | tup xs => obtain ⟨_,_,_,_,e,_⟩ := x; exact ⟨_,e⟩
 | dK kvs => obtain ⟨_,_,_,_,o,_,_,e,_⟩ := x; exact ⟨_,e⟩
 | dT kvs => obtain ⟨_,_,_,_,o,_,_,e,_⟩ := x; exact ⟨_,e⟩
 | set S n => obtain ⟨o,_,_,_,e,_⟩ := x; exact ⟨_,e⟩
 | ins C dx fs => obtain ⟨_,_,_,e,_⟩ := x; exact ⟨_,e⟩
 | own y => obtain ⟨_,e⟩ := x; exact ⟨_,e⟩
 | xd fs => obtain ⟨_,⟨_,_,_,e,_⟩,_⟩ := x; exact ⟨_,e⟩
 | gK lo hi => obtain ⟨_,_,_,e⟩ := x; exact ⟨_,e⟩
 | fh ob u => obtain ⟨e,_⟩ := x; exact ⟨_,e⟩
 | Ca ps => exact ⟨_,(show h.get? a = some _ from x)⟩
 | met f y => exact ⟨_,(show h.get? a = some _ from x)⟩
 | ext φ => obtain ⟨_,⟨_,e⟩,_⟩ := x; exact ⟨_,e⟩
noncomputable def Calm (B : Heap) (fr ex : List Addr) (H : Hp) (h₀ : Heap) : Prop := ∀ b,(H b ≠ none \/ (∃ o,h₀.get? b = some o) /\ b ∉ ex) -> b ∉ fr -> ∃ o,B.get? b = some o
theorem Calm.at {B h : Heap} {fr ex : List Addr} {H : Hp} {h₀ : Heap} (c : Calm B fr ex H h₀) (st : B.StaysIn h) {b : Addr} {o : Obj} (e : h.get? b = some o) (q : H b ≠ none \/ (∃ o,h₀.get? b = some o) /\ b ∉ ex) (hf : b ∉ fr) : B.get? b = some o := by
 obtain ⟨o',e'⟩ := c b q hf
 have := st _ _ e'
 rw [e] at this; cases this
 exact e'
noncomputable def gM (P : Program) (w : World) : yY := fun outer H s E e s' => ∃ (H' : Hp) (a : Addr) (a0 C : Value) (B : Heap),e = .ref a /\ s'.os = s.os /\ AllBare s'.gens /\ Un (frs outer) [] H H' s.heap s'.heap /\ gf P w H' s'.heap /\
 Heap.FlyingW B outer a C a0 s'.heap /\ Calm B (frs outer) [] H' s.heap /\ E C none H'
noncomputable def iL (X : Cx) (E : XS) (e : Value) (s : Shared) : Prop := ∃ (pins : List (Addr × Obj)) (σ : St) (H : Hp) (a : Addr) (a0 C : Value) (B : Heap),e = .ref a /\ Inv X pins σ H s /\
 Up B X.stack a C a0 s.heap /\ Calm B (frs X.stack) X.ex H X.s₀.heap /\ (∀ p ∈ X.pn,B.get? p.1 = some p.2) /\ E C none σ H
noncomputable def Dc (X : Cx) (E : XS) (e : Value) (s : Shared) : Prop := ∃ (pins : List (Addr × Obj)) (σ : St) (H : Hp) (a : Addr) (C : Value) (vs : List Value) (h : Heap),e = .ref a /\ Inv X pins σ H { s with heap := h } /\ Heap.MadeExcOf h s.heap a C vs /\ E C none σ H
theorem mW {fs fr ex : List Addr} {H₀ H H₁ : Hp} {h₀ h h' B : Heap} (u : Un fs ex H₀ H h₀ h) (fj : Calm B fr ex H₁ h₀) (jw : B.StaysIn h) (st : B.StaysIn h') (sm : ∀ b ∈ fr,∀ o,h.get? b = some o -> ∃ sl,h'.get? b = some { o with slots := sl })
  (frd : ∀ b ∈ fr,b < h₀.objs.size -> b ∈ fs) : Un fs ex H₀ H h₀ h' where
 keep := fun b o e n0 hb hx => st _ _ (fj.at jw (u.keep b o e n0 hb hx) (.inr ⟨⟨_,e⟩,hx⟩) fun z => hb (frd b z (Heap.lt_size e)))
 slot := fun b o e n0 hb hx => by
  obtain ⟨sl,e1⟩ := u.slot b o e n0 hb hx
  by_cases z : b ∈ fr
  ·obtain ⟨Ck,e2⟩ := sm b z _ e1
   exact ⟨Ck,e2⟩
  ·exact ⟨sl,st _ _ (fj.at jw e1 (.inr ⟨⟨_,e⟩,hx⟩) z)⟩
 free := u.free
 there := fun b o e hx => by
  obtain ⟨o',e1⟩ := u.there b o e hx
  by_cases z : b ∈ fr
  ·obtain ⟨Ck,e2⟩ := sm b z _ e1
   exact ⟨_,e2⟩
  ·exact ⟨_,st _ _ (fj.at jw e1 (.inr ⟨⟨_,e⟩,hx⟩) z)⟩
 tups := u.tups
 fV := u.fV
 gP := u.gP
theorem jM {P : Program} {w : World} {fr ex : List Addr} {H : Hp} {h₀ h h' B : Heap} (k : gf P w H h) (fj : Calm B fr ex H h₀) (jw : B.StaysIn h) (st : B.StaysIn h') (free : ∀ b ∈ fr,H b = none) : gf P w H h' := fun a o e =>
 (k a o e).stay (fun b u hb e' => by
  have tr : H b ≠ none := by
   rcases hb with rfl | hb
   ·rw [e]; simp
   ·rw [hb]; simp
  exact st _ _ (fj.at jw e' (.inl tr) fun z => tr (free b z))) (fun _ q => q) fun _ _ q => q
section
variable {X : Cx} {pins : List (Addr × Obj)} {σ : St} {H : Hp} {s : Shared}
theorem o4 (I : Inv X pins σ H s) : ∀ b ∈ frs X.stack,∀ o,s.heap.get? b = some o -> ∀ vs,o.data ≠ .fields vs := fun b hb o e vs => by
 obtain ⟨_,o',e',d⟩ := I.stack.mem hb
 rw [e] at e'; cases e'
 exact d vs
theorem qU {h' : Heap} (I : Inv X pins σ H s) (sm : s.heap.UpToSlots h') : ∀ b ∈ frs X.stack,∀ o,s.heap.get? b = some o -> ∃ sl,h'.get? b = some { o with slots := sl } := fun b hb o e => sm b o e (o4 I b hb o e)
theorem mV (I : Inv X pins σ H s) : ∀ b ∈ frs X.stack,b < X.s₀.heap.objs.size -> b ∈ X.fs := fun b hb hl => by
 rcases List.mem_cons.mp (I.dQ b hb) with e | z
 ·subst e; exact absurd (Nat.lt_of_lt_of_le hl I.ok.above) (Nat.lt_irrefl _)
 ·exact z
theorem fR (I : Inv X pins σ H s) {b : Addr} {o : Obj} (e : X.s₀.heap.get? b = some o) (hx : b ∉ X.ex) : ∃ o',s.heap.get? b = some o' := I.base.there b o e hx
theorem passes {E : XS} (hx : ∀ e s,iL X E e s -> X.xe e s) (pins : List (Addr × Obj)) (σ : St) (H : Hp) (s : Shared) (e : Value) (s' : Shared) (I : Inv X pins σ H s) (q : gM X.prog X.w X.stack H s (fun cv x H' => E cv x σ H') e s') : X.xe e s' := by
 obtain ⟨H',a,a0,C,B,rfl,os,bare,un,hok,fl,fj,q⟩ := q
 have I' := I.yG (ch := []) os un hok bare (fun b z => absurd z (by simp))
 refine hx _ _ ⟨pins,σ,H',a,a0,C,B,rfl,I',.EA fl,fun b hb hf => fj b (hb.imp id fun ⟨⟨o,z⟩,n⟩ => ⟨fR I z n,by simp⟩) hf,fun p hp => ?_,q⟩
 obtain ⟨p1,p2,p3,p4,_⟩ := I'.pin p (List.mem_append_left _ hp)
 refine fj.at fl.1 p1 (.inr ⟨⟨_,(I.pin p (List.mem_append_left _ hp)).1⟩,by simp⟩) fun z => ?_
 rcases List.mem_cons.mp (I.dQ _ z) with e | z
 ·exact p3 e
 ·exact p4 z
end
section
variable {P : Program} {w : World} {K : W.Frag} {mg : Str -> Option Value} {base : Heap} {N : List Str} {qual : Str} {scope : Scope} {f : Addr} {cd : Value} {A : Around} {outer : List Env} {s : Shared} {H : Hp} {E : XK}
theorem oZ (b : Addr) (h : b ∈ frs (envOfC qual scope s.heap.objs.size f cd :: outer)) : b = s.heap.objs.size \/ b ∈ frs outer := by
 unfold frs at h
 rw [List.filterMap_cons] at h
 exact List.mem_cons.mp h
theorem xo {pins : List (Addr × Obj)} {σ : St} {H' : Hp} {s' : Shared} {a : Addr} {a0 C : Value} {B h' : Heap} (I : Inv (iH (gM P w) P w K mg base N qual scope f cd A outer s H E) pins σ H' s') (jw : B.StaysIn s'.heap) (fj : Calm B (frs (envOfC qual scope s.heap.objs.size f cd :: outer)) [] H' s.heap)
  (q : E C none H') (Bo : Heap.FlyingW B outer a C a0 h') (sm : s'.heap.UpToSlots h') : gM P w outer H s E (.ref a) { s' with heap := h' } := by
 refine ⟨H',a,a0,C,B,rfl,I.os,I.bare,mW I.base fj jw Bo.1 (qU I sm) (mV I),jM I.hok fj jw Bo.1 I.fO,Bo,fun b hb hf => fj b hb fun z => ?_,q⟩
 rcases oZ b z with e | z
 ·subst e
  rcases hb with hb | ⟨⟨o,hb⟩,_⟩
  ·exact hb I.free
  ·exact absurd (Heap.lt_size hb) (Nat.lt_irrefl _)
 ·exact hf z
theorem uJ (e : Value) (s' : Shared) (q : iL (iH (gM P w) P w K mg base N qual scope f cd A outer s H E) (fun cv x _ H' => E cv x H') e s') : (iH (gM P w) P w K mg base N qual scope f cd A outer s H E).xe e s' := by
 obtain ⟨pins,σ,H',a,a0,C,B,rfl,I,up,fj,_,q⟩ := q
 exact up.leave (L := s.heap.objs.size) I.ok.frames rfl fun h' Bo sm => xo I up.1 fj q Bo sm
theorem leave_new (e : Value) (s' : Shared) (q : Dc (iH (gM P w) P w K mg base N qual scope f cd A outer s H E) (fun cv x _ H' => E cv x H') e s') : (iH (gM P w) P w K mg base N qual scope f cd A outer s H E).xe e s' := by
 obtain ⟨pins,σ,H',a,C,vs,h,rfl,I,made,q⟩ := q
 have hin : ∀ env ∈ (envOfC qual scope s.heap.objs.size f cd :: outer),∀ b,env.frame = some b -> b ∈ frs (envOfC qual scope s.heap.objs.size f cd :: outer) := fun env he b hb => List.mem_filterMap.mpr ⟨env,he,hb⟩
 refine wpAny_leaves_madeW (base := W.hideAll h (frs (envOfC qual scope s.heap.objs.size f cd :: outer))) I.ok.frames rfl (fun b o q => W.of_hideAll _ q) (W.funFrames_hide I.stack hin) made fun h' t Bo tup tn sm => ?_
 have jw : (W.hideAll h (frs (envOfC qual scope s.heap.objs.size f cd :: outer))).StaysIn h := fun b o q => W.of_hideAll _ q
 have fj : Calm (W.hideAll h (frs (envOfC qual scope s.heap.objs.size f cd :: outer))) (frs (envOfC qual scope s.heap.objs.size f cd :: outer)) [] H' s.heap := fun b hb hf => by
  have : ∃ o,h.get? b = some o := by
   rcases hb with hb | ⟨⟨o,hb⟩,_⟩
   ·cases e : H' b with
    | none => exact absurd e hb
    | some o => exact lA (I.hok b o e)
   ·exact fR I hb (by simp [iH])
  obtain ⟨o,e⟩ := this
  exact ⟨o,W.hideAll_get _ e hf⟩
 have sm' : h.UpToSlots h' := (Heap.UpToSlots.of_keeps made.keeps).trans sm
 refine ⟨H',a,_,C,_,rfl,I.os,I.bare,mW I.base fj jw Bo.1 (qU I sm') (mV I),jM I.hok fj jw Bo.1 I.fO,Bo,fun b hb hf => fj b hb fun z => ?_,q⟩
 rcases oZ b z with e | z
 ·subst e
  rcases hb with hb | ⟨⟨o,hb⟩,_⟩
  ·exact hb I.free
  ·exact absurd (Heap.lt_size hb) (Nat.lt_irrefl _)
 ·exact hf z
end
end Fg
end
section
set_option autoImplicit false
namespace Fg
open PySem PySem.Spec L2
open PyProof.Rows (AllBare envOfC)
noncomputable def pT (K : W.Frag) (C : Addr) (bmB : List Value) (newId : String) (bm : List Value) : Prop :=
 ∃ nm q N bs hdct sn sub ab col dd k0 k1 k2 k3 k5, K.lookup C = some (excClassObj nm q C N bs bm hdct sn sub ab col dd k0 k1 k2 k3 k5 newId) /\ W.nsOkIn K N = true /\ W.nsIn K N "__init__" = some none /\ W.tailIn K bmB bm = true
variable {X : Cx} {E : XS}
theorem oM {x : Str} {C : Addr} {B newId initId : String} {bmB bm : List Value} {a : Expr} {t : TA} {np cpos pos : Pos} (hm : X.mg x = some (.ref C)) (hk : X.env.kindOf x = some .globalImplicit) (hd : (x == ("__debug__" : Str)) = false)
  (EC : pT X.K C bmB newId bm) (FB : ExcBaseFacts B newId initId bmB) (calm : X.calm = true) (hs : starEach [a] X.env = [(false,eval a X.env)]) (ha : PA X [a] t) (hx : ∀ e s,Dc X E e s -> X.xe e s) :
  PS X (.Raise (some (.Call (.Name x np) [a] [] cpos)) none pos) (fun D σ H => t σ H fun vs H1 => vs.length <= sizeLine /\ E (.ref C) none σ H1) := by
 obtain ⟨nm,q,N,bs,hdct,sn,sub,ab,col,dd,k0,k1,k2,k3,k5,lk,ok,ni,tl⟩ := EC
 intro pins s σ H D I ht
 have tail : ∀ {h : Heap},X.K.In h -> PySem.OwnTail h bmB bm := fun KX => W.tail_of_in KX tl
 refine wpAny_Raise_call_subT (C := C) (nm := nm) (q := q) (N := N) (bs := bs) (bm := bm) (hdct := hdct) (sn := sn) (sub := sub) (ab := ab) (col := col) (dd := dd) (k0 := k0) (k1 := k1) (k2 := k2) (k3 := k3) (k5 := k5) FB (mN := X.base.nsMap N)
  ((tail I.gw).hasType FB.hasBase) (I.ok.hd calm) (by rw [hs]; rfl) (W.nsMap_none_of_in I.mod.A3 ok ni)
  (Calls.Name_function_global I.ok.kind hk (Calls.loadGlobal_global (by rw [I.ok.glob]; exact I.mod.glob.keeps I.bk) hm ⟨rfl,?_⟩) hd)
 have z := ha cpos pins s σ H _ I ht
 rw [hs] at z ⊢
 refine Calls.evalArgs_plain (aW z fun us s2 y => ?_)
 obtain ⟨vs,H1,I1,r,hl,q⟩ := y
 refine ⟨rfl,by rw [<- r.length]; exact hl,I1.gw _ _ lk,(Heap.Ns.of_isNs (W.isNs_of_in I.mod.A3 ok)).keeps I1.bk,tail I1.gw,fun h' e made => hx _ _ ⟨pins,σ,H1,e,.ref C,us,s2.heap,rfl,I1,made,q⟩⟩
end Fg
end
section
set_option autoImplicit false
namespace Fg
open PySem PySem.Spec L2
noncomputable abbrev gb (X : Cx) (pins : List (Addr × Obj)) : Cx := { X with pn := X.pn ++ pins }
theorem rP {X : Cx} {pins : List (Addr × Obj)} (ok : X.Ok) : (gb X pins).Ok :=
 ⟨ok.mod,ok.kind,ok.glob,ok.blt,ok.above,ok.inj,ok.has,ok.C0,ok.hd,ok.frames,ok.stk,ok.Jj,ok.bs,ok.vj,ok.oR,ok.qX,ok.gx,ok.zb⟩
theorem nL {X : Cx} {pins : List (Addr × Obj)} (ok : (gb X pins).Ok) : X.Ok :=
 ⟨ok.mod,ok.kind,ok.glob,ok.blt,ok.above,ok.inj,ok.has,ok.C0,ok.hd,ok.frames,ok.stk,ok.Jj,ok.bs,ok.vj,ok.oR,ok.qX,ok.gx,ok.zb⟩
section
variable {X : Cx} {pins j8 : List (Addr × Obj)} {σ : St} {H : Hp} {s : Shared}
theorem xR (I : Inv X pins σ H s) : Inv (gb X pins) [] σ H s := ⟨rP I.ok,I.os,I.bare,I.base,I.loc,I.cell,I.free,I.b7,fun p hp => I.pin p (by simpa using hp),I.hok,I.len⟩
theorem d7 (I : Inv (gb X pins) j8 σ H s) : Inv X pins σ H s := ⟨nL I.ok,I.os,I.bare,I.base,I.loc,I.cell,I.free,I.b7,fun p hp => I.pin p (List.mem_append_left _ hp),I.hok,I.len⟩
theorem k8 {D : Ends} {f : Flow} {s' : Shared} (h : SP (gb X pins) j8 D f s') : SP X pins D f s' := by
 cases f with
 | next => obtain ⟨σ',H',I,q⟩ := h; exact ⟨σ',H',d7 I,q⟩
 | brk => obtain ⟨σ',H',I,q⟩ := h; exact ⟨σ',H',d7 I,q⟩
 | cont => obtain ⟨σ',H',I,q⟩ := h; exact ⟨σ',H',d7 I,q⟩
 | ret u => obtain ⟨v,σ',H',I,r,q⟩ := h; exact ⟨v,σ',H',d7 I,r,q⟩
theorem jL {B h' : Heap} (I : Inv X pins σ H s) (fj : Calm B (frs X.stack) X.ex H X.s₀.heap) (hp : ∀ p ∈ X.pn,B.get? p.1 = some p.2) (jw : B.StaysIn s.heap) (st : B.StaysIn h') (sm : s.heap.UpToSlots h') : Inv X [] σ H { s with heap := h' } := by
 have cel : ∀ c v,s.heap.IsCell c v -> h'.IsCell c v := fun c v ⟨o,e,d⟩ => by
  obtain ⟨sl,e'⟩ := sm c o e (fun vs z => by rw [d] at z; cases z)
  exact ⟨_,e',d⟩
 refine ⟨I.ok,I.os,I.bare,mW I.base fj jw st (qU I sm) (mV I),?_,fun x c e => ?_,I.free,I.b7,fun p q => ?_,jM I.hok fj jw st I.fO,I.len⟩
 ·obtain ⟨m,hn,hv⟩ := I.loc
  refine ⟨m,sm.ns hn,fun i x v h1 h2 h3 => ?_⟩
  obtain ⟨u,r,lk⟩ := hv i x v h1 h2 h3
  refine ⟨u,r,lk.imp id fun ⟨z,c,h4,h5⟩ => ⟨z,c,h4,cel _ _ h5⟩⟩
 ·obtain ⟨v,h5⟩ := I.cell x c e
  exact ⟨v,cel _ _ h5⟩
 ·have q' : p ∈ X.pn := by simpa using q
  obtain ⟨_,p2⟩ := I.pin p (List.mem_append_left _ q')
  exact ⟨st _ _ (hp p q'),p2⟩
end
noncomputable abbrev suite (X : Cx) (e : Value) : Cx := { X with A := X.A.mark (some e),calm := false,xe := fun _ _ => False }
section
variable {X : Cx} {pins j8 : List (Addr × Obj)} {σ : St} {H : Hp} {s : Shared} {e : Value}
theorem vE (ok : X.Ok) : (suite X e).Ok :=
 ⟨ok.mod,ok.kind,ok.glob,ok.blt,ok.above,ok.inj,ok.has,ok.C0,(fun z => by cases z),ok.frames,ok.stk,ok.Jj,ok.bs,ok.vj,ok.oR,ok.qX,ok.gx,ok.zb⟩
theorem uM (I : Inv X pins σ H s) : Inv (suite X e) pins σ H s := ⟨vE I.ok,I.os,I.bare,I.base,I.loc,I.cell,I.free,I.b7,I.pin,I.hok,I.len⟩
theorem cX (ok : X.Ok) (I : Inv (suite X e) pins σ H s) : Inv X pins σ H s := ⟨ok,I.os,I.bare,I.base,I.loc,I.cell,I.free,I.b7,I.pin,I.hok,I.len⟩
theorem qb (ok : X.Ok) {D : Ends} {f : Flow} {s' : Shared} (h : SP (suite X e) pins D f s') : SP X pins D f s' := by
 cases f with
 | next => obtain ⟨σ',H',I,q⟩ := h; exact ⟨σ',H',cX ok I,q⟩
 | brk => obtain ⟨σ',H',I,q⟩ := h; exact ⟨σ',H',cX ok I,q⟩
 | cont => obtain ⟨σ',H',I,q⟩ := h; exact ⟨σ',H',cX ok I,q⟩
 | ret u => obtain ⟨v,σ',H',I,r,q⟩ := h; exact ⟨v,σ',H',cX ok I,r,q⟩
end
section
variable {M : Model} {A : Around} {E : Value -> Shared -> Prop} {nm q : Str} {C N : Addr} {bs bm : List Value} {hdct : Bool} {sn : List Str} {sub : List Value} {ab : Bool} {col : Option Bool} {dd : Option Addr} {k0 k1 k2 k3 k5 : Option Value} {newId : String}
 {nm' q' : Str} {C' N' : Addr} {bs' bm' : List Value} {CK : Bool} {sn' : List Str} {sub' : List Value} {ab' : Bool} {col' : Option Bool} {Gb : Option Addr} {l0 l1 l2 l3 l5 : Option Value} {newId' : String}
theorem pB {h : Heap} {g : Array GenState} {d : Drawn} {t : Nat} {os : OsState} {e : Addr} {oe : Obj} {b : Bool} {Q : Bool -> Shared -> Prop}
  (hC : h.get? C = some (excClassObj nm q C N bs bm hdct sn sub ab col dd k0 k1 k2 k3 k5 newId)) (hD : h.get? C' = some (excClassObj nm' q' C' N' bs' bm' CK sn' sub' ab' col' Gb l0 l1 l2 l3 l5 newId')) (he : h.get? e = some oe) (hcls : oe.cls = .ref C)
  (hb' : (Value.ref C' :: bm').contains (.type "BaseException") = true) (hb : (Value.ref C :: bm).contains (.ref C') = b) (hq : Q b ⟨h, g, d, t, os⟩) : wpAny M A (excMatches (.ref e) (.ref C')) Q E ⟨h, g, d, t, os⟩ := by
 have f := tc_notTuple
 unfold excMatches
 repeat (first | (with_reducible refine wpAny_loadPart_at he ?_; rw [hcls]) | with_reducible refine wpAny_loadPart_at hD ?_ | (with_reducible refine wpAny_isSubtype_exc hD ?_; rw [hb']) | (with_reducible refine wpAny_isSubtype_exc hC ?_; rw [hb]) | wp_step)
 cases b <;> (wp_walk; exact hq)
end
noncomputable def pick (mro : List Value) : List (Addr × TS) -> Option TS
 | [] => none
 | (C',t) :: r => if mro.contains (.ref C') then some t else pick mro r
noncomputable def EH (K : W.Frag) (rs : List (Addr × TS)) (D : Ends) : XS := fun cv x σ H => ∃ C bmB newId bm t,cv = .ref C /\ pT K C bmB newId bm /\ pick (.ref C :: bm) rs = some t /\ t D σ H
inductive PH (X : Cx) : List ExceptHandler -> List (Addr × TS) -> Prop
 | nil : PH X [] []
 | cons {x : Str} {C' : Addr} {bmB : List Value} {newId : String} {bm : List Value} {b₀ : Stmt} {b : List Stmt} {t : TS} {np pos : Pos} {hs : List ExceptHandler} {rs : List (Addr × TS)} :
   X.mg x = some (.ref C') -> Gl X x -> (x == ("__debug__" : Str)) = false -> pT X.K C' bmB newId bm -> bm.contains (.type "BaseException") = true -> (∀ e, jP (suite X e) (b₀ :: b) t) -> PH X hs rs ->
   PH X (.ExceptHandler (some (.Name x np)) none (b₀ :: b) pos :: hs) ((C',t) :: rs)
theorem handle {X : Cx} {hs : List ExceptHandler} {rs : List (Addr × TS)} (ph : PH X hs rs) {C a : Addr} {a0 : Value} {B : Heap} {bmB : List Value} {newId : String} {bm : List Value} {t : TS} {D : Ends} {σ : St} {H : Hp} {s : Shared} (EC : pT X.K C bmB newId bm) (pk : pick (.ref C :: bm) rs = some t)
  (I : Inv X [] σ H s) (fl : Heap.FlyingW B X.stack a (.ref C) a0 s.heap) (fj : Calm B (frs X.stack) X.ex H X.s₀.heap) (hp : ∀ p ∈ X.pn,B.get? p.1 = some p.2) (ht : t D σ H) :
  wpAny (model X.prog X.w) X.A (handleBy (.ref a) X.env hs) (SP X [] D) X.xe s := by
 induction ph with
 | nil => cases pk
 | cons hm hg hd EC' hb' hsu ph ih =>
  obtain ⟨hp',g,d,tk,os⟩ := s
  obtain ⟨oe,CJ,hcl⟩ := fl.there
  obtain ⟨nm,q,N,bs,hdct,sn,sub,ab,col,dd,k0,k1,k2,k3,k5,lk,_⟩ := EC
  obtain ⟨nm',q',N',bs',CK,sn',sub',ab',col',Gb,l0,l1,l2,l3,l5,lk',_⟩ := EC'
  refine wpAny_handleBy_cons (codeAny_handlers_test (Calls.Name_function_global I.ok.kind hg (Calls.loadGlobal_global (by rw [I.ok.glob]; exact I.mod.glob.keeps I.bk) hm ?_) hd)) (by intro q; cases q)
  refine pB (I.gw _ _ lk) (I.gw _ _ lk') CJ hcl (by rw [List.contains_cons,hb',Bool.or_true]) rfl ?_
  simp only [pick] at pk
  cases hc : (Value.ref C :: bm).contains (.ref _) with
  | true =>
   rw [hc] at pk
   simp only [if_true,Option.some.injEq] at pk
   subst pk
   refine codeAny_handlers_suite (PyProof.Rows.lands_againW fl fun h6 fl6 sm6 => ?_)
   have I6 := jL I fj hp fl.1 fl6.1 sm6
   exact wpAny_mono (hsu (.ref a) [] _ σ H D (uM I6) ht) (fun f s2 z => qb I.ok z) fun _ _ z => z.elim
  | false =>
   rw [hc] at pk
   exact ih pk
theorem DT {X : Cx} {body : List Stmt} {h₀ : ExceptHandler} {hs : List ExceptHandler} {pos : Pos} {rs : List (Addr × TS)} {t : Ends -> TS} (stk : X.stack = X.env :: X.outer) (hf : X.env.frame = some X.env.locals)
  (hb : ∀ pins D,jP ((gb X pins).bI (iL (gb X pins) (EH X.K rs D))) body (t D)) (ph : ∀ pins,PH (gb X pins) (h₀ :: hs) rs) : PS X (.Try body (h₀ :: hs) [] [] pos) (fun D σ H => t D D σ H) := by
 intro pins s σ H D I ht
 refine wpAny_Try_except (wpAny_mono (hb pins D [] s σ H D ((xR I).bI _) ht) (fun f s1 z => ?_) fun e s1 z => ?_)
 ·have z' := k8 (SP.aY z)
  cases f with
  | next => exact wpAny_execs_nil z'
  | brk => exact z'
  | cont => exact z'
  | ret u => exact z'
 ·obtain ⟨j8,σ1,H1,a,a0,cv,B,rfl,I1,fl,fj,hp,C,bmB,newId,bm,tt,rfl,EC,pk,hts⟩ := z
  have go : ∀ h5,Heap.FlyingW B (X.env :: X.outer) a (.ref C) a0 h5 -> s1.heap.UpToSlots h5 -> wpAny (model X.prog X.w) X.A (handleBy (.ref a) X.env (h₀ :: hs)) (SP X pins D) X.xe { s1 with heap := h5 } := fun h5 Ku zN => by
   have I5 := jL I1 fj hp fl.1 Ku.1 zN
   exact wpAny_mono (handle (ph pins) EC pk I5 (by show Heap.FlyingW B X.stack _ _ _ _; rw [stk]; exact Ku) fj hp hts) (fun f s2 z => k8 z) fun _ _ z => z
  exact Up.note (L := X.env.locals) (env := X.env) (outer := X.outer) (by rw [I.ok.frames,stk]) hf (by rw [<- stk]; exact fl) fun h4 held vM => wpAny_landsW held fun h5 Ku zN => go h5 Ku (vM.trans zN)
end Fg
end
section
set_option autoImplicit false
namespace Fg
open PySem PySem.Spec L2
theorem Up.pass {M : Model} {A : Around} {E : Value -> Shared -> Prop} {s : Shared} {α : Type} {Q : α -> Shared -> Prop} {B : Heap} {l : List Env} {a : Addr} {C a0 : Value} {env : Env} {what : String} (up : Up B l a C a0 s.heap)
  (k : ∀ h',Up B l a C a0 h' -> s.heap.UpToSlots h' -> E (.ref a) { s with heap := h' }) : wpAny M A (passOn what (.ref a) env : Sem α) Q E s := by
 obtain ⟨st,ne,hl,fl,oe,vs,T,oT,ts,q1,q2,q3,q4,q5,q6,q7,q8,q9⟩ := up
 have q0 : 3 < ts.size := (Array.getElem?_eq_some_iff.mp q9).1
 have sH : ∀ x b,b ≠ T -> (s.heap.update T (Obj.mapFields (·.setIfInBounds 3 x))).get? b = s.heap.get? b := fun x b hb => Heap.get?_update_other _ _ (Ne.symm hb)
 have oJ : ∀ b o,s.heap.get? b = some o -> (∀ vs,o.data ≠ .fields vs) -> b ≠ T := fun b o hb hn z => by
  rw [z,q7] at hb
  cases hb
  exact hn ts q8
 unfold passOn
 refine wpAny_bind (wpAny_field q1 q3 q4 ?_)
 rw [if_neg (by simp)]
 refine wpAny_bind ?_
 unfold setFlight
 refine wpAny_bind (wpAny_field q1 q3 q4 ?_)
 rw [if_pos (by simp)]
 refine wpAny_setField q7 q8 q0 ?_
 refine wpAny_throw (k _ ⟨fun b o e => ?_,ne,hl.of_keeps fun b o hb hn => ⟨o,(sH _ b (oJ b o hb hn)).trans hb,rfl⟩,?_⟩ fun b o hb hn => ⟨o.slots,(sH _ b (oJ b o hb hn)).trans hb⟩)
 ·exact (sH _ b (by rintro rfl; rw [q5] at e; cases e)).trans (st b o e)
 ·exact ⟨_,oe,vs,T,_,_,(sH _ a (Ne.symm q6)).trans q1,q2,q3,q4,q5,q6,Heap.get?_update_self _ q7 (Obj.isFreed_of_fields (Obj.data_mapFields q8 _)),Obj.data_mapFields q8 _,Array.getElem?_setIfInBounds_self_of_lt q0⟩
theorem Up.hide {B h h' : Heap} {l : List Env} {a c : Addr} {C a0 : Value} (up : Up B l a C a0 h) (sb : Heap.SameBut c h h') (hc : ∃ o,h.get? c = some o /\ ∀ vs,o.data ≠ .fields vs) (hfr : c ∉ frs l) : Up (B.hide c) l a C a0 h' := by
 obtain ⟨st,ne,hl,fl,oe,vs,T,oT,ts,q1,q2,q3,q4,q5,q6,q7,q8,q9⟩ := up
 obtain ⟨oc,hoc,hd⟩ := hc
 have hn : ∀ {b : Addr},B.get? b = none -> (B.hide c).get? b = none := fun {b} e => by
  cases q : (B.hide c).get? b with
  | none => rfl
  | some o => rw [Heap.of_hide q] at e; cases e
 have hac : a ≠ c := by rintro rfl; rw [hoc] at q1; cases q1; exact hd _ q3
 have hTc : T ≠ c := by rintro rfl; rw [hoc] at q7; cases q7; exact hd _ q8
 have ff : ∀ l',(∀ b ∈ frs l',b ∈ frs l) -> h.FunFrames B l' -> h'.FunFrames (B.hide c) l' := by
  intro l'
  induction l' with
  | nil => intro _ _; trivial
  | cons env r ih =>
   intro hs hl'
   obtain ⟨hk,⟨L,o,hf,hnn,ho,hdd⟩,hr⟩ := hl'
   have hL : L ∈ frs l := hs L (by unfold frs; rw [List.filterMap_cons,hf]; exact List.mem_cons_self)
   exact ⟨hk,⟨L,o,hf,hn hnn,by rw [sb.2 L (by rintro rfl; exact hfr hL)]; exact ho,hdd⟩,ih (fun b hb => hs b (by unfold frs; rw [List.filterMap_cons,hf]; exact List.mem_cons_of_mem _ hb)) hr⟩
 refine ⟨fun b o e => ?_,hn ne,ff l (fun _ z => z) hl,fl,oe,vs,T,oT,ts,by rw [sb.2 a hac]; exact q1,q2,q3,q4,hn q5,q6,by rw [sb.2 T hTc]; exact q7,q8,q9⟩
 have hbc : b ≠ c := by rintro rfl; rw [Heap.hide_self] at e; cases e
 rw [sb.2 b hbc]
 exact st b o (Heap.of_hide e)
noncomputable def pS (X : Cx) : Prop := ∃ env outer L,X.stack = env :: outer /\ env.frame = some L /\ X.env.frame = some L
end Fg
end
section
set_option autoImplicit false
namespace Fg
open PySem PySem.Spec L2
noncomputable def qa (sp : Sp) (Ex : XS) (t : TA) : TE := fun σ H Q => t σ H fun vs H1 => sp vs H1 Q fun cv x H' => Ex cv x σ H'
section
variable {X : Cx} {Ex : XS} {k : Nat} {f : Addr} {fd : FuncData} {ps : List Str} {sp : Sp} {x : Str} {p pos : Pos} {e : Expr} {es : List Expr} {t : TA}
theorem Af {pins : List (Addr × Obj)} {σ : St} {H : Hp} {s : Shared} {Q : VK} {us : List Value} {vs : List V} (F : ck X.prog X.w X.K X.mg X.base (gM X.prog X.w) k f fd ps sp) (hr : cy k X.A) (hb : Binds X.K fd ps []) (hx : ∀ e s,iL X Ex e s -> X.xe e s)
  (I : Inv X pins σ H s) (r : Vals vs us) (h : sp vs H Q fun cv x H' => Ex cv x σ H') : wpAny (model X.prog X.w) X.A (call (.ref f) us) (EP X pins σ Q) X.xe s := by
 have hl : (us ++ []).length = ps.length := by rw [List.append_nil,<- r.length]; exact F.len _ _ _ _ h
 have bd := hb s us I.gw hl
 rw [List.append_nil] at bd
 refine wpAny_call (codeAny_mono (F.run X.A X.stack s H ⟨us,[]⟩ us vs Q _ hr I.kF bd r h) fun z s' hq => ?_)
 match z,hq with
 | .error e,hq => exact passes hx pins σ H s e s' I hq
 | .ok (.ret u),hq => exact I.after hq
 | .ok .next,hq => exact hq.elim
 | .ok .brk,hq => exact hq.elim
 | .ok .cont,hq => exact hq.elim
theorem wF (F : ck X.prog X.w X.K X.mg X.base (gM X.prog X.w) k f fd ps sp) (hr : cy k X.A) (hg : Gl X x) (hm : X.mg x = some (.ref f)) (hk : W.keepIn X.K (.ref f) = true) (hb : Binds X.K fd ps []) (hx : ∀ e s,iL X Ex e s -> X.xe e s)
  (ha : PA X (e :: es) t) (hdb : (x == ("__debug__" : Str)) = false) (he : starEach (e :: es) X.env = (false, eval e X.env) :: starEach es X.env) (hpl : (backTo pos (starEach es X.env)).any (·.1) = false) :
  PE X (.Call (.Name x p) (e :: es) [] pos) (qa sp Ex t) := fun pins s σ H Q I h =>
 wpAny_Call_Name_kw (dZ I hg hm (W.callWith_K (h₀ := X.base) I.ok.mod.A3 hk (aW (ha pos pins s σ H _ I h) fun us s1 ⟨vs,H1,I1,r,q⟩ => ⟨I1.gw,Af F hr hb hx I1 r q⟩) he hpl) hdb)
theorem uB (F : ck X.prog X.w X.K X.mg X.base (gM X.prog X.w) k f fd ps sp) (hr : cy k X.A) (hg : Gl X x) (hm : X.mg x = some (.ref f)) (hk : W.keepIn X.K (.ref f) = true) (hb : Binds X.K fd ps []) (hx : ∀ e s, iL X Ex e s -> X.xe e s) (hdb : (x == ("__debug__" : Str)) = false) :
  PE X (.Call (.Name x p) [] [] pos) (qa sp Ex l7) := fun pins s σ H Q I h =>
 wpAny_Call_Name_kw (dZ I hg hm (W.callWith_K0 I.gw hk (Af (us := []) F hr hb hx I .nil h)) hdb)
noncomputable def vA (sp : Sp) (dv : V) (Ex : XS) (t : TA) : TE := fun σ H Q => t σ H fun vs H1 => sp (vs ++ [dv]) H1 Q fun cv x H' => Ex cv x σ H'
theorem runD {pins : List (Addr × Obj)} {σ : St} {H : Hp} {s : Shared} {Q : VK} {us : List Value} {vs : List V} {dv : V} {du : Value} (F : ck X.prog X.w X.K X.mg X.base (gM X.prog X.w) k f fd ps sp) (hr : cy k X.A) (hb : Binds X.K fd ps [du]) (hd : RelV dv du) (hx : ∀ e s,iL X Ex e s -> X.xe e s)
  (I : Inv X pins σ H s) (r : Vals vs us) (h : sp (vs ++ [dv]) H Q fun cv x H' => Ex cv x σ H') : wpAny (model X.prog X.w) X.A (call (.ref f) us) (EP X pins σ Q) X.xe s := by
 have r2 : Vals (vs ++ [dv]) (us ++ [du]) := r.append (.cons hd .nil)
 have hl : (us ++ [du]).length = ps.length := by rw [<- r2.length]; exact F.len _ _ _ _ h
 have bd := hb s us I.gw hl
 refine wpAny_call (codeAny_mono (F.run X.A X.stack s H ⟨us,[]⟩ (us ++ [du]) (vs ++ [dv]) Q _ hr I.kF bd r2 h) fun z s' hq => ?_)
 match z,hq with
 | .error e,hq => exact passes hx pins σ H s e s' I hq
 | .ok (.ret u),hq => exact I.after hq
 | .ok .next,hq => exact hq.elim
 | .ok .brk,hq => exact hq.elim
 | .ok .cont,hq => exact hq.elim
theorem wG {dv : V} {du : Value} (F : ck X.prog X.w X.K X.mg X.base (gM X.prog X.w) k f fd ps sp) (hr : cy k X.A) (hg : Gl X x) (hm : X.mg x = some (.ref f)) (hk : W.keepIn X.K (.ref f) = true) (hb : Binds X.K fd ps [du]) (hd : RelV dv du) (hx : ∀ e s,iL X Ex e s -> X.xe e s)
  (ha : PA X (e :: es) t) (hdb : (x == ("__debug__" : Str)) = false) (he : starEach (e :: es) X.env = (false, eval e X.env) :: starEach es X.env) (hpl : (backTo pos (starEach es X.env)).any (·.1) = false) :
  PE X (.Call (.Name x p) (e :: es) [] pos) (vA sp dv Ex t) := fun pins s σ H Q I h =>
 wpAny_Call_Name_kw (dZ I hg hm (W.callWith_K (h₀ := X.base) I.ok.mod.A3 hk (aW (ha pos pins s σ H _ I h) fun us s1 ⟨vs,H1,I1,r,q⟩ => ⟨I1.gw,runD F hr hb hd hx I1 r q⟩) he hpl) hdb)
end
end Fg
end
section
set_option autoImplicit false
namespace Fg
open PySem PySem.Spec L2
theorem Up.back {M : Model} {A : Around} {E : Value -> Shared -> Prop} {s : Shared} {B : Heap} {l : List Env} {a : Addr} {C a0 : Value} {env : Env} (up : Up B l a C a0 s.heap)
  (k : ∀ h',Up B l a C a0 h' -> s.heap.UpToSlots h' -> E (.ref a) { s with heap := h' }) : cameBackBy M A env E (.ref a) s := by
 obtain ⟨st,ne,hl,fl,oe,vs,T,oT,ts,q1,q2,q3,q4,q5,q6,q7,q8,q9⟩ := up
 have q0 : 3 < ts.size := (Array.getElem?_eq_some_iff.mp q9).1
 have sH : ∀ x b,b ≠ T -> (s.heap.update T (Obj.mapFields (·.setIfInBounds 3 x))).get? b = s.heap.get? b := fun x b hb => Heap.get?_update_other _ _ (Ne.symm hb)
 have oJ : ∀ b o,s.heap.get? b = some o -> (∀ vs,o.data ≠ .fields vs) -> b ≠ T := fun b o hb hn z => by
  rw [z,q7] at hb
  cases hb
  exact hn ts q8
 unfold cameBackBy
 refine wpAny_bind (wpAny_field q1 q3 q4 ?_)
 rw [if_neg (by simp)]
 unfold setFlight
 refine wpAny_bind (wpAny_field q1 q3 q4 ?_)
 rw [if_pos (by simp)]
 refine wpAny_setField q7 q8 q0 ?_
 refine k _ ⟨fun b o e => ?_,ne,hl.of_keeps fun b o hb hn => ⟨o,(sH _ b (oJ b o hb hn)).trans hb,rfl⟩,?_⟩ fun b o hb hn => ⟨o.slots,(sH _ b (oJ b o hb hn)).trans hb⟩
 ·exact (sH _ b (by rintro rfl; rw [q5] at e; cases e)).trans (st b o e)
 ·exact ⟨_,oe,vs,T,_,_,(sH _ a (Ne.symm q6)).trans q1,q2,q3,q4,q5,q6,Heap.get?_update_self _ q7 (Obj.isFreed_of_fields (Obj.data_mapFields q8 _)),Obj.data_mapFields q8 _,Array.getElem?_setIfInBounds_self_of_lt q0⟩
theorem wO {M : Model} {A : Around} {E : Value -> Shared -> Prop} {s : Shared} {h B : Heap} {env : Env} {outer : List Env} {L a : Addr} {C : Value} {vs : List Value} {Q : Unit -> Shared -> Prop} (hfr : A.frames = some (env :: outer)) (hf : env.frame = some L)
  (made : Heap.MadeExcOf h s.heap a C vs) (st : B.StaysIn h) (hl : h.FunFrames B (env :: outer)) (k : ∀ a0 h',Up B (env :: outer) a C a0 h' -> s.heap.UpToSlots h' -> Q () { s with heap := h' }) : wpAny M A (noteFrame (.ref a) env) Q E s := by
 obtain ⟨t,he,_,_⟩ := made.there
 have ne : B.get? a = none := by
  cases q : B.get? a with
  | none => rfl
  | some o => have := st _ _ q; rw [made.new] at this; cases this
 unfold noteFrame
 simp only [hf]
 refine wpAny_bind (wpAny_field he rfl (x := .none) rfl ?_)
 rw [if_neg (by simp)]
 refine wpAny_entryW (base := B) (a0 := .ref t) hfr (hl.of_keeps fun b o hb _ => ⟨o,made.keeps b o hb,rfl⟩) hf he (fun b o e => made.keeps b o (st b o e)) ne rfl (show 1 < 6 by decide) rfl fun h' nw => ?_
 obtain ⟨x1,x2,x3,x4⟩ := nw
 exact k _ h' ⟨x1,ne,x2,_,x3⟩ x4
theorem qy {X : Cx} {E : XS} (fr : pS X) (fo : ∀ e s,X.xe e s -> iL X E e s \/ Dc X E e s) (fx : ∀ e s,iL X E e s -> X.xe e s) : PassesOwn (model X.prog X.w) X.A X.env X.xe := by
 intro e s q
 obtain ⟨kF,mE,L,hst,FH,Ko⟩ := fr
 rcases fo e s q with q | q
 ·obtain ⟨pins,σ,H,a,a0,C,B,rfl,I,up,fj,hp,q⟩ := q
  show wpAny _ X.A (noteFrame (.ref a) X.env) _ _ s
  rw [mH (env := X.env) (env' := kF) (Ko.trans FH.symm)]
  refine Up.note (env := kF) (outer := mE) (by rw [I.ok.frames,hst]) FH (by rw [<- hst]; exact up) fun h4 held vM => ?_
  refine (Up.sL held).back fun h5 Dg zN => fx _ _ ?_
  have J := jL I fj hp up.1 Dg.1 (vM.trans zN)
  have up' : Up B X.stack a C a0 h5 := by rw [hst]; exact Dg
  exact ⟨[],σ,H,a,a0,C,B,rfl,J,up',fj,hp,q⟩
 ·obtain ⟨pins,σ,H,a,C,vs,h,rfl,I,made,q⟩ := q
  show wpAny _ X.A (noteFrame (.ref a) X.env) _ _ s
  rw [mH (env := X.env) (env' := kF) (Ko.trans FH.symm)]
  have jw : (W.hideAll h (frs X.stack)).StaysIn h := fun b o q => W.of_hideAll _ q
  have fj : Calm (W.hideAll h (frs X.stack)) (frs X.stack) X.ex H X.s₀.heap := fun b hb hf => by
   have : ∃ o,h.get? b = some o := by
    rcases hb with hb | ⟨⟨o,hb⟩,nx⟩
    ·cases e : H b with
     | none => exact absurd e hb
     | some o => exact lA (I.hok b o e)
    ·exact fR I hb nx
   obtain ⟨o,e⟩ := this
   exact ⟨o,W.hideAll_get _ e hf⟩
  have hp : ∀ p ∈ X.pn,(W.hideAll h (frs X.stack)).get? p.1 = some p.2 := fun p hp => by
   obtain ⟨p1,p2,p3,p4,_⟩ := I.pin p (List.mem_append_left _ hp)
   refine W.hideAll_get _ p1 fun z => ?_
   rcases List.mem_cons.mp (I.dQ _ z) with e | z
   ·exact p3 e
   ·exact p4 z
  have hl : h.FunFrames (W.hideAll h (frs X.stack)) X.stack := W.funFrames_hide I.stack fun env he b hb => List.mem_filterMap.mpr ⟨env,he,hb⟩
  refine wO (env := kF) (outer := mE) (by rw [show X.A.frames = some X.stack from I.ok.frames,hst]) FH made jw (hst ▸ hl) fun a0 h4 up4 vM => ?_
  refine up4.back fun h5 Dg zN => fx _ _ ?_
  have sm : h.UpToSlots h5 := (Heap.UpToSlots.of_keeps made.keeps).trans (vM.trans zN)
  have J := jL I fj hp jw Dg.1 sm
  have up' : Up (W.hideAll h (frs X.stack)) X.stack a C a0 h5 := by
   have z : ∀ l,l = X.stack -> Up (W.hideAll h (frs X.stack)) l a C a0 h5 -> Up (W.hideAll h (frs X.stack)) X.stack a C a0 h5 := fun l e u => e ▸ u
   exact z _ hst.symm Dg
  exact ⟨[],σ,H,a,a0,C,_,rfl,J,up',fj,hp,q⟩
end Fg
end
section
set_option autoImplicit false
namespace Fg
open PySem L2
mutual
noncomputable def DV (K : W.Frag) (H : Hp) : D -> V -> Prop
 | .ak,v => v = .ak
 | .bl b,v => v = .bl b
 | .int i,v => v = .int i
 | .str x,v => v = .str x
 | .tup ds,v => ∃ a vs,v = .ref a /\ jv K H a vs /\ iM K H ds vs
 | .lst ds,v => ∃ a vs,v = .ref a /\ fk K H a vs /\ iM K H ds vs
 | .dct _ _,_ => False
 | .ref _,_ => False
noncomputable def iM (K : W.Frag) (H : Hp) : List D -> List V -> Prop
 | [],vs => vs = []
 | d :: ds,vs => ∃ v ws,vs = v :: ws /\ DV K H d v /\ iM K H ds ws
end
section
variable {B : Bd} {Φ : aQ} {E : Gx} {F F' F1 : Addr -> Prop} {ρ ρ' ρ1 : List Addr} {H H' H1 : Hp} {M M' : MH} {σD : Sg} {σ : St} {Q : VK}
mutual
theorem RD.dv : ∀ {d : D} {v : V},plain d = true -> RD B F ρ H d v -> DV B.K H d v
 | .ak,v,_,h => by simp only [RD] at h; simp only [DV]; exact h
 | .bl _,v,_,h => by simp only [RD] at h; simp only [DV]; exact h
 | .int _,v,_,h => by simp only [RD] at h; simp only [DV]; exact h
 | .str _,v,_,h => by simp only [RD] at h; simp only [DV]; exact h
 | .tup ds,v,p,h => by
  simp only [RD] at h; simp only [DV]; simp only [plain] at p
  obtain ⟨a,vs,h1,h2,h3⟩ := h
  exact ⟨a,vs,h1,h2.sq,aj.dv p h3⟩
 | .lst ds,v,p,h => by
  simp only [RD] at h; simp only [DV]; simp only [plain] at p
  obtain ⟨a,vs,h1,h2,h3⟩ := h
  exact ⟨a,vs,h1,h2.sq,aj.dv p h3⟩
 | .dct _ _,v,p,h => by simp [plain] at p
 | .ref _,v,p,h => by simp [plain] at p
theorem aj.dv : ∀ {ds : List D} {vs : List V},bD ds = true -> aj B F ρ H ds vs -> iM B.K H ds vs
 | [],vs,_,h => by simp only [aj] at h; simp only [iM]; exact h
 | d :: ds,vs,p,h => by
  simp only [aj] at h; simp only [iM]; simp only [bD,Bool.and_eq_true] at p
  obtain ⟨v,ws,h1,h2,h3⟩ := h
  exact ⟨v,ws,h1,RD.dv p.1 h2,aj.dv p.2 h3⟩
end
theorem vt {d : D} {v : V} (S : SR B F ρ M H) (p : plain (top M d) = true) (h : RD B F ρ H d v) : DV B.K H (top M d) v := by
 cases d with
 | ref n =>
  cases hM : M[n]? with
  | none => simp [top,hM,plain] at p
  | some o =>
   cases o with
   | lst ds =>
    obtain ⟨a,vs,e,q,r⟩ := bS (ds := ds) S h (by simp only [vw,hM])
    simp only [top,hM,plain] at p
    simp only [top,hM,DV]
    exact ⟨a,vs,e,q,aj.dv p r⟩
   | dct _ => simp [top,hM,plain] at p
   | pI _ => simp [top,hM,plain] at p
   | ins _ _ => simp [top,hM,plain] at p
 | tup ds => exact RD.dv p h
 | lst ds => exact RD.dv p h
 | dct _ _ => exact RD.dv p h
 | ak => exact RD.dv p h
 | bl _ => exact RD.dv p h
 | int _ => exact RD.dv p h
 | str _ => exact RD.dv p h
noncomputable def we (K : W.Frag) (neg : Bool) : R2 := fun x y H Q => ∃ d e,DV K H d x /\ DV K H e y /\ cS d e = true /\ Q (.bl (if neg then !aI d e else aI d e)) H
noncomputable def wc (K : W.Frag) (neg : Bool) : R2 := fun x y H Q => ∃ l b xs,x = .ref l /\ y = .ref b /\ fk K H l xs /\ fk K H b [] /\ Q (.bl (if neg then !xs.isEmpty else xs.isEmpty)) H
noncomputable def Ai (neg : Bool) : R2 := fun x y H Q => ∃ a b,x = .bl a /\ y = .bl b /\ Q (.bl (if neg then !(a == b) else (a == b))) H
noncomputable def wg (B : Bd) (neg : Bool) : R2 := fun x y H Q => ∃ a kvs k,y = .ref a /\ x = kV k /\ Gz B H a kvs /\ Q (.bl (if neg then !(cC kvs k).isSome else (cC kvs k).isSome)) H
noncomputable def qu (B : Bd) : zk -> R2
 | .lt => qt fun i j => .bl (decide (i < j))
 | .le => qt fun i j => .bl (decide (i <= j))
 | .gt => qt fun i j => .bl (decide (j < i))
 | .ge => qt fun i j => .bl (decide (j <= i))
 | .eq => fun x y H Q => Ai false x y H Q \/ (we B.K false x y H Q \/ wc B.K false x y H Q)
 | .ne => fun x y H Q => Ai true x y H Q \/ (we B.K true x y H Q \/ wc B.K true x y H Q)
 | .xQ => fun x y H Q => y = .ak /\ Q (.bl (decide (x = .ak))) H
 | .qC => fun x y H Q => y = .ak /\ Q (.bl (!decide (x = .ak))) H
 | .isin => fun x y H Q => wg B false x y H Q \/ HN B.K false x y H Q
 | .oQ => fun x y H Q => wg B true x y H Q \/ HN B.K true x y H Q
theorem qK {d : D} {v : V} {k : Ky} (h : keyOf d = some k) (r : RD B F ρ H d v) : v = kV k := by
 cases d with
 | int i => simp only [keyOf] at h; cases h; simp only [RD] at r; exact r
 | str x => simp only [keyOf] at h; cases h; simp only [RD] at r; exact r
 | ak => simp only [keyOf] at h; cases h
 | bl _ => simp only [keyOf] at h; cases h
 | tup _ => simp only [keyOf] at h; cases h
 | lst _ => simp only [keyOf] at h; cases h
 | dct _ _ => simp only [keyOf] at h; cases h
 | ref _ => simp only [keyOf] at h; cases h
theorem mY {d : D} {v : V} (h : flat d = true) (r : RD B F ρ H d v) : gi v = true := by
 cases d <;> first | (simp only [RD] at r; subst r; rfl) | (simp only [flat] at h; cases h)
theorem o8 {ds : List D} : ∀ {vs : List V},ds.all flat = true -> aj B F ρ H ds vs -> vs.all gi = true := by
 induction ds with
 | nil => intro vs _ r; simp only [aj] at r; subst r; rfl
 | cons d ds ih =>
  intro vs h r
  simp only [aj] at r
  obtain ⟨v,ws,rfl,r1,r2⟩ := r
  simp only [List.all_cons,Bool.and_eq_true] at h ⊢
  exact ⟨mY h.1 r1,ih h.2 r2⟩
theorem Bw {d e : D} {v w : V} (h1 : flat d = true) (h2 : flat e = true) (r1 : RD B F ρ H d v) (r2 : RD B F ρ H e w) : aI d e = zd v w := by
 cases d <;> first | (simp only [flat] at h1; cases h1; done) | skip
 all_goals (cases e <;> first | (simp only [flat] at h2; cases h2; done) | skip)
 all_goals (simp only [RD] at r1 r2; subst r1 r2; simp only [aI,zd])
 all_goals first | rfl | simp [Bool.beq_eq_decide_eq]
theorem tV {d : D} {v : V} (h1 : flat d = true) (r1 : RD B F ρ H d v) {ds : List D} : ∀ {vs : List V},ds.all flat = true -> aj B F ρ H ds vs -> (ds.any fun e => aI e d) = II v vs := by
 induction ds with
 | nil => intro vs _ r; simp only [aj] at r; subst r; rfl
 | cons e ds ih =>
  intro vs h r
  simp only [aj] at r
  obtain ⟨w,ws,rfl,q1,q2⟩ := r
  simp only [List.all_cons,Bool.and_eq_true] at h
  simp only [List.any_cons,II,Bw h.1 h1 q1 r1]
  have := ih h.2 q2
  simp only [II] at this
  rw [this]
theorem xT {neg : Bool} {x y : D} {v w : V} {X : XK} {t : Bool} (S : SR B F ρ M H) (rx : RD B F ρ H x v) (ry : RD B F ρ H y w) (hi : FE M x y = some t)
  (h : Post B (.ok (.bl (if neg then !t else t)) M) F ρ H Q X) : wg B neg v w H Q \/ HN B.K neg v w H Q := by
 unfold FE at hi
 split at hi
 ·rename_i di hv
  split at hi
  ·rename_i k hk
   cases hi
   obtain ⟨a,kvs,rfl,q,e1,e2⟩ := lY S ry hv
   have := (ki (k := k) e1 e2).2.2
   refine .inl ⟨a,kvs,k,rfl,qK hk rx,q,?_⟩
   rw [<- this]
   exact ai.run h S (by simp only [RD])
  ·cases hi
 ·rename_i ds hv
  split at hi
  ·rename_i hf
   cases hi
   simp only [Bool.and_eq_true] at hf
   obtain ⟨a,vs,rfl,q,r⟩ := bS S ry hv
   refine .inr ⟨a,vs,rfl,.inl q,mY hf.1 rx,o8 hf.2 r,?_⟩
   rw [<- tV hf.1 rx hf.2 r]
   exact ai.run h S (by simp only [RD])
  ·cases hi
 ·rename_i ds hv
  split at hi
  ·rename_i hf
   cases hi
   simp only [Bool.and_eq_true] at hf
   obtain ⟨a,vs,rfl,q,r⟩ := jR S ry hv
   refine .inr ⟨a,vs,rfl,.inr q,mY hf.1 rx,o8 hf.2 r,?_⟩
   rw [<- tV hf.1 rx hf.2 r]
   exact ai.run h S (by simp only [RD])
  ·cases hi
 ·cases hi
theorem sZ (neg : Bool) {x y : D} {v w : V} {X : XK} (S : SR B F ρ M H) (rx : RD B F ρ H x v) (ry : RD B F ρ H y w) (h : Post B (if cS (top M x) (top M y) then .ok (.bl (if neg then !aI (top M x) (top M y) else aI (top M x) (top M y))) M else (match mK M x y with | some t => .ok (.bl (if neg then !t else t)) M | none => .bad)) F ρ H Q X) : we B.K neg v w H Q \/ wc B.K neg v w H Q := by
 split at h
 ·rename_i hc
  have hc' := hc
  simp only [cS,Bool.and_eq_true] at hc'
  exact .inl ⟨_,_,vt S hc'.1.1 rx,vt S hc'.1.2 ry,hc,ai.run h S (by simp only [RD])⟩
 ·cases hn : mK M x y with
  | none => rw [hn] at h; exact h.elim
  | some t =>
   rw [hn] at h
   unfold mK at hn
   split at hn
   ·rename_i xs ys hx hy
    split at hn
    ·rename_i he
     cases hn
     obtain ⟨a,vs,rfl,q1,r1⟩ := bS S rx hx
     obtain ⟨b,ws,rfl,q2,r2⟩ := bS S ry hy
     have l1 := aj.length r1
     have l2 := aj.length r2
     have e2 : ws = [] := by
      rw [List.isEmpty_iff] at he
      subst he
      exact List.eq_nil_of_length_eq_zero l2.symm
     have e1 : vs.isEmpty = xs.isEmpty := by
      cases xs <;> cases vs <;> first | rfl | (simp at l1; done)
     subst e2
     refine .inr ⟨a,b,vs,rfl,rfl,q1,q2,?_⟩
     rw [e1]
     exact ai.run h S (by simp only [RD])
    ·cases hn
   ·cases hn
theorem jJ {f : Int -> Int -> Bool} {x y : D} {v w : V} {X : XK} (S : SR B F ρ M H) (rx : RD B F ρ H x v) (ry : RD B F ρ H y w) (h : Post B (rA M f x y) F ρ H Q X) : qt (fun i j => .bl (f i j)) v w H Q := by
 cases x with
 | int i => cases y with
  | int j => simp only [RD] at rx ry; subst rx ry; exact ⟨_,_,rfl,rfl,ai.run h S (by simp only [RD])⟩
  | _ => exact h.elim
 | _ => exact h.elim
theorem kB {x : D} {v : V} (r : RD B F ρ H x v) : dw x = decide (v = .ak) := by
 cases x <;> first | (simp only [RD] at r; subst r; rfl) | (simp only [RD] at r; obtain ⟨_,r⟩ := r; first | (obtain ⟨_,rfl,_⟩ := r; rfl) | (obtain ⟨_,rfl⟩ := r; rfl) | (obtain ⟨_,_,rfl,_⟩ := r; rfl))
theorem yz {o : zk} {x y : D} {v w : V} {X : XK} (S : SR B F ρ M H) (rx : RD B F ρ H x v) (ry : RD B F ρ H y w) (h : Post B (cj o M x y) F ρ H Q X) : qu B o v w H Q := by
 have eb : ∀ {p : Bool × Bool},BV x y = some p -> x = .bl p.1 /\ y = .bl p.2 := fun {p} hb => by
  cases x with
  | bl a => cases y with
   | bl b => cases hb; exact ⟨rfl,rfl⟩
   | _ => cases hb
  | _ => cases hb
 have nn : dw y = true -> w = .ak := fun q => by
  have := kB ry
  rw [q] at this
  exact of_decide_eq_true this.symm
 cases o with
 | lt => exact jJ S rx ry h
 | le => exact jJ S rx ry h
 | gt => exact jJ S rx ry h
 | ge => exact jJ S rx ry h
 | eq =>
  cases hb : BV x y with
  | some p =>
   obtain ⟨rfl,rfl⟩ := eb hb
   simp only [RD] at rx ry; subst rx ry
   exact .inl ⟨_,_,rfl,rfl,ai.run h S (by simp only [RD]; rfl)⟩
  | none =>
   simp only [cj,hb] at h
   exact .inr (sZ false S rx ry h)
 | ne =>
  cases hb : BV x y with
  | some p =>
   obtain ⟨rfl,rfl⟩ := eb hb
   simp only [RD] at rx ry; subst rx ry
   exact .inl ⟨_,_,rfl,rfl,ai.run h S (by simp only [RD]; rfl)⟩
  | none =>
   simp only [cj,hb] at h
   exact .inr (sZ true S rx ry h)
 | xQ =>
  cases hn : dw y with
  | false => simp only [cj,hn] at h; exact h.elim
  | true =>
   simp only [cj,hn,if_true] at h
   refine ⟨nn hn,?_⟩
   rw [<- kB rx]
   exact ai.run h S (by simp only [RD])
 | qC =>
  cases hn : dw y with
  | false => simp only [cj,hn] at h; exact h.elim
  | true =>
   simp only [cj,hn,if_true] at h
   refine ⟨nn hn,?_⟩
   rw [<- kB rx]
   exact ai.run h S (by simp only [RD])
 | isin =>
  cases hi : FE M x y with
  | none => simp only [cj,hi] at h; exact h.elim
  | some t => simp only [cj,hi] at h; exact xT (neg := false) S rx ry hi h
 | oQ =>
  cases hi : FE M x y with
  | none => simp only [cj,hi] at h; exact h.elim
  | some t => simp only [cj,hi] at h; exact xT (neg := true) S rx ry hi h
theorem sf {o : zk} {a b : Fg.E} (h : T B Φ E (.cmp o a b) σ H Q) : Dl (qu B o) (T B Φ E a) (T B Φ E b) σ H Q := by
 obtain ⟨σD,M,F,ρ,S,r,h⟩ := h
 simp only [ev] at h
 exact T.two S r rfl h fun x y M2 F2 ρ2 H2 v w S2 _ rx ry h2 => yz S2 rx ry h2
theorem xM (n : Nat) (i : Int) : yZ n i = GD n i := rfl
theorem yS {ds : List D} {vs : List V} {i : Int} {d : D} (r : aj B F ρ H ds vs) (h : cB ds i = some d) : ∃ v,Gs vs i = some v /\ RD B F ρ H d v := by
 unfold cB at h
 unfold Gs
 rw [<- aj.length r]
 cases hx : yZ ds.length i with
 | none => rw [hx] at h; cases h
 | some j =>
  rw [hx] at h
  rw [xM] at hx
  rw [hx]
  exact aj.get r h
noncomputable def HL (B : Bd) : R2 := fun x y H Q => ∃ a kvs k v,x = .ref a /\ y = kV k /\ Gz B H a kvs /\ cC kvs k = some v /\ Q v H
noncomputable def Ah (B : Bd) : R2 := fun x y H Q => HK B.K x y H Q \/ (HH B.K x y H Q \/ (HJ x y H Q \/ HL B x y H Q))
theorem xU {x y : D} {v w : V} {X : XK} (S : SR B F ρ M H) (rx : RD B F ρ H x v) (ry : RD B F ρ H y w) (h : Post B (mS M x y) F ρ H Q X) : Ah B v w H Q := by
 unfold mS at h
 split at h
 ·simp only [RD] at rx ry; subst rx ry
  split at h
  ·rename_i hl
   split at h
   ·rename_i c hc
    exact .inr (.inr (.inl ⟨_,_,c,rfl,rfl,Nat.le_trans (of_decide_eq_true hl) bM,hc,ai.run h S (by simp only [RD])⟩))
   ·exact h.elim
  ·exact h.elim
 ·split at h
  ·rename_i ds i hv _
   split at h
   ·rename_i d hd
    obtain ⟨a,vs,rfl,q,r⟩ := jR S rx hv
    simp only [RD] at ry; subst ry
    obtain ⟨u,h1,h2⟩ := yS r hd
    exact .inr (.inl ⟨a,vs,i,u,rfl,rfl,q,h1,ai.run h S h2⟩)
   ·exact h.elim
  ·rename_i ds i hv _
   split at h
   ·rename_i d hd
    obtain ⟨a,vs,rfl,q,r⟩ := bS S rx hv
    simp only [RD] at ry; subst ry
    obtain ⟨u,h1,h2⟩ := yS r hd
    exact .inl ⟨a,vs,i,u,rfl,rfl,q,h1,ai.run h S h2⟩
   ·exact h.elim
  ·rename_i di hv _
   split at h
   ·rename_i k hk
    split at h
    ·rename_i d hd
     obtain ⟨a,kvs,rfl,q,e1,e2⟩ := lY S rx hv
     obtain ⟨u,h1,h2⟩ := (ki (k := k) e1 e2).1 d hd
     exact .inr (.inr (.inr ⟨a,kvs,k,u,rfl,qK hk ry,q,h1,ai.run h S h2⟩))
    ·exact h.elim
   ·exact h.elim
  ·exact h.elim
theorem z8 {a b : Fg.E} (h : T B Φ E (.idx a b) σ H Q) : Dl (Ah B) (T B Φ E a) (T B Φ E b) σ H Q := by
 obtain ⟨σD,M,F,ρ,S,r,h⟩ := h
 simp only [ev] at h
 exact T.two S r rfl h fun x y M2 F2 ρ2 H2 v w S2 _ rx ry h2 => xU S2 rx ry h2
theorem vO (n d : Nat) (o : Option Int) : six n d o = HT.cu n d o := by cases o <;> rfl
theorem tL {ds : List D} {vs : List V} (r : aj B F ρ H ds vs) (lo hi : Option Int) : aj B F ρ H (fY ds lo hi) (pL vs lo hi) := by
 unfold fY pL
 rw [aj.length r]
 simp only [vO]
 exact aj.take _ (aj.drop _ r)
noncomputable def HE : V -> Option Int -> Option Int -> Hp -> VK -> Prop := fun x lo hi H Q => ∃ z,x = .str z /\ z.length <= sizeLine /\ Q (.str (cuts z lo hi)) H
noncomputable def Ag (B : Bd) : V -> Option Int -> Option Int -> Hp -> VK -> Prop := fun x lo hi H Q => HF B.K x lo hi H Q \/ (HD B.K x lo hi H Q \/ HE x lo hi H Q)
theorem zP {fz : Bool} {x : D} {v : V} {lo hi : Option Int} {X : XK} (S : SR B F ρ M H) (rx : RD B F ρ H x v) (h : Post B (sl2 fz M x lo hi) F ρ H Q X) : Ag B v lo hi H Q := by
 unfold sl2 at h
 split at h
 ·simp only [RD] at rx; subst rx
  split at h
  ·rename_i hl
   exact .inr (.inr ⟨_,rfl,Nat.le_trans (of_decide_eq_true hl) bM,ai.run h S (by simp only [RD])⟩)
  ·exact h.elim
 ·split at h
  ·rename_i ds hv
   cases x with
   | tup xs =>
    simp only [vw] at hv; cases hv
    simp only [RD] at rx
    obtain ⟨a,vs,rfl,z,r⟩ := rx
    split at h
    ·exact h.elim
    ·rename_i hf
     refine .inr (.inl ⟨a,vs,rfl,z.sq,fun q => hf ?_,jG S h (tL r lo hi)⟩)
     simp only [CL,Bool.and_eq_true,decide_eq_true_eq,vO,aj.length r]
     exact q
   | ref n => simp only [vw] at hv; split at hv <;> cases hv
   | lst _ => simp only [vw] at hv; cases hv
   | dct _ _ => simp only [vw] at hv; cases hv
   | ak => simp only [vw] at hv; cases hv
   | bl _ => simp only [vw] at hv; cases hv
   | int _ => simp only [vw] at hv; cases hv
   | str _ => simp only [vw] at hv; cases hv
  ·rename_i ds hv
   obtain ⟨a,vs,rfl,q,r⟩ := bS S rx hv
   exact .inl ⟨a,vs,rfl,q,dm S h (tL r lo hi)⟩
  ·exact h.elim
theorem Dz {Q : Option Int -> Hp -> Prop} (h : TP B Φ E .none σ H Q) : rT σ H Q := by
 obtain ⟨σD,M,F,ρ,S,r,h⟩ := h
 simp only [Br] at h
 exact ai.run h S rfl
theorem Dy {a : Fg.E} {Q : Option Int -> Hp -> Prop} (h : TP B Φ E (.some a) σ H Q) : Cc (T B Φ E a) σ H Q := by
 obtain ⟨σD,M,F,ρ,S,r,h⟩ := h
 simp only [Br] at h
 refine ⟨σD,M,F,ρ,S,r,ai.imp (ai.bind (rel := RD B) h) fun v H1 ⟨x,M1,F1,ρ1,e1,S1,rx,h1⟩ => ?_⟩
 split at h1
 ·simp only [RD] at rx; subst rx
  exact ⟨_,rfl,ai.run h1 S1 rfl⟩
 ·exact h1.elim
theorem Dv {fz : Bool} {a : Fg.E} {lo hi : O} (h : T B Φ E (.sl fz a lo hi) σ H Q) : tSl (Ag B) (T B Φ E a) (TP B Φ E lo) (TP B Φ E hi) σ H Q := by
 obtain ⟨σD,M,F,ρ,S,r,h⟩ := h
 simp only [ev] at h
 refine T.one S r rfl h fun x M1 F1 ρ1 H1 v e1 S1 r1 rx h1 => ?_
 refine ⟨σD,M1,F1,ρ1,S1,r1,ai.imp (ai.bind (rel := fun _ _ _ (a b : Option Int) => a = b) h1) fun l H2 ⟨l',M2,F2,ρ2,e2,S2,el,h2⟩ => ?_⟩
 refine ⟨σD,M2,F2,ρ2,S2,r1.mono e2,ai.imp (ai.bind (rel := fun _ _ _ (a b : Option Int) => a = b) h2) fun u H3 ⟨u',M3,F3,ρ3,e3,S3,eu,h3⟩ => ?_⟩
 subst el eu
 exact zP S3 (RD.mono e3 _ _ (RD.mono e2 _ _ rx)) h3
theorem t9 {M : MH} {d : D} {ds : List D} (h : vw M d = .tup ds) : d = .tup ds := by
 cases d with
 | tup xs => simp only [vw] at h; cases h; rfl
 | ref n => simp only [vw] at h; split at h <;> cases h
 | lst _ => simp only [vw] at h; cases h
 | dct _ _ => simp only [vw] at h; cases h
 | ak => simp only [vw] at h; cases h
 | bl _ => simp only [vw] at h; cases h
 | int _ => simp only [vw] at h; cases h
 | str _ => simp only [vw] at h; cases h
theorem sV : ∀ {ds : List D} {vs : List V} {ns : List Int},aj B F ρ H ds vs -> intsOf ds = some ns -> vs = ns.map V.int
 | [],vs,ns,r,h => by simp only [intsOf] at h; cases h; simp only [aj] at r; subst r; rfl
 | d :: ds,vs,ns,r,h => by
  cases d with
  | int i =>
   simp only [intsOf] at h
   cases hx : intsOf ds with
   | none => rw [hx] at h; cases h
   | some ms =>
    rw [hx] at h; cases h
    simp only [aj] at r
    obtain ⟨v,ws,rfl,r1,r2⟩ := r
    simp only [RD] at r1; subst r1
    rw [sV r2 hx]; rfl
  | _ => simp [intsOf] at h
noncomputable def DO (B : Bd) : List V -> Hp -> VK -> Prop := fun xs H Q => (∃ z,xs = [.str z] /\ z.length <= sizeLine /\ Q (.int z.length) H) \/ ((∃ p ys,xs = [.ref p] /\ (fk B.K H p ys \/ jv B.K H p ys) /\ Q (.int ys.length) H) \/ (∃ a kvs,xs = [.ref a] /\ Gz B H a kvs /\ Q (.int kvs.length) H))
noncomputable def rSum (B : Bd) : List V -> Hp -> VK -> Prop := fun xs H Q => ∃ (p : Addr) (ns : List Int),xs = [.ref p] /\ fk B.K H p (ns.map V.int) /\ Q (.int ns.sum) H
noncomputable def DM (B : Bd) : List V -> Hp -> VK -> Prop := fun xs H Q => ∃ p ys,xs = [.ref p] /\ ((fk B.K H p ys /\ ∀ l,H l = none -> Q (.ref l) (upd H l (.tup ys))) \/ (jv B.K H p ys /\ Q (.ref p) H))
noncomputable def qq (B : Bd) : List V -> Hp -> VK -> Prop := fun xs H Q => ∃ p ys,xs = [.ref p] /\ (fk B.K H p ys \/ jv B.K H p ys) /\ ∀ l,H l = none -> Q (.ref l) (upd H l (.lst ys))
noncomputable def DP (B : Bd) : List V -> Hp -> VK -> Prop := fun xs H Q => ∃ p kvs,xs = [.ref p] /\ Gz B H p kvs /\ ∀ l,H l = none -> Q (.ref l) (upd H l (.dK kvs))
noncomputable def rBl (B : Bd) : Bl -> List V -> Hp -> VK -> Prop
 | .len => DO B
 | .sum => rSum B
 | .tuple => DM B
 | .list => qq B
 | .dict => DP B
 | _ => fun _ _ _ => False
theorem DL {d : D} {vs : List V} (r : aj B F ρ H [d] vs) : ∃ v,vs = [v] /\ RD B F ρ H d v := by
 simp only [aj] at r
 obtain ⟨v,ws,rfl,r1,rfl⟩ := r
 exact ⟨v,rfl,r1⟩
theorem yO {b : Bl} {fz : Bool} {ds : List D} {vs : List V} {X : XK} (S : SR B F ρ M H) (r : aj B F ρ H ds vs) (h : Post B (yP b fz M ds) F ρ H Q X) : rBl B b vs H Q := by
  unfold yP at h
  split at h
  . obtain ⟨v,rfl,r1⟩ := DL r
    simp only [RD] at r1; subst r1
    cases b <;> simp only at h <;> first
      | exact h.elim
      | (split at h
         . rename_i hl
           exact .inl ⟨_,rfl,Nat.le_trans (of_decide_eq_true hl) bM,ai.run h S (by simp only [RD])⟩
         . exact h.elim)
  . obtain ⟨v,rfl,r1⟩ := DL r
    split at h
    . rename_i hv
      obtain ⟨a,ws,rfl,q,rr⟩ := jR S r1 hv
      exact .inr (.inl ⟨a,ws,rfl,.inr q,ai.run h S (by simp only [RD,aj.length rr])⟩)
    . rename_i hv
      obtain ⟨a,ws,rfl,q,rr⟩ := bS S r1 hv
      exact .inr (.inl ⟨a,ws,rfl,.inl q,ai.run h S (by simp only [RD,aj.length rr])⟩)
    . rename_i hv
      obtain ⟨a,kvs,rfl,q,e1,e2⟩ := lY S r1 hv
      refine .inr (.inr ⟨a,kvs,rfl,q,ai.run h S ?_⟩)
      have := congrArg List.length e1
      simp only [List.length_map] at this
      simp only [RD,this]
    . rename_i hv
      split at h
      . rename_i ns hn
        obtain ⟨a,ws,rfl,q,rr⟩ := bS S r1 hv
        have := sV rr hn
        subst this
        exact ⟨a,ns,rfl,q,ai.run h S (by simp only [RD])⟩
      . exact h.elim
    . rename_i hv
      obtain ⟨a,ws,rfl,q,rr⟩ := bS S r1 hv
      exact ⟨a,ws,rfl,.inl ⟨q,jG S h rr⟩⟩
    . rename_i hv
      have ed := t9 hv
      subst ed
      have r1' := r1
      simp only [RD] at r1'
      obtain ⟨a,ws,rfl,q,rr⟩ := r1'
      exact ⟨a,ws,rfl,.inr ⟨q.sq,ai.run h S r1⟩⟩
    . rename_i hv
      obtain ⟨a,ws,rfl,q,rr⟩ := bS S r1 hv
      exact ⟨a,ws,rfl,.inl q,dm S h rr⟩
    . rename_i hv
      obtain ⟨a,ws,rfl,q,rr⟩ := jR S r1 hv
      exact ⟨a,ws,rfl,.inr q,dm S h rr⟩
    . rename_i di hv
      obtain ⟨a,kvs,rfl,q,e1,e2⟩ := lY S r1 hv
      refine ⟨a,kvs,rfl,q,fun p hp => ?_⟩
      have e0 : Ext F ρ H F (ρ ++ [p]) (upd H p (.dK kvs)) := ⟨⟨S.sep,fun _ q => q,fun a q _ => aq (by rintro rfl; exact q hp),List.prefix_append _ _,fun a q => by
        rcases List.mem_append.mp q with q | q
        . exact .inl q
        . rw [List.mem_singleton.mp q]; exact .inr hp,fun _ q => .inl q⟩,fun b w u q => by rw [aq (by rintro rfl; rw [hp] at q; cases q)]; exact q⟩
      obtain ⟨S',e⟩ := S.lv (o := .dK kvs) (u := .dct di) hp ⟨kvs,aA,e1,aj.mono e0 _ _ e2⟩
      refine h _ _ _ _ e S' ?_
      simp only [RD]
      refine ⟨p,?_,rfl⟩
      rw [<- S.len,List.getElem?_append_right (Nat.le_refl _),Nat.sub_self]; rfl
    . exact h.elim
  . exact h.elim
theorem sj {b : Bl} {fz : Bool} {es : Es} (h : T B Φ E (.blt b fz es) σ H Q) : G9 (rBl B b) (TL B Φ E es) σ H Q := by
 obtain ⟨σD,M,F,ρ,S,r,h⟩ := h
 simp only [ev] at h
 exact TL.one S r rfl h fun x M1 F1 ρ1 H1 v _ S1 _ rx h1 => yO S1 rx h1
end
end Fg
end
section
set_option autoImplicit false
namespace Fg
open PySem L2
noncomputable def JN (B : Bd) (o : Out) (F : Addr -> Prop) (ρ : List Addr) (H : Hp) (Dn : Ends) (E : Gx) : Prop :=
 match o with
 | .nx σD => ∀ σ,RS B F ρ H σD σ -> Dn.nx σ H
 | .rt d => ∀ v,RD B F ρ H d v -> Dn.rt v H
 | .bk σD => ∀ σ,RS B F ρ H σD σ -> Dn.bk σ H
 | .ct σD => ∀ σ,RS B F ρ H σD σ -> Dn.ct σ H
 | .xc c σD => ∀ σ cv x,RS B F ρ H σD σ -> B.exc c cv -> E.e cv x σ H
noncomputable def aN (B : Bd) (r : R Out) (F : Addr -> Prop) (ρ : List Addr) (H : Hp) (Dn : Ends) (E : Gx) : Prop :=
 match r with
 | .ok o M' => ∀ F' ρ' H',Ext F ρ H F' ρ' H' -> SR B F' ρ' M' H' -> JN B o F' ρ' H' Dn E
 | .exc _ _ => False
 | .bad => False
noncomputable def TC (B : Bd) (Φ : aQ) (E : Gx) (s : S) : TS := fun Dn σ H => ∃ (σD : Sg) (M : MH) (F : Addr -> Prop) (ρ : List Addr),
 SR B F ρ M H /\ RS B F ρ H σD σ /\ aN B (ex Φ s σD M) F ρ H Dn E
noncomputable def vm (B : Bd) (Φ : aQ) (E : Gx) (s : Ss) : TS := fun Dn σ H => ∃ (σD : Sg) (M : MH) (F : Addr -> Prop) (ρ : List Addr),
 SR B F ρ M H /\ RS B F ρ H σD σ /\ aN B (exs Φ s σD M) F ρ H Dn E
section
variable {B : Bd} {Φ : aQ} {E : Gx} {F F' F1 : Addr -> Prop} {ρ ρ' ρ1 : List Addr} {H H' H1 : Hp} {M M' : MH} {σD : Sg} {σ : St} {Q : VK} {Dn : Ends}
theorem aN.weak {r : R Out} (e : Ext F ρ H F1 ρ1 H1) (h : aN B r F ρ H Dn E) : aN B r F1 ρ1 H1 Dn E := by
 cases r with
 | ok d M' => exact fun F' ρ' H' e' S => h F' ρ' H' (e.trans e') S
 | exc c M' => exact h
 | bad => exact h
theorem aN.use {α β : Type} {rel : (Addr -> Prop) -> List Addr -> Hp -> α -> β -> Prop} {x : R α} {f : α -> MH -> R Out} (r : RS B F ρ H σD σ) (h : aN B (x.use σD f) F ρ H Dn E) :
  ai rel B x F ρ H (fun v H' => ∃ d M' F' ρ',Ext F ρ H F' ρ' H' /\ SR B F' ρ' M' H' /\ rel F' ρ' H' d v /\ aN B (f d M') F' ρ' H' Dn E) (fun cv x H' => E.e cv x σ H') := by
 cases x with
 | ok d M' => exact fun F' ρ' H' v e S q => ⟨d,M',F',ρ',e,S,q,aN.weak e h⟩
 | exc c M' => exact fun F' ρ' H' cv x e S q => h F' ρ' H' e S σ cv x (r.mono e) q
 | bad => exact h
theorem TC.one {a : Fg.E} {f : D -> MH -> R Out} {W : V -> Hp -> Prop} (S : SR B F ρ M H) (r : RS B F ρ H σD σ) (h : aN B ((ev Φ a σD M).use σD f) F ρ H Dn E)
  (k : ∀ x M1 F1 ρ1 H1 v,Ext F ρ H F1 ρ1 H1 -> SR B F1 ρ1 M1 H1 -> RS B F1 ρ1 H1 σD σ -> RD B F1 ρ1 H1 x v -> aN B (f x M1) F1 ρ1 H1 Dn E -> W v H1) : T B Φ E a σ H W := by
 refine ⟨σD,M,F,ρ,S,r,ai.imp (aN.use (rel := RD B) r h) fun v H1 ⟨x,M1,F1,ρ1,e,S1,rx,h1⟩ => ?_⟩
 exact k x M1 F1 ρ1 H1 v e S1 (r.mono e) rx h1
theorem aN.run {o : Out} (h : aN B (.ok o M) F ρ H Dn E) (S : SR B F ρ M H) : JN B o F ρ H Dn E := h F ρ H S.refl S
theorem mj {i : Nat} {e : Fg.E} (h : TC B Φ E (.set i e) Dn σ H) : vB (T B Φ E e) (lH i) Dn σ H := by
 obtain ⟨σD,M,F,ρ,S,r,h⟩ := h
 simp only [ex] at h
 exact TC.one S r h fun x M1 F1 ρ1 H1 v e1 S1 r1 rx h1 => aN.run h1 S1 _ (r1.set rx i)
theorem DB {e : Fg.E} (h : TC B Φ E (.ex e) Dn σ H) : Cf (T B Φ E e) Dn σ H := by
 obtain ⟨σD,M,F,ρ,S,r,h⟩ := h
 simp only [ex] at h
 exact TC.one S r h fun x M1 F1 ρ1 H1 v e1 S1 r1 rx h1 => aN.run h1 S1 _ r1
theorem zV {e : Fg.E} (h : TC B Φ E (.ret e) Dn σ H) : G2 (T B Φ E e) Dn σ H := by
 obtain ⟨σD,M,F,ρ,S,r,h⟩ := h
 simp only [ex] at h
 exact TC.one S r h fun x M1 F1 ρ1 H1 v e1 S1 r1 rx h1 => aN.run h1 S1 _ rx
theorem z6 {c : Fg.E} {a b : Ss} (h : TC B Φ E (.ifs c a b) Dn σ H) : G6 (TB B Φ E c) (vm B Φ E a) (vm B Φ E b) Dn σ H := by
 obtain ⟨σD,M,F,ρ,S,r,h⟩ := h
 simp only [ex] at h
 refine TC.one S r h fun x M1 F1 ρ1 H1 v e1 S1 r1 rx h1 => ?_
 split at h1
 ·simp only [RD] at rx; subst rx
  exact ⟨true,rfl,by dsimp only; rw [if_pos rfl]; exact ⟨σD,M1,F1,ρ1,S1,r1,h1⟩⟩
 ·simp only [RD] at rx; subst rx
  exact ⟨false,rfl,by dsimp only; rw [if_neg Bool.false_ne_true]; exact ⟨σD,M1,F1,ρ1,S1,r1,h1⟩⟩
 ·exact h1.elim
theorem oj (h : vm B Φ E .nil Dn σ H) : Ce Dn σ H := by
 obtain ⟨σD,M,F,ρ,S,r,h⟩ := h
 simp only [exs] at h
 exact aN.run h S _ r
theorem k9 {s : S} {ss : Ss} (h : vm B Φ E (.cons s ss) Dn σ H) : G1 (TC B Φ E s) (vm B Φ E ss) Dn σ H := by
 obtain ⟨σD,M,F,ρ,S,r,h⟩ := h
 simp only [exs] at h
 refine ⟨σD,M,F,ρ,S,r,?_⟩
 cases hx : ex Φ s σD M with
 | ok o M1 =>
  rw [hx] at h
  simp only [R.af] at h
  intro F' ρ' H' e S'
  cases o with
  | nx σ1 => exact fun σ' r' => ⟨σ1,M1,F',ρ',S',r',aN.weak e h⟩
  | rt d => exact fun v q => h F' ρ' H' e S' v q
  | bk σ1 => exact fun σ' q => h F' ρ' H' e S' σ' q
  | ct σ1 => exact fun σ' q => h F' ρ' H' e S' σ' q
  | xc c σ1 => exact fun σ' cv x q1 q2 => h F' ρ' H' e S' σ' cv x q1 q2
 | exc c M1 => rw [hx] at h; exact h
 | bad => rw [hx] at h; exact h
theorem rG {fz : Bool} {x : D} {ds : List D} {v : V} {vs : List V} {X : XK} (S : SR B F ρ M H) (rx : RD B F ρ H x v) (r : aj B F ρ H ds vs) (h : Post B (fU .append fz M x ds) F ρ H Q X) : mD v vs H Q := by
 unfold fU at h
 cases hl : gh M x with
 | none => rw [hl] at h; exact h.elim
 | some q =>
  rw [hl] at h
  obtain ⟨rfl,hx⟩ := jI hl
  cases ds with
  | nil => exact h.elim
  | cons d t =>
   cases t with
   | cons _ _ => exact h.elim
   | nil =>
    simp only [mL,uF] at h
    split at h
    ·rename_i hlen
     obtain ⟨w,rfl,r1⟩ := DL r
     simp only [RD] at rx
     obtain ⟨a,h1,rfl⟩ := rx
     obtain ⟨ws,h2,h3⟩ := S.obj _ a _ h1 hx
     refine ⟨a,ws,w,rfl,rfl,h2,?_,?_⟩
     ·rw [<- aj.length h3]; exact Nat.lt_of_lt_of_le (of_decide_eq_true hlen) bM
     ·obtain ⟨S',e⟩ := S.st (o := .lst (ws ++ [w])) (u := .lst (q.2 ++ [d])) h1 (fun _ _ q => by rw [h2] at q; cases q) ⟨_,aA,aj.bz (Ext0.at_ S h1) _ _ (h3.append (aj.cons r1 aj.nil))⟩
      exact h _ _ _ _ e S' (by simp only [RD])
    ·exact h.elim
theorem DQ {k : Key} {d : D} {v : V} (rd : RD B F ρ H d v) : ∀ {di : List (Ky × D)} {kvs : List (Key × V)},kvs.map (·.1) = di.map (·.1) -> aj B F ρ H (di.map (·.2)) (kvs.map (·.2)) ->
  (putK kvs k v).map (·.1) = (put di k d).map (·.1) /\ aj B F ρ H ((put di k d).map (·.2)) ((putK kvs k v).map (·.2)) := by
 have hmap : ∀ {di : List (Ky × D)} {kvs : List (Key × V)},kvs.map (·.1) = di.map (·.1) -> aj B F ρ H (di.map (·.2)) (kvs.map (·.2)) ->
   (kvs.map fun kv => if kv.1 = k then (kv.1,v) else kv).map (·.1) = (di.map fun kv => if kv.1 = k then (kv.1,d) else kv).map (·.1) /\
   aj B F ρ H ((di.map fun kv => if kv.1 = k then (kv.1,d) else kv).map (·.2)) ((kvs.map fun kv => if kv.1 = k then (kv.1,v) else kv).map (·.2)) := by
  intro di
  induction di with
  | nil => intro kvs h1 h2; cases kvs with | nil => exact ⟨rfl,aj.nil⟩ | cons _ _ => simp at h1
  | cons p di ih =>
   intro kvs h1 h2
   cases kvs with
   | nil => simp at h1
   | cons q kvs =>
    obtain ⟨pk,pd⟩ := p
    obtain ⟨qk,qv⟩ := q
    simp only [List.map_cons,List.cons.injEq] at h1
    simp only [List.map_cons,aj] at h2
    obtain ⟨u,ws,e,r1,r2⟩ := h2
    cases e
    obtain ⟨e1,e2⟩ := h1
    subst e1
    obtain ⟨i1,i2⟩ := ih e2 r2
    by_cases hk : qk = k
    ·simp only [List.map_cons,if_pos hk,i1,true_and]
     exact aj.cons rd i2
    ·simp only [List.map_cons,if_neg hk,i1,true_and]
     exact aj.cons r1 i2
 have hany : ∀ {di : List (Ky × D)} {kvs : List (Key × V)},kvs.map (·.1) = di.map (·.1) -> (kvs.any fun kv => decide (kv.1 = k)) = (di.any fun kv => decide (kv.1 = k)) := by
  intro di
  induction di with
  | nil => intro kvs h1; cases kvs with | nil => rfl | cons _ _ => simp at h1
  | cons p di ih =>
   intro kvs h1
   cases kvs with
   | nil => simp at h1
   | cons q kvs =>
    simp only [List.map_cons,List.cons.injEq] at h1
    simp only [List.any_cons,h1.1,ih h1.2]
 intro di kvs h1 h2
 unfold putK put
 rw [hany h1]
 split
 ·exact hmap h1 h2
 ·simp only [List.map_append,List.map_cons,List.map_nil,h1,true_and]
  exact h2.append (aj.cons rd aj.nil)
noncomputable def Walks (B : Bd) (J : It) (src : D) (ds : List D) (F0 : Addr -> Prop) (ρ0 : List Addr) (M0 : MH) (H0 : Hp) : Prop :=
 ∀ (i : Nat) F ρ M H,Ext F0 ρ0 H0 F ρ H -> SR B F ρ M H -> aP M0 src M = true ->
  (∀ d,ds[i]? = some d -> J.go i H /\ ∀ x H',J.JT i H x H' -> ∃ F',Ext F ρ H F' ρ H' /\ SR B F' ρ M H' /\ RD B F' ρ H' d x) /\ (ds.length <= i -> J.stop i H)
noncomputable def C9 (B : Bd) (Φ : aQ) (E : Gx) (c : Src) : TI := fun σ H R => ∃ (σD : Sg) (M : MH) (F : Addr -> Prop) (ρ : List Addr),
 SR B F ρ M H /\ RS B F ρ H σD σ /\ ai (fun F' ρ' H' (p : D × List D × Bool) (J : It) => ∀ M',bP Φ c σD M = .ok p M' -> SR B F' ρ' M' H' -> Walks B J p.1 p.2.1 F' ρ' M' H' /\
  (p.2.2 = true -> ∃ n a,p.1 = .ref n /\ ρ'[n]? = some a /\ E.th a /\ ∀ w v,H a ≠ some (.fh w v))) B (bP Φ c σD M) F ρ H R (fun cv x H' => E.e cv x σ H')
noncomputable def thE (th : Addr -> Prop) (D : Ends) : Ends := ⟨fun σ H => ∃ H',ze th H H' /\ D.nx σ H',fun v H => ∃ H',ze th H H' /\ D.rt v H',fun σ H => ∃ H',ze th H H' /\ D.bk σ H',fun σ H => ∃ H',ze th H H' /\ D.ct σ H'⟩
theorem cI {F1 : Addr -> Prop} {ρ0 ρ1 : List Addr} {H1 : Hp} {M1 : MH} {fl : Bool} {src : D} {th : Addr -> Prop} (S : SR B F1 ρ1 M1 H1) (e : Ext F ρ H F1 ρ1 H1) (hp : ρ0 <+: ρ1) (wz : fl = true -> ∃ n a,src = .ref n /\ ρ0[n]? = some a /\ th a /\ ∀ w v,H a ≠ some (.fh w v)) :
  ∃ H',ze th H1 H' /\ SR B F1 ρ1 (c6 fl src M1) H' /\ Ext F ρ H F1 ρ1 H' /\ Ext0 F1 ρ1 H1 F1 ρ1 H' := by
 have same : SR B F1 ρ1 M1 H1 /\ Ext F ρ H F1 ρ1 H1 /\ Ext0 F1 ρ1 H1 F1 ρ1 H1 := ⟨S,e,S.refl.toExt0⟩
 cases fl with
 | false => exact ⟨H1,.inl rfl,by cases src <;> exact same⟩
 | true =>
  obtain ⟨n,a,rfl,hn,ht,hz⟩ := wz rfl
  have hn1 : ρ1[n]? = some a := by
   obtain ⟨t,rfl⟩ := hp
   obtain ⟨q,_⟩ := List.getElem?_eq_some_iff.mp hn
   rw [List.getElem?_append_left q]; exact hn
  cases hM : M1[n]? with
  | none => refine ⟨H1,.inl rfl,?_⟩; simp only [c6,hM]; exact same
  | some o =>
   cases o with
   | pI kvs =>
    obtain ⟨o,kws,h1,S'⟩ := S.uw hn1 hM
    refine ⟨upd H1 a (.dK kws),.inr ⟨a,o,kws,ht,h1,rfl⟩,?_,e.thaw (List.mem_of_getElem? hn1) hz S.sep,Ext0.at_ S hn1⟩
    simp only [c6,hM]; exact S'
   | lst _ => refine ⟨H1,.inl rfl,?_⟩; simp only [c6,hM]; exact same
   | dct _ => refine ⟨H1,.inl rfl,?_⟩; simp only [c6,hM]; exact same
   | ins _ _ => refine ⟨H1,.inl rfl,?_⟩; simp only [c6,hM]; exact same
theorem RS.bz {F' : Addr -> Prop} {ρ' : List Addr} {H' : Hp} (e : Ext0 F ρ H F' ρ' H') (h : RS B F ρ H σD σ) : RS B F' ρ' H' σD σ :=
 ⟨h.len,fun i d q => let ⟨v,h1,h2⟩ := h.get i d q; ⟨v,h1,RD.bz e d v h2⟩⟩
noncomputable def GH (tg : List Nat) (K : W.Frag) : TG := match tg with
 | [i] => lH i
 | [i,j] => fun v σ H Q => ∃ a x y,v = .ref a /\ jv K H a [x,y] /\ Q ((σ.set i (some x)).set j (some y)) H
 | _ => fun _ _ _ _ => False
theorem jY {tg : List Nat} {d : D} {v : V} {σ1 : Sg} {N : St -> Hp -> Prop} (r : RS B F ρ H σD σ) (rd : RD B F ρ H d v) (h : sets tg M d σD = some σ1) (k : ∀ σ',RS B F ρ H σ1 σ' -> N σ' H) : GH tg B.K v σ H N := by
 unfold sets at h
 split at h
 ·cases h; exact k _ (r.set rd _)
 ·split at h
  ·cases h
   simp only [RD] at rd
   obtain ⟨a,vs,rfl,z,q⟩ := rd
   simp only [aj] at q
   obtain ⟨x,ws,rfl,r1,y,us,rfl,r2,rfl⟩ := q
   exact ⟨a,x,y,rfl,z.sq,k _ ((r.set r1 _).set r2 _)⟩
  ·cases h
 ·cases h
theorem z9 {tg : List Nat} {it : Src} {b : Ss} (h : TC B Φ E (.for tg it b) Dn σ H) : G7 (C9 B Φ E it) (GH tg B.K) (vm B Φ E b) (thE E.th Dn) σ H := by
 obtain ⟨σD,M,F,ρ,S,r,h⟩ := h
 simp only [ex] at h
 refine ⟨σD,M,F,ρ,S,r,?_⟩
 cases hx : bP Φ it σD M with
 | exc c M1 => rw [hx] at h; exact fun F' ρ' H' cv x e S q => h F' ρ' H' e S σ cv x (r.mono e) q
 | bad => rw [hx] at h; exact h
 | ok p M0 =>
  rw [hx] at h
  simp only [R.fm] at h
  intro F0 ρ0 H0 J e0 S0 hw
  obtain ⟨W,wz⟩ := hw M0 rfl S0
  obtain ⟨src,ds,fl⟩ := p
  dsimp only at h W wz
  refine ⟨fun i m σ H1 => m + i = ds.length /\ ∃ σD M F1 ρ1,Ext F ρ H F1 ρ1 H1 /\ Ext F0 ρ0 H0 F1 ρ1 H1 /\ SR B F1 ρ1 M H1 /\ RS B F1 ρ1 H1 σD σ /\ aP M0 src M = true /\ aN B ((b6 (exs Φ b) tg (aP M0 src) (ds.drop i) σD M).fin (c6 fl src)) F ρ H Dn E,⟨ds.length,by simp,σD,M0,F0,ρ0,e0,S0.refl,S0,r.mono e0,?_,h⟩,?_⟩
  ·unfold aP; split <;> simp
  rintro i m σ1 H1 ⟨hm,zl,M1,F1,ρ1,eo,e1,S1,r1,st1,p1⟩
  obtain ⟨wgo,wst⟩ := W i F1 ρ1 M1 H1 e1 S1 st1
  by_cases hi : i < ds.length
  ·have hd : ds.drop i = ds[i] :: ds.drop (i + 1) := List.drop_eq_getElem_cons hi
   rw [hd] at p1
   unfold b6 at p1
   obtain ⟨go,yl⟩ := wgo ds[i] (List.getElem?_eq_getElem hi)
   refine .inr ⟨go,fun σ' H' => ∃ σD M F1 ρ1,Ext F ρ H F1 ρ1 H' /\ Ext F0 ρ0 H0 F1 ρ1 H' /\ SR B F1 ρ1 M H' /\ RS B F1 ρ1 H' σD σ' /\ aP M0 src M = true /\ aN B ((b6 (exs Φ b) tg (aP M0 src) (ds.drop (i + 1)) σD M).fin (c6 fl src)) F ρ H Dn E,fun σ' H' q => ⟨m - 1,by omega,by omega,q⟩,fun x H' hy => ?_⟩
   obtain ⟨F',e2,S2,rd⟩ := yl x H' hy
   split at p1
   ·exact p1.elim
   ·rename_i σ2 hs
    refine jY (r1.mono e2) rd hs fun σ' r' => ⟨σ2,M1,F',ρ1,S2,r',?_⟩
    cases hb : exs Φ b σ2 M1 with
    | exc c M3 => rw [hb] at p1; exact p1.elim
    | bad => rw [hb] at p1; exact p1.elim
    | ok o M3 =>
     rw [hb] at p1
     simp only [R.af] at p1
     intro F3 ρ3 H3 e3 S3
     have Jt := (eo.trans e2).trans e3
     have Jx := (e1.trans e2).trans e3
     cases o with
     | nx σ3 =>
      simp only at p1
      intro σ4 r4
      split at p1
      ·rename_i hst
       exact ⟨σ3,M3,F3,ρ3,Jt,Jx,S3,r4,hst,p1⟩
      ·exact p1.elim
     | ct σ3 =>
      simp only at p1
      intro σ4 r4
      split at p1
      ·rename_i hst
       exact ⟨σ3,M3,F3,ρ3,Jt,Jx,S3,r4,hst,p1⟩
      ·exact p1.elim
     | bk σ3 =>
      obtain ⟨H4,t4,S4,e4,x4⟩ := cI S3 Jt Jx.r wz
      exact fun σ4 r4 => ⟨H4,t4,p1 F3 ρ3 H4 e4 S4 σ4 (r4.bz x4)⟩
     | rt d =>
      obtain ⟨H4,t4,S4,e4,x4⟩ := cI S3 Jt Jx.r wz
      exact fun v q => ⟨H4,t4,p1 F3 ρ3 H4 e4 S4 v (RD.bz x4 _ _ q)⟩
     | xc c σ3 =>
      obtain ⟨H4,t4,S4,e4,x4⟩ := cI S3 Jt Jx.r wz
      exact fun σ4 cv x q1 q2 => E.cl cv x σ4 H3 H4 t4 (p1 F3 ρ3 H4 e4 S4 σ4 cv x (q1.bz x4) q2)
  ·have hd : ds.drop i = [] := List.drop_eq_nil_of_le (Nat.le_of_not_lt hi)
   rw [hd] at p1
   unfold b6 at p1
   obtain ⟨H4,t4,S4,e4,x4⟩ := cI S1 eo e1.r wz
   exact .inl ⟨wst (Nat.le_of_not_lt hi),H4,t4,p1 F1 ρ1 H4 e4 S4 σ1 (r1.bz x4)⟩
theorem um {c : Fg.E} {b : Ss} (h : TC B Φ E (.while c b) Dn σ H) : vz (TB B Φ E c) (vm B Φ E b) Dn σ H := by
 obtain ⟨σD,M,F,ρ,S,r,h⟩ := h
 simp only [ex] at h
 refine ⟨fun m σ H => ∃ σD M F ρ,SR B F ρ M H /\ RS B F ρ H σD σ /\ aN B (bf (ev Φ c) (exs Φ b) m σD M) F ρ H Dn E,⟨Φ.turns,σD,M,F,ρ,S,r,h⟩,?_⟩
 rintro m σ1 H1 ⟨zl,M1,F1,ρ1,S1,r1,p1⟩
 cases m with
 | zero => simp only [bf] at p1; exact p1.elim
 | succ m =>
  simp only [bf] at p1
  refine TC.one S1 r1 p1 fun x M2 F2 ρ2 H2 v e2 S2 r2 rx h2 => ?_
  split at h2
  ·simp only [RD] at rx; subst rx
   refine ⟨false,rfl,?_⟩
   exact aN.run h2 S2 _ r2
  ·simp only [RD] at rx; subst rx
   refine ⟨true,rfl,?_⟩
   refine ⟨fun σ' H' => ∃ σD M F ρ,SR B F ρ M H' /\ RS B F ρ H' σD σ' /\ aN B (bf (ev Φ c) (exs Φ b) m σD M) F ρ H' Dn E,fun σ' H' q => ⟨m,Nat.lt_succ_self m,q⟩,zl,M2,F2,ρ2,S2,r2,?_⟩
   cases hb : exs Φ b zl M2 with
   | exc c M3 => rw [hb] at h2; exact h2
   | bad => rw [hb] at h2; exact h2
   | ok o M3 =>
    rw [hb] at h2
    simp only [R.af] at h2
    intro F3 ρ3 H3 e3 S3
    cases o with
    | nx σ3 => exact fun σ4 r4 => ⟨σ3,M3,F3,ρ3,S3,r4,aN.weak e3 h2⟩
    | ct σ3 => exact fun σ4 r4 => ⟨σ3,M3,F3,ρ3,S3,r4,aN.weak e3 h2⟩
    | bk σ3 => exact fun σ4 r4 => h2 F3 ρ3 H3 e3 S3 σ4 r4
    | rt d => exact fun v q => h2 F3 ρ3 H3 e3 S3 v q
    | xc c σ3 => exact fun σ4 cv x q1 q2 => h2 F3 ρ3 H3 e3 S3 σ4 cv x q1 q2
  ·exact h2.elim
end
end Fg
end
section
set_option autoImplicit false
namespace Fg
open PySem PySem.Spec L2
section
variable {X : Cx} {pins : List (Addr × Obj)} {σ : L2.St} {H : Hp} {s : Shared}
mutual
theorem DV.inj (I : Inv X pins σ H s) : ∀ {d e : D} {x : V},DV X.K H d x -> DV X.K H e x -> d = e
 | .ak,e,x,h,h' => by
  simp only [DV] at h; subst h
  cases e <;> simp only [DV] at h' <;> first | rfl | (cases h'; done) | (obtain ⟨_,_,q,_⟩ := h'; cases q)
 | .bl b,e,x,h,h' => by
  simp only [DV] at h; subst h
  cases e <;> simp only [DV] at h' <;> first | (cases h'; rfl) | (cases h'; done) | (obtain ⟨_,_,q,_⟩ := h'; cases q)
 | .int b,e,x,h,h' => by
  simp only [DV] at h; subst h
  cases e <;> simp only [DV] at h' <;> first | (cases h'; rfl) | (cases h'; done) | (obtain ⟨_,_,q,_⟩ := h'; cases q)
 | .str b,e,x,h,h' => by
  simp only [DV] at h; subst h
  cases e <;> simp only [DV] at h' <;> first | (cases h'; rfl) | (cases h'; done) | (obtain ⟨_,_,q,_⟩ := h'; cases q)
 | .tup ds,e,x,h,h' => by
  simp only [DV] at h
  obtain ⟨a,vs,rfl,h1,h2⟩ := h
  cases e with
  | tup es =>
   simp only [DV] at h'
   obtain ⟨b,ws,q,h3,h4⟩ := h'
   cases q
   have := I.kY h1 h3
   subst this
   rw [iM.inj I h2 h4]
  | lst es =>
   simp only [DV] at h'
   obtain ⟨b,ws,q,h3,h4⟩ := h'
   cases q
   obtain ⟨its,_,t1,_⟩ := I.tuple h1
   obtain ⟨its',_,t2,_⟩ := I.list h3
   exact absurd rfl (SeqAt.ne_of_list_tuple t2.isList t1)
  | ak => simp only [DV] at h'; cases h'
  | bl _ => simp only [DV] at h'; cases h'
  | int _ => simp only [DV] at h'; cases h'
  | str _ => simp only [DV] at h'; cases h'
  | dct _ _ => simp only [DV] at h'
  | ref _ => simp only [DV] at h'
 | .lst ds,e,x,h,h' => by
  simp only [DV] at h
  obtain ⟨a,vs,rfl,h1,h2⟩ := h
  cases e with
  | lst es =>
   simp only [DV] at h'
   obtain ⟨b,ws,q,h3,h4⟩ := h'
   cases q
   have := I.kj h1 h3
   subst this
   rw [iM.inj I h2 h4]
  | tup es =>
   simp only [DV] at h'
   obtain ⟨b,ws,q,h3,h4⟩ := h'
   cases q
   obtain ⟨its,_,t1,_⟩ := I.list h1
   obtain ⟨its',_,t2,_⟩ := I.tuple h3
   exact absurd rfl (SeqAt.ne_of_list_tuple t1.isList t2)
  | ak => simp only [DV] at h'; cases h'
  | bl _ => simp only [DV] at h'; cases h'
  | int _ => simp only [DV] at h'; cases h'
  | str _ => simp only [DV] at h'; cases h'
  | dct _ _ => simp only [DV] at h'
  | ref _ => simp only [DV] at h'
 | .dct _ _,e,x,h,h' => by simp only [DV] at h
 | .ref _,e,x,h,h' => by simp only [DV] at h
theorem iM.inj (I : Inv X pins σ H s) : ∀ {ds es : List D} {xs : List V},iM X.K H ds xs -> iM X.K H es xs -> ds = es
 | [],es,xs,h,h' => by
  simp only [iM] at h; subst h
  cases es with
  | nil => rfl
  | cons _ _ => simp only [iM] at h'; obtain ⟨_,_,q,_⟩ := h'; cases q
 | d :: ds,es,xs,h,h' => by
  simp only [iM] at h
  obtain ⟨v,ws,rfl,h1,h2⟩ := h
  cases es with
  | nil => simp only [iM] at h'; cases h'
  | cons e es =>
   simp only [iM] at h'
   obtain ⟨v',ws',q,h3,h4⟩ := h'
   cases q
   rw [DV.inj I h1 h3,iM.inj I h2 h4]
end
mutual
theorem kE {K : W.Frag} {H : Hp} : ∀ {d : D} {x : V},DV K H d x -> aI d d = true
 | .ak,_,_ => by simp only [aI]
 | .bl b,_,_ => by simp only [aI]; simp
 | .int i,_,_ => by simp only [aI]; simp
 | .str x,_,_ => by simp only [aI]; simp
 | .tup ds,_,h => by simp only [DV] at h; obtain ⟨_,_,_,_,q⟩ := h; simp only [aI]; exact i0 q
 | .lst ds,_,h => by simp only [DV] at h; obtain ⟨_,_,_,_,q⟩ := h; simp only [aI]; exact i0 q
 | .dct _ _,_,h => by simp only [DV] at h
 | .ref _,_,h => by simp only [DV] at h
theorem i0 {K : W.Frag} {H : Hp} : ∀ {ds : List D} {xs : List V},iM K H ds xs -> dI ds ds = true
 | [],_,_ => by simp only [dI]
 | d :: ds,_,h => by
  simp only [iM] at h
  obtain ⟨_,_,_,h1,h2⟩ := h
  simp only [dI,kE h1,i0 h2,Bool.and_self]
end
theorem iM.length {K : W.Frag} {H : Hp} : ∀ {ds : List D} {xs : List V},iM K H ds xs -> ds.length = xs.length
 | [],_,h => by simp only [iM] at h; subst h; rfl
 | d :: ds,_,h => by
  simp only [iM] at h
  obtain ⟨_,_,rfl,_,h2⟩ := h
  simp [iM.length h2]
theorem iM.get {K : W.Frag} {H : Hp} : ∀ {ds : List D} {xs : List V} {i : Nat} (h1 : i < ds.length),iM K H ds xs -> ∃ v,xs[i]? = some v /\ DV K H ds[i] v
 | [],_,i,h1,_ => by simp at h1
 | d :: ds,_,i,h1,h => by
  simp only [iM] at h
  obtain ⟨v,ws,rfl,q1,q2⟩ := h
  cases i with
  | zero => exact ⟨v,rfl,q1⟩
  | succ i =>
   simp only [List.length_cons] at h1
   obtain ⟨u,a,b⟩ := iM.get (i := i) (by omega) q2
   exact ⟨u,by simpa using a,by simpa using b⟩
theorem cD : ∀ {ds : List D} {i : Nat} (h : i < ds.length),dep ds[i] <= deps ds
 | [],i,h => by simp at h
 | d :: ds,i,h => by
  cases i with
  | zero => simp only [List.getElem_cons_zero,deps]; omega
  | succ i =>
   simp only [List.length_cons] at h
   have := cD (ds := ds) (i := i) (by omega)
   simp only [List.getElem_cons_succ,deps]; omega
theorem cT : ∀ (ds es : List D),((List.range (min ds.length es.length)).all (fun j => match ds[j]?,es[j]? with | some a,some b => aI a b | _,_ => false) && ds.length == es.length) = dI ds es
 | [],[] => by simp [dI]
 | [],e :: es => by simp [dI]
 | d :: ds,[] => by simp [dI]
 | d :: ds,e :: es => by
  have ih := cT ds es
  simp only [dI,<- ih]
  simp only [List.length_cons,Nat.succ_min_succ,List.range_succ_eq_map,List.all_cons,List.all_map,Function.comp_def]
  simp [Bool.and_assoc]
noncomputable def EqB (s : Shared) (d e : D) (u w : Value) (n : Nat) : Prop := ∀ A : Around,A.units + n < cLine -> SeqAt.RcAt A s u w (aI d e) /\ SeqAt.EqAt A s u w (aI d e)
theorem in1_units (A : Around) : A.in1.units = A.units + 1 := rfl
theorem aS : ∀ {ds : List D} {i : Nat},bD ds = true -> ∀ (h : i < ds.length),plain ds[i] = true
 | [],i,_,h => by simp at h
 | d :: ds,i,p,h => by
  simp only [bD,Bool.and_eq_true] at p
  cases i with
  | zero => exact p.1
  | succ i => simp only [List.length_cons] at h; simpa using aS p.2 (by omega)
theorem eq_data (I : Inv X pins σ H s) : ∀ (n : Nat) (d e : D) (x y : V) (u w : Value),dep d + dep e < n -> DV X.K H d x -> DV X.K H e y -> plain d = true -> plain e = true -> RelV x u -> RelV y w -> EqB s d e u w (min (dep d) (dep e) + 1)
 | 0,_,_,_,_,_,_,h,_,_,_,_,_,_ => absurd h (Nat.not_lt_zero _)
 | n + 1, d, e, x, y, u, w, hn, hd, he, pd, pe, ru, rw' => by
  have ih := eq_data I n
  intro A hA
  have hu : A.units < cLine := by omega
  cases d with
  | bl _ => simp [plain] at pd
  | dct _ _ => simp [plain] at pd
  | ref _ => simp [plain] at pd
  | ak =>
   simp only [DV] at hd; subst hd; cases (show u = Value.none from ru)
   cases e with
   | bl _ => simp [plain] at pe
   | dct _ _ => simp [plain] at pe
   | ref _ => simp [plain] at pe
   | ak =>
    simp only [DV] at he; subst he; cases (show w = Value.none from rw')
    simp only [aI]; exact ⟨SeqAt.RcAt.none_none,SeqAt.EqAt.same _⟩
   | int j =>
    simp only [DV] at he; subst he; obtain ⟨t',rfl⟩ := (show ∃ t,w = Value.int j t from rw')
    simp only [aI]; exact ⟨SeqAt.RcAt.none_int j t',SeqAt.EqAt.none_int j t'⟩
   | str j =>
    simp only [DV] at he; subst he; obtain ⟨t',rfl⟩ := (show ∃ t,w = Value.str j t from rw')
    simp only [aI]; exact ⟨SeqAt.RcAt.none_str j t',SeqAt.EqAt.none_str j t'⟩
   | tup es =>
    simp only [DV] at he
    obtain ⟨b,ws,rfl,h3,h4⟩ := he
    cases (show w = Value.ref b from rw')
    obtain ⟨its,_,t1,_⟩ := I.tuple h3
    simp only [aI]; exact ⟨SeqAt.RcAt.none_tuple  t1 hu,SeqAt.EqAt.none_tuple  t1 hu⟩
   | lst es =>
    simp only [DV] at he
    obtain ⟨b,ws,rfl,h3,h4⟩ := he
    cases (show w = Value.ref b from rw')
    obtain ⟨its,_,t1,_⟩ := I.list h3
    simp only [aI]; exact ⟨SeqAt.RcAt.none_list  t1.isList hu,SeqAt.EqAt.none_list  t1.isList hu⟩
  | int i =>
   simp only [DV] at hd; subst hd; obtain ⟨t,rfl⟩ := (show ∃ t,u = Value.int i t from ru)
   cases e with
   | bl _ => simp [plain] at pe
   | dct _ _ => simp [plain] at pe
   | ref _ => simp [plain] at pe
   | ak =>
    simp only [DV] at he; subst he; cases (show w = Value.none from rw')
    simp only [aI]; exact ⟨SeqAt.RcAt.int_none i t,SeqAt.EqAt.int_none i t⟩
   | int j =>
    simp only [DV] at he; subst he; obtain ⟨t',rfl⟩ := (show ∃ t,w = Value.int j t from rw')
    have z : aI (D.int i) (D.int j) = (i == j) := by simp only [aI]; by_cases q : i = j <;> simp [q]
    rw [z]; exact ⟨SeqAt.RcAt.int_int i t j t',SeqAt.EqAt.int_int i t j t'⟩
   | str j =>
    simp only [DV] at he; subst he; obtain ⟨t',rfl⟩ := (show ∃ t,w = Value.str j t from rw')
    simp only [aI]; exact ⟨SeqAt.RcAt.int_str i t j t',SeqAt.EqAt.int_str i t j t'⟩
   | tup es =>
    simp only [DV] at he
    obtain ⟨b,ws,rfl,h3,h4⟩ := he
    cases (show w = Value.ref b from rw')
    obtain ⟨its,_,t1,_⟩ := I.tuple h3
    simp only [aI]; exact ⟨SeqAt.RcAt.int_tuple i t t1 hu,SeqAt.EqAt.int_tuple i t t1 hu⟩
   | lst es =>
    simp only [DV] at he
    obtain ⟨b,ws,rfl,h3,h4⟩ := he
    cases (show w = Value.ref b from rw')
    obtain ⟨its,_,t1,_⟩ := I.list h3
    simp only [aI]; exact ⟨SeqAt.RcAt.int_list i t t1.isList hu,SeqAt.EqAt.int_list i t t1.isList hu⟩
  | str i =>
   simp only [DV] at hd; subst hd; obtain ⟨t,rfl⟩ := (show ∃ t,u = Value.str i t from ru)
   cases e with
   | bl _ => simp [plain] at pe
   | dct _ _ => simp [plain] at pe
   | ref _ => simp [plain] at pe
   | ak =>
    simp only [DV] at he; subst he; cases (show w = Value.none from rw')
    simp only [aI]; exact ⟨SeqAt.RcAt.str_none i t,SeqAt.EqAt.str_none i t⟩
   | int j =>
    simp only [DV] at he; subst he; obtain ⟨t',rfl⟩ := (show ∃ t,w = Value.int j t from rw')
    simp only [aI]; exact ⟨SeqAt.RcAt.str_int i t j t',SeqAt.EqAt.str_int i t j t'⟩
   | str j =>
    simp only [DV] at he; subst he; obtain ⟨t',rfl⟩ := (show ∃ t,w = Value.str j t from rw')
    have z : aI (D.str i) (D.str j) = (i == j) := by simp only [aI]; by_cases q : i = j <;> simp [q]
    rw [z]; exact ⟨SeqAt.RcAt.str_str i t j t',SeqAt.EqAt.str_str i t j t'⟩
   | tup es =>
    simp only [DV] at he
    obtain ⟨b,ws,rfl,h3,h4⟩ := he
    cases (show w = Value.ref b from rw')
    obtain ⟨its,_,t1,_⟩ := I.tuple h3
    simp only [aI]; exact ⟨SeqAt.RcAt.str_tuple i t t1 hu,SeqAt.EqAt.str_tuple i t t1 hu⟩
   | lst es =>
    simp only [DV] at he
    obtain ⟨b,ws,rfl,h3,h4⟩ := he
    cases (show w = Value.ref b from rw')
    obtain ⟨its,_,t1,_⟩ := I.list h3
    simp only [aI]; exact ⟨SeqAt.RcAt.str_list i t t1.isList hu,SeqAt.EqAt.str_list i t t1.isList hu⟩
  | tup ds =>
   simp only [DV] at hd
   obtain ⟨a,vs,rfl,h1,h2⟩ := hd
   cases (show u = Value.ref a from ru)
   obtain ⟨its,r1,t1,_⟩ := I.tuple h1
   cases e with
   | bl _ => simp [plain] at pe
   | dct _ _ => simp [plain] at pe
   | ref _ => simp [plain] at pe
   | ak =>
    simp only [DV] at he; subst he; cases (show w = Value.none from rw')
    simp only [aI]; exact ⟨SeqAt.RcAt.tuple_none  t1 hu,SeqAt.EqAt.tuple_none  t1 hu⟩
   | int j =>
    simp only [DV] at he; subst he; obtain ⟨t',rfl⟩ := (show ∃ t,w = Value.int j t from rw')
    simp only [aI]; exact ⟨SeqAt.RcAt.tuple_int j t' t1 hu,SeqAt.EqAt.tuple_int j t' t1 hu⟩
   | str j =>
    simp only [DV] at he; subst he; obtain ⟨t',rfl⟩ := (show ∃ t,w = Value.str j t from rw')
    simp only [aI]; exact ⟨SeqAt.RcAt.tuple_str j t' t1 hu,SeqAt.EqAt.tuple_str j t' t1 hu⟩
   | lst es =>
    simp only [DV] at he
    obtain ⟨b,ws,rfl,h3,h4⟩ := he
    cases (show w = Value.ref b from rw')
    obtain ⟨its2,r2,t2,_⟩ := I.list h3
    simp only [aI]; exact ⟨SeqAt.RcAt.tuple_list t1 t2.isList hu,SeqAt.EqAt.of_refs (Ne.symm (SeqAt.ne_of_list_tuple t2.isList t1)) (SeqAt.RcAt.tuple_list t1 t2.isList hu)⟩
   | tup es =>
    simp only [DV] at he
    obtain ⟨b,ws,rfl,h3,h4⟩ := he
    cases (show w = Value.ref b from rw')
    obtain ⟨its2,r2,t2,_⟩ := I.tuple h3
    have Eh : bD ds = true := by simpa [plain] using pd
    have Eg : bD es = true := by simpa [plain] using pe
    have l1 : its.length = ds.length := by rw [<- r1.length,h2.length]
    have l2 : its2.length = es.length := by rw [<- r2.length,h4.length]
    let f : Nat -> Bool := fun j => match ds[j]?,es[j]? with | some a,some b => aI a b | _,_ => false
    have items : ∀ j (h1 : j < its.toArray.size) (h2 : j < its2.toArray.size),SeqAt.EqAt A.in1 s its.toArray[j] its2.toArray[j] (f j) := by
     intro j j1 j2
     have mQ : j < ds.length := by rw [<- l1]; simpa using j1
     have mP : j < es.length := by rw [<- l2]; simpa using j2
     obtain ⟨v,e1,q1⟩ := h2.get mQ
     obtain ⟨v',e2,q2⟩ := h4.get mP
     obtain ⟨z,e3,q3⟩ := r1.get e1
     obtain ⟨z',e4,q4⟩ := r2.get e2
     have i1 : its.toArray[j] = z := by
      have : its[j]? = some its[j] := List.getElem?_eq_getElem (by simpa using j1)
      rw [this] at e3; simpa using Option.some.inj e3
     have i2 : its2.toArray[j] = z' := by
      have : its2[j]? = some its2[j] := List.getElem?_eq_getElem (by simpa using j2)
      rw [this] at e4; simpa using Option.some.inj e4
     have g1 := cD mQ
     have g2 := cD mP
     have hf : f j = aI ds[j] es[j] := by simp only [f,List.getElem?_eq_getElem mQ,List.getElem?_eq_getElem mP]
     rw [i1,i2,hf]
     simp only [dep] at hn hA
     exact (ih ds[j] es[j] v v' z z' (by omega) q1 q2 (aS Eh mQ) (aS Eg mP) q3 q4 A.in1 (by rw [in1_units]; omega)).2
    have vC : its.toArray.size = ds.length := by simpa using l1
    have zx : its2.toArray.size = es.length := by simpa using l2
    have rc : SeqAt.RcAt A s (.ref a) (.ref b) (aI (.tup ds) (.tup es)) := by
     have q := SeqAt.RcAt.tuples t1 t2 hu items
     rw [vC,zx,cT] at q
     simp only [aI]; exact q
    refine ⟨rc,?_⟩
    by_cases hab : a = b
    ·subst hab
     have i1 : DV X.K H (.tup ds) (.ref a) := by simp only [DV]; exact ⟨a,vs,rfl,h1,h2⟩
     have i2 : DV X.K H (.tup es) (.ref a) := by simp only [DV]; exact ⟨a,ws,rfl,h3,h4⟩
     rw [DV.inj I i1 i2,kE i2]
     exact SeqAt.EqAt.same _
    ·exact SeqAt.EqAt.of_refs hab rc
  | lst ds =>
   simp only [DV] at hd
   obtain ⟨a,vs,rfl,h1,h2⟩ := hd
   cases (show u = Value.ref a from ru)
   obtain ⟨its,r1,t1,_⟩ := I.list h1
   cases e with
   | bl _ => simp [plain] at pe
   | dct _ _ => simp [plain] at pe
   | ref _ => simp [plain] at pe
   | ak =>
    simp only [DV] at he; subst he; cases (show w = Value.none from rw')
    simp only [aI]; exact ⟨SeqAt.RcAt.list_none  t1.isList hu,SeqAt.EqAt.list_none  t1.isList hu⟩
   | int j =>
    simp only [DV] at he; subst he; obtain ⟨t',rfl⟩ := (show ∃ t,w = Value.int j t from rw')
    simp only [aI]; exact ⟨SeqAt.RcAt.list_int j t' t1.isList hu,SeqAt.EqAt.list_int j t' t1.isList hu⟩
   | str j =>
    simp only [DV] at he; subst he; obtain ⟨t',rfl⟩ := (show ∃ t,w = Value.str j t from rw')
    simp only [aI]; exact ⟨SeqAt.RcAt.list_str j t' t1.isList hu,SeqAt.EqAt.list_str j t' t1.isList hu⟩
   | tup es =>
    simp only [DV] at he
    obtain ⟨b,ws,rfl,h3,h4⟩ := he
    cases (show w = Value.ref b from rw')
    obtain ⟨its2,r2,t2,_⟩ := I.tuple h3
    simp only [aI]; exact ⟨SeqAt.RcAt.list_tuple t1.isList t2 hu,SeqAt.EqAt.of_refs (SeqAt.ne_of_list_tuple t1.isList t2) (SeqAt.RcAt.list_tuple t1.isList t2 hu)⟩
   | lst es =>
    simp only [DV] at he
    obtain ⟨b,ws,rfl,h3,h4⟩ := he
    cases (show w = Value.ref b from rw')
    obtain ⟨its2,r2,t2,_⟩ := I.list h3
    have Eh : bD ds = true := by simpa [plain] using pd
    have Eg : bD es = true := by simpa [plain] using pe
    have l1 : its.length = ds.length := by rw [<- r1.length,h2.length]
    have l2 : its2.length = es.length := by rw [<- r2.length,h4.length]
    let f : Nat -> Bool := fun j => match ds[j]?,es[j]? with | some a,some b => aI a b | _,_ => false
    have items : ∀ j (h1 : j < its.toArray.size) (h2 : j < its2.toArray.size),SeqAt.EqAt A.in1 s its.toArray[j] its2.toArray[j] (f j) := by
     intro j j1 j2
     have mQ : j < ds.length := by rw [<- l1]; simpa using j1
     have mP : j < es.length := by rw [<- l2]; simpa using j2
     obtain ⟨v,e1,q1⟩ := h2.get mQ
     obtain ⟨v',e2,q2⟩ := h4.get mP
     obtain ⟨z,e3,q3⟩ := r1.get e1
     obtain ⟨z',e4,q4⟩ := r2.get e2
     have i1 : its.toArray[j] = z := by
      have : its[j]? = some its[j] := List.getElem?_eq_getElem (by simpa using j1)
      rw [this] at e3; simpa using Option.some.inj e3
     have i2 : its2.toArray[j] = z' := by
      have : its2[j]? = some its2[j] := List.getElem?_eq_getElem (by simpa using j2)
      rw [this] at e4; simpa using Option.some.inj e4
     have g1 := cD mQ
     have g2 := cD mP
     have hf : f j = aI ds[j] es[j] := by simp only [f,List.getElem?_eq_getElem mQ,List.getElem?_eq_getElem mP]
     rw [i1,i2,hf]
     simp only [dep] at hn hA
     exact (ih ds[j] es[j] v v' z z' (by omega) q1 q2 (aS Eh mQ) (aS Eg mP) q3 q4 A.in1 (by rw [in1_units]; omega)).2
    have vC : its.toArray.size = ds.length := by simpa using l1
    have zx : its2.toArray.size = es.length := by simpa using l2
    have rc : SeqAt.RcAt A s (.ref a) (.ref b) (aI (.lst ds) (.lst es)) := by
     by_cases hz : ds.length = es.length
     ·have q := SeqAt.RcAt.lists t1.isList t2.isList (by rw [vC,zx,hz]) hu items
      have z := cT ds es
      rw [show min ds.length es.length = ds.length by omega,show (ds.length == es.length) = true by simpa using hz,Bool.and_true] at z
      rw [vC,z] at q
      simp only [aI]; exact q
     ·have q := SeqAt.RcAt.lists_lengths t1.isList t2.isList (by rw [vC,zx]; simpa using hz) hu
      have z := cT ds es
      rw [show (ds.length == es.length) = false by simpa using hz,Bool.and_false] at z
      simp only [aI,<- z]; exact q
    refine ⟨rc,?_⟩
    by_cases hab : a = b
    ·subst hab
     have i1 : DV X.K H (.lst ds) (.ref a) := by simp only [DV]; exact ⟨a,vs,rfl,h1,h2⟩
     have i2 : DV X.K H (.lst es) (.ref a) := by simp only [DV]; exact ⟨a,ws,rfl,h3,h4⟩
     rw [DV.inj I i1 i2,kE i2]
     exact SeqAt.EqAt.same _
    ·exact SeqAt.EqAt.of_refs hab rc
theorem ne_data (I : Inv X pins σ H s) : ∀ (d e : D) (x y : V) (u w : Value),DV X.K H d x -> DV X.K H e y -> plain d = true -> plain e = true -> RelV x u -> RelV y w -> ∀ A : Around,A.units + (min (dep d) (dep e) + 1) < cLine -> SeqAt.RcNeAt A s u w (!aI d e)
 | d, e, x, y, u, w, hd, he, pd, pe, ru, rw' => by
  have ih := eq_data I (dep d + dep e)
  intro A hA
  have hu : A.units < cLine := by omega
  cases d with
  | bl _ => simp [plain] at pd
  | dct _ _ => simp [plain] at pd
  | ref _ => simp [plain] at pd
  | ak =>
   simp only [DV] at hd; subst hd; cases (show u = Value.none from ru)
   cases e with
   | bl _ => simp [plain] at pe
   | dct _ _ => simp [plain] at pe
   | ref _ => simp [plain] at pe
   | ak =>
    simp only [DV] at he; subst he; cases (show w = Value.none from rw')
    simp only [aI,Bool.not_false,Bool.not_true]; exact SeqAt.RcNeAt.none_none
   | int j =>
    simp only [DV] at he; subst he; obtain ⟨t',rfl⟩ := (show ∃ t,w = Value.int j t from rw')
    simp only [aI,Bool.not_false,Bool.not_true]; exact SeqAt.RcNeAt.none_int j t'
   | str j =>
    simp only [DV] at he; subst he; obtain ⟨t',rfl⟩ := (show ∃ t,w = Value.str j t from rw')
    simp only [aI,Bool.not_false,Bool.not_true]; exact SeqAt.RcNeAt.none_str j t'
   | tup es =>
    simp only [DV] at he
    obtain ⟨b,ws,rfl,h3,h4⟩ := he
    cases (show w = Value.ref b from rw')
    obtain ⟨its,_,t1,_⟩ := I.tuple h3
    simp only [aI,Bool.not_false,Bool.not_true]; exact SeqAt.RcNeAt.none_tuple  t1 hu
   | lst es =>
    simp only [DV] at he
    obtain ⟨b,ws,rfl,h3,h4⟩ := he
    cases (show w = Value.ref b from rw')
    obtain ⟨its,_,t1,_⟩ := I.list h3
    simp only [aI,Bool.not_false,Bool.not_true]; exact SeqAt.RcNeAt.none_list  t1.isList hu
  | int i =>
   simp only [DV] at hd; subst hd; obtain ⟨t,rfl⟩ := (show ∃ t,u = Value.int i t from ru)
   cases e with
   | bl _ => simp [plain] at pe
   | dct _ _ => simp [plain] at pe
   | ref _ => simp [plain] at pe
   | ak =>
    simp only [DV] at he; subst he; cases (show w = Value.none from rw')
    simp only [aI,Bool.not_false,Bool.not_true]; exact SeqAt.RcNeAt.int_none i t
   | int j =>
    simp only [DV] at he; subst he; obtain ⟨t',rfl⟩ := (show ∃ t,w = Value.int j t from rw')
    have z : aI (D.int i) (D.int j) = (i == j) := by simp only [aI]; by_cases q : i = j <;> simp [q]
    rw [z]; exact SeqAt.RcNeAt.int_int i t j t'
   | str j =>
    simp only [DV] at he; subst he; obtain ⟨t',rfl⟩ := (show ∃ t,w = Value.str j t from rw')
    simp only [aI,Bool.not_false,Bool.not_true]; exact SeqAt.RcNeAt.int_str i t j t'
   | tup es =>
    simp only [DV] at he
    obtain ⟨b,ws,rfl,h3,h4⟩ := he
    cases (show w = Value.ref b from rw')
    obtain ⟨its,_,t1,_⟩ := I.tuple h3
    simp only [aI,Bool.not_false,Bool.not_true]; exact SeqAt.RcNeAt.int_tuple i t t1 hu
   | lst es =>
    simp only [DV] at he
    obtain ⟨b,ws,rfl,h3,h4⟩ := he
    cases (show w = Value.ref b from rw')
    obtain ⟨its,_,t1,_⟩ := I.list h3
    simp only [aI,Bool.not_false,Bool.not_true]; exact SeqAt.RcNeAt.int_list i t t1.isList hu
  | str i =>
   simp only [DV] at hd; subst hd; obtain ⟨t,rfl⟩ := (show ∃ t,u = Value.str i t from ru)
   cases e with
   | bl _ => simp [plain] at pe
   | dct _ _ => simp [plain] at pe
   | ref _ => simp [plain] at pe
   | ak =>
    simp only [DV] at he; subst he; cases (show w = Value.none from rw')
    simp only [aI,Bool.not_false,Bool.not_true]; exact SeqAt.RcNeAt.str_none i t
   | int j =>
    simp only [DV] at he; subst he; obtain ⟨t',rfl⟩ := (show ∃ t,w = Value.int j t from rw')
    simp only [aI,Bool.not_false,Bool.not_true]; exact SeqAt.RcNeAt.str_int i t j t'
   | str j =>
    simp only [DV] at he; subst he; obtain ⟨t',rfl⟩ := (show ∃ t,w = Value.str j t from rw')
    have z : aI (D.str i) (D.str j) = (i == j) := by simp only [aI]; by_cases q : i = j <;> simp [q]
    rw [z]; exact SeqAt.RcNeAt.str_str i t j t'
   | tup es =>
    simp only [DV] at he
    obtain ⟨b,ws,rfl,h3,h4⟩ := he
    cases (show w = Value.ref b from rw')
    obtain ⟨its,_,t1,_⟩ := I.tuple h3
    simp only [aI,Bool.not_false,Bool.not_true]; exact SeqAt.RcNeAt.str_tuple i t t1 hu
   | lst es =>
    simp only [DV] at he
    obtain ⟨b,ws,rfl,h3,h4⟩ := he
    cases (show w = Value.ref b from rw')
    obtain ⟨its,_,t1,_⟩ := I.list h3
    simp only [aI,Bool.not_false,Bool.not_true]; exact SeqAt.RcNeAt.str_list i t t1.isList hu
  | tup ds =>
   simp only [DV] at hd
   obtain ⟨a,vs,rfl,h1,h2⟩ := hd
   cases (show u = Value.ref a from ru)
   obtain ⟨its,r1,t1,_⟩ := I.tuple h1
   cases e with
   | bl _ => simp [plain] at pe
   | dct _ _ => simp [plain] at pe
   | ref _ => simp [plain] at pe
   | ak =>
    simp only [DV] at he; subst he; cases (show w = Value.none from rw')
    simp only [aI,Bool.not_false,Bool.not_true]; exact SeqAt.RcNeAt.tuple_none  t1 hu
   | int j =>
    simp only [DV] at he; subst he; obtain ⟨t',rfl⟩ := (show ∃ t,w = Value.int j t from rw')
    simp only [aI,Bool.not_false,Bool.not_true]; exact SeqAt.RcNeAt.tuple_int j t' t1 hu
   | str j =>
    simp only [DV] at he; subst he; obtain ⟨t',rfl⟩ := (show ∃ t,w = Value.str j t from rw')
    simp only [aI,Bool.not_false,Bool.not_true]; exact SeqAt.RcNeAt.tuple_str j t' t1 hu
   | lst es =>
    simp only [DV] at he
    obtain ⟨b,ws,rfl,h3,h4⟩ := he
    cases (show w = Value.ref b from rw')
    obtain ⟨its2,r2,t2,_⟩ := I.list h3
    simp only [aI,Bool.not_false,Bool.not_true]; exact SeqAt.RcNeAt.tuple_list t1 t2.isList hu
   | tup es =>
    simp only [DV] at he
    obtain ⟨b,ws,rfl,h3,h4⟩ := he
    cases (show w = Value.ref b from rw')
    obtain ⟨its2,r2,t2,_⟩ := I.tuple h3
    have Eh : bD ds = true := by simpa [plain] using pd
    have Eg : bD es = true := by simpa [plain] using pe
    have l1 : its.length = ds.length := by rw [<- r1.length,h2.length]
    have l2 : its2.length = es.length := by rw [<- r2.length,h4.length]
    let f : Nat -> Bool := fun j => match ds[j]?,es[j]? with | some a,some b => aI a b | _,_ => false
    have items : ∀ j (h1 : j < its.toArray.size) (h2 : j < its2.toArray.size),SeqAt.EqAt A.in1 s its.toArray[j] its2.toArray[j] (f j) := by
     intro j j1 j2
     have mQ : j < ds.length := by rw [<- l1]; simpa using j1
     have mP : j < es.length := by rw [<- l2]; simpa using j2
     obtain ⟨v,e1,q1⟩ := h2.get mQ
     obtain ⟨v',e2,q2⟩ := h4.get mP
     obtain ⟨z,e3,q3⟩ := r1.get e1
     obtain ⟨z',e4,q4⟩ := r2.get e2
     have i1 : its.toArray[j] = z := by
      have : its[j]? = some its[j] := List.getElem?_eq_getElem (by simpa using j1)
      rw [this] at e3; simpa using Option.some.inj e3
     have i2 : its2.toArray[j] = z' := by
      have : its2[j]? = some its2[j] := List.getElem?_eq_getElem (by simpa using j2)
      rw [this] at e4; simpa using Option.some.inj e4
     have g1 := cD mQ
     have g2 := cD mP
     have hf : f j = aI ds[j] es[j] := by simp only [f,List.getElem?_eq_getElem mQ,List.getElem?_eq_getElem mP]
     rw [i1,i2,hf]
     simp only [dep] at ih hA
     exact (ih ds[j] es[j] v v' z z' (by omega) q1 q2 (aS Eh mQ) (aS Eg mP) q3 q4 A.in1 (by rw [in1_units]; omega)).2
    have vC : its.toArray.size = ds.length := by simpa using l1
    have zx : its2.toArray.size = es.length := by simpa using l2
    have rc : SeqAt.RcNeAt A s (.ref a) (.ref b) (!aI (.tup ds) (.tup es)) := by
     have q := SeqAt.RcNeAt.tuples t1 t2 hu items
     rw [vC,zx,cT] at q
     simp only [aI]; exact q
    exact rc
  | lst ds =>
   simp only [DV] at hd
   obtain ⟨a,vs,rfl,h1,h2⟩ := hd
   cases (show u = Value.ref a from ru)
   obtain ⟨its,r1,t1,_⟩ := I.list h1
   cases e with
   | bl _ => simp [plain] at pe
   | dct _ _ => simp [plain] at pe
   | ref _ => simp [plain] at pe
   | ak =>
    simp only [DV] at he; subst he; cases (show w = Value.none from rw')
    simp only [aI,Bool.not_false,Bool.not_true]; exact SeqAt.RcNeAt.list_none  t1.isList hu
   | int j =>
    simp only [DV] at he; subst he; obtain ⟨t',rfl⟩ := (show ∃ t,w = Value.int j t from rw')
    simp only [aI,Bool.not_false,Bool.not_true]; exact SeqAt.RcNeAt.list_int j t' t1.isList hu
   | str j =>
    simp only [DV] at he; subst he; obtain ⟨t',rfl⟩ := (show ∃ t,w = Value.str j t from rw')
    simp only [aI,Bool.not_false,Bool.not_true]; exact SeqAt.RcNeAt.list_str j t' t1.isList hu
   | tup es =>
    simp only [DV] at he
    obtain ⟨b,ws,rfl,h3,h4⟩ := he
    cases (show w = Value.ref b from rw')
    obtain ⟨its2,r2,t2,_⟩ := I.tuple h3
    simp only [aI,Bool.not_false,Bool.not_true]; exact SeqAt.RcNeAt.list_tuple t1.isList t2 hu
   | lst es =>
    simp only [DV] at he
    obtain ⟨b,ws,rfl,h3,h4⟩ := he
    cases (show w = Value.ref b from rw')
    obtain ⟨its2,r2,t2,_⟩ := I.list h3
    have Eh : bD ds = true := by simpa [plain] using pd
    have Eg : bD es = true := by simpa [plain] using pe
    have l1 : its.length = ds.length := by rw [<- r1.length,h2.length]
    have l2 : its2.length = es.length := by rw [<- r2.length,h4.length]
    let f : Nat -> Bool := fun j => match ds[j]?,es[j]? with | some a,some b => aI a b | _,_ => false
    have items : ∀ j (h1 : j < its.toArray.size) (h2 : j < its2.toArray.size),SeqAt.EqAt A.in1 s its.toArray[j] its2.toArray[j] (f j) := by
     intro j j1 j2
     have mQ : j < ds.length := by rw [<- l1]; simpa using j1
     have mP : j < es.length := by rw [<- l2]; simpa using j2
     obtain ⟨v,e1,q1⟩ := h2.get mQ
     obtain ⟨v',e2,q2⟩ := h4.get mP
     obtain ⟨z,e3,q3⟩ := r1.get e1
     obtain ⟨z',e4,q4⟩ := r2.get e2
     have i1 : its.toArray[j] = z := by
      have : its[j]? = some its[j] := List.getElem?_eq_getElem (by simpa using j1)
      rw [this] at e3; simpa using Option.some.inj e3
     have i2 : its2.toArray[j] = z' := by
      have : its2[j]? = some its2[j] := List.getElem?_eq_getElem (by simpa using j2)
      rw [this] at e4; simpa using Option.some.inj e4
     have g1 := cD mQ
     have g2 := cD mP
     have hf : f j = aI ds[j] es[j] := by simp only [f,List.getElem?_eq_getElem mQ,List.getElem?_eq_getElem mP]
     rw [i1,i2,hf]
     simp only [dep] at ih hA
     exact (ih ds[j] es[j] v v' z z' (by omega) q1 q2 (aS Eh mQ) (aS Eg mP) q3 q4 A.in1 (by rw [in1_units]; omega)).2
    have vC : its.toArray.size = ds.length := by simpa using l1
    have zx : its2.toArray.size = es.length := by simpa using l2
    have rc : SeqAt.RcNeAt A s (.ref a) (.ref b) (!aI (.lst ds) (.lst es)) := by
     by_cases hz : ds.length = es.length
     ·have q := SeqAt.RcNeAt.lists t1.isList t2.isList (by rw [vC,zx,hz]) hu items
      have z := cT ds es
      rw [show min ds.length es.length = ds.length by omega,show (ds.length == es.length) = true by simpa using hz,Bool.and_true] at z
      rw [vC,z] at q
      simp only [aI]; exact q
     ·have q := SeqAt.RcNeAt.lists_lengths t1.isList t2.isList (by rw [vC,zx]; simpa using hz) hu
      have z := cT ds es
      rw [show (ds.length == es.length) = false by simpa using hz,Bool.and_false] at z
      simp only [aI,<- z,Bool.not_false]; exact q
    exact rc
end
end Fg
end
section
set_option autoImplicit false
namespace Fg
open PySem PySem.Spec L2
section
variable {X : Cx} {B : Bd} {pins : List (Addr × Obj)} {σ : L2.St} {H : Hp} {s : Shared}
noncomputable def kR (B : Bd) (X : Cx) : Prop := ∀ a kvs,B.dk a kvs -> ∀ h : Heap,X.K.In h -> kvs.length <= sizeLine /\ (a == sysModules) = false /\ ∃ vs,KV kvs vs /\ h.DictOf (aJ X.prog X.w) a vs
theorem Hh {a : Addr} {kvs : List (Key × V)} (hB : kR B X) (I : Inv X pins σ H s) (h : Gz B H a kvs) : kvs.length <= sizeLine /\ (a == sysModules) = false /\ ∃ vs,KV kvs vs /\ s.heap.DictOf (aJ X.prog X.w) a vs := by
 rcases h with h | h
 ·exact CY I.hok h
 ·exact hB a kvs h s.heap I.gw
noncomputable def Rm (X : Cx) : Prop := X.A.units + 150 < cLine
theorem Eu (hu : Rm X) : dP X (compareOp .Eq) (we X.K false) := by
 intro pins s σ H x y v u Q I rx ry h
 obtain ⟨d,e,hd,he,hc,q⟩ := h
 simp only [cS,Bool.and_eq_true,Bool.or_eq_true,decide_eq_true_eq] at hc
 have := (eq_data I (dep d + dep e + 1) d e x y v u (Nat.lt_succ_self _) hd he hc.1.1 hc.1.2 rx ry X.A (by unfold Rm at hu; omega)).1
 exact this X.prog X.w X.xe _ ⟨.bl (aI d e),H,I,rfl,q⟩
theorem El (hu : Rm X) : dP X (compareOp .NotEq) (we X.K true) := by
 intro pins s σ H x y v u Q I rx ry h
 obtain ⟨d,e,hd,he,hc,q⟩ := h
 simp only [cS,Bool.and_eq_true,Bool.or_eq_true,decide_eq_true_eq] at hc
 have := ne_data I d e x y v u hd he hc.1.1 hc.1.2 rx ry X.A (by unfold Rm at hu; omega)
 exact this X.prog X.w X.xe _ ⟨.bl (!aI d e),H,I,rfl,q⟩
theorem Ew : dP X (compareOp .Eq) (Ai false) := by
 intro pins s σ H x y v u Q I rx ry h
 obtain ⟨a,b,rfl,rfl,q⟩ := h
 refine Ih pins s σ H _ _ v u Q I rx ry ⟨rfl,?_⟩
 have e : decide (V.bl a = V.bl b) = (a == b) := nv
 rw [e]; exact q
theorem Em : dP X (compareOp .NotEq) (Ai true) := by
 intro pins s σ H x y v u Q I rx ry h
 obtain ⟨a,b,rfl,rfl,q⟩ := h
 refine Ia pins s σ H _ _ v u Q I rx ry ⟨rfl,?_⟩
 have e : decide (V.bl a = V.bl b) = (a == b) := nv
 rw [e]; exact q
theorem Et (hu : Rm X) : dP X (compareOp .Eq) (wc X.K false) := by
 intro pins s σ H x y v u Q I rx ry h
 obtain ⟨l,b,xs,rfl,rfl,hH,hB,q⟩ := h
 cases rx
 cases ry
 have IL : X.A.units < cLine := by unfold Rm at hu; omega
 obtain ⟨its,r,pl,z⟩ := I.list hH
 obtain ⟨its2,r2,DZ,z2⟩ := I.list hB
 cases r2
 cases r with
 | nil => exact SeqAt.eq_listAt (e := fun _ => true) pl.isList DZ.isList rfl IL (fun j h1 => by simp at h1) ⟨.bl true,H,I,rfl,q⟩
 | cons _ _ => exact SeqAt.eq_list_lengthsAt pl.isList DZ.isList (by simp) IL ⟨.bl false,H,I,rfl,q⟩
theorem Ek (hu : Rm X) : dP X (compareOp .NotEq) (wc X.K true) := by
 intro pins s σ H x y v u Q I rx ry h
 obtain ⟨l,b,xs,rfl,rfl,hH,hB,q⟩ := h
 cases rx
 cases ry
 have IL : X.A.units < cLine := by unfold Rm at hu; omega
 obtain ⟨its,r,pl,z⟩ := I.list hH
 obtain ⟨its2,r2,DZ,z2⟩ := I.list hB
 cases r2
 cases r with
 | nil => exact SeqAt.RcNeAt.lists (e := fun _ => true) pl.isList DZ.isList rfl IL (fun j h1 => by simp at h1) X.prog X.w X.xe _ ⟨.bl false,H,I,rfl,q⟩
 | cons _ _ => exact SeqAt.RcNeAt.lists_lengths pl.isList DZ.isList (by simp) IL X.prog X.w X.xe _ ⟨.bl true,H,I,rfl,q⟩
theorem Er (hB : kR B X) : dP X (compareOp .In) (wg B false) := by
 intro pins s σ H x y v u Q I rx ry h
 obtain ⟨a,kvs,k,rfl,rfl,hd,q⟩ := h
 obtain rfl : u = Value.ref a := ry
 obtain ⟨z,hm,vs,rel,dd⟩ := Hh hB I hd
 refine wpAny_in_of (oX rx) hm dd.mapOf ?_
 rw [<- (rel.val k).iU]
 exact ⟨.bl (cC kvs k).isSome,H,I.tok _,rfl,q⟩
theorem uC (hB : kR B X) : dP X (compareOp .NotIn) (wg B true) := by
 intro pins s σ H x y v u Q I rx ry h
 obtain ⟨a,kvs,k,rfl,rfl,hd,q⟩ := h
 obtain rfl : u = Value.ref a := ry
 obtain ⟨z,hm,vs,rel,dd⟩ := Hh hB I hd
 refine wpAny_notIn_of (oX rx) hm dd.mapOf ?_
 rw [<- (rel.val k).iU]
 exact ⟨.bl (!(cC kvs k).isSome),H,I.tok _,rfl,q⟩
noncomputable def yy : zk -> CmpOp
 | .eq => .Eq | .ne => .NotEq | .lt => .Lt | .le => .LtE | .gt => .Gt | .ge => .GtE | .isin => .In | .oQ => .NotIn | .xQ => .Is | .qC => .IsNot
theorem wI (hK : B.K = X.K) (hu : Rm X) (hB : kR B X) : ∀ o : zk,dP X (compareOp (yy o)) (qu B o)
 | .lt => Ib
 | .le => Ic
 | .gt => Ie
 | .ge => Ig
 | .eq => by rw [qu,hK]; exact Ew.or ((Eu hu).or (Et hu))
 | .ne => by rw [qu,hK]; exact Em.or ((El hu).or (Ek hu))
 | .xQ => Ep
 | .qC => AE
 | .isin => by rw [qu,hK]; exact (Er hB).or uD
 | .oQ => by rw [qu,hK]; exact (uC hB).or mG
theorem AI : dP X (binaryOp .Add) (Cv X.K) := by
 intro pins s σ H x y v u Q I rx ry h
 obtain ⟨l,b,xs,zs,rfl,rfl,hH,hB,hz,q⟩ := h
 cases rx
 cases ry
 obtain ⟨its,r,pl,z⟩ := I.list hH
 obtain ⟨its2,r2,DZ,z2⟩ := I.list hB
 obtain ⟨⟨cls,dd,data,sl⟩,ho,hc,n,hd⟩ := id pl.isList
 obtain ⟨⟨JB,dd2,data2,sl2⟩,ho2,hc2,n2,hd2⟩ := id DZ.isList
 simp only at hc hd hc2 hd2
 subst hc hd hc2 hd2
 have l1 := r.length
 have l2 := r2.length
 have ea : its.toArray ++ its2.toArray = (its ++ its2).toArray := by simp
 refine PySem.concat_meets ⟨_,ho,rfl⟩ ⟨_,ho2,rfl⟩ PySem.noFill_list_add PySem.seq_list_add PySem.F.slot_list_add PySem.F.entry_list_add (PySem.F.args_list_add_2 _ _) (PyProof.Rows.list_addW l b its.toArray its2.toArray n n2 dd dd2 sl sl2 (by simp only [List.size_toArray]; omega)) ⟨ho,ho2,?_⟩
 rw [ea]
 exact ⟨.ref _,_,I.Iz (t' := s.toks) (r.append r2) (by rw [List.length_append]; omega),rfl,q _ I.fresh⟩
theorem AF : dP X (binaryOp .Mult) (Cs X.K) := by
 intro pins s σ H x y v u Q I rx ry h
 obtain ⟨l,xs,k,rfl,rfl,hH,hz,hk,q⟩ := h
 cases rx
 obtain ⟨t,rfl⟩ := (show ∃ t,u = Value.int k t from ry)
 obtain ⟨its,r,pl,z⟩ := I.list hH
 obtain ⟨⟨cls,dd,data,sl⟩,ho,hc,n,hd⟩ := id pl.isList
 simp only at hc hd
 subst hc hd
 have l1 := r.length
 rw [l1] at hz
 refine wpAny_binaryOp_repeat_ref (T := "list") (U := "int") (by decide) ⟨_, ho, rfl⟩ (fun s' => typeIs_int s' k t) noFill_list_mul PySem.F.fills_int_mul PySem.F.slot_int_rmul repeat_list PySem.F.slot_int_index.lookup
  (call_meets PySem.F.slot_int_rmul (typeIs_int s k t) PySem.F.entry_int_rmul (PySem.F.args_int_rmul_2 _ _) (PySem.lm_int_rmul_list_any k t l its.toArray n dd sl)
   ⟨ho,rfl,⟨_,ho,rfl⟩,call_meets PySem.F.slot_list_mul ⟨_,ho,rfl⟩ PySem.F.entry_list_mul (PySem.F.args_list_mul_2 _ _)
    (PySem.lm_list_mul_any l its.toArray n dd sl k t (by simp [Builtin.List.listFitsIndex]; omega) (by rw [List.size_toArray]; rw [sizeLine_eq] at hz; omega) (by rw [sizeLine_eq] at hz; simp [Builtin.List.listTooLong,sizeLine]; omega))
    ⟨ho,?_⟩⟩)
 rw [PyProof.Rows.listMul_foldl_if]
 have rr : Vals (List.replicate k.toNat xs).flatten (List.replicate k.toNat its).flatten := by
  generalize k.toNat = m
  induction m with
  | zero => exact .nil
  | succ m ih => rw [List.replicate_succ,List.replicate_succ,List.flatten_cons,List.flatten_cons]; exact r.append ih
 exact ⟨.ref _,_,I.Iz (t' := s.toks) rr (by rw [List.length_flatten]; simp [List.sum_replicate_nat]; rw [l1,Nat.mul_comm]; exact hz),rfl,q _ I.fresh⟩
noncomputable def binOp : B3 -> Operator
 | .add => .Add | .sub => .Sub | .mul => .Mult | .fdiv => .FloorDiv | .mod => .Mod | .pow => .Pow
theorem Ey (hK : B.K = X.K) : ∀ o : B3,dP X (binaryOp (binOp o)) (HG B.K o)
 | .add => by rw [HG,hK]; exact Ez.or (qz.or (AI.or AH))
 | .sub => Ei
 | .mul => by rw [HG,hK]; exact En.or AF
 | .fdiv => AG
 | .mod => Eo
 | .pow => Ej
theorem Fy (hB : kR B X) : zj X (HL B) := by
 intro value slice pins s σ H x y v u Q I rx ry h hs
 obtain ⟨a,kvs,k,w,rfl,rfl,hd,hv,q⟩ := h
 obtain rfl : v = Value.ref a := rx
 obtain ⟨z,hm,vs,rel,dd⟩ := Hh hB I hd
 obtain ⟨w',hw,rw'⟩ := gI.some_of (v := w) (o := valueAt vs k) (by rw [<- hv]; exact rel.val k)
 exact PyProof.Rows.tail_any dd.typeIs PySem.F.slot_dict_getitem.lookup (wpAny_getItem_of (oX ry) dd.mapOf hw ⟨w,H,I.tok _,rw',q⟩) hs
theorem Fz (hK : B.K = X.K) (hB : kR B X) : zj X (Ah B) := by
 unfold Ah; rw [hK]; exact Bc.or (Fw.or (Fx.or (Fy hB)))
theorem uX (hK : B.K = X.K) (hB : kR B X) : c5 X (.builtin "len") (DO B) := by
 unfold DO; rw [hK]
 refine nG.or (nH.or ?_)
 intro pins s σ H xs us Q I r h
 obtain ⟨a,kvs,rfl,ha,q⟩ := h
 obtain ⟨u,rfl,ru⟩ := vals1 r
 cases ru
 obtain ⟨z,hd,vs,rel,dd⟩ := Hh hB I ha
 refine call_len_dict hd dd (by rw [<- rel.length]; rw [sizeLine_eq] at z; omega) ?_
 rw [<- rel.length]
 exact ⟨.int kvs.length,H,I.tok _,⟨_,rfl⟩,q⟩
theorem uW (hK : B.K = X.K) : c5 X (.type "list") (qq B) := by unfold qq; rw [hK]; exact nE
inductive BZ (B : Bd) (H : Hp) : V -> String -> Prop where
 | ak : BZ B H .ak "NoneType"
 | bl (b : Bool) : BZ B H (.bl b) "bool"
 | int (i : Int) : BZ B H (.int i) "int"
 | str (x : Str) : BZ B H (.str x) "str"
 | lst {a : Addr} {xs : List V} : fk B.K H a xs -> BZ B H (.ref a) "list"
 | tup {a : Addr} {xs : List V} : jv B.K H a xs -> BZ B H (.ref a) "tuple"
 | dct {a : Addr} {kvs : List (Key × V)} : Gz B H a kvs -> BZ B H (.ref a) "dict"
noncomputable def nU : Ty -> String
 | .int => "int" | .str => "str" | .bool => "bool" | .list => "list" | .tuple => "tuple" | .dict => "dict"
noncomputable def tyB (T : String) (t : Ty) : Bool := T == nU t || (T == "bool" && match t with | .int => true | _ => false)
noncomputable def HM (B : Bd) : List V -> Hp -> VK -> Prop := fun xs H Q => ∃ x T t,xs = [x,.ty (nU t)] /\ BZ B H x T /\ Q (.bl (tyB T t)) H
theorem A2 (K : W.Frag) : ∀ t : Ty, W.kitOne K (.type "NoneType") (.type (nU t)) = some (tyB "NoneType" t) /\ W.kitOne K (.type "bool") (.type (nU t)) = some (tyB "bool" t) /\ W.kitOne K (.type "int") (.type (nU t)) = some (tyB "int" t) /\ W.kitOne K (.type "str") (.type (nU t)) = some (tyB "str" t) /\
  W.kitOne K (.type "list") (.type (nU t)) = some (tyB "list" t) /\ W.kitOne K (.type "tuple") (.type (nU t)) = some (tyB "tuple" t) /\ W.kitOne K (.type "dict") (.type (nU t)) = some (tyB "dict" t) := by
 intro t
 cases t <;> (refine ⟨?_,?_,?_,?_,?_,?_,?_⟩ <;> kernel_rfl)
theorem yE (hK : B.K = X.K) (hB : kR B X) : c5 X (.builtin "isinstance") (HM B) := by
 intro pins s σ H xs us Q I r h
 obtain ⟨x,T,t,rfl,ty,q⟩ := h
 cases r with
 | cons rx r =>
  cases r with
  | cons rt r =>
   cases r
   obtain rfl := (show _ = Value.type (nU t) from rt)
   have fin : ∀ tk,EP X pins σ Q (.bool (tyB T t)) { s with toks := tk } := fun tk => ⟨.bl (tyB T t),H,I.tok _,rfl,q⟩
   obtain ⟨k1,k2,k3,k4,k5,k6,k7⟩ := A2 X.K t
   cases ty with
   | ak => cases (show _ = Value.none from rx); exact W.kia_one W.kitx_none I.gw True.intro k1 (fun z => nomatch z) fin
   | bl b => cases (show _ = Value.bool b from rx); exact W.kia_one W.kitx_bool I.gw True.intro k2 (fun z => nomatch z) fin
   | int i => obtain ⟨tk,q⟩ := (show ∃ t,_ = Value.int i t from rx); cases q; exact W.kia_one W.kitx_int I.gw True.intro k3 (fun z => nomatch z) fin
   | str y => obtain ⟨tk,q⟩ := (show ∃ t,_ = Value.str y t from rx); cases q; exact W.kia_one W.kitx_str I.gw True.intro k4 (fun z => nomatch z) fin
   | lst hl =>
    cases rx
    rw [hK] at hl
    obtain ⟨its,_,pl,_⟩ := I.list hl
    obtain ⟨o,ho,hc,_⟩ := pl.isList
    exact W.kia_one W.kitx_list I.gw ⟨o,ho,hc⟩ k5 (fun z => nomatch z) fin
   | tup hl =>
    cases rx
    rw [hK] at hl
    obtain ⟨its,_,pl,_⟩ := I.tuple hl
    obtain ⟨o,ho,hc,_⟩ := pl
    exact W.kia_one W.kitx_tuple I.gw ⟨o,ho,hc⟩ k6 (fun z => nomatch z) fin
   | dct hd =>
    cases rx
    obtain ⟨z,hm,vs,rel,dd⟩ := Hh hB I hd
    obtain ⟨o,ho,hc⟩ := dd.typeIs
    exact W.kia_one W.kitx_dict I.gw ⟨o,ho,hc⟩ k7 (fun z => nomatch z) fin
end
end Fg
end
section
set_option autoImplicit false
namespace Fg
open PySem PySem.Spec L2
theorem j9 {α : Type} (xs : List α) (a : Nat) : ∀ c : Nat,((List.range c).map fun k => a + k).filterMap (fun i => xs[i]?) = (xs.drop a).take c
 | 0 => by simp
 | c + 1 => by
  rw [List.range_succ,List.map_append,List.filterMap_append,j9 xs a c,List.take_add_one]
  simp [List.getElem?_drop]
  cases h : xs[a + c]? <;> simp [h]
theorem pN (n d : Nat) (hd : d <= n) (o : Option Int) : (match o with
  | none => ((d : Nat) : Int)
  | some i => max 0 (min (if i < 0 then i + (n : Int) else i) (n : Int))) = ((six n d o : Nat) : Int) := by
 cases o with
 | none => rfl
 | some i => simp only [six]; split <;> omega
theorem Du (n d : Nat) (hd : d <= n) (o : Option Int) : six n d o <= n := by
 cases o with
 | none => exact hd
 | some i => simp only [six]; split <;> omega
theorem DI (a b : Nat) : sliceRange (a : Int) (b : Int) 1 = (List.range (b - a)).map fun k => a + k := by
 unfold sliceRange
 simp only [show (1 : Int) > 0 by decide,if_true]
 have ec : (if (a : Int) < (b : Int) then ((b : Int) - (a : Int) + 1 - 1) / 1 else 0).toNat = b - a := by
  split <;> omega
 rw [ec]
 apply List.map_congr_left
 intro k _
 omega
theorem xS (l u : Option Int) (n : Nat) : Builtin.Str.strSliceIndices l u 1 n = (List.range (six n n u - six n 0 l)).map fun k => six n 0 l + k := by
 rw [<- DI,<- pN n 0 (Nat.zero_le _) l,<- pN n n (Nat.le_refl _) u]
 unfold Builtin.Str.strSliceIndices
 cases l <;> cases u <;> rfl
theorem qd (x : Str) (l u : Option Int) : Txt.slice x l u = cuts x l u := by
 have hn : x.cps.toList.length = x.length := by simp [Str.length]
 have key : (Builtin.Str.strSliceIndices l u 1 x.length).filterMap (x.cps[·]?) = fY x.cps.toList l u := by
  rw [xS]
  have := j9 x.cps.toList (six x.length 0 l) (six x.length x.length u - six x.length 0 l)
  unfold fY
  rw [hn,<- this]
  congr 1
  funext i
  simp
 unfold Txt.slice
 split
 ·rename_i hc
  simp only [Bool.and_eq_true,beq_iff_eq] at hc
  have hc2 := hc.2
  rw [xS] at hc2
  simp only [List.length_map,List.length_range] at hc2
  have b1 := Du x.length x.length (Nat.le_refl _) u
  unfold cuts fY
  rw [hn]
  by_cases h0 : x.length = 0
  ·obtain ⟨⟨l⟩⟩ := x
   simp [Str.length] at h0
   subst h0
   simp
  ·have a0 : six x.length 0 l = 0 := by omega
   rw [a0,List.drop_zero,List.take_of_length_le (by rw [hn]; omega)]
 ·show Str.mk _ = Str.mk _
  rw [key]
section
variable {X : Cx} {B : Bd}
theorem Ds : B0 X HE := by
 intro pins s σ H x v vl vu lo hi sl Q I rx hs pl pu h
 obtain ⟨z,rfl,hz,q⟩ := h
 obtain ⟨t,rfl⟩ := (show ∃ t,v = Value.str z t from rx)
 refine ⟨"str", _, PySem.F.slot_str_getitem.lookup, typeIs_str _ _ _, ?_⟩
 have fin : ∀ (l u : Option Int) (t' : Tok) (k : Nat),l = lo -> u = hi -> EP X pins σ Q (.str (Txt.slice z l u) t') { s with toks := k } := by
  intro l u t' k e3 e4
  exact ⟨.str (cuts z lo hi),H,I.tok _,⟨t',by rw [qd,e3,e4]⟩,q⟩
 obtain ⟨o,ho,hc,hd⟩ := hs
 cases pl with
 | none =>
  cases pu with
  | none => exact wpAny_getItem_str_slice (l := none) (u := none) (st := none) ⟨o,ho,hc,hd⟩ rfl (post_val_or_str ⟨Nat.le_trans (Txt.slice_le z none none) hz,fun t' k => fin none none t' k rfl rfl⟩)
  | int j tj => exact wpAny_getItem_str_slice (l := none) (u := some (j,tj)) (st := none) ⟨o,ho,hc,hd⟩ rfl (post_val_or_str ⟨Nat.le_trans (Txt.slice_le z none (some j)) hz,fun t' k => fin none (some j) t' k rfl rfl⟩)
 | int i ti =>
  cases pu with
  | none => exact wpAny_getItem_str_slice (l := some (i,ti)) (u := none) (st := none) ⟨o,ho,hc,hd⟩ rfl (post_val_or_str ⟨Nat.le_trans (Txt.slice_le z (some i) none) hz,fun t' k => fin (some i) none t' k rfl rfl⟩)
  | int j tj => exact wpAny_getItem_str_slice (l := some (i,ti)) (u := some (j,tj)) (st := none) ⟨o,ho,hc,hd⟩ rfl (post_val_or_str ⟨Nat.le_trans (Txt.slice_le z (some i) (some j)) hz,fun t' k => fin (some i) (some j) t' k rfl rfl⟩)
theorem Dt (hK : B.K = X.K) : B0 X (Ag B) := by
 unfold Ag; rw [hK]; exact zO.or (Dr.or Ds)
end
end Fg
end
section
set_option autoImplicit false
namespace Fg
open PySem PySem.Spec L2
theorem dB {α β : Type} (g : β -> α -> β) : ∀ {l : List α} {f : α -> β -> Sem (ForInStep β)} (_ : ∀ x ∈ l,∀ c,f x c = pure (.yield (g c x))) (c : β),forIn l c f = pure (l.foldl g c)
 | [],f,_,c => rfl
 | x :: l,f,h,c => by
  rw [List.forIn_cons,h x List.mem_cons_self,pure_bind]
  exact dB g (fun y hy => h y (List.mem_cons_of_mem _ hy)) _
noncomputable def aH (env : Env) (cs : List (Str × Addr)) (x : Str × NameKind) : List (Str × Addr) := if x.2 == .free then (x.1,(env.cells.lookup x.1).getD 0) :: cs else cs
theorem rB {scope : Scope} {env : Env} (h : ∀ x,(x,NameKind.free) ∈ scope.names -> ∃ c,env.cells.lookup x = some c) : closureFor scope env = pure (scope.names.foldl (aH env) []) := by
 unfold closureFor
 dsimp only
 rw [dB (aH env) (fun x hx c => ?_)]
 ·rfl
 obtain ⟨n,k⟩ := x
 by_cases hk : k = .free
 ·subst hk
  obtain ⟨a,ha⟩ := h n hx
  simp only [aH,cellOf,ha,beq_self_eq_true,if_true,Option.getD_some]
  rfl
 ·have hb : (k == NameKind.free) = false := by simpa using hk
  simp only [aH,hb,Bool.false_eq_true,if_false]
theorem nB {env : Env} : ∀ (names : List (Str × NameKind)) (cs : List (Str × Addr)) (p : Str × Addr),(∀ x,(x,NameKind.free) ∈ names -> ∃ c,env.cells.lookup x = some c) -> p ∈ names.foldl (aH env) cs -> p ∈ cs \/ env.cells.lookup p.1 = some p.2
 | [],cs,p,_,h => .inl h
 | (n, k) :: r, cs, p, hc, h => by
  rw [List.foldl_cons] at h
  rcases nB r _ p (fun x hx => hc x (List.mem_cons_of_mem _ hx)) h with q | q
  ·unfold aH at q
   split at q
   ·rename_i hk
    have hk' : k = .free := by simpa using hk
    subst hk'
    rcases List.mem_cons.mp q with q | q
    ·obtain ⟨a,ha⟩ := hc n List.mem_cons_self
     right
     rw [q]
     show env.cells.lookup n = some ((env.cells.lookup n).getD 0)
     rw [ha]; rfl
    ·exact .inl q
   ·exact .inl q
  ·exact .inr q
theorem tO {env : Env} : ∀ (names : List (Str × NameKind)) (cs : List (Str × Addr)) (x : Str),(∃ c,(x,c) ∈ cs) -> ∃ c,(x,c) ∈ names.foldl (aH env) cs
 | [],cs,x,h => h
 | (n,k) :: r,cs,x,⟨c,h⟩ => by
  rw [List.foldl_cons]
  refine tO r _ x ⟨c,?_⟩
  unfold aH
  split
  ·exact List.mem_cons_of_mem _ h
  ·exact h
theorem rC {env : Env} : ∀ (names : List (Str × NameKind)) (cs : List (Str × Addr)) (x : Str),(x,NameKind.free) ∈ names -> ∃ c,(x,c) ∈ names.foldl (aH env) cs
 | (n, k) :: r, cs, x, h => by
  rw [List.foldl_cons]
  rcases List.mem_cons.mp h with h | h
  ·cases h
   refine tO r _ n ⟨(env.cells.lookup n).getD 0,?_⟩
   unfold aH
   rw [if_pos (by rfl)]
   exact List.mem_cons_self
  ·exact rC r _ x h
theorem c9 {β : Type} : ∀ {l : List (Str × β)} {x : Str} {c : β},(x,c) ∈ l -> ∃ d,l.lookup x = some d
 | (n, k) :: r, x, c, h => by
  rw [List.lookup_cons]
  cases e : x == n with
  | true => exact ⟨k,rfl⟩
  | false =>
   rcases List.mem_cons.mp h with h | h
   ·cases h; simp at e
   ·exact c9 h
theorem cM {env : Env} : ∀ {names : List (Str × NameKind)} {x : Str},(names.map fun (n,k) => if (k == NameKind.free && env.scope.kind == .function && env.kindOf n == some .cell) then (n,NameKind.cell) else (n,k)).lookup x =
  (names.lookup x).map fun k => if (k == NameKind.free && env.scope.kind == .function && env.kindOf x == some .cell) then NameKind.cell else k
 | [],x => rfl
 | (n, k) :: r, x => by
  have ih := @cM env r x
  show List.lookup x ((if (k == NameKind.free && env.scope.kind == .function && env.kindOf n == some .cell) = true then (n,NameKind.cell) else (n,k)) :: _) = _
  cases hx : x == n with
  | true =>
   have e : x = n := by simpa using hx
   subst e
   by_cases hc : (k == NameKind.free && env.scope.kind == .function && env.kindOf x == some .cell) = true
   ·rw [if_pos hc]; simp only [List.lookup_cons,hx,Option.map_some,if_pos hc]
   ·rw [if_neg hc]
    simp only [List.lookup_cons,hx,Option.map_some,if_neg hc]
  | false =>
   by_cases hc : (k == NameKind.free && env.scope.kind == .function && env.kindOf n == some .cell) = true
   ·rw [if_pos hc]; simp only [List.lookup_cons,hx]; exact ih
   ·rw [if_neg hc]; simp only [List.lookup_cons,hx]; exact ih
noncomputable def C6 (X : Cx) (scope : Scope) (cl : List (Str × Addr)) (N : List Str) (fp : List Addr) (s : Shared) (H : Hp) (C : Addr) : Cx :=
 { X with N := N,s₀ := s,H₀ := H,env := compEnvC scope cl C X.env,outer := X.stack,stack := X.stack,ex := fp,fn := fun _ => false,pn := [],xe := fun _ _ => False }
noncomputable abbrev dO (X : Cx) (scope : Scope) (cl : List (Str × Addr)) (N : List Str) (fp : List Addr) (s : Shared) (H : Hp) (C : Addr) (E : XK) : Cx := (C6 X scope cl N fp s H C).bI (iL (C6 X scope cl N fp s H C) fun cv x _ H' => E cv x H')
noncomputable def GL (X : Cx) (ifs : List Expr) (t : TT) : Prop :=
 ∀ (pins : List (Addr × Obj)) (s : Shared) (σ : St) (H : Hp) (Q : Bool -> Hp -> Prop),Inv X pins σ H s -> t σ H Q ->
  wpAny (model X.prog X.w) X.A (forIn ifs true fun c r => if r = true then do let ok <- isTrue c X.env (eval c X.env); pure (ForInStep.yield ok) else pure (ForInStep.yield r)) (L2.TP X pins σ Q) X.xe s
theorem Ak {X : Cx} : GL X [] (fun _ H Q => Q true H) := fun pins s σ H Q I h => wpAny_tests_nil ⟨H,I,h⟩
theorem Aj {X : Cx} {c : Expr} {t : TT} (h : PT X c t) : GL X [c] t := fun pins s σ H Q I q => wpAny_tests_one (h pins s σ H Q I q)
noncomputable def pP (cp : List Nat) (n : Nat) (σ : St) : St := cp.map (fun i => (σ[i]?).join) ++ List.replicate n none
noncomputable def rV (wi : TI) (g : TG) (tc : St -> TT) (te : St -> TE) (cp : List Nat) (n : Nat) : TE := fun σ H Q => wi σ H fun J H1 => ∀ D,H1 D = none -> ∃ W : Nat -> Nat -> St -> Hp -> Prop,(∃ m,W 0 m (pP cp n σ) (upd H1 D (.lst []))) /\ ∀ i m σ' H',W i m σ' H' ->
 (J.stop i H' /\ Q (.ref D) H') \/ (J.go i H' /\ ∀ x H2,J.JT i H' x H2 -> g x σ' H2 fun σ2 H3 => tc σ σ2 H3 fun b H4 =>
  if b = true then te σ σ2 H4 fun v H5 => ∃ ys,H5 D = some (.lst ys) /\ ys.length < sizeLine /\ ∃ m',m' < m /\ W (i + 1) m' σ2 (upd H5 D (.lst (ys ++ [v]))) else ∃ m',m' < m /\ W (i + 1) m' σ2 H4)
theorem fZ {prog : Program} {w : World} {A : Around} {R : Result -> Shared -> Prop} {s : Shared} {elt target iter : Expr} {ifs : List Expr} {scope : Scope} {pos : Pos} {it acc : Value} {env : Env} (I : Nat -> Shared -> Prop) (EX : Value -> Shared -> Prop) (hE : ∀ e s,EX e s -> notedBy (model prog w) A env (fun x s' => R (.error x) s') e s)
  (turn : ∀ n s,I n s -> wpAny (model prog w) A (pyNext it) (fun r s₁ => match r with
   | none => R (.ok .next) s₁
   | some v => wpAny (model prog w) A (letOwnedTupleGo target it v) (fun _ s₁' => wpAny (model prog w) A (assign target env v) (fun _ s₂ =>
     wpAny (model prog w) A (forIn ifs true fun c r => if r = true then do let ok <- isTrue c env (eval c env); pure (ForInStep.yield ok) else pure (ForInStep.yield r)) (fun ok s₃ =>
      if ok = true then wpAny (model prog w) A (eval elt env) (fun x s₄ =>
       wpAny (model prog w) A (call (.builtin "list.append") [acc, x]) (fun _ s₅ => ∃ m, m < n /\ I m s₅) EX s₄) EX s₃
      else ∃ m,m < n /\ I m s₃) EX s₂) EX s₁') EX s₁) EX s)
  (n : Nat) (h : I n s) : codeAny (model prog w) A (.compLoop (.ListComp elt [⟨target,iter,ifs,0⟩] scope pos) 0 it acc env) R s := by
 refine codeAny_loop rfl I (fun n s hI => ?_) n h
 show wpAny _ A ((compTurn (.ListComp elt [⟨target,iter,ifs,0⟩] scope pos) 0 it acc env).onRaise (fun x => do noteFrame x env; theTreesLotGoes x)) _ _ s
 refine wpAny_noted ?_
 rw [compTurn_list]
 refine wpAny_bind (wpAny_standAt (wpAny_bind (wpAny_mono (turn n s hI) (fun r s₁ h₁ => ?_) hE)))
 cases r with
 | none => exact wpAny_pure h₁
 | some v =>
  refine wpAny_bind (wpAny_mono h₁ (fun _ s₁' h₁' => ?_) hE)
  refine wpAny_bind (wpAny_mono h₁' (fun _ s₂ h₂ => wpAny_bind (wpAny_mono h₂ (fun ok s₃ h₃ => ?_) hE)) hE)
  cases ok with
  | false => exact wpAny_pure ⟨rfl,h₃⟩
  | true =>
   exact wpAny_bind (wpAny_bind (wpAny_mono h₃ (fun x s₄ h₄ => wpAny_bind (wpAny_mono h₄ (fun _ s₅ h₅ => wpAny_pure (wpAny_pure ⟨rfl,h₅⟩)) hE)) hE))
section
variable {X : Cx} {pins : List (Addr × Obj)} {σ : St} {H : Hp} {s : Shared}
structure gJ (X : Cx) (scope : Scope) (N : List Str) (cp : List Nat) (n : Nat) : Prop where
 free : ∀ x,(x,NameKind.free) ∈ scope.names -> X.env.kindOf x = some .cell \/ X.env.kindOf x = some .free
 cell : ∀ y ∈ scope.names,y.2 ≠ .cell
 kind : scope.kind = .function
 names : ∀ y ∈ scope.names,y.2 = .local -> scope.names.lookup y.1 = some .local
 len : N.length = cp.length + n
 cap : ∀ (i j : Nat) (x : Str),N[i]? = some x -> cp[i]? = some j -> X.N[j]? = some x /\ scope.names.lookup x = some .free
theorem Gp {scope : Scope} {N : List Str} {cp : List Nat} {n : Nat} {fp : List Addr} {C : Addr} (S : gJ X scope N cp n) (I : Inv X pins σ H s) (hf : ∀ b ∈ fp,kN X pins H b) (hC : s.heap.objs.size < C) (FG : ∀ b ∈ fp,b < s.heap.objs.size) :
  (C6 X scope (scope.names.foldl (aH X.env) []) N fp s H C).Ok := by
 have hex : ∀ x,(x,NameKind.free) ∈ scope.names -> ∃ c,X.env.cells.lookup x = some c := fun x hx => I.ok.has x (S.free x hx)
 have hcl : ∀ x c,(scope.names.foldl (aH X.env) []).lookup x = some c -> X.env.cells.lookup x = some c := fun x c e => by
  rcases nB scope.names [] (x,c) hex (PySem.mem_of_lookup e) with q | q
  ·cases q
  ·exact q
 refine ⟨I.ok.mod,S.kind,I.ok.glob,I.ok.blt,Nat.le_of_lt hC,fun x y c h1 h2 => I.ok.inj x y c (hcl x c h1) (hcl y c h2),fun x hx => ?_,fun x c h _ => (Bool.false_ne_true h).elim,I.ok.hd,I.ok.frames,.inl rfl,fun b hb => ⟨Nat.ne_of_lt (Nat.lt_trans (FG b hb) hC),fun x c e => (hf b hb).2.2.2.2.1 x c (hcl x c e)⟩,
  fun b o e => I.bs b o e,Nat.le_trans I.ok.vj I.sz,fun b o e hb => ?_,fun b hb hs => ?_,I.stack,I.fO⟩
 ·have q : (x,NameKind.free) ∈ scope.names := by
   have hx : (relabel scope X.env).names.lookup x = some .cell \/ (relabel scope X.env).names.lookup x = some .free := hx
   unfold relabel at hx
   dsimp only at hx
   rw [cM] at hx
   cases e : scope.names.lookup x with
   | none => rw [e] at hx; simp at hx
   | some k =>
    rw [e] at hx
    have hm := PySem.mem_of_lookup e
    cases k with
    | free => exact hm
    | cell => exact (S.cell _ hm rfl).elim
    | «local» => simp at hx
    | globalImplicit => simp at hx
    | globalExplicit => simp at hx
  obtain ⟨c,hc⟩ := rC (env := X.env) scope.names [] x q
  exact c9 hc
 ·rcases (hf b hb).2.2.2.1 with z | z
  ·exact I.ok.oR b o e z
  ·exact absurd (Nat.lt_of_lt_of_le (Heap.lt_size e) (Nat.le_trans I.ok.vj z)) (Nat.lt_irrefl _)
 ·rcases List.mem_cons.mp (I.dQ b hs) with z | z
  ·exact (hf b hb).2.1 z
  ·exact (hf b hb).2.2.1 z
theorem u7 {scope : Scope} {N : List Str} {cp : List Nat} {n : Nat} {fp : List Addr} {C D : Addr} {h1 : Heap} {t1 : Nat} (S : gJ X scope N cp n) (I : Inv X pins σ H s) (hf : ∀ b ∈ fp,kN X pins H b) (FG : ∀ b ∈ fp,b < s.heap.objs.size)
  (hD : D = s.heap.objs.size) (hC : C = s.heap.objs.size + 1) {m : Str -> Option Value} (hns : h1.Ns C m) (old : ∀ b o, s.heap.get? b = some o -> h1.get? b = some o) (hacc : h1.get? D = some { cls := .type "list", data := .seq ([] : List Value).toArray 0 }) :
  Inv (C6 X scope (scope.names.foldl (aH X.env) []) N fp s H C) [] (pP cp n σ) (upd H D (.lst [])) { s with heap := h1,toks := t1 } := by
 have hex : ∀ x,(x,NameKind.free) ∈ scope.names -> ∃ c,X.env.cells.lookup x = some c := fun x hx => I.ok.has x (S.free x hx)
 have hcl : ∀ x c,(scope.names.foldl (aH X.env) []).lookup x = some c -> X.env.cells.lookup x = some c := fun x c e => by
  rcases nB scope.names [] (x,c) hex (PySem.mem_of_lookup e) with q | q
  ·cases q
  ·exact q
 have fD : H D = none := I.hok.fresh (by rw [hD]; exact Nat.le_refl _)
 have fC : H C = none := I.hok.fresh (by rw [hC]; exact Nat.le_succ _)
 have cellK : ∀ x c v,X.env.cells.lookup x = some c -> s.heap.IsCell c v -> h1.IsCell c v := fun x c v e ⟨o,ho,hd⟩ => ⟨o,old c o ho,hd⟩
 refine ⟨Gp S I hf (by rw [hC]; exact Nat.lt_succ_self _) FG,rfl,I.bare,?_,⟨m,hns,fun i x v e1 e2 e3 => ?_⟩,fun x c e => ?_,?_,fun x c e => ?_,fun p hp => absurd (show p ∈ ([] : List (Addr × Obj)) from hp) (by simp),?_,?_⟩
 ·exact Un.laid (fun b u e => old b u e) (by rw [hD]; exact Nat.le_refl _) fD
 ·-- a JC name
  have hi : i < cp.length := by
   by_cases hi : i < cp.length
   ·exact hi
   ·unfold pP at e2
    rw [List.getElem?_append_right (by simpa using hi),List.getElem?_replicate] at e2
    split at e2 <;> cases e2
  have hcp : cp[i]? = some cp[i] := List.getElem?_eq_getElem hi
  obtain ⟨hX,hfr⟩ := S.cap i cp[i] x e1 hcp
  have e2' : σ[cp[i]]? = some (some v) := by
   unfold pP at e2
   rw [List.getElem?_append_left (by simpa using hi),List.getElem?_map,hcp] at e2
   simp only [Option.map_some,Option.some.injEq] at e2
   cases q : σ[cp[i]]? with
   | none => rw [q] at e2; cases e2
   | some o => rw [q] at e2; simp only [Option.join_some] at e2; rw [e2]
  have hmem := PySem.mem_of_lookup hfr
  have hk := S.free x hmem
  obtain ⟨m0,_,hl⟩ := I.loc
  obtain ⟨u,r,lk⟩ := hl cp[i] x v hX e2' (by rcases hk with q | q; exact .inr (.inl q); exact .inr (.inr q))
  refine ⟨u,r,.inr ⟨?_,?_⟩⟩
  ·show (relabel scope X.env).names.lookup x = some .cell \/ (relabel scope X.env).names.lookup x = some .free
   unfold relabel
   dsimp only
   rw [cM,hfr]
   simp only [Option.map_some]
   split
   ·exact .inl rfl
   ·exact .inr rfl
  ·obtain ⟨c,hc⟩ := rC (env := X.env) scope.names [] x hmem
   obtain ⟨d,hd⟩ := c9 hc
   refine ⟨d,hd,?_⟩
   rcases lk with ⟨k,_⟩ | ⟨_,c',hc',z⟩
   ·rcases hk with q | q <;> (rw [q] at k; cases k)
   ·have := hcl x d hd
    rw [hc'] at this; cases this
    exact cellK x d _ hc' z
 ·obtain ⟨v,z⟩ := I.cell x c (hcl x c e)
  exact ⟨v,cellK x c v (hcl x c e) z⟩
 ·show upd H D (.lst []) C = none
  rw [aq (by rw [hC,hD]; exact Nat.succ_ne_self _)]; exact fC
 ·show upd H D (.lst []) c = none
  rw [aq (ne_of_lt' (I.cell x c (hcl x c e)) hD)]
  exact I.b7 x c (hcl x c e)
 ·exact I.hok.laid old (by rw [hD]; exact Nat.le_refl _) ⟨Nat.zero_le _,[],0,.nil,hacc⟩
 ·unfold pP
  show _ = N.length
  rw [List.length_append,List.length_map,List.length_replicate,S.len]
where
 ne_of_lt' {h : Heap} {c D : Addr} (z : ∃ v,h.IsCell c v) (hD : D = h.objs.size) : c ≠ D := by
  obtain ⟨v,q⟩ := z
  rw [hD]
  exact Nat.ne_of_lt q.lt
variable {elt tg iter : Expr} {ifs : List Expr} {scope : Scope} {pos ppos : Pos} {wi : TI} {g : TG} {tc : St -> TT} {te : St -> TE} {Ex : XS} {cp : List Nat} {n : Nat} {N : List Str}
theorem lP {use : Option (Value -> Sem Unit)} {Q' : Value -> Shared -> Prop} {Q : VK} (hc : X.calm = true) (S : gJ X scope N cp n) (hi : PI X tg iter wi)
  (hfr : pS X) (hx : ∀ e s,iL X Ex e s -> X.xe e s) (hb : ∀ σ cl fp s H C,PG (dO X scope cl N fp s H C fun cv x H' => Ex cv x σ H') tg g /\ GL (dO X scope cl N fp s H C fun cv x H' => Ex cv x σ H') ifs (tc σ) /\ PE (dO X scope cl N fp s H C fun cv x H' => Ex cv x σ H') elt (te σ)) (hs : ∀ x,foldedSetIterable iter X.env x = pure x)
  (I : Inv X pins σ H s) (h : rV wi g tc te cp n σ H Q)
  (fin : ∀ s' C D H' f,Inv X pins σ H' s' -> kN X pins H' C -> (∃ m,s'.heap.Ns C m) -> Q (.ref D) H' -> compPost (model X.prog X.w) X.A X.xe use Q' (.ref D) C (.ok f) s') :
  wpAny (model X.prog X.w) X.A (comprehension (.ListComp elt [⟨tg,iter,ifs,0⟩] scope pos) scope X.env ppos (newList []) false (eval iter X.env) use) Q' X.xe s := by
 have hex : ∀ x,(x,NameKind.free) ∈ scope.names -> ∃ c,X.env.cells.lookup x = some c := fun x hx => I.ok.has x (S.free x hx)
 refine wpAny_comprehension_free rfl hs (rB hex) S.kind S.names (aW (hi pins s σ H _ I h) fun v s1 h1 => aW h1 fun itv s2 h2 => ?_)
 obtain ⟨it,fp,tn,J,H2,e,I2,T,st2,f2,hW⟩ := h2
 subst e
 refine wpAny_newObj_type (wpAny_newFunctionEnv S.cell (by intro y hy; simp at hy) (fun h₁ qR mT => ?_) S.kind)
 dsimp only at qR mT ⊢
 generalize hH2 : s2.heap.push { cls := .type "list", dict := none, data := .seq ([] : List Value).toArray } = G at qR mT ⊢
 have hC : G.objs.size = s2.heap.objs.size + 1 := by rw [<- hH2,Heap.size_push]
 have FG : ∀ b ∈ fp,b < s2.heap.objs.size := fun b hb => by
  obtain ⟨o,e,_⟩ := T.obj _ _ st2 b hb
  exact Heap.lt_size e
 have hDC : s2.heap.objs.size ≠ G.objs.size := by rw [hC]; exact Nat.ne_of_lt (Nat.lt_succ_self _)
 have old : ∀ b o,s2.heap.get? b = some o -> h₁.get? b = some o := fun b o e => mT.extBut b o (by rw [hC]; exact Nat.ne_of_lt (Nat.lt_succ_of_lt (Heap.lt_size e))) (Heap.get?_push_of_some _ (hH2 ▸ Heap.get?_push_of_some _ e))
 have hacc : h₁.get? s2.heap.objs.size = some { cls := .type "list", data := .seq ([] : List Value).toArray 0 } := mT.extBut _ _ hDC (Heap.get?_push_of_some _ (hH2 ▸ Heap.get?_push_size _ rfl))
 have st1 : tn 0 h₁ := T.keep _ _ _ st2 fun b hb o e => old b o e
 obtain ⟨W,⟨m0,w0⟩,turn⟩ := hW s2.heap.objs.size (I2.hok.fresh (Nat.le_refl _))
 have I0' := u7 (t1 := s2.toks + ([] : List (Str × Value)).length) S I2 f2 FG rfl hC qR old hacc
 have I0 := I0'.bI (iL (C6 X scope (scope.names.foldl (aH X.env) []) N fp s2 H2 G.objs.size) fun cv x _ H' => Ex cv x σ H')
 obtain ⟨hg,ht,he⟩ := hb σ (scope.names.foldl (aH X.env) []) fp s2 H2 G.objs.size
 have fp0 : ∀ b ∈ fp,upd H2 s2.heap.objs.size (.lst []) b = none := fun b hb => by rw [aq (Nat.ne_of_lt (FG b hb))]; exact (f2 b hb).1
 have hex' : ∀ x c,(scope.names.foldl (aH X.env) []).lookup x = some c -> X.env.cells.lookup x = some c := fun x c e => by
  rcases nB scope.names [] (x,c) hex (PySem.mem_of_lookup e) with q | q
  ·cases q
  ·exact q
 have stat : ∀ {H' : Hp},(∀ b ∈ fp,H' b = none) -> ∀ b ∈ fp,kN (dO X scope (scope.names.foldl (aH X.env) []) N fp s2 H2 G.objs.size (fun cv x H' => Ex cv x σ H')) [] H' b := fun {H'} hn b hb =>
  ⟨hn b hb,Nat.ne_of_lt (Nat.lt_trans (FG b hb) (by rw [hC]; exact Nat.lt_succ_self _)),fun z => (List.mem_cons.mp (I2.dQ b z)).elim (f2 b hb).2.1 (f2 b hb).2.2.1,.inl hb,fun x c e => (f2 b hb).2.2.2.2.1 x c (hex' x c e),fun p hp => absurd (show p ∈ ([] : List (Addr × Obj)) from hp) (by simp)⟩
 have loop : ∀ s3 : Shared,s3 = { s2 with heap := h₁,toks := s2.toks + ([] : List (Str × Value)).length } -> codeAny (model X.prog X.w) X.A (.compLoop (.ListComp elt [⟨tg,iter,ifs,0⟩] scope pos) 0 (.ref it) (.ref s2.heap.objs.size) (compEnvC scope (scope.names.foldl (aH X.env) []) G.objs.size X.env))
   (compPost (model X.prog X.w) X.A X.xe use Q' (.ref s2.heap.objs.size) G.objs.size) s3 := by
  rintro s3 rfl
  refine fZ (fun n s' => ∃ i σ' H',Inv (dO X scope (scope.names.foldl (aH X.env) []) N fp s2 H2 G.objs.size (fun cv x H' => Ex cv x σ H')) [] σ' H' s' /\ tn i s'.heap /\ (∀ b ∈ fp,H' b = none) /\ W i n σ' H') (iL (C6 X scope (scope.names.foldl (aH X.env) []) N fp s2 H2 G.objs.size) fun cv x _ H' => Ex cv x σ H') ?hE ?_ m0 ⟨0,_,_,I0,st1,fp0,w0⟩
  case hE =>
   rintro e s3 ⟨pins3,σ3,H3,a,a0,cv,B,rfl,I3,up,fj,_,q⟩
   obtain ⟨kF,mE,L,hst,FH,Ko⟩ := hfr
   show wpAny (model X.prog X.w) X.A (noteFrame (.ref a) _) _ _ s3
   rw [mH (env := compEnvC scope (scope.names.foldl (aH X.env) []) G.objs.size X.env) (env' := kF) (Ko.trans FH.symm)]
   have up' : Up B (kF :: mE) a cv a0 s3.heap := by rw [<- hst]; exact up
   refine up'.note (by rw [I.ok.frames,hst]) FH fun h4 held vM => ?_
   obtain ⟨m,hm,_⟩ := id I3.loc
   have hcC : G.objs.size ∉ frs X.stack := fun z => by
    rcases List.mem_cons.mp (I2.dQ _ z) with e | z
    ·have z := I2.lt
     rw [<- e,hC] at z
     exact absurd z (Nat.not_lt.mpr (Nat.le_succ _))
    ·exact I2.Il (by rw [hC]; exact Nat.le_succ _) z
   refine ⟨m,vM.ns hm,fun h5 sb5 cenv _ => ?_⟩
   have hm4 := vM.ns hm
   have upH : Up B X.stack a cv a0 h4 := by rw [hst]; exact .sL held
   have Dg := upH.hide sb5 (by
    obtain ⟨o,es,ep,ho,hd,_⟩ := hm4
    exact ⟨o,ho,fun vs z => by rw [hd] at z; cases z⟩) hcC
   refine Dg.pass fun h6 up6 sm6 => hx _ _ ?_
   have jw : (B.hide G.objs.size).StaysIn s3.heap := fun b o e => up.1 b o (Heap.of_hide e)
   have BG : Calm (B.hide G.objs.size) (frs X.stack) fp H3 s2.heap := fun b hb hf => by
    obtain ⟨o,e⟩ := fj b hb hf
    refine ⟨o,?_⟩
    rw [Heap.hide_ne]
    ·exact e
    ·rintro rfl
     rcases hb with hb | ⟨⟨o',hb⟩,_⟩
     ·exact hb I3.free
     ·have z := Heap.lt_size hb
      rw [hC] at z
      exact absurd z (Nat.not_lt.mpr (Nat.le_succ _))
   have fru : ∀ b ∈ frs X.stack,∀ o,s3.heap.get? b = some o -> ∃ sl,h6.get? b = some { o with slots := sl } := fun b hb o e => by
    have hd := o4 I3 b hb o e
    obtain ⟨sl,e4⟩ := vM b o e hd
    have e5 : h5.get? b = some { o with slots := sl } := by rw [sb5.2 b (by rintro rfl; exact hcC hb)]; exact e4
    obtain ⟨Ck,e6⟩ := sm6 b _ e5 hd
    exact ⟨Ck,e6⟩
   have un6 := mW I3.base BG jw up6.1 fru (fun b hb _ => hb)
   have hok6 := jM I3.hok BG jw up6.1 I3.fO
   have J := I2.yG (s' := { s3 with heap := h6 }) I3.os un6 hok6 I3.bare fun b hb => ⟨(f2 b hb).2.2.2.1,(f2 b hb).2.1,(f2 b hb).2.2.2.2.1,(f2 b hb).2.2.2.2.2⟩
   have calX : Calm (B.hide G.objs.size) (frs X.stack) X.ex H3 X.s₀.heap := by
    intro b hb hf
    refine BG b ?_ hf
    rcases hb with hb | ⟨⟨o,z⟩,nx⟩
    ·exact .inl hb
    ·refine .inr ⟨fR I2 z nx,fun zf => ?_⟩
     rcases (f2 b zf).2.2.2.1 with y | y
     ·exact nx y
     ·exact absurd (Nat.lt_of_lt_of_le (Heap.lt_size z) y) (Nat.lt_irrefl _)
   have pnX : ∀ p ∈ X.pn,(B.hide G.objs.size).get? p.1 = some p.2 := by
    intro p hp
    obtain ⟨p1,p2,p3,p4,_⟩ := I2.pin p (List.mem_append_left _ hp)
    have pf : p.1 ∉ fp := fun z => (f2 _ z).2.2.2.2.2 p (List.mem_append_left _ hp) rfl
    have ps : p.1 ∉ frs X.stack := fun z => by
     rcases List.mem_cons.mp (I2.dQ _ z) with e | z
     ·exact p3 e
     ·exact p4 z
    exact BG.at jw (I3.base.keep p.1 p.2 p1 p2 ps pf) (.inr ⟨⟨_,p1⟩,pf⟩) ps
   exact ⟨pins,σ,H3,a,a0,cv,B.hide G.objs.size,rfl,J,up6,calX,pnX,q⟩
  rintro n s3 ⟨i,σ3,H3,I3,st3,IV,w3⟩
  rcases turn i n σ3 H3 w3 with ⟨stop,qn⟩ | ⟨go,step⟩
  ·refine aW (T.done (dO X scope (scope.names.foldl (aH X.env) []) N fp s2 H2 G.objs.size (fun cv x H' => Ex cv x σ H')) rfl rfl rfl hc i [] s3 σ3 H3 _ I3 (stat IV) st3 stop) fun r s4 ⟨hr,I4⟩ => ?_
   subst hr
   refine fin s4 _ _ H3 _ (I2.yG I4.os I4.base I4.hok I4.bare fun b hb => ⟨(f2 b hb).2.2.2.1,(f2 b hb).2.1,(f2 b hb).2.2.2.2.1,(f2 b hb).2.2.2.2.2⟩) (I2.uS (by rw [hC]; exact Nat.le_succ _) I4.free) ?_ qn
   obtain ⟨m,hm,_⟩ := I4.loc
   exact ⟨m,hm⟩
  ·refine aW (T.item (dO X scope (scope.names.foldl (aH X.env) []) N fp s2 H2 G.objs.size (fun cv x H' => Ex cv x σ H')) rfl rfl rfl hc i [] s3 σ3 H3 _ I3 (stat IV) st3 go) fun r s4 ⟨u,hr,h4⟩ => ?_
   subst hr
   refine aW h4 fun _ s5 ⟨x,H5,I5,r5,y5,Dq,fr5⟩ => ?_
   have I5' := I5.pinned (stat fr5) (T.obj _ _ Dq)
   refine aW (hg _ s5 σ3 H5 x u _ I5' r5 (step x H5 y5)) fun _ s6 ⟨σ6,H6,I6,q6⟩ => ?_
   refine aW (ht _ s6 σ6 H6 _ I6 q6) fun ok s7 ⟨H7,I7,q7⟩ => ?_
   have again : ∀ {σ8 : St} {H8 : Hp} {s8 : Shared} {m' : Nat},Inv (dO X scope (scope.names.foldl (aH X.env) []) N fp s2 H2 G.objs.size (fun cv x H' => Ex cv x σ H')) ([] ++ j7 fp s5.heap) σ8 H8 s8 -> m' < n -> W (i + 1) m' σ8 H8 ->
     ∃ m,m < n /\ ∃ i σ' H',Inv (dO X scope (scope.names.foldl (aH X.env) []) N fp s2 H2 G.objs.size (fun cv x H' => Ex cv x σ H')) [] σ' H' s8 /\ tn i s8.heap /\ (∀ b ∈ fp,H' b = none) /\ W i m σ' H' := fun {σ8 H8 s8 m'} I8 hm w8 => by
    refine ⟨m',hm,i + 1,σ8,H8,I8.gO,T.keep _ _ _ Dq fun b hb o e => (I8.pin (b,o) (List.mem_append_right _ (List.mem_append_right _ (dW hb e)))).1,fun b hb => ?_,w8⟩
    obtain ⟨o,e,d⟩ := T.obj _ _ Dq b hb
    exact (I8.pin (b,o) (List.mem_append_right _ (List.mem_append_right _ (dW hb e)))).2.1
   cases ok with
   | false =>
    rw [if_neg Bool.false_ne_true] at q7 ⊢
    obtain ⟨m',hm,w7⟩ := q7
    exact again I7 hm w7
   | true =>
    rw [if_pos rfl] at q7 ⊢
    refine aW (he _ s7 σ6 H7 _ I7 q7) fun xv s8 ⟨v,H8,I8,r8,ys,hy,hz,m',hm,w8⟩ => ?_
    refine aW (lC (X := (dO X scope (scope.names.foldl (aH X.env) []) N fp s2 H2 G.objs.size (fun cv x H' => Ex cv x σ H'))) _ s8 σ6 H8 (.ref s2.heap.objs.size) [v] (.ref s2.heap.objs.size) [xv] (fun _ H' => H' = upd H8 s2.heap.objs.size (.lst (ys ++ [v]))) I8 rfl (.cons r8 .nil) ⟨_,ys,v,rfl,rfl,hy,hz,rfl⟩) fun a s9 ⟨_,H9,I9,_,e9⟩ => ?_
    subst e9
    exact again I9 hm w8
 exact codeAny_compStart_list (loop _ rfl) (T.self X.A 0 _ _ _ st1 (loop _ rfl))
theorem Ay (hc : X.calm = true) (S : gJ X scope N cp n) (hi : PI X tg iter wi)
  (hfr : pS X) (hx : ∀ e s,iL X Ex e s -> X.xe e s) (hb : ∀ σ cl fp s H C,PG (dO X scope cl N fp s H C fun cv x H' => Ex cv x σ H') tg g /\ GL (dO X scope cl N fp s H C fun cv x H' => Ex cv x σ H') ifs (tc σ) /\ PE (dO X scope cl N fp s H C fun cv x H' => Ex cv x σ H') elt (te σ)) (hs : ∀ x,foldedSetIterable iter X.env x = pure x) :
  PE X (.ListComp elt [⟨tg,iter,ifs,0⟩] scope pos) (rV wi g tc te cp n) := by
 intro pins s σ H Q I h
 rw [eval_ListComp]
 refine lP (use := none) hc S hi hfr hx hb hs I h fun s' C D H' f I' fC ⟨m,hm⟩ q => ⟨m,hm,fun h' hs' => ?_⟩
 exact ⟨.ref D,H',I'.turned (fun b o hb e => (hs'.2 b hb).trans e) fC.1 fC.2.1 fC.2.2.2.1 fC.2.2.2.2.1 fC.2.2.2.2.2,rfl,q⟩
theorem Am {i : Nat} {y : Str} {py spos : Pos} (hN : X.N.Nodup) (hy : X.N[i]? = some y) (hk : X.env.scope.names.lookup y = some .local) (hc : X.calm = true) (S : gJ X scope N cp n) (hi : PI X tg iter wi)
  (hfr : pS X) (hx : ∀ e s,iL X Ex e s -> X.xe e s) (hb : ∀ σ cl fp s H C,PG (dO X scope cl N fp s H C fun cv x H' => Ex cv x σ H') tg g /\ GL (dO X scope cl N fp s H C fun cv x H' => Ex cv x σ H') ifs (tc σ) /\ PE (dO X scope cl N fp s H C fun cv x H' => Ex cv x σ H') elt (te σ)) (hs : ∀ x,foldedSetIterable iter X.env x = pure x)
  (hsw : swapsWith (.ListComp elt [⟨tg,iter,ifs,0⟩] scope pos) (some (.Name y py)) spos.line X.env = pure true) :
  PS X (.Assign [.Name y py] (.ListComp elt [⟨tg,iter,ifs,0⟩] scope pos) spos) (vB (rV wi g tc te cp n) (lH i)) := by
 intro pins s σ H Dn I h
 rw [exec_Assign_Name_used _ _ _ _ hsw]
 refine wpAny_bind (wpAny_standAt (wpAny_bind ?_))
 show wpAny _ X.A (do let _ <- comprehension (.ListComp elt [⟨tg,iter,ifs,0⟩] scope pos) scope X.env _ (newList []) false (eval iter X.env) (some (assign (.Name y py) X.env))) _ _ s
 refine wpAny_bind (wpAny_mono (lP (use := some (assign (.Name y py) X.env)) (Q' := fun _ s' => SP X pins Dn .next s') hc S hi hfr hx hb hs I h fun s' C D H' f I' fC ⟨m,hm⟩ q => ?_) (fun _ s' hq => wpAny_pure (wpAny_pure hq)) fun _ _ e => e)
 show wpAny _ X.A (assign (.Name y py) X.env (.ref D)) _ _ s'
 refine wpAny_assign_Name (kZ I' hN hy (.inl hk) (v := .ref D) rfl (fun s2 I2 ⟨a,hsb,ha⟩ => ?_) (.inr hk))
 have hCa : C ≠ a := by
  rcases ha with rfl | ha
  ·exact fC.2.1
  ·exact fun z => fC.2.2.2.2.1 _ _ ha z.symm
 refine ⟨m,hm.sameBut hsb hCa,fun h' hs' => ⟨_,H',I2.turned (fun b o hb e => (hs'.2 b hb).trans e) fC.1 fC.2.1 fC.2.2.2.1 fC.2.2.2.2.1 fC.2.2.2.2.2,q⟩⟩
end
end Fg
end
section
set_option autoImplicit false
namespace Fg
open PySem L2
noncomputable def JQ (a : Addr) (o : Obj) (kvs : List (Key × V)) : It :=
 ⟨fun i H => H a = some (.fh o (.dK kvs)) /\ i < kvs.length,fun i H x H' => H' = H /\ ∃ kv,kvs[i]? = some kv /\ x = kV kv.1,fun i H => H a = some (.fh o (.dK kvs)) /\ kvs.length <= i⟩
noncomputable def IK (B : Bd) (th : Addr -> Prop) (tl : TE) : TI := fun σ H R => tl σ H fun x H1 =>
 (∃ a,x = .ref a /\ (∃ xs,fk B.K H1 a xs) /\ R (Itl B.K a) H1) \/ (∃ a,x = .ref a /\ (∃ xs,jv B.K H1 a xs) /\ R (Itt B.K a) H1) \/
 (∃ a kvs,x = .ref a /\ H1 a = some (.dK kvs) /\ ∀ o,th a -> R (JQ a o kvs) (upd H1 a (.fh o (.dK kvs)))) \/
 (∃ a o kvs,x = .ref a /\ H1 a = some (.fh o (.dK kvs)) /\ R (JQ a o kvs) H1)
section
variable {B : Bd} {Φ : aQ} {E : Gx} {F F' F0 F1 : Addr -> Prop} {ρ ρ' ρ0 ρ1 : List Addr} {H H' H0 H1 : Hp} {M M' M0 : MH} {σD : Sg} {σ : L2.St} {Q : VK} {Dn : Ends}
theorem kU {a : Addr} {src : D} {ds : List D} (h : ∀ F ρ M H,Ext F0 ρ0 H0 F ρ H -> SR B F ρ M H -> aP M0 src M = true -> ∃ vs,fk B.K H a vs /\ aj B F ρ H ds vs) : Walks B (Itl B.K a) src ds F0 ρ0 M0 H0 := by
 intro i F ρ M H e S st
 obtain ⟨vs,q,rd⟩ := h F ρ M H e S st
 refine ⟨fun d hd => ?_,fun hl => ⟨vs,q,by rw [<- aj.length rd]; exact hl⟩⟩
 obtain ⟨v,hv,rv⟩ := aj.get rd hd
 refine ⟨⟨vs,v,q,hv⟩,fun x H' ⟨e',hy⟩ => ?_⟩
 subst e'
 have z := hy vs q
 rw [hv] at z; cases z
 exact ⟨F,S.refl,S,rv⟩
theorem tY {a : Addr} {src : D} {ds : List D} (h : ∀ F ρ M H,Ext F0 ρ0 H0 F ρ H -> SR B F ρ M H -> aP M0 src M = true -> ∃ vs,jv B.K H a vs /\ aj B F ρ H ds vs) : Walks B (Itt B.K a) src ds F0 ρ0 M0 H0 := by
 intro i F ρ M H e S st
 obtain ⟨vs,q,rd⟩ := h F ρ M H e S st
 refine ⟨fun d hd => ?_,fun hl => ⟨vs,q,by rw [<- aj.length rd]; exact hl⟩⟩
 obtain ⟨v,hv,rv⟩ := aj.get rd hd
 refine ⟨⟨vs,v,q,hv⟩,fun x H' ⟨e',hy⟩ => ?_⟩
 subst e'
 have z := hy vs q
 rw [hv] at z; cases z
 exact ⟨F,S.refl,S,rv⟩
theorem EO {k : Key} : RD B F ρ H (Ke k) (kV k) := by cases k <;> simp only [Ke,kV,RD]
theorem kW {a : Addr} {o : Obj} {src : D} {di : List (Ky × D)} {kws : List (Key × V)} (hz : H0 a = some (.fh o (.dK kws))) (hk : kws.map (·.1) = di.map (·.1)) : Walks B (JQ a o kws) src (di.map fun kv => Ke kv.1) F0 ρ0 M0 H0 := by
 intro i F ρ M H e S st
 have hl : kws.length = di.length := by have := congrArg List.length hk; simpa using this
 have hH := e.z a o _ hz
 refine ⟨fun d hd => ?_,fun hi => ⟨hH,by rw [hl]; simpa using hi⟩⟩
 rw [List.getElem?_map] at hd
 cases hx : di[i]? with
 | none => rw [hx] at hd; cases hd
 | some kd =>
  rw [hx] at hd
  simp only [Option.map_some,Option.some.injEq] at hd
  subst hd
  obtain ⟨hi,_⟩ := List.getElem?_eq_some_iff.mp hx
  refine ⟨⟨hH,by rw [hl]; exact hi⟩,fun x H' ⟨e',kw,hkw,hx'⟩ => ?_⟩
  subst e' hx'
  have e1 : (kws.map (·.1))[i]? = some kw.1 := by rw [List.getElem?_map,hkw]; rfl
  rw [hk,List.getElem?_map,hx] at e1
  simp only [Option.map_some,Option.some.injEq] at e1
  rw [<- e1]
  exact ⟨F,S.refl,S,EO⟩
theorem DA {a : Fg.E} {Rr : It -> Hp -> Prop} (h : C9 B Φ E (.e a) σ H Rr) : IK B E.th (T B Φ E a) σ H Rr := by
 obtain ⟨σD,M,F,ρ,S,r,h⟩ := h
 refine ⟨σD,M,F,ρ,S,r,?_⟩
 cases hx : ev Φ a σD M with
 | exc c M1 =>
  have he : bP Φ (.e a) σD M = .exc c M1 := by simp only [bP,hx,R.kK]
  rw [he] at h; exact h
 | bad =>
  have he : bP Φ (.e a) σD M = .bad := by simp only [bP,hx,R.iI]
  rw [he] at h; exact h
 | ok d M1 =>
  intro F1 ρ1 H1 v e1 S1 rd
  cases hi : itemsOf M1 d with
  | none =>
   have he : bP Φ (.e a) σD M = .bad := by simp only [bP,hx,R.af,hi]
   rw [he] at h; exact h.elim
  | some ds =>
   have he : bP Φ (.e a) σD M = .ok (d,ds,wk M1 d) (walk M1 d) := by simp only [bP,hx,R.af,hi]
   rw [he] at h
   cases d with
   | ak => simp [itemsOf,vw] at hi
   | bl _ => simp [itemsOf,vw] at hi
   | int _ => simp [itemsOf,vw] at hi
   | str _ => simp [itemsOf] at hi
   | dct _ _ => simp [itemsOf] at hi
   | lst xs =>
    simp only [itemsOf,vw,Option.some.injEq] at hi; subst hi
    simp only [RD] at rd
    obtain ⟨b,vs,rfl,z,q⟩ := id rd
    refine .inl ⟨b,rfl,⟨vs,z.sq⟩,h F1 ρ1 H1 _ e1 S1 fun M' eq S' => ⟨?_,fun z => by simp [wk] at z⟩⟩
    refine kU fun F ρ M H e S st => ?_
    have HC := RD.mono e (.lst xs) (.ref b) (by simp only [RD]; exact rd)
    simp only [RD] at HC
    obtain ⟨b',vs',eb,z',q'⟩ := HC
    cases eb
    exact ⟨vs',z'.sq,q'⟩
   | tup xs =>
    simp only [itemsOf,vw,Option.some.injEq] at hi; subst hi
    simp only [RD] at rd
    obtain ⟨b,vs,rfl,z,q⟩ := id rd
    refine .inr (.inl ⟨b,rfl,⟨vs,z.sq⟩,h F1 ρ1 H1 _ e1 S1 fun M' eq S' => ⟨?_,fun z => by simp [wk] at z⟩⟩)
    refine tY fun F ρ M H e S st => ?_
    have HC := RD.mono e (.tup xs) (.ref b) (by simp only [RD]; exact rd)
    simp only [RD] at HC
    obtain ⟨b',vs',eb,z',q'⟩ := HC
    cases eb
    exact ⟨vs',z'.sq,q'⟩
   | ref n =>
    simp only [RD] at rd
    obtain ⟨b,hb,rfl⟩ := rd
    cases hM : M1[n]? with
    | none => simp [itemsOf,vw,hM] at hi
    | some o =>
     cases o with
     | ins _ _ => simp [itemsOf,vw,hM] at hi
     | lst xs =>
      simp only [itemsOf,vw,hM,Option.some.injEq] at hi; subst hi
      have hw : walk M1 (.ref n) = M1 := by simp only [walk,hM]
      have hk : wk M1 (.ref n) = false := by simp only [wk,hM]
      rw [hw,hk] at h
      obtain ⟨vs,h1,q⟩ := S1.obj n b _ hb hM
      refine .inl ⟨b,rfl,⟨vs,.inl (.inl h1)⟩,h F1 ρ1 H1 _ e1 S1 fun M' eq S' => ⟨?_,fun z => by simp at z⟩⟩
      injection eq with eq1 eq2
      subst eq2
      refine kU fun F ρ M H e S st => ?_
      simp only [aP,decide_eq_true_eq] at st
      obtain ⟨vs',FL,q'⟩ := S.obj n b _ (e.at hb) (st.trans hM)
      exact ⟨vs',.inl (.inl FL),q'⟩
     | dct di =>
      simp only [itemsOf,vw,hM,Option.some.injEq] at hi; subst hi
      have hw : walk M1 (.ref n) = M1.set n (.pI di) := by simp only [walk,hM]
      have hk : wk M1 (.ref n) = true := by simp only [wk,hM]
      rw [hw,hk] at h
      obtain ⟨kws,h1,h2,q⟩ := S1.obj n b _ hb hM
      refine .inr (.inr (.inl ⟨b,kws,rfl,h1,fun ob hth => ?_⟩))
      obtain ⟨S2,e2⟩ := S1.wk ob hb hM h1
      refine h F1 ρ1 _ _ (e1.trans e2) S2 fun M' eq S' => ⟨kW aA h2,fun _ => ⟨n,b,rfl,hb,hth,fun w v z => ?_⟩⟩
      have := e1.z b w v z
      rw [h1] at this; cases this
     | pI di =>
      simp only [itemsOf,vw,hM,Option.some.injEq] at hi; subst hi
      have hw : walk M1 (.ref n) = M1 := by simp only [walk,hM]
      have hk : wk M1 (.ref n) = false := by simp only [wk,hM]
      rw [hw,hk] at h
      obtain ⟨ob,kws,h1,h2,q⟩ := S1.obj n b _ hb hM
      exact .inr (.inr (.inr ⟨b,ob,kws,rfl,h1,h F1 ρ1 H1 _ e1 S1 fun M' eq S' => ⟨kW h1 h2,fun z => by simp at z⟩⟩))
theorem tZ {lo : Int} {n : Nat} {src : D} : Walks B (K1 lo n) src ((List.range n).map fun (i : Nat) => D.int (lo + (i : Int))) F0 ρ0 M0 H0 := by
 intro i F ρ M H e S st
 refine ⟨fun d hd => ?_,fun hi => (show n <= i by simpa using hi)⟩
 have hi : i < n := by
  obtain ⟨q,_⟩ := List.getElem?_eq_some_iff.mp hd
  simpa using q
 refine ⟨hi,fun x H' ⟨e',hx⟩ => ?_⟩
 subst e' hx
 simp [hi] at hd
 subst hd
 exact ⟨F,S.refl,S,by simp only [RD]⟩
theorem Ij {j : Int} (h : qB j = true) : -(2 ^ 62) <= j /\ j < 2 ^ 62 := by
 simp only [qB,decide_eq_true_eq] at h; omega
theorem zT {a : Fg.E} {Rr : It -> Hp -> Prop} (h : C9 B Φ E (.gK a) σ H Rr) : CI (jW (T B Φ E a) l7) σ H Rr := by
 obtain ⟨σD,M,F,ρ,S,r,h⟩ := h
 refine ⟨σD,M,F,ρ,S,r,?_⟩
 cases hx : ev Φ a σD M with
 | exc c M1 =>
  have he : bP Φ (.gK a) σD M = .exc c M1 := by simp only [bP,hx,R.kK]
  rw [he] at h; exact h
 | bad =>
  have he : bP Φ (.gK a) σD M = .bad := by simp only [bP,hx,R.iI]
  rw [he] at h; exact h
 | ok d M1 =>
  intro F1 ρ1 H1 v e1 S1 rd
  cases d with
  | int j =>
   simp only [RD] at rd; subst rd
   cases hr : qB j with
   | false =>
    have he : bP Φ (.gK a) σD M = .bad := by simp [bP,hx,hr]
    rw [he] at h; exact h.elim
   | true =>
    have he : bP Φ (.gK a) σD M = .ok (.ak,eS 0 j,false) M1 := by simp [bP,hx,hr]
    rw [he] at h
    obtain ⟨b1,b2⟩ := Ij hr
    refine ⟨j,rfl,b1,b2,h F1 ρ1 H1 _ e1 S1 fun M' eq S' => ⟨?_,fun z => by simp at z⟩⟩
    have q : eS 0 j = (List.range j.toNat).map fun (i : Nat) => D.int (0 + (i : Int)) := by simp [eS]
    dsimp only
    rw [q]
    exact tZ
  | ak =>
   have he : bP Φ (.gK a) σD M = .bad := by simp [bP,hx]
   rw [he] at h; exact h.elim
  | bl _ =>
   have he : bP Φ (.gK a) σD M = .bad := by simp [bP,hx]
   rw [he] at h; exact h.elim
  | str _ =>
   have he : bP Φ (.gK a) σD M = .bad := by simp [bP,hx]
   rw [he] at h; exact h.elim
  | tup _ =>
   have he : bP Φ (.gK a) σD M = .bad := by simp [bP,hx]
   rw [he] at h; exact h.elim
  | lst _ =>
   have he : bP Φ (.gK a) σD M = .bad := by simp [bP,hx]
   rw [he] at h; exact h.elim
  | dct _ _ =>
   have he : bP Φ (.gK a) σD M = .bad := by simp [bP,hx]
   rw [he] at h; exact h.elim
  | ref _ =>
   have he : bP Φ (.gK a) σD M = .bad := by simp [bP,hx]
   rw [he] at h; exact h.elim
end
end Fg
end
section
set_option autoImplicit false
namespace Fg
open PySem L2
noncomputable def EB (E : Gx) (σ : L2.St) : Gx := ⟨fun cv x _ H => E.e cv x σ H,fun _ => False,fun cv x _ H H' t h => by
 rcases t with rfl | ⟨_,_,_,z,_⟩
 ·exact h
 ·exact z.elim⟩
noncomputable def TBo (B : Bd) (Φ : aQ) (E : Gx) : O -> TT
 | .none => fun _ H Q => Q true H
 | .some e => TB B Φ E e
section
variable {B : Bd} {Φ : aQ} {E : Gx} {F F' F0 F1 : Addr -> Prop} {ρ ρ' ρ0 ρ1 : List Addr} {H H' H0 H1 : Hp} {M M' M0 : MH} {σD : Sg} {σ : L2.St} {Q : VK} {Dn : Ends}
theorem Ext.fresh (S : SR B F ρ M H) {p : Addr} (h : H p = none) (o : HO) : Ext F ρ H F ρ (upd H p o) :=
 ⟨⟨S.sep,fun _ q => q,fun a q _ => aq (by rintro rfl; exact q h),List.prefix_refl _,fun _ q => .inl q,fun _ q => .inl q⟩,fun b w u q => by rw [aq (by rintro rfl; rw [h] at q; cases q)]; exact q⟩
theorem Ext.over (e : Ext F ρ H F' ρ' H') {p : Addr} (h : H p = none) (o : HO) : Ext F ρ H F' ρ' (upd H' p o) :=
 ⟨⟨e.s,e.f,fun a q nb => by rw [aq (by rintro rfl; exact q h)]; exact e.h a q nb,e.r,e.n,e.g⟩,fun b w u q => by rw [aq (by rintro rfl; rw [h] at q; cases q)]; exact e.z b w u q⟩
theorem RS.cap (r : RS B F ρ H σD σ) (caps : List Nat) (n : Nat) : RS B F ρ H (nC σD caps ++ List.replicate n none) (pP caps n σ) := by
 refine ⟨by simp [nC,pP],fun i d q => ?_⟩
 by_cases hi : i < caps.length
 ·have hc : caps[i]? = some caps[i] := List.getElem?_eq_getElem hi
  rw [List.getElem?_append_left (by simpa [nC] using hi)] at q
  simp only [nC,List.getElem?_map,hc,Option.map_some,Option.some.injEq] at q
  cases hs : σD[caps[i]]? with
  | none => rw [hs] at q; cases q
  | some o =>
   rw [hs] at q
   simp only [Option.join_some] at q
   subst q
   obtain ⟨v,h1,h2⟩ := r.get _ _ hs
   refine ⟨v,?_,h2⟩
   unfold pP
   rw [List.getElem?_append_left (by simpa using hi),List.getElem?_map,hc]
   simp [h1]
 ·rw [List.getElem?_append_right (by simpa [nC] using Nat.le_of_not_lt hi),List.getElem?_replicate] at q
  split at q <;> cases q
theorem RS.aU (e : pU F ρ H F' ρ' H') (h : RS B F ρ H σD σ) : RS B F' ρ' H' σD σ :=
 ⟨h.len,fun i d q => let ⟨v,h1,h2⟩ := h.get i d q; ⟨v,h1,RD.aU e d v h2⟩⟩
theorem ow {fz : Bool} {caps tg : List Nat} {elt : Fg.E} {it : Src} {cond : O} (h : T B Φ E (.comp fz caps tg elt it cond) σ H Q) :
  rV (C9 B Φ E it) (GH tg B.K) (fun σ => TBo B Φ (EB E σ) cond) (fun σ => T B Φ (EB E σ) elt) caps tg.length σ H (fun v H' => ∃ rL,ze E.th H' rL /\ Q v rL) := by
 obtain ⟨σD,M,F,ρ,S,r,h⟩ := h
 simp only [ev] at h
 refine ⟨σD,M,F,ρ,S,r,?_⟩
 cases hx : bP Φ it σD M with
 | exc c M1 => rw [hx] at h; exact h
 | bad => rw [hx] at h; exact h
 | ok p M0 =>
  rw [hx] at h
  simp only [R.af] at h
  intro F0 ρ0 H0 J e0 S0 hw
  obtain ⟨W,wz⟩ := hw M0 rfl S0
  obtain ⟨src,ds,fl⟩ := p
  dsimp only at h W wz
  intro Da Kr
  obtain ⟨nD,nF⟩ := S0.new Kr
  have Kq : H Da = none := by
   cases q : H Da with
   | none => rfl
   | some u =>
    exfalso
    by_cases hr : Da ∈ ρ
    ·exact nD (e0.r.subset hr)
    ·have := e0.h Da (by rw [q]; simp) hr
     rw [Kr,q] at this; cases this
  let loop := fun (i : Nat) (σ' : Sg) (M' : MH) (acc : List D) => ((bw (nQ Φ cond) (ev Φ elt) tg (aP M0 src) (ds.drop i) σ' M' acc).fin (c6 fl src)).bind fun ds M2 => cK fz ds M2
  let WW : Nat -> Nat -> L2.St -> Hp -> Prop := fun i m σ' H' => m + i = ds.length /\ ∃ (GO : Sg) (M1 : MH) (F1 : Addr -> Prop) (ρ1 : List Addr) (acc : List D) (vs : List V),Ext F ρ H F1 ρ1 H' /\ Ext F0 ρ0 H0 F1 ρ1 H' /\ SR B F1 ρ1 M1 H' /\ RS B F1 ρ1 H' GO σ' /\ aP M0 src M1 = true /\ Da ∉ ρ1 /\ ¬ F1 Da /\ H' Da = some (.lst vs) /\ aj B F1 ρ1 H' acc vs /\
   Post B (loop i GO M1 acc) F ρ H Q (fun cv x H' => E.e cv x σ H')
  have x0 := pU.side (ρ := ρ0) (H := H0) nF (.lst [])
  refine ⟨WW,⟨ds.length,by simp,_,M0,F0,ρ0,[],[],e0.over Kq _,Ext.fresh S0 Kr _,S0.side nD nF _,((r.mono e0).cap caps tg.length).aU x0,?_,nD,nF,aA,aj.nil,h⟩,?_⟩
  ·unfold aP; split <;> simp
  rintro i m σ1 H1 ⟨hm,zl,M1,F1,ρ1,acc,vs,eo,e1,S1,r1,st1,d1,f1,Ks,ra,p1⟩
  obtain ⟨wgo,wst⟩ := W i F1 ρ1 M1 H1 e1 S1 st1
  by_cases hi : i < ds.length
  ·have hd : ds.drop i = ds[i] :: ds.drop (i + 1) := List.drop_eq_getElem_cons hi
   simp only [loop] at p1
   rw [hd] at p1
   unfold bw at p1
   obtain ⟨go,yl⟩ := wgo ds[i] (List.getElem?_eq_getElem hi)
   refine .inr ⟨go,fun x H2 hy => ?_⟩
   obtain ⟨F2,e2,S2,rd⟩ := yl x H2 hy
   have keep : ∀ {F3 : Addr -> Prop} {ρ3 : List Addr} {H3 : Hp},Ext F1 ρ1 H1 F3 ρ3 H3 -> Da ∉ ρ3 /\ ¬ F3 Da /\ H3 Da = some (.lst vs) /\ aj B F3 ρ3 H3 acc vs := fun {F3 ρ3 H3} e => by
    have hne : H1 Da ≠ none := by rw [Ks]; simp
    refine ⟨fun z => (e.n Da z).elim d1 hne,fun z => ?_,(e.h Da hne d1).trans Ks,aj.mono e _ _ ra⟩
    rcases e.g Da z with q | q | q
    ·exact f1 q
    ·exact hne q
    ·exact d1 q
   split at p1
   ·exact p1.elim
   ·rename_i σ2 hs
    refine jY (r1.mono e2) rd hs fun σ' r' => ?_
    have Ju : ∀ {F3 : Addr -> Prop} {ρ3 : List Addr} {H3 : Hp} {M3 : MH},Ext F1 ρ1 H1 F3 ρ3 H3 -> SR B F3 ρ3 M3 H3 -> RS B F3 ρ3 H3 σ2 σ' ->
      Post B ((((ev Φ elt σ2 M3).bind fun x M2 => if aP M0 src M2 = true then (if decide (acc.length < line) = true then bw (nQ Φ cond) (ev Φ elt) tg (aP M0 src) (ds.drop (i + 1)) σ2 M2 (acc ++ [x]) else .bad) else .bad).fin (c6 fl src)).bind fun ds M2 => cK fz ds M2) F ρ H Q (fun cv x H' => E.e cv x σ H') ->
      T B Φ (EB E σ) elt σ' H3 fun v H5 => ∃ ys,H5 Da = some (.lst ys) /\ ys.length < sizeLine /\ ∃ m',m' < m /\ WW (i + 1) m' σ' (upd H5 Da (.lst (ys ++ [v]))) := by
     intro F3 ρ3 H3 M3 e3 S3 r3 p3
     refine ⟨σ2,M3,F3,ρ3,S3,r3,?_⟩
     cases hv : ev Φ elt σ2 M3 with
     | bad => rw [hv] at p3; exact p3
     | exc c M4 =>
      rw [hv] at p3
      intro F4 ρ4 H4 cv x e4 S4 q4
      obtain ⟨H5,t5,S5,e5,x5⟩ := cI S4 ((eo.trans e3).trans e4) ((e1.trans e3).trans e4).r wz
      exact E.cl _ _ _ _ _ t5 (p3 F4 ρ4 H5 cv x e5 S5 q4)
     | ok d M4 =>
      rw [hv] at p3
      simp only [R.af] at p3
      intro F4 ρ4 H4 v e4 S4 q4
      split at p3
      ·rename_i hst
       split at p3
       ·rename_i hlt
        obtain ⟨k1,k2,k3,k4⟩ := keep (e3.trans e4)
        have hl4 := aj.length k4
        have x4 := pU.side (ρ := ρ4) (H := H4) k2 (.lst (vs ++ [v]))
        refine ⟨vs,k3,by rw [<- hl4]; exact Nat.lt_of_lt_of_le (of_decide_eq_true hlt) bM,m - 1,by omega,by omega,σ2,M4,F4,ρ4,acc ++ [d],vs ++ [v],((eo.trans e3).trans e4).over Kq _,((e1.trans e3).trans e4).over Kr _,S4.side k1 k2 _,((r3.mono e4)).aU x4,hst,k1,k2,aA,aj.aU x4 _ _ (k4.append (aj.cons q4 aj.nil)),p3⟩
       ·exact p3.elim
      ·exact p3.elim
    cases cond with
    | none =>
     have hc : nQ Φ .none σ2 M1 = .ok (.bl true) M1 := by simp only [nQ]
     rw [hc] at p1
     simp only [R.af] at p1
     unfold TBo
     dsimp only
     rw [if_pos rfl]
     exact Ju e2 S2 r' p1
    | some c =>
     have hc0 : nQ Φ (.some c) σ2 M1 = ev Φ c σ2 M1 := by simp only [nQ]
     rw [hc0] at p1
     refine ⟨σ2,M1,F2,ρ1,S2,r',?_⟩
     cases hc : ev Φ c σ2 M1 with
     | bad => rw [hc] at p1; exact p1
     | exc k M4 =>
      rw [hc] at p1
      intro F4 ρ4 H4 cv x e4 S4 q4
      obtain ⟨H5,t5,S5,e5,x5⟩ := cI S4 ((eo.trans e2).trans e4) ((e1.trans e2).trans e4).r wz
      exact E.cl _ _ _ _ _ t5 (p1 F4 ρ4 H5 cv x e5 S5 q4)
     | ok t M4 =>
      rw [hc] at p1
      simp only [R.af] at p1
      intro F4 ρ4 H4 v e4 S4 q4
      split at p1
      ·simp only [RD] at q4; subst q4
       refine ⟨true,rfl,?_⟩
       dsimp only
       rw [if_pos rfl]
       exact Ju (e2.trans e4) S4 (r'.mono e4) p1
      ·simp only [RD] at q4; subst q4
       refine ⟨false,rfl,?_⟩
       dsimp only
       rw [if_neg Bool.false_ne_true]
       split at p1
       ·rename_i hst
        obtain ⟨k1,k2,k3,k4⟩ := keep (e2.trans e4)
        exact ⟨m - 1,by omega,by omega,σ2,M4,F4,ρ4,acc,vs,(eo.trans e2).trans e4,(e1.trans e2).trans e4,S4,r'.mono e4,hst,k1,k2,k3,k4,p1⟩
       ·exact p1.elim
      ·exact p1.elim
  ·have hd : ds.drop i = [] := List.drop_eq_nil_of_le (Nat.le_of_not_lt hi)
   simp only [loop] at p1
   rw [hd] at p1
   unfold bw at p1
   obtain ⟨H4,t4,S4,e4,x4⟩ := cI S1 eo e1.r wz
   refine .inl ⟨wst (Nat.le_of_not_lt hi),H4,t4,?_⟩
   have p2 : Post B (cK fz acc (c6 fl src M1)) F ρ H Q (fun cv x H' => E.e cv x σ H') := p1
   have ra4 := aj.bz x4 _ _ ra
   have hD4 : H4 Da = some (.lst vs) := by
    have := x4.h Da (by rw [Ks]; simp) d1
    exact this.trans Ks
   cases fz with
   | true =>
    simp only [cK,if_true] at p2
    have xt : pU F1 ρ1 H4 (fun a => F1 a \/ a = Da) ρ1 H4 := ⟨fun _ q => .inl q,fun _ _ _ => rfl,List.prefix_refl _⟩
    refine p2 (fun a => F1 a \/ a = Da) ρ1 H4 (.ref Da) ⟨⟨e4.s,fun a q => .inl (e4.f a q),e4.h,e4.r,e4.n,fun a q => q.elim (e4.g a) fun z => .inr (.inl (z ▸ Kq))⟩,e4.z⟩ (S4.take d1 (by rw [hD4]; simp)) ?_
    simp only [RD]
    exact ⟨Da,vs,rfl,.inl ⟨.inr rfl,.inl hD4⟩,aj.aU xt _ _ ra4⟩
   | false =>
    simp only [cK,Bool.false_eq_true,if_false] at p2
    have xt : pU F1 ρ1 H4 F1 (ρ1 ++ [Da]) H4 := ⟨fun _ q => q,fun _ _ _ => rfl,List.prefix_append _ _⟩
    refine p2 F1 (ρ1 ++ [Da]) H4 (.ref Da) ⟨⟨e4.s,e4.f,e4.h,e4.r.trans (List.prefix_append _ _),fun a q => (List.mem_append.mp q).elim (e4.n a) fun z => .inr (by rw [List.mem_singleton.mp z]; exact Kq),e4.g⟩,e4.z⟩ (S4.hold (u := .lst acc) d1 f1 ⟨vs,hD4,aj.aU xt _ _ ra4⟩) ?_
    simp only [RD]
    refine ⟨Da,?_,rfl⟩
    rw [<- S4.len,List.getElem?_append_right (Nat.le_refl _),Nat.sub_self]; rfl
end
end Fg
end
section
set_option autoImplicit false
namespace Fg
open PySem L2
section
variable {B : Bd} {Φ : aQ} {E : Gx} {F F' F0 F1 : Addr -> Prop} {ρ ρ' ρ0 ρ1 : List Addr} {H H' H0 H1 : Hp} {M M' M0 : MH} {σD : Sg} {σ : L2.St} {Q : VK} {Dn : Ends}
theorem Ht {i : Nat} {v : V} (hg : ∀ d,Φ.glob i = some d -> ∀ F ρ H,RD B F ρ H d v) (h : T B Φ E (.g i) σ H Q) : tC v σ H Q := by
 obtain ⟨σD,M,F,ρ,S,r,h⟩ := h
 simp only [ev] at h
 split at h
 ·rename_i d hd
  exact ai.run h S (hg d hd F ρ H)
 ·exact h.elim
noncomputable def vI (B : Bd) (Φ : aQ) (f n : Nat) : Sp := fun vs H Q E => vs.length = n /\ ∃ ds M F ρ,SR B F ρ M H /\ aj B F ρ H ds vs /\ Post B (Φ.call f ds M) F ρ H Q E
theorem oz {f n : Nat} {es : Es} (hn : ∀ {σ : Sg} {M : MH} {ds : List D} {M' : MH},cA Φ es σ M = .ok ds M' -> ds.length = n) (h : T B Φ E (.call f es) σ H Q)   : qa (vI B Φ f n) E.e (TL B Φ E es) σ H Q := by
 obtain ⟨σD,M,F,ρ,S,r,h⟩ := h
 simp only [ev] at h
 refine ⟨σD,M,F,ρ,S,r,?_⟩
 cases hx : cA Φ es σD M with
 | exc c M1 => rw [hx] at h; exact h
 | bad => rw [hx] at h; exact h
 | ok ds M1 =>
  rw [hx] at h
  simp only [R.af] at h
  intro F1 ρ1 H1 vs e1 S1 q1
  exact ⟨by rw [<- aj.length q1]; exact hn hx,ds,M1,F1,ρ1,S1,q1,ai.weak e1 h⟩
theorem uo {f n : Nat} {es : Es} {d : Int} (hn : ∀ {σ : Sg} {M : MH} {ds : List D} {M' : MH},cA Φ es σ M = .ok ds M' -> ds.length + 1 = n) (h : T B Φ E (.gp f es d) σ H Q) : vA (vI B Φ f n) (.int d) E.e (TL B Φ E es) σ H Q := by
 obtain ⟨σD,M,F,ρ,S,r,h⟩ := h
 simp only [ev] at h
 refine ⟨σD,M,F,ρ,S,r,?_⟩
 cases hx : cA Φ es σD M with
 | exc c M1 => rw [hx] at h; exact h
 | bad => rw [hx] at h; exact h
 | ok ds M1 =>
  rw [hx] at h
  simp only [R.af] at h
  intro F1 ρ1 H1 vs e1 S1 q1
  exact ⟨by rw [List.length_append,<- aj.length q1]; exact hn hx,ds ++ [.int d],M1,F1,ρ1,S1,q1.append (aj.cons (by simp only [RD]) aj.nil),ai.weak e1 h⟩
theorem Dj {x : D} {v : V} {t : Ty} (S : SR B F ρ M H) (rx : RD B F ρ H x v) (ho : wK M x = true) : ∃ T,BZ B H v T /\ tyB T t = FD M t x := by
 cases x with
 | ak => simp only [RD] at rx; subst rx; exact ⟨_,.ak,by cases t <;> rfl⟩
 | bl b => simp only [RD] at rx; subst rx; exact ⟨_,.bl b,by cases t <;> rfl⟩
 | int i => simp only [RD] at rx; subst rx; exact ⟨_,.int i,by cases t <;> rfl⟩
 | str x => simp only [RD] at rx; subst rx; exact ⟨_,.str x,by cases t <;> rfl⟩
 | tup ds => simp only [RD] at rx; obtain ⟨a,vs,rfl,z,_⟩ := rx; exact ⟨_,.tup z.sq,by cases t <;> rfl⟩
 | lst ds => simp only [RD] at rx; obtain ⟨a,vs,rfl,z,_⟩ := rx; exact ⟨_,.lst z.sq,by cases t <;> rfl⟩
 | dct ks ds =>
  simp only [RD] at rx; obtain ⟨a,vs,rfl,z,_⟩ := rx
  refine ⟨_,.dct (kvs := vs) ?_,by cases t <;> rfl⟩
  rcases z with ⟨_,z⟩ | z
  ·exact .inl z
  ·exact .inr z
 | ref n =>
  simp only [RD] at rx
  obtain ⟨a,h1,rfl⟩ := rx
  cases hM : M[n]? with
  | none => simp [wK,hM] at ho
  | some o =>
   cases o with
   | lst ds => obtain ⟨vs,h3,_⟩ := S.obj n a _ h1 hM; exact ⟨_,.lst (.inl (.inl h3)),by simp only [FD,hM]; cases t <;> rfl⟩
   | dct kvs => obtain ⟨kws,h3,_⟩ := S.obj n a _ h1 hM; exact ⟨_,.dct (.inl (.inl h3)),by simp only [FD,hM]; cases t <;> rfl⟩
   | pI kvs => obtain ⟨o,kws,h3,_⟩ := S.obj n a _ h1 hM; exact ⟨_,.dct (.inl (.inr ⟨o,h3⟩)),by simp only [FD,hM]; cases t <;> rfl⟩
   | ins _ _ => simp [wK,hM] at ho
theorem zZ {a : Fg.E} {t : Ty} (h : T B Φ E (.vg a t) σ H Q) : G9 (HM B) (jW (T B Φ E a) (jW (tC (.ty (nU t))) l7)) σ H Q := by
 obtain ⟨σD,M,F,ρ,S,r,h⟩ := h
 simp only [ev] at h
 refine T.one S r rfl h fun x M1 F1 ρ1 H1 v e1 S1 r1 rx h1 => ?_
 split at h1
 ·rename_i ho
  obtain ⟨T',ty,e⟩ := Dj (t := t) S1 rx ho
  refine ⟨v,T',t,rfl,ty,?_⟩
  rw [e]
  exact ai.run h1 S1 (by simp only [RD])
 ·exact h1.elim
theorem qf {fz : Bool} {a : Fg.E} {es : Es} (h : T B Φ E (.bK .append fz a es) σ H Q) : tBM B.K "list" mD (T B Φ E a) (TL B Φ E es) σ H Q := by
 obtain ⟨σD,M,F,ρ,S,r,h⟩ := h
 simp only [ev] at h
 refine T.one S r rfl h fun x M1 F1 ρ1 H1 v e1 S1 r1 rx h1 => ?_
 split at h1
 ·rename_i ho
  refine ⟨?_,TL.one S1 r1 rfl h1 fun ds M2 F2 ρ2 H2 vs e2 S2 r2 rds h2 => rG S2 (RD.mono e2 _ _ rx) rds h2⟩
  have h0 := ((Bool.and_eq_true _ _).mp ho).1
  cases hl : gh M1 x with
  | none => rw [hl] at h0; cases h0
  | some p =>
   obtain ⟨rfl,hM⟩ := jI hl
   simp only [RD] at rx
   obtain ⟨b,hb,rfl⟩ := rx
   obtain ⟨vs,h3,_⟩ := S1.obj p.1 b _ hb hM
   exact .inl ⟨rfl,vs,.inl (.inl h3)⟩
 ·exact h1.elim
noncomputable def Cr (x y v : V) (H : Hp) (Q : Hp -> Prop) : Prop := Cq x y v H Q \/ ∃ a H4,x = .ref a /\ rN H a y v H4 /\ Q H4
noncomputable def Cn (to ti tv : TE) : TS := fun D σ H => tv σ H fun v H1 => to σ H1 fun x H2 => ti σ H2 fun y H3 => Cr x y v H3 fun H4 => D.nx σ H4
theorem Ac {x y d : D} {v w u : V} (S : SR B F ρ M H) (rx : RD B F ρ H x v) (ry : RD B F ρ H y w) (rd : RD B F ρ H d u) {K : Hp -> Prop} (h : ∀ M',mq M x y d = .ok () M' -> ∀ H',Ext F ρ H F ρ H' -> SR B F ρ M' H' -> K H') (hb : ∃ M',mq M x y d = .ok () M') : Cr v w u H K := by
 obtain ⟨M',hb⟩ := hb
 have hK := h M' hb
 unfold mq at hb
 split at hb
 ·rename_i n
  simp only [RD] at rx
  obtain ⟨a,h1,rfl⟩ := rx
  split at hb
  ·rename_i xs i hM
   split at hb
   ·rename_i j hj
    cases hb
    simp only [RD] at ry; subst ry
    obtain ⟨vs,h2,h3⟩ := S.obj n a _ h1 hM
    refine .inl ⟨a,vs,i,j,rfl,rfl,h2,by rw [<- aj.length h3,<- xM]; exact hj,?_⟩
    obtain ⟨S',e⟩ := S.st (o := .lst (vs.set j u)) (u := .lst (xs.set j d)) h1 (fun _ _ q => by rw [h2] at q; cases q) ⟨_,aA,aj.bz (Ext0.at_ S h1) _ _ (h3.set j rd)⟩
    exact hK _ e S'
   ·cases hb
  ·rename_i kvs hM
   split at hb
   ·rename_i k hk
    split at hb
    ·rename_i hl
     cases hb
     obtain ⟨kws,h2,h3,h4⟩ := S.obj n a _ h1 hM
     have hlen : kws.length = kvs.length := by have := congrArg List.length h3; simpa using this
     rw [qK hk ry]
     refine .inr ⟨a,_,rfl,rN.k h2 (by rw [hlen]; exact Nat.lt_of_lt_of_le (of_decide_eq_true hl) bM),?_⟩
     obtain ⟨p1,p2⟩ := DQ (k := k) rd h3 h4
     obtain ⟨S',e⟩ := S.st (o := .dK (putK kws k u)) (u := .dct (put kvs k d)) h1 (fun _ _ q => by rw [h2] at q; cases q) ⟨_,aA,p1,aj.bz (Ext0.at_ S h1) _ _ p2⟩
     exact hK _ e S'
    ·cases hb
   ·cases hb
  ·cases hb
 ·cases hb
theorem Ae {x y d : D} : (∃ M',mq M x y d = .ok () M') \/ mq M x y d = .bad := by
 unfold mq
 split
 ·split
  ·split
   ·exact .inl ⟨_,rfl⟩
   ·exact .inr rfl
  ·split
   ·split
    ·exact .inl ⟨_,rfl⟩
    ·exact .inr rfl
   ·exact .inr rfl
  ·exact .inr rfl
 ·exact .inr rfl
theorem vP {a b e : Fg.E} (h : TC B Φ E (.kP a b e) Dn σ H) : Cn (T B Φ E a) (T B Φ E b) (T B Φ E e) Dn σ H := by
 obtain ⟨σD,M,F,ρ,S,r,h⟩ := h
 simp only [ex] at h
 refine TC.one S r h fun x M1 F1 ρ1 H1 v e1 S1 r1 rx h1 => ?_
 refine TC.one S1 r1 h1 fun y M2 F2 ρ2 H2 w e2 S2 r2 ry h2 => ?_
 refine TC.one S2 r2 h2 fun z M3 F3 ρ3 H3 u e3 S3 r3 rz h3 => ?_
 have rx3 := RD.mono e3 _ _ (RD.mono e2 _ _ rx)
 have ry3 := RD.mono e3 _ _ ry
 rcases Ae (M := M3) (x := y) (y := z) (d := x) with ⟨M',hb⟩ | hb
 ·refine Ac S3 ry3 rz rx3 (fun M4 hq H4 e4 S4 => ?_) ⟨M',hb⟩
  rw [hq] at h3
  exact h3 F3 ρ3 H4 e4 S4 σ (r3.mono e4)
 ·rw [hb] at h3; exact h3.elim
end
end Fg
end
section
set_option autoImplicit false
namespace Fg
open PySem PySem.Spec L2
noncomputable def qV : F1 -> V -> Option V
 | .abs,.int i => some (.int (if i < 0 then -i else i))
 | .int,.bl b => some (.int (if b then 1 else 0))
 | .int,.int i => some (.int i)
 | _,_ => none
noncomputable def rF1 (f : F1) : List V -> Hp -> VK -> Prop := fun xs H Q => ∃ x y,xs = [x] /\ qV f x = some y /\ Q y H
section
variable {X : Cx}
theorem uZ : c5 X (.builtin "abs") (rF1 .abs) := by
 intro pins s σ H xs us Q I r h
 obtain ⟨x,y,rfl,hf,q⟩ := h
 obtain ⟨u,rfl,ru⟩ := vals1 r
 cases x with
 | int i =>
  simp only [qV] at hf
  cases hf
  obtain ⟨t,rfl⟩ := (show ∃ t,u = Value.int i t from ru)
  exact PyProof.Rows.call_abs_int fun u tk => ⟨.int _,H,I.tok _,⟨_,rfl⟩,q⟩
 | _ => simp [qV] at hf
theorem uY : c5 X (.type "int") (rF1 .int) := by
 intro pins s σ H xs us Q I r h
 obtain ⟨x,y,rfl,hf,q⟩ := h
 obtain ⟨u,rfl,ru⟩ := vals1 r
 cases x with
 | int i =>
  simp only [qV] at hf
  cases hf
  obtain ⟨t,rfl⟩ := (show ∃ t,u = Value.int i t from ru)
  exact call_int_int ⟨.int _,H,I,⟨_,rfl⟩,q⟩
 | bl b =>
  simp only [qV] at hf
  cases hf
  cases ru
  exact call_int_bool ⟨.int _,H,I.tok _,⟨_,rfl⟩,q⟩
 | _ => simp [qV] at hf
end
section
variable {B : Bd} {Φ : aQ} {E : Gx} {F F' F0 F1 : Addr -> Prop} {ρ ρ' ρ0 ρ1 : List Addr} {H H' H0 H1 : Hp} {M M' M0 : MH} {σD : Sg} {σ : L2.St} {Q : VK}
theorem FO {f : Fg.F1} {x d : D} {v : V} (h : uT f x = some d) (r : RD B F ρ H x v) : ∃ w,qV f v = some w /\ RD B F ρ H d w := by
 cases x with
 | int i => simp only [RD] at r; subst r; cases f <;> simp only [uT] at h <;> cases h <;> exact ⟨_,rfl,by simp only [RD]⟩
 | bl b => simp only [RD] at r; subst r; cases f <;> simp only [uT] at h <;> cases h <;> exact ⟨_,rfl,by simp only [RD]⟩
 | _ => cases f <;> simp [uT] at h
theorem sd {f : Fg.F1} {a : Fg.E} (h : T B Φ E (.x8 f a) σ H Q) : G9 (rF1 f) (jW (T B Φ E a) l7) σ H Q := by
 obtain ⟨σD,M,F,ρ,S,r,h⟩ := h
 simp only [ev] at h
 refine T.one S r rfl h fun x M1 F1 ρ1 H1 v e1 S1 r1 rx h1 => ?_
 split at h1
 ·rename_i d hd
  obtain ⟨w,hw,rw'⟩ := FO hd rx
  exact ⟨v,w,rfl,hw,ai.run h1 S1 rw'⟩
 ·exact h1.elim
end
end Fg
end
section
set_option autoImplicit false
namespace Fg
open PySem L2
section
variable {X : Cx}
theorem Bp (l : Addr) (items : Array Value) (n : Nat) (b : Addr) (items2 : Array Value) (n2 : Nat) (dd2 : Option Addr) (sl2 : Array (Option Value)) (hs0 : ¬(!items.isEmpty && Builtin.List.listTooLong (items.size + items2.size)) = true) (hs1 : items.size <= sizeLine) (hs2 : items.size + items2.size <= sizeLine + 1) :
  Meets (Builtin.«list.extend» ⟨[.ref l, .ref b], []⟩) (fun _ R s => s.heap.get? l = some { cls := .type "list", dict := none, data := .seq items n, slots := #[] } /\ s.heap.get? b = some { cls := .type "tuple", dict := dd2, data := .seq items2 n2, slots := sl2 } /\ R (.ok (.ret Value.none)) { s with heap := s.heap.update l (Obj.mapSeq fun x => x ++ items2), toks := s.toks }) :=
 .of_wp fun prog w A R s h => by
  obtain ⟨hp,g,d,tk,os⟩ := s; obtain ⟨hl,hb,h⟩ := h; have f1 := AutoSeq1.idx_int; have f2 := AutoSeq1.sub_tuple_tuple; have f3 := AutoSeq1.sub_list_list; have f4 := AutoSeq1.sub_tuple_list; have f5 := AutoSeq1.sub_list_tuple
  have hz' : (items ++ items2).size <= sizeLine + 1 := by rw [Array.size_append]; exact hs2
  wp_walk using (wpAny_updateSeq hl rfl (hz := hs1) (_hz' := hz')),AutoSeq1.wpAny_loadPart' hl,AutoSeq1.wpAny_loadPart' hb; exact ⟨_,rfl,h⟩
noncomputable def Ct (K : W.Frag) : V -> List V -> Hp -> VK -> Prop := fun x vs H Q => ∃ l b xs zs,x = .ref l /\ vs = [.ref b] /\ H l = some (.lst xs) /\ jv K H b zs /\ xs.length + zs.length <= sizeLine /\ Q .ak (upd H l (.lst (xs ++ zs)))
theorem AO : KZ X "list.extend" (Ct X.K) := by
 intro pins s σ H x vs v us Q I rx rv h
 obtain ⟨l,b,xs,zs,rfl,rfl,hH,hB,hz,q⟩ := h
 cases rx
 obtain ⟨u,rfl,ru⟩ := rv.one
 cases ru
 obtain ⟨z,its,n,r,hl,e⟩ := I.AS hH
 obtain ⟨its2,r2,p2,z2⟩ := I.tuple hB
 obtain ⟨⟨JB,dd2,data2,sl2⟩,e2,hc2,n2,hd2⟩ := p2
 simp only at hc2 hd2
 subst hc2 hd2
 have l2 := r2.length
 have hsz : its.toArray.size + its2.toArray.size <= sizeLine := by rw [List.size_toArray,List.size_toArray]; omega
 have IP : ¬ (!its.toArray.isEmpty && Builtin.List.listTooLong (its.toArray.size + its2.toArray.size)) = true := by
  rw [wM hsz,Bool.and_false]
  exact Bool.false_ne_true
 refine call_meets PySem.F.slot_list_extend ⟨_,e,rfl⟩ PySem.F.entry_list_extend (PySem.F.args_list_extend_2 _ _)
  (Bp l its.toArray n b its2.toArray n2 dd2 sl2 IP (by rw [List.size_toArray]; omega) (by omega)) ⟨e,e2,?_⟩
 refine ⟨.ak,_,I.AU (its' := its ++ its2) hH e (by simp) (r.append r2) ?_,rfl,q⟩
 rw [List.length_append]
 omega
end
section
variable {B : Bd} {Φ : aQ} {E : Gx} {F F' F0 F1 : Addr -> Prop} {ρ ρ' ρ0 ρ1 : List Addr} {H H' H0 H1 : Hp} {M M' M0 : MH} {σD : Sg} {σ : L2.St} {Q : VK}
theorem aj.rev : ∀ {ds : List D} {vs : List V},aj B F ρ H ds vs -> aj B F ρ H ds.reverse vs.reverse
 | [],vs,h => by
  have := aj.length h
  cases vs with
  | nil => exact aj.nil
  | cons _ _ => simp at this
 | d :: ds,vs,h => by
  cases vs with
  | nil => have := aj.length h; simp at this
  | cons v vs =>
   obtain ⟨w,ws,h1,h2,h3⟩ : ∃ w ws,v :: vs = w :: ws /\ RD B F ρ H d w /\ aj B F ρ H ds ws := by simpa only [aj] using h
   cases h1
   rw [List.reverse_cons,List.reverse_cons]
   exact aj.append (aj.rev h3) (aj.cons h2 aj.nil)
theorem aj.dropLast {ds : List D} {vs : List V} (h : aj B F ρ H ds vs) : aj B F ρ H ds.dropLast vs.dropLast := by
 rw [List.dropLast_eq_take,List.dropLast_eq_take,<- aj.length h]; exact aj.take _ h
theorem v8 {x : D} {v : V} {m : Mt} (S : SR B F ρ M H) (rx : RD B F ρ H x v) (ho : mO m M x = true) : ∃ n xs, x = .ref n /\ M[n]? = some (.lst xs) /\ JW B.K "list" v H := by
 have h0 := ((Bool.and_eq_true _ _).mp ho).1
 cases hl : gh M x with
 | none => rw [hl] at h0; cases h0
 | some p =>
  obtain ⟨rfl,hM⟩ := jI hl
  simp only [RD] at rx
  obtain ⟨b,hb,rfl⟩ := rx
  obtain ⟨vs,h3,_⟩ := S.obj p.1 b _ hb hM
  exact ⟨p.1,p.2,rfl,hM,.inl ⟨rfl,vs,.inl (.inl h3)⟩⟩
theorem Aq {fz : Bool} {n : Nat} {xs : List D} {v : V} {X : XK} (S : SR B F ρ M H) (hx : M[n]? = some (.lst xs)) (rx : RD B F ρ H (.ref n) v) (h : Post B (fU .pop fz M (.ref n) []) F ρ H Q X) : DN v [] H Q := by
 simp only [fU,b5 hx,mL,List.isEmpty_nil,if_true] at h
 split at h
 ·rename_i d hd
  simp only [RD] at rx
  obtain ⟨a,h1,rfl⟩ := rx
  obtain ⟨ws,h2,h3⟩ := S.obj n a _ h1 hx
  obtain ⟨w,hw,rw'⟩ := aj.get h3 hd
  refine ⟨a,ws,w,rfl,rfl,h2,by rw [<- aj.length h3]; exact hw,?_⟩
  obtain ⟨S',e⟩ := S.st (o := .lst ws.dropLast) (u := .lst xs.dropLast) h1 (fun _ _ q => by rw [h2] at q; cases q) ⟨_,aA,aj.bz (Ext0.at_ S h1) _ _ h3.dropLast⟩
  exact h _ _ _ _ e S' (RD.mono e _ _ rw')
 ·exact h.elim
theorem oG {fz : Bool} {n : Nat} {xs : List D} {v : V} {X : XK} (S : SR B F ρ M H) (hx : M[n]? = some (.lst xs)) (rx : RD B F ρ H (.ref n) v) (h : Post B (fU .reverse fz M (.ref n) []) F ρ H Q X) : j5 v [] H Q := by
 simp only [fU,b5 hx,mL,List.isEmpty_nil,if_true] at h
 simp only [RD] at rx
 obtain ⟨a,h1,rfl⟩ := rx
 obtain ⟨ws,h2,h3⟩ := S.obj n a _ h1 hx
 refine ⟨a,ws,rfl,rfl,h2,?_⟩
 obtain ⟨S',e⟩ := S.st (o := .lst ws.reverse) (u := .lst xs.reverse) h1 (fun _ _ q => by rw [h2] at q; cases q) ⟨_,aA,aj.bz (Ext0.at_ S h1) _ _ h3.rev⟩
 exact h _ _ _ _ e S' (by simp only [RD])
theorem qe {fz : Bool} {a : Fg.E} {es : Es} (h : T B Φ E (.bK .extend fz a es) σ H Q) : tBM B.K "list" (Ct B.K) (T B Φ E a) (TL B Φ E es) σ H Q := by
 obtain ⟨σD,M,F,ρ,S,r,h⟩ := h
 simp only [ev] at h
 refine T.one S r rfl h fun x M1 F1 ρ1 H1 v e1 S1 r1 rx h1 => ?_
 split at h1
 ·rename_i ho
  obtain ⟨n,xs,rfl,hM,ty⟩ := v8 S1 rx ho
  refine ⟨ty,TL.one S1 r1 rfl h1 fun ds M2 F2 ρ2 H2 vs e2 S2 r2 rds h2 => ?_⟩
  have J0 := RD.mono e2 _ _ rx
  unfold fU at h2
  cases hl : gh M2 (.ref n) with
  | none => rw [hl] at h2; exact h2.elim
  | some q =>
   rw [hl] at h2
   obtain ⟨e0,hy⟩ := jI hl
   cases e0
   cases ds with
   | nil => exact h2.elim
   | cons d ds => cases ds with
    | cons _ _ => exact h2.elim
    | nil =>
     simp only [mL,uF] at h2
     split at h2
     ·rename_i zs hz
      split at h2
      ·rename_i hlen
       simp only [RD] at J0
       obtain ⟨a',h3,rfl⟩ := J0
       obtain ⟨ws,h4,h5⟩ := S2.obj _ a' _ h3 hy
       obtain ⟨w,us,rfl,rw',ru⟩ : ∃ w us,vs = w :: us /\ RD B F2 ρ2 H2 d w /\ aj B F2 ρ2 H2 [] us := by simpa only [aj] using rds
       have eu : us = [] := List.eq_nil_of_length_eq_zero (aj.length ru).symm
       subst eu
       cases zo hz
       simp only [RD] at rw'
       obtain ⟨b,zs',rfl,z1,r3⟩ := rw'
       refine ⟨a',b,ws,zs',rfl,rfl,h4,z1.sq,?_,?_⟩
       ·rw [<- aj.length h5,<- aj.length r3]; exact Nat.le_trans (of_decide_eq_true hlen) bM
       ·obtain ⟨S',e⟩ := S2.st (o := .lst (ws ++ zs')) (u := .lst (q.2 ++ zs)) h3 (fun _ _ q => by rw [h4] at q; cases q) ⟨_,aA,aj.bz (Ext0.at_ S2 h3) _ _ (h5.append r3)⟩
        exact h2 _ _ _ _ e S' (by simp only [RD])
      ·exact h2.elim
     ·exact h2.elim
 ·exact h1.elim
theorem ou {m : Mt} {fz : Bool} {a : Fg.E} {r : V -> List V -> Hp -> VK -> Prop}
  (hs : ∀ (F : Addr -> Prop) (ρ : List Addr) (H : Hp) (M : MH) (n : Nat) (xs : List D) (v : V) (Q : VK) (X : XK),SR B F ρ M H -> M[n]? = some (.lst xs) -> RD B F ρ H (.ref n) v -> Post B (fU m fz M (.ref n) []) F ρ H Q X -> r v [] H Q)
  (h : T B Φ E (.bK m fz a .nil) σ H Q) : zw B.K "list" r (T B Φ E a) σ H Q := by
 obtain ⟨σD,M,F,ρ,S,r,h⟩ := h
 simp only [ev] at h
 refine T.one S r rfl h fun x M1 F1 ρ1 H1 v e1 S1 r1 rx h1 => ?_
 split at h1
 ·rename_i ho
  obtain ⟨n,xs,rfl,hM,ty⟩ := v8 S1 rx ho
  simp only [cA,R.af] at h1
  exact ⟨ty,hs _ _ _ _ n xs v _ _ S1 hM rx h1⟩
 ·exact h1.elim
theorem zW {fz : Bool} {a : Fg.E} (h : T B Φ E (.bK .pop fz a .nil) σ H Q) : zw B.K "list" DN (T B Φ E a) σ H Q := ou (fun _ _ _ _ _ _ _ _ _ S hx rx h => Aq S hx rx h) h
theorem om {fz : Bool} {a : Fg.E} (h : T B Φ E (.bK .reverse fz a .nil) σ H Q) : zw B.K "list" j5 (T B Φ E a) σ H Q := ou (fun _ _ _ _ _ _ _ _ _ S hx rx h => oG S hx rx h) h
end
end Fg
end
section
set_option autoImplicit false
namespace Fg
open PySem PySem.Spec L2
section
variable {B : Bd} {Φ : aQ} {E : Gx} {F F' F0 F1 : Addr -> Prop} {ρ ρ' ρ0 ρ1 : List Addr} {H H' H0 H1 : Hp} {M M' M0 : MH} {σD : Sg} {σ : L2.St} {Q : VK} {Dn : Ends}
theorem mX {f : Str} : ∀ {fs : List (Str × D)} {eF : List (Str × V)},eF.map (·.1) = fs.map (·.1) -> aj B F ρ H (fs.map (·.2)) (eF.map (·.2)) ->
  (∀ d,fs.lookup f = some d -> ∃ v,eF.lookup f = some v /\ RD B F ρ H d v) /\ (fs.lookup f = none -> eF.lookup f = none)
 | [],eF,h1,h2 => by
  have : eF = [] := by cases eF with | nil => rfl | cons _ _ => simp at h1
  subst this
  exact ⟨fun d h => by simp at h,fun _ => rfl⟩
 | (g, d') :: fs, eF, h1, h2 => by
  cases eF with
  | nil => simp at h1
  | cons p eF =>
   obtain ⟨pk,pv⟩ := p
   simp only [List.map_cons,List.cons.injEq] at h1
   simp only [List.map_cons,aj] at h2
   obtain ⟨v,ws,e,r1,r2⟩ := h2
   cases e
   obtain ⟨e1,e2⟩ := h1
   subst e1
   have ih := mX (f := f) e2 r2
   by_cases hk : f = pk
   ·subst hk
    simp only [List.lookup,beq_self_eq_true]
    exact ⟨fun d h => by cases h; exact ⟨_,rfl,r1⟩,fun h => by cases h⟩
   ·have hb : (f == pk) = false := beq_eq_false_iff_ne.mpr hk
    simp only [List.lookup,hb]
    exact ih
theorem sC {f : Str} {d : D} {v : V} (r : RD B F ρ H d v) : ∀ {fs : List (Str × D)} {eF : List (Str × V)},eF.map (·.1) = fs.map (·.1) -> aj B F ρ H (fs.map (·.2)) (eF.map (·.2)) ->
  (c7 f v eF).map (·.1) = (bE f d fs).map (·.1) /\ aj B F ρ H ((bE f d fs).map (·.2)) ((c7 f v eF).map (·.2))
 | [],eF,h1,h2 => by
  have : eF = [] := by cases eF with | nil => rfl | cons _ _ => simp at h1
  subst this
  exact ⟨rfl,aj.cons r aj.nil⟩
 | (g, d') :: fs, eF, h1, h2 => by
  cases eF with
  | nil => simp at h1
  | cons p eF =>
   obtain ⟨pk,pv⟩ := p
   simp only [List.map_cons,List.cons.injEq] at h1
   simp only [List.map_cons,aj] at h2
   obtain ⟨w,ws,e,r1,r2⟩ := h2
   cases e
   obtain ⟨e1,e2⟩ := h1
   subst e1
   obtain ⟨i1,i2⟩ := sC (f := f) r e2 r2
   by_cases hk : pk = f
   ·simp only [c7,bE,if_pos hk,List.map_cons]
    exact ⟨by rw [e2],aj.cons r r2⟩
   ·simp only [c7,bE,if_neg hk,List.map_cons]
    exact ⟨by rw [i1],aj.cons r1 i2⟩
theorem Aa {K : W.Frag} {a : Fg.E} {f : Str} (hC : ∀ c C,B.cls c = some C -> tX K C /\ dh K C f) (h : T B Φ E (.fld a f) σ H Q) : G8 K (T B Φ E a) f σ H Q := by
 obtain ⟨σD,M,F,ρ,S,r,h⟩ := h
 simp only [ev] at h
 refine T.one S r rfl h fun x M1 F1 ρ1 H1 v e1 S1 r1 rx h1 => ?_
 split at h1
 ·rename_i n
  split at h1
  ·rename_i c fs hM
   split at h1
   ·rename_i d hd
    simp only [RD] at rx
    obtain ⟨b,hb,rfl⟩ := rx
    obtain ⟨C,dx,eF,hc,hH,hk,hr⟩ := S1.obj n b _ hb hM
    obtain ⟨w,hw,rw⟩ := (mX hk hr).1 d hd
    exact ⟨b,C,dx,eF,w,rfl,hH,(hC c C hc).1,(hC c C hc).2,hw,ai.run h1 S1 rw⟩
   ·exact h1.elim
  ·exact h1.elim
 ·exact h1.elim
theorem vQ {K : W.Frag} {a e : Fg.E} {f : Str} (hC : ∀ c C,B.cls c = some C -> tX K C /\ dh K C f) (h : TC B Φ E (.bJ a f e) Dn σ H) : Hw K (T B Φ E a) (T B Φ E e) f Dn σ H := by
 obtain ⟨σD,M,F,ρ,S,r,h⟩ := h
 simp only [ex] at h
 refine TC.one S r h fun x M1 F1 ρ1 H1 v e1 S1 r1 rx h1 => ?_
 refine TC.one S1 r1 h1 fun y M2 F2 ρ2 H2 w e2 S2 r2 ry h2 => ?_
 have J0 := RD.mono e2 _ _ rx
 split at h2
 ·rename_i n
  split at h2
  ·rename_i c fs hM
   split at h2
   ·rename_i hl
    simp only [RD] at ry
    obtain ⟨b,hb,rfl⟩ := ry
    obtain ⟨C,dx,eF,hc,hH,hk,hr⟩ := S2.obj n b _ hb hM
    have hlen : eF.length = fs.length := by have := congrArg List.length hk; simpa using this
    obtain ⟨p1,p2⟩ := sC (f := f) J0 hk hr
    obtain ⟨S',e⟩ := S2.st (o := .ins C dx (c7 f v eF)) (u := .ins c (bE f x fs)) hb (fun _ _ q => by rw [hH] at q; cases q) ⟨C,dx,_,hc,aA,p1,aj.bz (Ext0.at_ S2 hb) _ _ p2⟩
    exact ⟨b,C,dx,eF,rfl,hH,(hC c C hc).1,(hC c C hc).2,by rw [hlen]; exact of_decide_eq_true hl,h2 F2 ρ2 _ e S' σ (r2.mono e)⟩
   ·exact h2.elim
  ·exact h2.elim
 ·exact h2.elim
noncomputable def pZ (C : Addr) (m : Str) (sp : Sp) (Ex : XS) (ta : TE) (t : TA) : TE := fun σ H Q => ta σ H fun x H1 => ∃ a dx fs,x = .ref a /\ H1 a = some (.ins C dx fs) /\ fs.lookup m = none /\
 t σ H1 fun vs H2 => sp (x :: vs) H2 Q fun cv y H' => Ex cv y σ H'
noncomputable def p9 (C : Addr) (sp : Sp) (Ex : XS) (t : TA) : TE := fun σ H Q => t σ H fun vs H1 => ∀ x dx,H1 x = none -> H1 dx = none -> dx ≠ x ->
 sp (.ref x :: vs) (upd (upd H1 dx (.own x)) x (.ins C dx [])) (fun v H2 => v = .ak /\ Q (.ref x) H2) fun cv y H' => Ex cv y σ H'
theorem rY {c m n : Nat} {nm : Str} {a : Fg.E} {es : Es} {C : Addr} (hC : B.cls c = some C) (hn : ∀ {σ : Sg} {M : MH} {ds : List D} {M' : MH},cA Φ es σ M = .ok ds M' -> ds.length + 1 = n) (h : T B Φ E (.cF c m nm a es) σ H Q) :
  pZ C nm (vI B Φ m n) E.e (T B Φ E a) (TL B Φ E es) σ H Q := by
 obtain ⟨σD,M,F,ρ,S,r,h⟩ := h
 simp only [ev] at h
 refine T.one S r rfl h fun x M1 F1 ρ1 H1 v e1 S1 r1 rx h1 => ?_
 split at h1
 ·rename_i i
  split at h1
  ·rename_i c' fs hM
   split at h1
   ·rename_i hq
    simp only [Bool.and_eq_true,decide_eq_true_eq,Option.isNone_iff_eq_none] at hq
    obtain ⟨rfl,hno⟩ := hq
    have rx0 := rx
    simp only [RD] at rx
    obtain ⟨b,hb,rfl⟩ := rx
    obtain ⟨C',dx,eF,hc,hH,hk,hr⟩ := S1.obj i b _ hb hM
    rw [hC] at hc; cases hc
    refine ⟨b,dx,eF,rfl,hH,(mX hk hr).2 hno,σD,M1,F1,ρ1,S1,r1,?_⟩
    cases hx : cA Φ es σD M1 with
    | exc c M2 => rw [hx] at h1; exact h1
    | bad => rw [hx] at h1; exact h1
    | ok ds M2 =>
     rw [hx] at h1
     simp only [R.af] at h1
     intro F2 ρ2 H2 vs e2 S2 q2
     exact ⟨by rw [List.length_cons,<- aj.length q2]; exact hn hx,.ref i :: ds,M2,F2,ρ2,S2,aj.cons (RD.mono e2 _ _ rx0) q2,ai.weak e2 h1⟩
   ·exact h1.elim
  ·exact h1.elim
 ·exact h1.elim
noncomputable def spI (B : Bd) (Φ : aQ) (f n : Nat) : Sp := fun vs H Q E => vs.length = n /\ ∃ ds M F ρ,SR B F ρ M H /\ aj B F ρ H ds vs /\ Post B (Φ.ini f ds M) F ρ H Q E
theorem SR.own (S : SR B F ρ M H) {p : Addr} (h : H p = none) (o : HO) : SR B F ρ M (upd H p o) /\ Ext F ρ H F ρ (upd H p o) := by
 obtain ⟨np,nf⟩ := S.new h
 exact ⟨S.side np nf o,⟨⟨S.sep,fun a q => q,fun a q _ => aq (by rintro rfl; exact q h),List.prefix_refl _,fun a q => .inl q,fun a q => .inl q⟩,fun b w u q => by rw [aq (by rintro rfl; rw [h] at q; cases q)]; exact q⟩⟩
theorem r6 {c i n : Nat} {es : Es} {C : Addr} (hC : B.cls c = some C) (hn : ∀ {σ : Sg} {M : MH} {ds : List D} {M' : MH},cA Φ es σ M = .ok ds M' -> ds.length + 1 = n) (h : T B Φ E (.new c i es) σ H Q) :
  p9 C (spI B Φ i n) E.e (TL B Φ E es) σ H Q := by
 obtain ⟨σD,M,F,ρ,S,r,h⟩ := h
 simp only [ev] at h
 refine ⟨σD,M,F,ρ,S,r,?_⟩
 cases hx : cA Φ es σD M with
 | exc c M1 => rw [hx] at h; exact h
 | bad => rw [hx] at h; exact h
 | ok ds M1 =>
  rw [hx] at h
  simp only [R.af] at h
  intro F1 ρ1 H1 vs e1 S1 q1 x dx hx0 hdx hne
  obtain ⟨S2,e2⟩ := S1.own hdx (.own x)
  have hx2 : upd H1 dx (.own x) x = none := by rw [aq (Ne.symm hne)]; exact hx0
  obtain ⟨S3,e3⟩ := S2.lv (o := .ins C dx []) (u := .ins c []) hx2 ⟨C,dx,[],hC,aA,rfl,aj.nil⟩
  have at_ : (ρ1 ++ [x])[M1.length]? = some x := by rw [<- S1.len,List.getElem?_append_right (Nat.le_refl _),Nat.sub_self]; rfl
  have e23 := e2.trans e3
  refine ⟨by rw [List.length_cons,<- aj.length q1]; exact hn hx,.ref M1.length :: ds,M1 ++ [.ins c []],F1,ρ1 ++ [x],S3,aj.cons (by simp only [RD]; exact ⟨x,at_,rfl⟩) (aj.mono e23 _ _ q1),?_⟩
  refine ai.imp (ai.bind (rel := RD B) (ai.weak (e1.trans e23) h)) fun v H' ⟨d,M',F',ρ',ext,S',rd,h2⟩ => ?_
  split at h2
  ·simp only [RD] at rd
   exact ⟨rd,ai.run h2 S' (by simp only [RD]; exact ⟨x,ext.at at_,rfl⟩)⟩
  ·exact h2.elim
theorem oq {c i : Nat} {es : Es} (hb : ∀ ds M,Φ.ini i ds M = .bad) (h : T B Φ E (.new c i es) σ H Q) : TL B Φ E es σ H fun _ _ => False := by
 obtain ⟨σD,M,F,ρ,S,r,h⟩ := h
 simp only [ev] at h
 refine ⟨σD,M,F,ρ,S,r,?_⟩
 cases hx : cA Φ es σD M with
 | exc c M1 => rw [hx] at h; exact h
 | bad => rw [hx] at h; exact h
 | ok ds M1 =>
  rw [hx] at h
  simp only [R.af,hb,R.iI] at h
  exact h.elim
end
section
variable {X : Cx} {Ex : XS} {k : Nat} {f C : Addr} {fd : FuncData} {ps : List Str} {sp : Sp} {x m : Str} {p pos apos : Pos} {e o : Expr} {es : List Expr} {ta : TE} {t : TA}
theorem wA {pl : Sem Bool} (he : PE X o ta) (c : tX X.K C) (hm : Meth X.K C m f) (F : ck X.prog X.w X.K X.mg X.base (gM X.prog X.w) k f fd ps sp) (hr : cy k X.A) (hb : Binds X.K fd ps []) (hx : ∀ e s,iL X Ex e s -> X.xe e s) (ha : PA X (e :: es) t)
  (hst : starEach (e :: es) X.env = (false,eval e X.env) :: starEach es X.env) (hpl : (backTo pos (starEach es X.env)).any (·.1) = false)
  (ht : eval (.Call (.Attribute o m apos) (e :: es) [] pos) X.env = (do
   let ov <- eval o X.env
   standAt apos.atName
   let (f,first) <- holding [ov] (getMethod ov m pl)
   callWith pos f first (backTo pos (starEach (e :: es) X.env)) (backToKw pos (keywordEach [] X.env)))) :
  PE X (.Call (.Attribute o m apos) (e :: es) [] pos) (pZ C m sp Ex ta t) := by
 intro pins s σ H Q I h
 refine PySem.W.methodCall_KW (pl := pl) (aW (he pins s σ H _ I h) fun u s1 ⟨x,H1,I1,rx,a,dx,fs,ex,ea,l,q⟩ => ?_) ht
 subst ex
 obtain rfl : u = Value.ref a := rx
 refine kC I1 ea c hm l ?_
 refine PySem.W.callWith_K (first := [.ref a]) (h₀ := X.base) I.ok.mod.A3 hm.kp (aW (ha pos pins s1 σ H1 _ I1 q) fun us s2 ⟨vs,H2,I2,r,q2⟩ => ⟨I2.gw,?_⟩) hst hpl
 exact Af (us := .ref a :: us) (vs := .ref a :: vs) F hr hb hx I2 (.cons rfl r) q2
theorem uz {pl : Sem Bool} (he : PE X o ta) (c : tX X.K C) (hm : Meth X.K C m f) (F : ck X.prog X.w X.K X.mg X.base (gM X.prog X.w) k f fd ps sp) (hr : cy k X.A) (hb : Binds X.K fd ps []) (hx : ∀ e s,iL X Ex e s -> X.xe e s)
  (ht : eval (.Call (.Attribute o m apos) [] [] pos) X.env = (do
   let ov <- eval o X.env
   standAt apos.atName
   let (f,first) <- holding [ov] (getMethod ov m pl)
   callWith pos f first (backTo pos (starEach [] X.env)) (backToKw pos (keywordEach [] X.env)))) :
  PE X (.Call (.Attribute o m apos) [] [] pos) (pZ C m sp Ex ta l7) := by
 intro pins s σ H Q I h
 refine PySem.W.methodCall_KW (pl := pl) (aW (he pins s σ H _ I h) fun u s1 ⟨x,H1,I1,rx,a,dx,fs,ex,ea,l,q⟩ => ?_) ht
 subst ex
 obtain rfl : u = Value.ref a := rx
 refine kC I1 ea c hm l ?_
 exact PySem.W.callWith_K0 (first := [.ref a]) I1.gw hm.kp (Af (us := [.ref a]) (vs := [.ref a]) F hr hb hx I1 (.cons rfl .nil) q)
theorem lq {pins : List (Addr × Obj)} {σ : L2.St} {H : Hp} {s : Shared} {Q : VK} {us : List Value} {vs : List V} (M : Mk X.K C f) (F : ck X.prog X.w X.K X.mg X.base (gM X.prog X.w) k f fd ps sp) (hr : cy (k + 1) X.A) (hb : Binds X.K fd ps [])
  (hx : ∀ e s,iL X Ex e s -> X.xe e s) (I : Inv X pins σ H s) (r : Vals vs us)
  (h : ∀ x dx,H x = none -> H dx = none -> dx ≠ x -> sp (.ref x :: vs) (upd (upd H dx (.own x)) x (.ins C dx [])) (fun v H2 => v = .ak /\ Q (.ref x) H2) fun cv y H' => Ex cv y σ H') :
  wpAny (model X.prog X.w) X.A (call (.ref C) us) (EP X pins σ Q) X.xe s := by
 have hq := h (s.heap.objs.size + 1) s.heap.objs.size (I.hok.fresh (Nat.le_succ _)) (I.hok.fresh (Nat.le_refl _)) (Nat.ne_of_lt (Nat.lt_succ_self _))
 have I2 := Inv.made (C := C) I
 have r2 : Vals (V.ref (s.heap.objs.size + 1) :: vs) (Value.ref (s.heap.objs.size + 1) :: us) := .cons rfl r
 have hl : ((Value.ref (s.heap.objs.size + 1) :: us) ++ []).length = ps.length := by
  rw [List.append_nil,<- r2.length]; exact F.len _ _ _ _ hq
 have bd := hb _ (Value.ref (s.heap.objs.size + 1) :: us) I2.gw hl
 rw [List.append_nil] at bd
 refine wpAny_call (w9 (f := f) I.gw M.makes M.init (beq_iff_eq.mp M.fn) (codeAny_mono (F.run _ X.stack _ _ ⟨Value.ref (s.heap.objs.size + 1) :: us,[]⟩ (Value.ref (s.heap.objs.size + 1) :: us) _ _ _ (hr.make C us [])
  (I2.kF.make C us []) bd r2 hq) fun r s' hq' => ?_))
 match r,hq' with
 | .error e,hq' => exact passes hx pins σ _ _ e s' I2 hq'
 | .ok (.ret u),hq' =>
  obtain ⟨v,H',I3,rv,ev,q3⟩ := I2.after hq'
  subst ev
  exact ⟨rv,⟨V.ref (s.heap.objs.size + 1),H',I3,rfl,q3⟩⟩
 | .ok .next,hq' => exact hq'.elim
 | .ok .brk,hq' => exact hq'.elim
 | .ok .cont,hq' => exact hq'.elim
theorem wC (M : Mk X.K C f) (F : ck X.prog X.w X.K X.mg X.base (gM X.prog X.w) k f fd ps sp) (hr : cy (k + 1) X.A) (hg : Gl X x) (hm : X.mg x = some (.ref C)) (hb : Binds X.K fd ps []) (hx : ∀ e s,iL X Ex e s -> X.xe e s)
  (ha : PA X (e :: es) t) (hdb : (x == ("__debug__" : Str)) = false) (he : starEach (e :: es) X.env = (false, eval e X.env) :: starEach es X.env) (hpl : (backTo pos (starEach es X.env)).any (·.1) = false) :
  PE X (.Call (.Name x p) (e :: es) [] pos) (p9 C sp Ex t) := by
 intro pins s σ H Q I h
 refine wpAny_Call_Name_kw (dZ I hg hm ?_ hdb)
 refine PySem.W.callWith_K (h₀ := X.base) I.ok.mod.A3 M.kp (aW (ha pos pins s σ H _ I h) fun us s1 ⟨vs,H1,I1,r,q⟩ => ⟨I1.gw,?_⟩) he hpl
 exact lq M F hr hb hx I1 r q
theorem uA (M : Mk X.K C f) (F : ck X.prog X.w X.K X.mg X.base (gM X.prog X.w) k f fd ps sp) (hr : cy (k + 1) X.A) (hg : Gl X x) (hm : X.mg x = some (.ref C)) (hb : Binds X.K fd ps []) (hx : ∀ e s, iL X Ex e s -> X.xe e s) (hdb : (x == ("__debug__" : Str)) = false) :
  PE X (.Call (.Name x p) [] [] pos) (p9 C sp Ex l7) := by
 intro pins s σ H Q I h
 refine wpAny_Call_Name_kw (dZ I hg hm ?_ hdb)
 exact PySem.W.callWith_K0 I.gw M.kp (lq (us := []) M F hr hb hx I .nil h)
theorem wB {f : Addr} (M : Mk X.K C f) (hg : Gl X x) (hm : X.mg x = some (.ref C)) (ha : PA X (e :: es) t) (hdb : (x == ("__debug__" : Str)) = false) (he : starEach (e :: es) X.env = (false, eval e X.env) :: starEach es X.env) (hpl : (backTo pos (starEach es X.env)).any (·.1) = false) :
  PE X (.Call (.Name x p) (e :: es) [] pos) (fun σ H _ => t σ H fun _ _ => False) := by
 intro pins s σ H Q I h
 refine wpAny_Call_Name_kw (dZ I hg hm ?_ hdb)
 exact PySem.W.callWith_K (h₀ := X.base) I.ok.mod.A3 M.kp (aW (ha pos pins s σ H _ I h) fun us s1 ⟨vs,H1,I1,r,q⟩ => q.elim) he hpl
end
end Fg
end
section
set_option autoImplicit false
namespace Fg
open PySem PySem.Spec L2
section
variable {B : Bd} {Φ : aQ} {E : Gx} {F F' F0 F1 : Addr -> Prop} {ρ ρ' ρ0 ρ1 : List Addr} {H H' H0 H1 : Hp} {M M' M0 : MH} {σD : Sg} {σ : L2.St} {Q : VK} {Dn : Ends}
end
end Fg
end
section
set_option autoImplicit false
namespace Fg
open PySem PySem.Spec L2
section
variable {X : Cx} {B : Bd} {pins : List (Addr × Obj)} {σ : L2.St} {H H' : Hp} {s : Shared}
noncomputable def B9 (X : Cx) : Addr -> Prop := fun a => ∀ o u,X.H₀ a ≠ some (.fh o u)
theorem dz (I : Inv X pins σ H s) (h : ze (B9 X) H H') : Inv X pins σ H' s := by
 rcases h with rfl | ⟨a,o,kvs,th,ha,rfl⟩
 ·exact I
 have ne : ∀ b,H b = none -> b ≠ a := fun b q z => by subst z; rw [ha] at q; cases q
 refine ⟨I.ok,I.os,I.bare,⟨I.base.keep,I.base.slot,fun b ob e n hx => ?_,I.base.there,fun b xs e => ?_,fun b ob u e => ?_,fun b ps e => ?_⟩,I.loc,I.cell,?_,fun x c e => ?_,fun p hp => ?_,fun b u e => ?_,I.len⟩
 ·have := I.base.free b ob e n hx
  rw [aq (ne b this)]; exact this
 ·have := I.base.tups b xs e
  rw [aq (by rintro rfl; rw [ha] at this; cases this)]; exact this
 ·have := I.base.fV b ob u e
  rw [aq (by rintro rfl; exact th ob u e)]; exact this
 ·obtain ⟨more,q⟩ := I.base.gP b ps e
  exact ⟨more,by rw [aq (by rintro rfl; rw [ha] at q; cases q)]; exact q⟩
 ·rw [aq (ne _ I.free)]; exact I.free
 ·rw [aq (ne _ (I.b7 x c e))]; exact I.b7 x c e
 ·obtain ⟨h1,h2,h3⟩ := I.pin p hp
  exact ⟨h1,by rw [aq (ne _ h2)]; exact h2,h3⟩
 ·by_cases hb : b = a
  ·subst hb
   rw [aA] at e; cases e
   exact (I.hok b _ ha).2
  ·rw [aq hb] at e
   exact (I.hok b u e).stay (fun _ _ _ q => q) (fun c q => by rw [aq (by rintro rfl; rw [ha] at q; cases q)]; exact q) fun c xs q => by rw [aq (by rintro rfl; rw [ha] at q; cases q)]; exact q
theorem Aw {e : Expr} {t : TE} (h : PE X e t) : PE X e (fun σ H Q => t σ H fun v H' => ∃ rL,ze (B9 X) H' rL /\ Q v rL) := by
 intro pins s σ H Q I q
 refine aW (h pins s σ H _ I q) fun u s' ⟨v,H',I',r,rL,t',q'⟩ => ⟨v,rL,dz I' t',r,q'⟩
theorem sF {st : Stmt} {t : TS} (h : PS X st t) : PS X st (fun D σ H => t (thE (B9 X) D) σ H) := by
 intro pins s σ H D I q
 refine aW (h pins s σ H _ I q) fun f s' q' => ?_
 cases f with
 | next => obtain ⟨σ',H',I',rL,t',q'⟩ := q'; exact ⟨σ',rL,dz I' t',q'⟩
 | brk => obtain ⟨σ',H',I',rL,t',q'⟩ := q'; exact ⟨σ',rL,dz I' t',q'⟩
 | cont => obtain ⟨σ',H',I',rL,t',q'⟩ := q'; exact ⟨σ',rL,dz I' t',q'⟩
 | ret u => obtain ⟨v,σ',H',I',r,rL,t',q'⟩ := q'; exact ⟨v,σ',rL,dz I' t',r,q'⟩
theorem A5 {k : Key} {u : Value} (h : kq k u = true) : RelV (kV k) u := by
 rcases aL h with ⟨i,t,rfl,rfl⟩ | ⟨x,t,rfl,rfl⟩
 ·exact ⟨t,rfl⟩
 ·exact ⟨t,rfl⟩
theorem ER {kvs : List (Key × V)} {vs : List (Key × Value)} (h : KV kvs vs) {i : Nat} {kv : Key × V} (e : kvs[i]? = some kv) : ∃ w,vs[i]? = some (kv.1,w) := by
 induction h generalizing i with
 | nil => simp at e
 | @cons p q ps qs hpq _ ih =>
  cases i with
  | zero =>
   simp only [List.getElem?_cons_zero,Option.some.injEq] at e ⊢
   subst e
   exact ⟨q.2,by rw [hpq.1]⟩
  | succ i => simpa using ih (by simpa using e)
noncomputable def epO (o : Obj) (n : Nat) : Prop := ∃ es,o.data = .dict es n
theorem uc {P : Program} {w : World} {K : PySem.W.Frag} {tg : Expr} (a it : Addr) (o : Obj) (kvs : List (Key × V)) (ep : Nat) (he : epO o ep) : Turn P w K tg (JQ a o kvs) [it] it (fun i h => h.IsKeyIter it a i kvs.length ep) where
 mem := by simp
 obj := fun i h st b hb => by
  have e : b = it := by simpa using hb
  subst e
  obtain ⟨o,e,c,d⟩ := st
  exact ⟨o,e,fun v z => by rw [d] at z; cases z⟩
 keep := fun i h h' st k => st.at fun o e => k it (by simp) o e
 item := by
  intro X hP hw hK hc i pins s σ H E I hf st hg
  subst hP hw hK
  obtain ⟨hH,hi⟩ := hg
  obtain ⟨ho,z,hm,vs,rel,dd⟩ := (show aV X.prog X.w H s.heap a (.fh o (.dK kvs)) from I.hok a _ hH)
  obtain ⟨o',es,Js,h1,h2,h3,h4⟩ := id dd
  rw [ho] at h1; cases h1
  obtain ⟨es',hd'⟩ := he
  rw [hd'] at h3; cases h3
  have dat : s.heap.DictAt (aJ X.prog X.w) a vs ep := ⟨o,es,ho,h2,hd',h4⟩
  have hx : kvs[i]? = some kvs[i] := List.getElem?_eq_getElem hi
  obtain ⟨wv,hv⟩ := ER rel hx
  obtain ⟨f0,f1,f2,f3,f4,f5⟩ := hf it (by simp)
  have hl : kvs.length = vs.length := rel.length
  rw [hl] at st
  refine wpAny_pyNext_dict_item st dat hv fun key h' hk st' sb => ?_
  have I1 : Inv X pins σ H { s with heap := h' } := I.turned (t' := s.toks) (fun b o hb e => (sb.2 b hb).trans e) f0 f1 f3 f4 f5
  obtain ⟨oi,e,c,d⟩ := id st'
  refine ⟨key,rfl,oY (s := { s with heap := h' }) e c d (by decide) ⟨kV kvs[i].1,H,I1,A5 hk,⟨rfl,kvs[i],hx,rfl⟩,by rw [hl]; exact st',fun b hb => (hf b hb).1⟩⟩
 done := by
  intro X hP hw hK hc i pins s σ H E I hf st hg
  subst hP hw hK
  obtain ⟨hH,hi⟩ := hg
  obtain ⟨ho,z,hm,vs,rel,dd⟩ := (show aV X.prog X.w H s.heap a (.fh o (.dK kvs)) from I.hok a _ hH)
  obtain ⟨o',es,Js,h1,h2,h3,h4⟩ := id dd
  rw [ho] at h1; cases h1
  obtain ⟨es',hd'⟩ := he
  rw [hd'] at h3; cases h3
  have dat : s.heap.DictAt (aJ X.prog X.w) a vs ep := ⟨o,es,ho,h2,hd',h4⟩
  have hl : kvs.length = vs.length := rel.length
  rw [hl] at st
  obtain ⟨f0,f1,f2,f3,f4,f5⟩ := hf it (by simp)
  exact wpAny_pyNext_dict_end (I.ok.hd hc) st dat (List.getElem?_eq_none_iff.mpr (by omega)) fun h' eb => ⟨rfl,I.turned (t' := s.toks) (fun b o hb e => eb b o hb e) f0 f1 f3 f4 f5⟩
 self := fun _ _ _ _ _ st h => wpAny_pyIter_keyiter st h
theorem tE {tg : Expr} {R : It -> Hp -> Prop} {a : Addr} {o : Obj} {kvs : List (Key × V)} {E : Value -> Shared -> Prop} (I : Inv X pins σ H s) (hH : H a = some (.fh o (.dK kvs))) (q : R (JQ a o kvs) H) : wpAny (model X.prog X.w) X.A (pyIter (.ref a)) (PIE X pins σ tg R) E s := by
 obtain ⟨ho,z,hm,vs,rel,dd⟩ := (show aV X.prog X.w H s.heap a (.fh o (.dK kvs)) from I.hok a _ hH)
 obtain ⟨o',es,ep,h1,h2,h3,h4⟩ := id dd
 rw [ho] at h1; cases h1
 have dat : s.heap.DictAt (aJ X.prog X.w) a vs ep := ⟨o,es,ho,h2,h3,h4⟩
 have hl : kvs.length = vs.length := rel.length
 refine wpAny_pyIter_dict hm dat ?_
 refine ⟨s.heap.objs.size,[s.heap.objs.size],_,_,H,rfl,I.kept (t' := s.toks) fun b o e => Heap.get?_push_of_some _ e,uc a _ o kvs ep ⟨es,h3⟩,⟨_,Heap.get?_push_size _ rfl,rfl,by rw [hl]; rfl⟩,fun b hb => ?_,q⟩
 have e : b = s.heap.objs.size := by simpa using hb
 subst e
 exact I.uS (Nat.le_refl _) (I.hok.fresh (Nat.le_refl _))
theorem D3 {tg l : Expr} {tl : TE} (hK : B.K = X.K) (hl : PE X l tl) : PI X tg l (IK B (B9 X) tl) := by
 intro pins s σ H R I h
 refine aW (hl pins s σ H _ I h) fun v s1 ⟨x,H1,I1,r1,q1⟩ => ?_
 rw [hK] at q1
 rcases q1 with ⟨a,e,⟨xs,hq⟩,q⟩ | ⟨a,e,⟨xs,hq⟩,q⟩ | ⟨a,kvs,e,hq,q⟩ | ⟨a,o,kvs,e,hq,q⟩
 ·subst e
  cases r1
  obtain ⟨its,rv,p,hz⟩ := I1.list hq
  refine wpAny_pyIter_list p.isList ?_
  refine ⟨s1.heap.objs.size,[s1.heap.objs.size],_,_,H1,rfl,I1.kept (t' := s1.toks) fun b o e => Heap.get?_push_of_some _ e,ua a _,⟨_,Heap.get?_push_size _ rfl,rfl,rfl⟩,fun b hb => ?_,q⟩
  have e : b = s1.heap.objs.size := by simpa using hb
  subst e
  exact I1.uS (Nat.le_refl _) (I1.hok.fresh (Nat.le_refl _))
 ·subst e
  cases r1
  obtain ⟨its,rv,p,hz⟩ := I1.tuple hq
  refine wpAny_pyIter_tuple (show s1.heap.IsTuple a its.toArray from p) ?_
  refine ⟨s1.heap.objs.size,[s1.heap.objs.size],_,_,H1,rfl,I1.kept (t' := s1.toks) fun b o e => Heap.get?_push_of_some _ e,pX a _,⟨_,Heap.get?_push_size _ rfl,rfl,rfl⟩,fun b hb => ?_,q⟩
  have e : b = s1.heap.objs.size := by simpa using hb
  subst e
  exact I1.uS (Nat.le_refl _) (I1.hok.fresh (Nat.le_refl _))
 ·subst e
  cases r1
  have ob := (show aV X.prog X.w H1 s1.heap a (.dK kvs) from I1.hok a _ hq)
  obtain ⟨z,hm,vs,rel,dd⟩ := id ob
  obtain ⟨o,es,ep,h1,h2,h3,h4⟩ := id dd
  have th : B9 X a := fun w u hz => by
   have := I1.base.fV a w u hz
   rw [hq] at this; cases this
  have I2 : Inv X pins σ (upd H1 a (.fh o (.dK kvs))) s1 := I1.write (x := a) (e := a) (t' := s1.toks) (h' := s1.heap) (by rw [hq]; trivial) (.inl rfl) (fun b u _ e => e) ⟨o,h1⟩ ⟨h1,ob⟩
  exact tE I2 aA (q o th)
 ·subst e
  cases r1
  exact tE I1 hq q
theorem An {o i value : Expr} {to ti tv : TE} {pos pos' : Pos} (hu : Rm X) (ho : PE X o to) (hi : PE X i ti) (hv : PE X value tv) (hs : swapsWith value (some (.Subscript o i pos')) pos.line X.env = pure false) :
  PS X (.Assign [.Subscript o i pos'] value pos) (Cn to ti tv) := by
 intro pins s σ H D I h
 refine wpAny_Assign_Subscript (aW (hv pins s σ H _ I h) fun r s1 ⟨v,H1,I1,rv,q1⟩ => aW (ho pins s1 σ H1 _ I1 q1) fun u s2 ⟨x,H2,I2,rx,q2⟩ => aW (hi pins s2 σ H2 _ I2 q2) fun iv s3 ⟨y,H3,I3,ry,q3⟩ => ?_) hs
 rcases q3 with q3 | ⟨a,H4,ex,g,q3⟩
 ·exact aW (set_list pins s3 σ H3 x y v u iv r _ I3 rx ry rv q3) fun _ s4 ⟨H4,I4,q4⟩ => ⟨σ,H4,I4,q4⟩
 ·subst ex
  obtain rfl : u = Value.ref a := rx
  exact uV (by unfold Rm at hu; omega) I3 g ry rv fun s4 I4 => ⟨σ,H4,I4,q3⟩
end
end Fg
end
section
set_option autoImplicit false
namespace Fg
open PySem PySem.Spec L2
noncomputable def TM (B : Bd) (Φ : aQ) (E : Gx) (c : Es) : L2.St -> Hp -> (Hp -> Prop) -> Prop := fun σ H Q => ∃ (σD : Sg) (M : MH) (F : Addr -> Prop) (ρ : List Addr),
 SR B F ρ M H /\ RS B F ρ H σD σ /\ ai (fun _ _ _ (_ : Unit) (_ : Unit) => True) B (Bt Φ c σD M) F ρ H (fun _ H' => Q H') (fun cv x H' => E.e cv x σ H')
section
variable {B : Bd} {Φ : aQ} {E : Gx} {F F' F0 F1 : Addr -> Prop} {ρ ρ' ρ0 ρ1 : List Addr} {H H' H0 H1 : Hp} {M M' M0 : MH} {σD : Sg} {σ : L2.St} {Dn : Ends}
theorem TM.nil {Q : Hp -> Prop} (h : TM B Φ E .nil σ H Q) : Q H := by
 obtain ⟨σD,M,F,ρ,S,r,h⟩ := h
 simp only [Bt] at h
 exact ai.run (v := ()) h S True.intro
theorem TM.cons {e : Fg.E} {es : Es} {Q : Hp -> Prop} (h : TM B Φ E (.cons e es) σ H Q) : T B Φ E e σ H fun v H1 => ((∃ x : Str,v = .str x /\ x.length <= 100000) \/ ∃ i : Int,v = .int i /\ i.natAbs < 18446744073709551616) /\ TM B Φ E es σ H1 Q := by
 obtain ⟨σD,M,F,ρ,S,r,h⟩ := h
 simp only [Bt] at h
 refine ⟨σD,M,F,ρ,S,r,ai.imp (ai.bind (rel := RD B) h) fun v H1 ⟨x,M1,F1,ρ1,e1,S1,rx,h1⟩ => ?_⟩
 split at h1
 ·rename_i hs
  cases x with
  | str y =>
   simp only [RD] at rx
   simp only [bL,decide_eq_true_eq] at hs
   exact ⟨.inl ⟨y,rx,hs⟩,σD,M1,F1,ρ1,S1,r.mono e1,h1⟩
  | ak => simp [bL] at hs
  | bl _ => simp [bL] at hs
  | int i =>
   simp only [RD] at rx
   simp only [bL,decide_eq_true_eq] at hs
   exact ⟨.inr ⟨i,rx,hs⟩,σD,M1,F1,ρ1,S1,r.mono e1,h1⟩
  | tup _ => simp [bL] at hs
  | lst _ => simp [bL] at hs
  | dct _ _ => simp [bL] at hs
  | ref _ => simp [bL] at hs
 ·exact h1.elim
end
inductive PJ (X : Cx) (B : Bd) (Φ : aQ) (E : Gx) : List Expr -> Es -> Prop
 | nil : PJ X B Φ E [] .nil
 | lit {y : Str} {j : Nat} {p : Pos} {r : List Expr} {es : Es} : y.length <= 100000 -> PJ X B Φ E r es -> PJ X B Φ E (.Constant (.str y) j p :: r) es
 | fld {v : Expr} {p : Pos} {r : List Expr} {e : Fg.E} {es : Es} : PE X v (T B Φ E e) -> PJ X B Φ E r es -> PJ X B Φ E (.FormattedValue v (-1) none p :: r) (.cons e es)
theorem lF {i : Int} (h : i.natAbs < 18446744073709551616) : i.natAbs.log2 < 1920 := by
 by_cases h0 : i.natAbs = 0
 ·rw [h0]; decide
 ·exact Nat.lt_of_lt_of_le ((Nat.log2_lt h0).mpr (show i.natAbs < 2 ^ 64 from h)) (by decide)
theorem uO {i : Int} (h : i.natAbs < 18446744073709551616) : (Str.ofString (toString i)).length <= 100000 := by
 have e := int_text_length_le (k := 1920) (by decide) (lF h)
 rw [ofString_length]; omega
section
variable {X : Cx} {B : Bd} {Φ : aQ} {E : Gx}
theorem PJ.run {ps : List Expr} {es : Es} (h : PJ X B Φ E ps es) : ∀ {pins : List (Addr × Obj)} {s : Shared} {σ : L2.St} {H : Hp} {Q : Hp -> Prop} {out : Str},Inv X pins σ H s -> out.length + 100000 * ps.length <= sizeLine -> TM B Φ E es σ H Q ->
  wpAny (model X.prog X.w) X.A (joinParts out (evalEach ps X.env)) (EP X pins σ fun v H' => ∃ y,v = .str y /\ Q H') X.xe s := by
 induction h with
 | nil =>
  intro pins s σ H Q out I hl q
  refine PyProof.Rows.joinParts_nil ⟨.str out,H,I.tok _,⟨_,rfl⟩,out,rfl,q.nil⟩ (by simpa using hl)
 | lit hy _ ih =>
  rename_i y j p r es _
  intro pins s σ H Q out I hl q
  simp only [List.length_cons] at hl
  refine PyProof.Rows.joinParts_cons ?_
  refine aW (qx pins s σ H (fun v H' => v = .str y /\ H' = H) I ⟨rfl,rfl⟩) fun u s1 ⟨v,H1,I1,rv,e1,e2⟩ => ?_
  subst e1 e2
  obtain ⟨t,rfl⟩ := rv
  have hlen : (out ++ y).length <= out.length + 100000 := by rw [strLen_append]; omega
  exact ⟨by omega,ih I1 (by omega) q⟩
 | fld hv _ ih =>
  intro pins s σ H Q out I hl q
  simp only [List.length_cons] at hl
  refine PyProof.Rows.joinParts_cons (PyProof.Rows.FormattedValue_plain ?_)
  refine aW (hv pins s σ H _ I q.cons) fun u s1 ⟨v,H1,I1,rv,e0,q1⟩ => ?_
  rcases e0 with ⟨x,e1,e2⟩ | ⟨i,e1,e2⟩
  ·subst e1
   obtain ⟨t,rfl⟩ := rv
   refine PyProof.Rows.formatField_str (fun t' tk => ?_) (by omega)
   have hlen : (out ++ x).length <= out.length + 100000 := by rw [strLen_append]; omega
   exact ⟨by omega,ih (I1.tok tk) (by omega) q1⟩
  ·subst e1
   obtain ⟨t,rfl⟩ := rv
   refine PyProof.Rows.formatField_int_small (lF e2) ?_
   have hlen : (out ++ Str.ofString (toString i)).length <= out.length + 100000 := by rw [strLen_append]; have := uO e2; omega
   exact ⟨by omega,ih (I1.tok _) (by omega) q1⟩
theorem Ea {ps : List Expr} {es : Es} {pos : Pos} (h : PJ X B Φ E ps es) (h2 : 2 <= ps.length) (hl : ps.length <= 100) : PE X (.JoinedStr ps pos) (fun σ H Q => TM B Φ E es σ H fun H' => ∀ y : Str,Q (.str y) H') := by
 intro pins s σ H Q I q
 match ps,h2,h,hl with
 | v₁ :: v₂ :: rest,_,h,hl =>
  refine PyProof.Rows.JoinedStr_many ?_
  refine wpAny_mono (h.run (Q := fun H' => ∀ y : Str,Q (.str y) H') I (by
   show 0 + 100000 * (v₁ :: v₂ :: rest).length <= 2 ^ 24
   omega) q) (fun u s1 ⟨v,H1,I1,rv,y,e,q1⟩ => ⟨v,H1,I1,rv,by rw [e]; exact q1 y⟩) fun _ _ z => z
end
section
variable {B : Bd} {Φ : aQ} {E : Gx} {F F' F0 F1 : Addr -> Prop} {ρ ρ' ρ0 ρ1 : List Addr} {H H' H0 H1 : Hp} {M M' M0 : MH} {σD : Sg} {σ : L2.St} {Dn : Ends}
theorem lg {c : Nat} {es : Es} {C : Addr} (hc : B.exc c (.ref C)) (h : TC B Φ E (.raise c es) Dn σ H) : TM B Φ E es σ H fun H' => E.e (.ref C) none σ H' := by
 obtain ⟨σD,M,F,ρ,S,r,h⟩ := h
 simp only [ex] at h
 refine ⟨σD,M,F,ρ,S,r,ai.imp (aN.use (rel := fun _ _ _ (_ : Unit) (_ : Unit) => True) r h) fun v H1 ⟨x,M1,F1,ρ1,e,S1,rx,h1⟩ => ?_⟩
 exact aN.run h1 S1 σ _ none (r.mono e) hc
noncomputable def GN (B : Bd) (Φ : aQ) (E : Gx) (adr : Nat -> Option Addr) : Hs -> Option (List (Addr × TS))
 | .nil => some []
 | .cons [c] b hs => match adr c,GN B Φ E adr hs with
  | some C,some r => some ((C,vm B Φ E b) :: r)
  | _,_ => none
 | .cons _ _ _ => none
theorem se {adr : Nat -> Option Addr} {mro : List Value} {c : Nat} (hsub : ∀ d D,adr d = some D -> mro.contains (.ref D) = Φ.sub c d) : ∀ {hs : Hs} {rs : List (Addr × TS)},GN B Φ E adr hs = some rs -> SR B F ρ M H -> RS B F ρ H σD σ -> aN B (zc Φ hs c σD M) F ρ H Dn E ->
  ∃ t,pick mro rs = some t /\ t Dn σ H
 | .nil,rs,h,S,r,p => by simp only [zc] at p; exact p.elim
 | .cons cs b hs,rs,h,S,r,p => by
  unfold GN at h
  split at h
  ·rename_i heq; cases heq
  ·rename_i c' b' hs' heq
   cases heq
   split at h
   ·rename_i C r' hC hr
    cases h
    simp only [zc,List.any_cons,List.any_nil,Bool.or_false] at p
    simp only [pick,hsub _ _ hC]
    split at p
    ·rename_i hq
     rw [if_pos hq]
     exact ⟨_,rfl,σD,M,F,ρ,S,r,p⟩
    ·rename_i hq
     rw [if_neg hq]
     exact se hsub hr S r p
   ·cases h
  ·cases h
end
end Fg
end
section
set_option autoImplicit false
namespace Fg
open PySem PySem.Spec L2
noncomputable def rK (l : Bool) (h : Heap) (it a : Addr) (k : Nat) : Prop := match l with | true => h.IsListIter it a k | false => h.IsTupleIter it a k
noncomputable def vd (l : Bool) (h : Heap) (a : Addr) (xs : Array Value) : Prop := match l with | true => h.IsList a xs | false => h.IsTuple a xs
theorem rK.at {l : Bool} {h h' : Heap} {it a : Addr} {k : Nat} (x : rK l h it a k) (e : ∀ o,h.get? it = some o -> h'.get? it = some o) : rK l h' it a k := by
 cases l <;> (obtain ⟨o,h1,h2⟩ := x; exact ⟨o,e o h1,h2⟩)
theorem vd.at {l : Bool} {h h' : Heap} {a : Addr} {xs : Array Value} (x : vd l h a xs) (e : ∀ o,h.get? a = some o -> h'.get? a = some o) : vd l h' a xs := by
 cases l <;> (obtain ⟨o,h1,h2⟩ := x; exact ⟨o,e o h1,h2⟩)
section
variable {prog : Program} {w : World} {A : Around} {E : Value -> Shared -> Prop} {s : Shared}
structure Zp (l m : Bool) (h : Heap) (z TI TO i j a b : Addr) (n : Nat) (xs ys : Array Value) (f : Value) : Prop where
 z : IsZip h z TI TO f
 ti : IsPair h TI (.ref i) (.ref j)
 to : ∃ u v,IsPair h TO u v
 i1 : rK l h i a n
 i2 : rK m h j b n
 s1 : vd l h a xs
 s2 : vd m h b ys
end
end Fg
end
section
set_option autoImplicit false
namespace Fg
open PySem PySem.Spec L2
section
variable {X : Cx} {pins : List (Addr × Obj)} {σ : L2.St} {H : Hp} {s : Shared} {h' : Heap}
theorem B8 {t' : Nat} {ch : List Addr} (I : Inv X pins σ H s) (f : ∀ b ∈ ch,kN X pins H b) (k : ∀ b o,b ∉ ch -> s.heap.get? b = some o -> h'.get? b = some o) : Inv X pins σ H { s with heap := h',toks := t' } := by
 have off : ∀ b u,H b = some u -> b ∉ ch := fun b u e z => by rw [(f b z).1] at e; cases e
 refine I.step (g' := s.gens) (d' := s.drawn) (ch := ch) (fun b hb => ?_) (fun b o _ _ hc e _ => k b o hc e) (fun b o _ _ hc e _ => ⟨o.slots,k b o hc e⟩) (fun _ _ _ _ n => n) (fun b o hc e => ⟨o,k b o hc e⟩) (fun _ _ e => e) (fun _ _ _ e => e) (fun b ps e => ⟨#[],by rw [e]; simp⟩) (fun m hm => ?_) (fun b u e => ?_) I.bare
 ·obtain ⟨_,f1,_,f3,f4,f5⟩ := f b hb
  exact ⟨f3,f1,f4,f5⟩
 ·obtain ⟨o,es,ep,ho,r⟩ := hm
  exact ⟨o,es,ep,k _ o (fun z => (f _ z).2.1 rfl) ho,r⟩
 ·refine (I.hok b u e).stay (fun c v hc q => k c v ?_ q) (fun _ q => q) fun _ _ q => q
  rcases hc with z | z
  ·rw [z]; exact off b u e
  ·exact off c _ z
end
structure Zt (l m : Bool) (z TI TO i j a b : Addr) (n : Nat) (h : Heap) : Prop where
 z : IsZip h z TI TO .none
 ti : IsPair h TI (.ref i) (.ref j)
 to : ∃ u v,IsPair h TO u v
 i1 : rK l h i a n
 i2 : rK m h j b n
section
variable {prog : Program} {w : World} {A : Around} {E : Value -> Shared -> Prop} {s : Shared}
end
noncomputable def SqB (l : Bool) (K : W.Frag) (H : Hp) (a : Addr) (xs : List V) : Prop := match l with | true => fk K H a xs | false => jv K H a xs
theorem SqB.at {l : Bool} {X : Cx} {pins : List (Addr × Obj)} {σ : L2.St} {H : Hp} {s : Shared} {a : Addr} {xs : List V} (I : Inv X pins σ H s) (q : SqB l X.K H a xs) : ∃ its : List Value,Vals xs its /\ vd l s.heap a its.toArray := by
 cases l with
 | true => obtain ⟨its,rv,p,_⟩ := I.list q; exact ⟨its,rv,p.isList⟩
 | false => obtain ⟨its,rv,p,_⟩ := I.tuple q; exact ⟨its,rv,p⟩
section
variable {B : Bd} {Φ : aQ} {E : Gx} {F F' F0 F1 : Addr -> Prop} {ρ ρ' ρ0 ρ1 : List Addr} {H H' H0 H1 : Hp} {M M' M0 : MH} {σD : Sg} {σ : L2.St} {Q : VK} {Dn : Ends}
end
end Fg
end
section
set_option autoImplicit false
namespace Fg
open PySem PySem.Spec L2
noncomputable def GA (K : W.Frag) (a : Addr) (n : Nat) : It :=
 ⟨fun i H => i < n /\ ∃ xs x,fk K H a xs /\ xs.length = n /\ xs[n - 1 - i]? = some x,fun i H x H' => H' = H /\ ∀ xs,fk K H a xs -> xs[n - 1 - i]? = some x,fun i H => n <= i⟩
theorem vp {P : Program} {w : World} {K : W.Frag} {tg : Expr} {a it : Addr} {n : Nat} : Turn P w K tg (GA K a n) [it] it (fun i h => i <= n /\ h.IsRevIter it a ((n : Int) - 1 - (i : Int))) where
 mem := by simp
 obj := fun i h st b hb => by
  have e : b = it := by simpa using hb
  subst e
  obtain ⟨_,o,e,c,d⟩ := st
  exact ⟨o,e,fun v z => by rw [d] at z; cases z⟩
 keep := fun i h h' st k => ⟨st.1,st.2.at fun o e => k it (by simp) o e⟩
 item := by
  intro X hP hw hK hc i pins s σ H E I hf st hg
  subst hP hw hK
  obtain ⟨hi,xs,x,q1,hn,hx⟩ := hg
  obtain ⟨its,rv,pl,z⟩ := I.list q1
  obtain ⟨u,hu,ru⟩ := rv.get hx
  have e : (n : Int) - 1 - (i : Int) = ((n - 1 - i : Nat) : Int) := by omega
  obtain ⟨_,st⟩ := st
  rw [e] at st
  refine wpAny_pyNext_rev_item st pl.isList (x := u) (by simpa using hu) fun h' hit b => ⟨u,rfl,?_⟩
  have e2 : ((n - 1 - i : Nat) : Int) - 1 = (n : Int) - 1 - ((i + 1 : Nat) : Int) := by omega
  rw [e2] at hit
  obtain ⟨o,ho,hcl,hd⟩ := id hit
  have I1 : Inv X pins σ H { s with heap := h' } := B8 (t' := s.toks) I (ch := [it]) (fun c hc => hf c hc) fun c o hc e => b.extBut c o (by simpa using hc) e
  refine oY ho hcl hd (by decide) ⟨x,H,I1,ru,⟨rfl,fun ys q => ?_⟩,⟨by omega,hit⟩,fun c hc => (hf c hc).1⟩
  rw [I.kj q q1]; exact hx
 done := by
  intro X hP hw hK hc i pins s σ H E I hf st hg
  subst hP hw hK
  obtain ⟨hi,st⟩ := st
  have hg' : n <= i := hg
  have e : (n : Int) - 1 - (i : Int) = -1 := by omega
  rw [e] at st
  exact wpAny_pyNext_rev_end (I.ok.hd hc) st fun h' b => ⟨rfl,B8 (t' := s.toks) I (ch := [it]) (fun c hc => hf c hc) fun c o hc e => b c o (by simpa using hc) e⟩
 self := fun _ _ _ _ _ st h => wpAny_pyIter_revIter st.2 h
noncomputable def IJ (K : W.Frag) (t : TA) : TI := fun σ H R => t σ H fun vs H1 => ∃ a xs,vs = [.ref a] /\ fk K H1 a xs /\ R (GA K a xs.length) H1
theorem D0 {X : Cx} {tg a : Expr} {t : TA} {p pos : Pos} (hg : Gl X "reversed") (hm : X.mg "reversed" = none) (ha : PA X [a] t) (hs : starEach [a] X.env = [(false, eval a X.env)]) :
  PI X tg (.Call (.Name "reversed" p) [a] [] pos) (IJ X.K t) := by
 intro pins s σ H R I h
 refine PyProof.Rows.Call_ (ko I hg hm (show bootBuiltins ("reversed" : Str) = some (.type "reversed") by decide +kernel) (PyProof.Rows.callWith_type1 (aW (ha pos pins s σ H _ I h) fun us s1 ⟨vs, H1, I1, r1, q1⟩ => ?_) (by rw [hs]; rfl) (by rfl)))
 obtain ⟨c,xs,e,q,q2⟩ := q1
 subst e
 obtain ⟨u,rfl,ru⟩ := vals1 r1
 cases ru
 obtain ⟨its,rv,pl,z⟩ := I1.list q
 have l1 := rv.length
 refine call_reversed_list pl.isList ?_
 have I2 : Inv X pins σ H1 { s1 with heap := s1.heap.push (revObj c ((its.toArray.size : Int) - 1)) } := I1.kept (t' := s1.toks) fun c o e => Heap.get?_push_of_some _ e
 have g0 : (s1.heap.push (revObj c ((its.toArray.size : Int) - 1))).IsRevIter s1.heap.objs.size c ((its.toArray.size : Int) - 1) := ⟨_,Heap.get?_push_size _ rfl,rfl,rfl⟩
 have g1 : (s1.heap.push (revObj c ((its.toArray.size : Int) - 1))).IsRevIter s1.heap.objs.size c ((xs.length : Int) - 1 - ((0 : Nat) : Int)) := by
  have e : (xs.length : Int) - 1 - ((0 : Nat) : Int) = (its.toArray.size : Int) - 1 := by rw [List.size_toArray,l1]; omega
  rw [e]; exact g0
 refine wpAny_pyIter_revIter g0 ⟨_,[s1.heap.objs.size],_,_,H1,rfl,I2,vp,⟨Nat.zero_le _,g1⟩,fun x hx => ?_,q2⟩
 have e : x = s1.heap.objs.size := by simpa using hx
 subst e
 exact I1.uS (Nat.le_refl _) (I1.hok.fresh (Nat.le_refl _))
section
variable {B : Bd} {Φ : aQ} {E : Gx} {F F' F0 F1 : Addr -> Prop} {ρ ρ' ρ0 ρ1 : List Addr} {H H' H0 H1 : Hp} {M M' M0 : MH} {σD : Sg} {σ : L2.St} {Q : VK} {Dn : Ends}
theorem zU {a : Fg.E} {Rr : It -> Hp -> Prop} (h : C9 B Φ E (.rev a) σ H Rr) : IJ B.K (jW (T B Φ E a) l7) σ H Rr := by
 obtain ⟨σD,M,F,ρ,S,r,h⟩ := h
 show T B Φ E a σ H fun v H1 => ∃ c xs,[v] = [.ref c] /\ fk B.K H1 c xs /\ Rr (GA B.K c xs.length) H1
 refine ⟨σD,M,F,ρ,S,r,?_⟩
 cases hx : ev Φ a σD M with
 | exc c M1 =>
  have he : bP Φ (.rev a) σD M = .exc c M1 := by simp only [bP,hx,R.kK]
  rw [he] at h; exact h
 | bad =>
  have he : bP Φ (.rev a) σD M = .bad := by simp only [bP,hx,R.iI]
  rw [he] at h; exact h
 | ok x M1 =>
  intro F1 ρ1 H1 v e1 S1 rx
  cases hfx : sM x with
  | none =>
   have he : bP Φ (.rev a) σD M = .bad := by simp only [bP,hx,R.af,hfx]
   rw [he] at h; exact h.elim
  | some ds =>
   have he : bP Φ (.rev a) σD M = .ok (.ak,ds.reverse,false) M1 := by simp only [bP,hx,R.af,hfx]
   rw [he] at h
   cases AR hfx
   simp only [RD] at rx
   obtain ⟨c,xs,rfl,z,q⟩ := rx
   have l1 := aj.length q
   refine ⟨c,xs,rfl,z.sq,h F1 ρ1 H1 _ e1 S1 fun M' hM S' => ?_⟩
   cases hM
   refine ⟨fun i F ρ M H ex S _ => ⟨fun d0 hd => ?_,fun hl => ?_⟩,fun z => by cases z⟩
   ·have zq : fk B.K H c xs := by
     rcases z with ⟨f,z⟩ | z
     ·exact .inl (ex.toExt0.Jl.rd f z)
     ·exact .inr z
    have hi : i < ds.length := by
     have := (List.getElem?_eq_some_iff.mp hd).1
     simpa using this
    rw [List.getElem?_reverse hi,l1] at hd
    obtain ⟨v,hv,rv⟩ := aj.get (aj.mono ex _ _ q) hd
    refine ⟨⟨by omega,xs,v,zq,rfl,hv⟩,fun x H' ⟨e',hy⟩ => ?_⟩
    subst e'
    have z2 := hy xs zq
    rw [hv] at z2
    cases z2
    exact ⟨F,S.refl,S,rv⟩
   ·rw [List.length_reverse,l1] at hl
    exact hl
end
end Fg
end
section
set_option autoImplicit false
namespace Fg
open PySem PySem.Spec L2
structure Gm where
 fns : List (Str × Nat × Nat)
 cst : List (Str × Nat)
 pQ : List Str
 cls : List (Str × Nat × Nat × Nat) := []
 AN : List ((Nat × Str) × Nat × Nat) := []
 Bm : List Str := []
 exc : List (Str × Nat) := []
 BC : List (Str × Nat × Nat × Int) := []
 rz : Bool := true
inductive Nd where
 | e (a : Expr) (c : E)
 | t (a : Expr) (c : E)
 | es (a : List Expr) (c : Es)
 | o (a : Option Expr) (c : O)
 | i (a : Expr) (c : Src)
 | s (a : Stmt) (c : S)
 | ss (a : List Stmt) (c : Ss)
 | m (a : List Expr) (c : Es)
noncomputable def nD (x : Str) : Bool := !(x == ("__debug__" : Str)) && !(x == ("__classdict__" : Str))
noncomputable def De (sc : Scope) (x : Str) : Bool := match sc.names.lookup x with | some .local => true | some .cell => true | some .free => true | _ => false
noncomputable def AV (sc : Scope) (x : Str) : Bool := match sc.names.lookup x with | some .local => true | some .cell => true | _ => false
noncomputable def ia (sc : Scope) (x : Str) : Bool := match sc.names.lookup x with | some .globalImplicit => true | _ => false
noncomputable def b4 : Expr -> Bool | .Starred _ _ => false | _ => true
noncomputable def lB : Expr -> Bool | .ListComp _ _ _ _ => false | .SetComp _ _ _ _ => false | .DictComp _ _ _ _ _ => false | _ => true
noncomputable def wU : Expr -> Bool | .Set _ _ _ => false | _ => true
noncomputable def nSl : Expr -> Bool | .Slice _ _ _ _ => false | _ => true
noncomputable def qD : Expr -> Bool | .UnaryOp _ _ _ => false | .BoolOp _ _ _ => false | .IfExp _ _ _ _ => false | .Compare _ _ _ _ => false | _ => true
noncomputable def wV : Expr -> Bool | .Call (.Name _ _) _ _ _ => false | _ => true
noncomputable def BE : Const -> D -> Bool
 | .int i,.int j => decide (i = j)
 | .str x,.str y => decide (x = y)
 | .bool a,.bl b => decide (a = b)
 | .none,.ak => true
 | _,_ => false
noncomputable def f1S : F1 -> Str
 | .abs => "abs" | .int => "int"
noncomputable def Cz : Mt -> Option Str
 | .pop => some "pop" | .reverse => some "reverse" | _ => none
noncomputable def JG : Bl -> Option Str
 | .len => some "len" | .list => some "list" | _ => none
noncomputable def v7 (scope sc : Scope) : Scope :=
 { scope with names := scope.names.map fun (n,k) => if (k == .free && sc.kind == .function && sc.names.lookup n == some .cell) then (n,.cell) else (n,k) }
noncomputable def AX (sc : Scope) (x : Str) : Bool := match sc.names.lookup x with | some .local => true | _ => false
theorem aG {P : Prop} (h : false = true) : P := Bool.noConfusion h
@[irreducible] noncomputable def fF (a : Expr) (k : Str -> Bool) : Bool := match a with | .Name x _ => k x | _ => false
theorem bV {a : Expr} {k : Str -> Bool} (h : fF a k = true) : ∃ x p,a = .Name x p /\ k x = true := by
 unfold fF at h
 cases a <;> first | exact ⟨_,_,rfl,h⟩ | exact aG h
@[irreducible] noncomputable def kNm (a : Expr) (k : Str -> Pos -> Bool) : Bool := match a with | .Name x p => k x p | _ => false
theorem IC {a : Expr} {k : Str -> Pos -> Bool} (h : kNm a k = true) : ∃ x p,a = .Name x p /\ k x p = true := by
 unfold kNm at h
 cases a <;> first | exact ⟨_,_,rfl,h⟩ | exact aG h
@[irreducible] noncomputable def A8 (a : Expr) (k : Const -> Bool) : Bool := match a with | .Constant c _ _ => k c | _ => false
theorem xD {a : Expr} {k : Const -> Bool} (h : A8 a k = true) : ∃ c j p,a = .Constant c j p /\ k c = true := by
 unfold A8 at h
 cases a <;> first | exact ⟨_,_,_,rfl,h⟩ | exact aG h
@[irreducible] noncomputable def A7 (a : Expr) (k : List Expr -> Bool) : Bool := match a with | .Tuple as _ _ => k as | _ => false
theorem qL {a : Expr} {k : List Expr -> Bool} (h : A7 a k = true) : ∃ as c p,a = .Tuple as c p /\ k as = true := by
 unfold A7 at h
 cases a <;> first | exact ⟨_,_,_,rfl,h⟩ | exact aG h
@[irreducible] noncomputable def Fb (a : Expr) (k : List Expr -> Bool) : Bool := match a with | .List as _ => k as | _ => false
theorem E9 {a : Expr} {k : List Expr -> Bool} (h : Fb a k = true) : ∃ as p,a = .List as p /\ k as = true := by
 unfold Fb at h
 cases a <;> first | exact ⟨_,_,rfl,h⟩ | exact aG h
@[irreducible] noncomputable def Fp (a : Expr) (k : Expr -> Operator -> Expr -> Bool) : Bool := match a with | .BinOp l p r _ => k l p r | _ => false
theorem Fo {a : Expr} {k : Expr -> Operator -> Expr -> Bool} (h : Fp a k = true) : ∃ l o r p,a = .BinOp l o r p /\ k l o r = true := by
 unfold Fp at h
 cases a <;> first | exact ⟨_,_,_,_,rfl,h⟩ | exact aG h
@[irreducible] noncomputable def qP : UnaryOp -> Bool | .USub => true | _ => false
@[irreducible] noncomputable def sS : UnaryOp -> Bool | .Not => true | _ => false
@[irreducible] noncomputable def IB (a : Expr) (k : UnaryOp -> Expr -> Bool) : Bool := match a with | .UnaryOp o l _ => k o l | _ => false
theorem xB {a : Expr} {k : UnaryOp -> Expr -> Bool} (h : IB a k = true) : ∃ o l p,a = .UnaryOp o l p /\ k o l = true := by
 unfold IB at h
 cases a <;> first | exact ⟨_,_,_,rfl,h⟩ | exact aG h
theorem xN {o : UnaryOp} (h : qP o = true) : o = .USub := by
 unfold qP at h
 cases o <;> first | rfl | exact aG h
theorem sR {o : UnaryOp} (h : sS o = true) : o = .Not := by
 unfold sS at h
 cases o <;> first | rfl | exact aG h
@[irreducible] noncomputable def ji : BoolOp -> Bool | .And => true | .Or => false
theorem sU {o : BoolOp} (h : ji o = true) : o = .And := by
 unfold ji at h
 cases o <;> first | rfl | exact aG h
theorem xP {o : BoolOp} (h : ji o = false) : o = .Or := by
 unfold ji at h
 cases o <;> first | rfl | cases h
@[irreducible] noncomputable def GC (a : Expr) (k : BoolOp -> Expr -> Expr -> Bool) : Bool := match a with
 | .BoolOp o vs p => (match vs with
  | v :: ws => (match ws with
   | w :: r => k o v (.BoolOp o (w :: r) p)
   | [] => false)
  | [] => false)
 | _ => false
theorem sO {a : Expr} {k : BoolOp -> Expr -> Expr -> Bool} (h : GC a k = true) : ∃ o v w r p,a = .BoolOp o (v :: w :: r) p /\ k o v (.BoolOp o (w :: r) p) = true := by
 unfold GC at h
 cases a with
 | BoolOp o vs p =>
  cases vs with
  | nil => exact aG h
  | cons v ws => cases ws with
   | nil => exact aG h
   | cons w r => exact ⟨_,_,_,_,_,rfl,h⟩
 | _ => exact aG h
@[irreducible] noncomputable def sJ (a : Expr) (k : Expr -> Bool) (d : Bool) : Bool := match a with
 | .BoolOp _ vs _ => (match vs with
  | v :: ws => (match ws with
   | [] => k v
   | _ :: _ => d)
  | [] => d)
 | _ => d
theorem sI {a : Expr} {k : Expr -> Bool} {d : Bool} (h : sJ a k d = true) : (∃ o v p,a = .BoolOp o [v] p /\ k v = true) \/ d = true := by
 unfold sJ at h
 cases a with
 | BoolOp o vs p =>
  cases vs with
  | nil => exact .inr h
  | cons v ws => cases ws with
   | nil => exact .inl ⟨_,_,_,rfl,h⟩
   | cons w r => exact .inr h
 | _ => exact .inr h
@[irreducible] noncomputable def k1 {α : Type} (as : List α) (k : α -> Bool) : Bool := match as with | l :: r => r.isEmpty && k l | [] => false
theorem g9 {α : Type} {as : List α} {k : α -> Bool} (h : k1 as k = true) : ∃ l,as = [l] /\ k l = true := by
 unfold k1 at h
 cases as with
 | nil => exact aG h
 | cons l r => cases r with
  | nil => exact ⟨_,rfl,h⟩
  | cons _ _ => exact aG h
@[irreducible] noncomputable def k2 {α : Type} (as : List α) (k : α -> α -> Bool) : Bool := match as with | l :: r => k1 r (k l) | [] => false
theorem Fq {α : Type} {as : List α} {k : α -> α -> Bool} (h : k2 as k = true) : ∃ l r,as = [l,r] /\ k l r = true := by
 unfold k2 at h
 cases as with
 | nil => exact aG h
 | cons l r =>
  replace h := g9 h
  obtain ⟨x,rfl,h⟩ := h
  exact ⟨_,_,rfl,h⟩
@[irreducible] noncomputable def A9 (a : Expr) (k : Expr -> CmpOp -> Expr -> Bool) : Bool := match a with | .Compare l ps rs _ => k1 ps fun p => k1 rs fun r => k l p r | _ => false
theorem xE {a : Expr} {k : Expr -> CmpOp -> Expr -> Bool} (h : A9 a k = true) : ∃ l o r p,a = .Compare l [o] [r] p /\ k l o r = true := by
 unfold A9 at h
 cases a with
 | Compare l ps rs p =>
  replace h := g9 h
  obtain ⟨o,rfl,h⟩ := h
  replace h := g9 h
  obtain ⟨r,rfl,h⟩ := h
  exact ⟨_,_,_,_,rfl,h⟩
 | _ => exact aG h
@[irreducible] noncomputable def Ff (a : Expr) (k : Expr -> Expr -> Expr -> Bool) : Bool := match a with | .IfExp u l r _ => k u l r | _ => false
theorem Fe {a : Expr} {k : Expr -> Expr -> Expr -> Bool} (h : Ff a k = true) : ∃ u l r p,a = .IfExp u l r p /\ k u l r = true := by
 unfold Ff at h
 cases a <;> first | exact ⟨_,_,_,_,rfl,h⟩ | exact aG h
@[irreducible] noncomputable def xC (a : Expr) (k : Expr -> Expr -> Bool) : Bool := match a with | .Subscript l r _ => k l r | _ => false
theorem qM {a : Expr} {k : Expr -> Expr -> Bool} (h : xC a k = true) : ∃ l r p,a = .Subscript l r p /\ k l r = true := by
 unfold xC at h
 cases a <;> first | exact ⟨_,_,_,rfl,h⟩ | exact aG h
@[irreducible] noncomputable def E0 (a : Expr) (k : Option Expr -> Option Expr -> Bool) : Bool := match a with | .Slice u v s _ => s.isNone && k u v | _ => false
theorem EZ {a : Expr} {k : Option Expr -> Option Expr -> Bool} (h : E0 a k = true) : ∃ u v p,a = .Slice u v none p /\ k u v = true := by
 unfold E0 at h
 cases a with
 | Slice u v s p => cases s with
  | none => exact ⟨_,_,_,rfl,h⟩
  | some _ => exact aG h
 | _ => exact aG h
@[irreducible] noncomputable def Ba (a : Expr) (k : Expr -> List Expr -> Pos -> Bool) : Bool := match a with | .Call f as kw p => kw.isEmpty && k f as p | _ => false
theorem xF {a : Expr} {k : Expr -> List Expr -> Pos -> Bool} (h : Ba a k = true) : ∃ f as p,a = .Call f as [] p /\ k f as p = true := by
 unfold Ba at h
 cases a with
 | Call f as kw p => cases kw with
  | nil => exact ⟨_,_,_,rfl,h⟩
  | cons _ _ => exact aG h
 | _ => exact aG h
@[irreducible] noncomputable def xG (a : Expr) (k : Str -> List Expr -> Bool) : Bool := Ba a fun f as _ => fF f fun x => k x as
theorem g8 {a : Expr} {k : Str -> List Expr -> Bool} (h : xG a k = true) : ∃ x q as p,a = .Call (.Name x q) as [] p /\ k x as = true := by
 unfold xG at h
 replace h := xF h
 obtain ⟨f,as,p,rfl,h⟩ := h
 replace h := bV h
 obtain ⟨x,q,rfl,h⟩ := h
 exact ⟨_,_,_,_,rfl,h⟩
@[irreducible] noncomputable def xH (a : Expr) (k : Expr -> Str -> Pos -> Bool) : Bool := match a with | .Attribute o y p => k o y p | _ => false
theorem qN {a : Expr} {k : Expr -> Str -> Pos -> Bool} (h : xH a k = true) : ∃ o y p,a = .Attribute o y p /\ k o y p = true := by
 unfold xH at h
 cases a <;> first | exact ⟨_,_,_,rfl,h⟩ | exact aG h
@[irreducible] noncomputable def Kg (a : Expr) (k : Expr -> Str -> Pos -> List Expr -> Pos -> Bool) : Bool := Ba a fun f as p => xH f fun o y q => k o y q as p
theorem CF {a : Expr} {k : Expr -> Str -> Pos -> List Expr -> Pos -> Bool} (h : Kg a k = true) : ∃ o y q as p,a = .Call (.Attribute o y q) as [] p /\ k o y q as p = true := by
 unfold Kg at h
 replace h := xF h
 obtain ⟨f,as,p,rfl,h⟩ := h
 replace h := qN h
 obtain ⟨o,y,q,rfl,h⟩ := h
 exact ⟨_,_,_,_,_,rfl,h⟩
@[irreducible] noncomputable def Kf (a : Expr) (k : Expr -> Expr -> Expr -> List Expr -> Scope -> Pos -> Bool) : Bool := match a with
 | .ListComp el gs scope p => k1 gs fun g => decide (g.is_async = 0) && k el g.target g.iter g.ifs scope p
 | _ => false
theorem CD {a : Expr} {k : Expr -> Expr -> Expr -> List Expr -> Scope -> Pos -> Bool} (h : Kf a k = true) : ∃ el tn it ifs sc p,a = .ListComp el [⟨tn,it,ifs,0⟩] sc p /\ k el tn it ifs sc p = true := by
 unfold Kf at h
 cases a with
 | ListComp el gs sc p =>
  replace h := g9 h
  obtain ⟨g,rfl,h⟩ := h
  obtain ⟨tn,it,ifs,j⟩ := g
  have h := (Bool.and_eq_true _ _).mp h
  have e : j = 0 := of_decide_eq_true h.1
  subst e
  exact ⟨_,_,_,_,_,_,rfl,h.2⟩
 | _ => exact aG h
@[irreducible] noncomputable def E8 (a : Expr) (d : Bool) (k : List Expr -> Bool) : Bool := match a with
 | .Constant c _ _ => (match c with | .str _ => d | _ => false)
 | .JoinedStr vs _ => k vs
 | _ => false
theorem E7 {a : Expr} {d : Bool} {k : List Expr -> Bool} (h : E8 a d k = true) : (∃ x j p,a = .Constant (.str x) j p /\ d = true) \/ ∃ vs p,a = .JoinedStr vs p /\ k vs = true := by
 unfold E8 at h
 cases a with
 | Constant c j p => cases c with
  | str x => exact .inl ⟨_,_,_,rfl,h⟩
  | _ => exact aG h
 | JoinedStr vs p => exact .inr ⟨_,_,rfl,h⟩
 | _ => exact aG h
@[irreducible] noncomputable def E6 (a : Expr) (s : Str -> Bool) (k : Expr -> Int -> Bool) : Bool := match a with
 | .Constant c _ _ => (match c with | .str y => s y | _ => false)
 | .FormattedValue v j f _ => f.isNone && k v j
 | _ => false
theorem E5 {a : Expr} {s : Str -> Bool} {k : Expr -> Int -> Bool} (h : E6 a s k = true) : (∃ y j p,a = .Constant (.str y) j p /\ s y = true) \/ ∃ v j p,a = .FormattedValue v j none p /\ k v j = true := by
 unfold E6 at h
 cases a with
 | Constant c j p => cases c with
  | str x => exact .inl ⟨_,_,_,rfl,h⟩
  | _ => exact aG h
 | FormattedValue v j f p => cases f with
  | none => exact .inr ⟨_,_,_,rfl,h⟩
  | some _ => exact aG h
 | _ => exact aG h
@[irreducible] noncomputable def qO (a : Stmt) (k : Expr -> Expr -> Bool) : Bool := match a with | .Assign ts e _ => k1 ts fun t => k t e | _ => false
theorem kr {a : Stmt} {k : Expr -> Expr -> Bool} (h : qO a k = true) : ∃ t e p,a = .Assign [t] e p /\ k t e = true := by
 unfold qO at h
 cases a with
 | Assign ts e p =>
  replace h := g9 h
  obtain ⟨t,rfl,h⟩ := h
  exact ⟨_,_,_,rfl,h⟩
 | _ => exact aG h
@[irreducible] noncomputable def Fl (a : Stmt) (k : Expr -> Bool) : Bool := match a with | .Expr e _ => k e | _ => false
theorem Fj {a : Stmt} {k : Expr -> Bool} (h : Fl a k = true) : ∃ e p,a = .Expr e p /\ k e = true := by
 unfold Fl at h
 cases a <;> first | exact ⟨_,_,rfl,h⟩ | exact aG h
@[irreducible] noncomputable def E2 (a : Stmt) (d : Bool) (k : Expr -> Bool) : Bool := match a with
 | .Return o _ => (match o with | some e => k e | none => d)
 | _ => false
theorem E1 {a : Stmt} {d : Bool} {k : Expr -> Bool} (h : E2 a d k = true) : (∃ p,a = .Return none p /\ d = true) \/ ∃ e p,a = .Return (some e) p /\ k e = true := by
 unfold E2 at h
 cases a with
 | Return o p => cases o with
  | none => exact .inl ⟨_,rfl,h⟩
  | some e => exact .inr ⟨_,_,rfl,h⟩
 | _ => exact aG h
@[irreducible] noncomputable def Fd (a : Stmt) (k : Expr -> List Stmt -> List Stmt -> Bool) : Bool := match a with | .If t l r _ => k t l r | _ => false
theorem Fc {a : Stmt} {k : Expr -> List Stmt -> List Stmt -> Bool} (h : Fd a k = true) : ∃ t l r p,a = .If t l r p /\ k t l r = true := by
 unfold Fd at h
 cases a <;> first | exact ⟨_,_,_,_,rfl,h⟩ | exact aG h
@[irreducible] noncomputable def kFor (a : Stmt) (k : Expr -> Expr -> List Stmt -> Bool) : Bool := match a with | .For t i b e _ => e.isEmpty && k t i b | _ => false
theorem Fi {a : Stmt} {k : Expr -> Expr -> List Stmt -> Bool} (h : kFor a k = true) : ∃ t i b p,a = .For t i b [] p /\ k t i b = true := by
 unfold kFor at h
 cases a with
 | For t i b e p => cases e with
  | nil => exact ⟨_,_,_,_,rfl,h⟩
  | cons _ _ => exact aG h
 | _ => exact aG h
@[irreducible] noncomputable def kWh (a : Stmt) (k : Expr -> List Stmt -> Bool) : Bool := match a with | .While t b e _ => e.isEmpty && k t b | _ => false
theorem IA {a : Stmt} {k : Expr -> List Stmt -> Bool} (h : kWh a k = true) : ∃ t b p,a = .While t b [] p /\ k t b = true := by
 unfold kWh at h
 cases a with
 | While t b e p => cases e with
  | nil => exact ⟨_,_,_,rfl,h⟩
  | cons _ _ => exact aG h
 | _ => exact aG h
@[irreducible] noncomputable def E4 (a : Stmt) (k : Expr -> Bool) : Bool := match a with
 | .Raise o c _ => c.isNone && (match o with | some e => k e | none => false)
 | _ => false
theorem E3 {a : Stmt} {k : Expr -> Bool} (h : E4 a k = true) : ∃ e p,a = .Raise (some e) none p /\ k e = true := by
 unfold E4 at h
 cases a with
 | Raise o c p => cases c with
  | none => cases o with
   | none => exact aG h
   | some e => exact ⟨_,_,rfl,h⟩
  | some _ => exact aG h
 | _ => exact aG h
@[irreducible] noncomputable def EY (a : Stmt) (k : List Stmt -> List ExceptHandler -> Bool) : Bool := match a with
 | .Try bd hs e f _ => e.isEmpty && (f.isEmpty && (!hs.isEmpty && k bd hs))
 | _ => false
theorem EW {a : Stmt} {k : List Stmt -> List ExceptHandler -> Bool} (h : EY a k = true) : ∃ bd h₀ hr p,a = .Try bd (h₀ :: hr) [] [] p /\ k bd (h₀ :: hr) = true := by
 unfold EY at h
 cases a with
 | Try bd hs e f p => cases e with
  | nil => cases f with
   | nil => cases hs with
    | nil => exact aG h
    | cons _ _ => exact ⟨_,_,_,_,rfl,h⟩
   | cons _ _ => exact aG h
  | cons _ _ => exact aG h
 | _ => exact aG h
@[irreducible] noncomputable def kHd (a : ExceptHandler) (k : Expr -> List Stmt -> Bool) : Bool := match a with
 | .ExceptHandler t n b _ => n.isNone && (match t with | some t => k t b | none => false)
theorem ID {a : ExceptHandler} {k : Expr -> List Stmt -> Bool} (h : kHd a k = true) : ∃ t b p,a = .ExceptHandler (some t) none b p /\ k t b = true := by
 unfold kHd at h
 cases a with
 | ExceptHandler t n b p => cases n with
  | none => cases t with
   | none => exact aG h
   | some t => exact ⟨_,_,_,rfl,h⟩
  | some _ => exact aG h
@[irreducible] noncomputable def lN : Es -> Bool | .nil => true | .cons _ _ => false
theorem iD {c : Es} (h : lN c = true) : c = .nil := by
 unfold lN at h
 cases c <;> first | rfl | exact aG h
@[irreducible] noncomputable def n8 : Ss -> Bool | .nil => true | .cons _ _ => false
theorem l9 {c : Ss} (h : n8 c = true) : c = .nil := by
 unfold n8 at h
 cases c <;> first | rfl | exact aG h
@[irreducible] noncomputable def xV : Hs -> Bool | .nil => true | .cons _ _ _ => false
theorem Be {c : Hs} (h : xV c = true) : c = .nil := by
 unfold xV at h
 cases c <;> first | rfl | exact aG h
@[irreducible] noncomputable def Kl (c : Es) (k : E -> Es -> Bool) : Bool := match c with | .cons e es => k e es | .nil => false
theorem xJ {c : Es} {k : E -> Es -> Bool} (h : Kl c k = true) : ∃ e es,c = .cons e es /\ k e es = true := by
 unfold Kl at h
 cases c <;> first | exact ⟨_,_,rfl,h⟩ | exact aG h
@[irreducible] noncomputable def Kh (c : Ss) (k : S -> Ss -> Bool) : Bool := match c with | .cons e es => k e es | .nil => false
theorem CG {c : Ss} {k : S -> Ss -> Bool} (h : Kh c k = true) : ∃ e es,c = .cons e es /\ k e es = true := by
 unfold Kh at h
 cases c <;> first | exact ⟨_,_,rfl,h⟩ | exact aG h
@[irreducible] noncomputable def jHs (c : Hs) (k : List Nat -> Ss -> Hs -> Bool) : Bool := match c with | .cons a b d => k a b d | .nil => false
theorem IE {c : Hs} {k : List Nat -> Ss -> Hs -> Bool} (h : jHs c k = true) : ∃ a b d,c = .cons a b d /\ k a b d = true := by
 unfold jHs at h
 cases c <;> first | exact ⟨_,_,_,rfl,h⟩ | exact aG h
@[irreducible] noncomputable def Fv (c : S) (k : Nat -> E -> Bool) : Bool := match c with | .set i e => k i e | _ => false
theorem Ft {c : S} {k : Nat -> E -> Bool} (h : Fv c k = true) : ∃ i e,c = .set i e /\ k i e = true := by
 unfold Fv at h
 cases c <;> first | exact ⟨_,_,rfl,h⟩ | exact aG h
@[irreducible] noncomputable def jK (c : E) (k : D -> Bool) : Bool := match c with | .k d => k d | _ => false
theorem jK_t {c : E} {k : D -> Bool} (h : jK c k = true) : ∃ d,c = .k d /\ k d = true := by
 unfold jK at h
 cases c <;> first | exact ⟨_,rfl,h⟩ | exact aG h
@[irreducible] noncomputable def xK (c : E) (k : List Nat -> List Nat -> E -> Src -> O -> Bool) (d : Bool) : Bool := match c with | .comp _ caps tg elt it cond => k caps tg elt it cond | _ => d
theorem Bb {c : E} {k : List Nat -> List Nat -> E -> Src -> O -> Bool} {d : Bool} (h : xK c k d = true) : (∃ fz caps tg elt it cond,c = .comp fz caps tg elt it cond /\ k caps tg elt it cond = true) \/ d = true := by
 unfold xK at h
 cases c <;> first | exact .inl ⟨_,_,_,_,_,_,rfl,h⟩ | exact .inr h
noncomputable def J9 (N : List Str) (sc : Scope) (i : Nat) (x : Str) : Bool := decide (N[i]? = some x) && AX sc x
noncomputable def GU (N : List Str) (sc : Scope) (t : Expr) (is : List Nat) : Bool := match is with
 | [] => false
 | i :: r => match r with
  | [] => fF t fun x => J9 N sc i x
  | j :: r => r.isEmpty && A7 t fun as => k2 as fun l r => fF l fun x => fF r fun y => J9 N sc i x && J9 N sc j y
noncomputable def Km : Src -> Bool | .zip _ _ => true | _ => false
noncomputable def isTup : Expr -> Bool | .Tuple _ _ _ => true | _ => false
noncomputable def IG : Expr -> Bool | .Call _ _ _ _ => true | _ => false
noncomputable def eN (N : List Str) (caps : List Nat) (tn : List Str) : List Str := (caps.map fun i => (N[i]?).getD ("" : Str)) ++ tn
noncomputable def nmOf : Expr -> Str
 | .Name x _ => x
 | _ => ""
noncomputable def cH : Expr -> List Str
 | .Name x _ => [x]
 | .Tuple as _ _ => as.map nmOf
 | _ => []
noncomputable def yw (N : List Str) (sc scope : Scope) (caps : List Nat) (tn : List Str) : Bool :=
 (scope.names.all fun y => match y.2 with
  | .free => (match sc.names.lookup y.1 with | some .cell => true | some .free => true | _ => false)
  | .cell => false
  | .local => (match scope.names.lookup y.1 with | some .local => true | _ => false)
  | _ => true) && (scope.kind == .function) &&
 (caps.all fun i => match N[i]? with
  | some x => (match scope.names.lookup x with | some .free => true | _ => false)
  | none => false) && decide ((eN N caps tn).Nodup)
noncomputable def vD (sc scope : Scope) (x : Str) (px pv : Pos) : Bool :=
 ((if sc.kind.isAnnotationScope then .function else sc.kind) == .function) && sc.names.lookup x == some .local && px.line == pv.line && !(scope.names.any fun (n,k) => n == x && (k == .local || k == .cell))
noncomputable def hdB (G : Gm) (N : List Str) (sc : Scope) : List ExceptHandler -> Hs -> Bool
 | [],hs => xV hs
 | h :: r,hs => kHd h fun t bd => fF t fun x => k1 bd fun st => qO st fun ty e => fF ty fun y => A8 e fun k => jHs hs fun cs b hs => k1 cs fun c => Kh b fun s ss => n8 ss && Fv s fun i v => jK v fun d =>
  ia sc x && nD x && decide (G.exc.lookup x = some c) && decide (N[i]? = some y) && AV sc y && BE k d && hdB G N sc r hs
noncomputable abbrev Rec := Gm -> Bool -> List Str -> Scope -> Nd -> Bool
noncomputable def ifsB (ifs : List Expr) (cond : O) (k : Expr -> E -> Bool) : Bool := match cond with
 | .none => ifs.isEmpty
 | .some d => k1 ifs fun c => k c d
noncomputable def Kd (r : Rec) (G : Gm) (b : Bool) (N : List Str) (sc : Scope) (caps tg : List Nat) (elt : E) (it : Src) (cond : O) (el tn iter : Expr) (ifs : List Expr) (scope : Scope) : Bool :=
 (!Km it || isTup tn) && wU iter && yw N sc scope caps (cH tn) && r G b N sc (.i iter it) &&
  GU (eN N caps (cH tn)) (v7 scope sc) tn tg && r G true (eN N caps (cH tn)) (v7 scope sc) (.e el elt) &&
  ifsB ifs cond fun c d => r G true (eN N caps (cH tn)) (v7 scope sc) (.t c d)
noncomputable def IF : Mt -> Bool | .append => true | .extend => true | _ => false
noncomputable def Ir : Mt -> Str | .append => "append" | _ => "extend"
noncomputable def chkE (r : Rec) (G : Gm) (b : Bool) (N : List Str) (sc : Scope) (a : Expr) (c : E) : Bool := match c with
 | .bad => true
 | .v i => fF a fun x => decide (N[i]? = some x) && De sc x && nD x
 | .k d => A8 a fun k => BE k d
 | .g i => fF a fun x => ia sc x && decide (G.cst.lookup x = some i) && nD x
 | .tup cs => A7 a fun as => decide (as.length <= 100) && r G b N sc (.es as cs)
 | .lst _ cs => Fb a fun as => decide (as.length <= 100) && r G b N sc (.es as cs)
 | .op o _ x y => Fp a fun l p q => decide (p = binOp o) && r G b N sc (.e l x) && r G b N sc (.e q y)
 | .neg x => IB a fun o l => qP o && r G b N sc (.e l x)
 | .not x => IB a fun o l => sS o && r G b N sc (.e l x)
 | .and x y => GC a fun o v w => ji o && r G b N sc (.e v x) && r G b N sc (.e w y)
 | .or x y => GC a fun o v w => !ji o && r G b N sc (.e v x) && r G b N sc (.e w y)
 | .cmp o x y => A9 a fun l p q => decide (p = yy o) && !(behindInMarks p q) && r G b N sc (.e l x) && r G b N sc (.e q y)
 | .y9 t x y => Ff a fun u l q => r G b N sc (.t u t) && r G b N sc (.e l x) && r G b N sc (.e q y)
 | .idx x y => xC a fun l q => nSl q && r G b N sc (.e l x) && r G b N sc (.e q y)
 | .sl _ x lo hi => xC a fun l q => E0 q fun u v => r G b N sc (.e l x) && r G b N sc (.o u lo) && r G b N sc (.o v hi)
 | .call f cs => xG a fun x as => ia sc x && nD x && decide (G.fns.lookup x = some (f,as.length)) && as.all b4 && r G b N sc (.es as cs)
 | .gp f cs d => xG a fun x as => ia sc x && nD x && decide (G.BC.lookup x = some (f,as.length + 1,d)) && !as.isEmpty && as.all b4 && r G b N sc (.es as cs)
 | .vg x t => xG a fun y as => k2 as fun l z' => fF z' fun z => decide (y = "isinstance") && decide (z = Str.ofString (nU t)) && ia sc y && ia sc z && G.pQ.contains y && G.pQ.contains z && b4 l && r G b N sc (.e l x)
 | .blt k _ cs => xG a fun y as => k1 as fun l => decide (JG k = some y) && ia sc y && G.pQ.contains y && b4 l && r G b N sc (.es [l] cs)
 | .bK m _ x cs => Kg a fun o y ap as cp => wV o && (ap.endLine == cp.line) && r G b N sc (.e o x) &&
  bif IF m then decide (Ir m = y) && k1 as fun l => b4 l && r G b N sc (.es [l] cs)
  else decide (Cz m = some y) && as.isEmpty && lN cs
 | .comp _ caps tg elt it cond => !b && Kf a fun el tn iter ifs scope _ => Kd r G b N sc caps tg elt it cond el tn iter ifs scope
 | .fld x f => xH a fun l y _ => decide (y = f) && G.Bm.contains f && wV l && r G b N sc (.e l x)
 | .cF c m nm x cs => Kg a fun o y ap as cp => decide (y = nm) && wV o && (ap.endLine == cp.line) && decide (as.length < 29) && decide (G.AN.lookup (c,nm) = some (m,as.length + 1)) && as.all b4 && r G b N sc (.e o x) && r G b N sc (.es as cs)
 | .new c i cs => xG a fun x as => ia sc x && nD x && decide (G.cls.lookup x = some (c,i,as.length + 1)) && as.all b4 && r G b N sc (.es as cs)
 | .x8 f x => xG a fun y as => k1 as fun l => decide (f1S f = y) && ia sc y && G.pQ.contains y && b4 l && r G b N sc (.e l x)
 | _ => false
noncomputable def chkT (r : Rec) (G : Gm) (b : Bool) (N : List Str) (sc : Scope) (a : Expr) (c : E) : Bool := match c with
 | .bad => true
 | .cmp o x y => A9 a fun l p q => decide (p = yy o) && !(behindInMarks p q) && r G b N sc (.e l x) && r G b N sc (.e q y)
 | .not x => IB a fun o l => sS o && r G b N sc (.t l x)
 | .and x y => GC a fun o v w => ji o && r G b N sc (.t v x) && r G b N sc (.t w y)
 | .or x y => GC a fun o v w => !ji o && r G b N sc (.t v x) && r G b N sc (.t w y)
 | c => qD a && r G b N sc (.e a c)
noncomputable def chkI (r : Rec) (G : Gm) (b : Bool) (N : List Str) (sc : Scope) (a : Expr) (c : Src) : Bool := match c with
 | .e c => wU a && r G b N sc (.e a c)
 | .gK c => xG a fun y as => k1 as fun l => decide (y = "range") && ia sc y && G.pQ.contains y && b4 l && r G b N sc (.e l c)
 | .rev c => xG a fun y as => k1 as fun l => decide (y = "reversed") && ia sc y && G.pQ.contains y && b4 l && r G b N sc (.e l c)
 | _ => false
noncomputable def chkS (r : Rec) (G : Gm) (b : Bool) (N : List Str) (sc : Scope) (a : Stmt) (c : S) : Bool := match c with
 | .bad => true
 | .set i c => qO a fun t e => kNm t fun x px => !b && decide (N[i]? = some x) && AV sc x && xK c (fun caps tg elt it cond => Kf e fun el tn iter ifs scope lp =>
    bif vD sc scope x px lp then Kd r G b N sc caps tg elt it cond el tn iter ifs scope && AX sc x else r G b N sc (.e e c)) (lB e && r G b N sc (.e e c))
 | .kP x y c => qO a fun t e => xC t fun o i => lB e && r G b N sc (.e e c) && r G b N sc (.e o x) && r G b N sc (.e i y)
 | .Dh tg c => qO a fun tn e => !b && isTup tn && GU N sc tn tg && IG e && r G b N sc (.e e c)
 | .bJ x f c => qO a fun t e => xH t fun o y _ => decide (y = f) && G.Bm.contains f && lB e && r G b N sc (.e e c) && r G b N sc (.e o x)
 | .ex c => Fl a fun e => lB e && r G b N sc (.e e c)
 | .ret c => E2 a false fun e => r G b N sc (.e e c)
 | .ifs c x y => Fd a fun t l q => r G b N sc (.t t c) && r G b N sc (.ss l x) && r G b N sc (.ss q y)
 | .for tg it x => kFor a fun tn iter body => !b && (!Km it || isTup tn) && wU iter && r G b N sc (.i iter it) && GU N sc tn tg && r G b N sc (.ss body x)
 | .while c x => kWh a fun t body => r G b N sc (.t t c) && r G b N sc (.ss body x)
 | .raise c es => !b && G.rz && E4 a fun e => xG e fun x as => k1 as fun m => ia sc x && nD x && decide (G.exc.lookup x = some c) &&
   E8 m (lN es) fun vs => decide (2 <= vs.length) && decide (vs.length <= 100) && r G b N sc (.m vs es)
 | .try x hs els => !b && n8 els && EY a fun bd hds => r { G with rz := false } b N sc (.ss bd x) && hdB G N sc hds hs
 | _ => false
noncomputable def stp (r : Rec) (G : Gm) (b : Bool) (N : List Str) (sc : Scope) (nd : Nd) : Bool := match nd with
 | .e a c => sJ a (fun v => r G b N sc (.e v c)) (chkE r G b N sc a c)
 | .t a c => sJ a (fun v => r G b N sc (.t v c)) (chkT r G b N sc a c)
 | .es as cs => (match as with
  | [] => lN cs
  | a :: as => Kl cs fun c cs => b4 a && r G b N sc (.e a c) && r G b N sc (.es as cs))
 | .o a c => (match c with
  | .none => a.isNone
  | .some c => (match a with
   | some a => r G b N sc (.e a c)
   | none => false))
 | .i a c => chkI r G b N sc a c
 | .s a c => chkS r G b N sc a c
 | .ss as cs => (match as with
  | [] => n8 cs
  | a :: as => Kh cs fun c cs => r G b N sc (.s a c) && r G b N sc (.ss as cs))
 | .m as cs => (match as with
  | [] => lN cs
  | a :: as => E6 a (fun y => decide (y.length <= 100000) && r G b N sc (.m as cs)) fun v k => Kl cs fun e es => decide (k = -1) && r G b N sc (.e v e) && r G b N sc (.m as es))
noncomputable def Ge : Nat -> Rec
 | 0 => fun _ _ _ _ _ => false
 | n + 1 => stp (Ge n)
noncomputable abbrev eZ (G : Gm) (n : Nat) (b : Bool) (N : List Str) (sc : Scope) (nd : Nd) : Bool := Ge n G b N sc nd
end Fg
end
section
set_option autoImplicit false
namespace Fg
open PySem PySem.Spec L2
section
variable {X : Cx}
theorem PE.weak {e : Expr} {t t' : TE} (h : PE X e t) (w : ∀ σ H Q,t' σ H Q -> t σ H Q) : PE X e t' := fun pins s σ H Q I q => h pins s σ H Q I (w σ H Q q)
theorem PT.weak {e : Expr} {t t' : TT} (h : PT X e t) (w : ∀ σ H Q,t' σ H Q -> t σ H Q) : PT X e t' := fun pins s σ H Q I q => h pins s σ H Q I (w σ H Q q)
theorem PW.weak {e : Expr} {t t' : TT} (h : PW X e t) (w : ∀ σ H Q,t' σ H Q -> t σ H Q) : PW X e t' := fun wh pins s σ H Q I q => h wh pins s σ H Q I (w σ H Q q)
theorem PA.weak {e : List Expr} {t t' : TA} (h : PA X e t) (w : ∀ σ H Q,t' σ H Q -> t σ H Q) : PA X e t' := fun pos pins s σ H Q I q => h pos pins s σ H Q I (w σ H Q q)
theorem PO.weak {e : Option Expr} {t t' : TO} (h : PO X e t) (w : ∀ σ H Q,t' σ H Q -> t σ H Q) : PO X e t' := fun pins s σ H Q I q => h pins s σ H Q I (w σ H Q q)
theorem PI.weak {tg e : Expr} {t t' : TI} (h : PI X tg e t) (w : ∀ σ H Q,t' σ H Q -> t σ H Q) : PI X tg e t' := fun pins s σ H Q I q => h pins s σ H Q I (w σ H Q q)
theorem PS.weak {e : Stmt} {t t' : TS} (h : PS X e t) (w : ∀ D σ H,t' D σ H -> t D σ H) : PS X e t' := fun pins s σ H D I q => h pins s σ H D I (w D σ H q)
theorem jP.weak {e : List Stmt} {t t' : TS} (h : jP X e t) (w : ∀ D σ H,t' D σ H -> t D σ H) : jP X e t' := fun pins s σ H D I q => h pins s σ H D I (w D σ H q)
end
theorem az {e : Expr} {es : List Expr} {env : Env} (h : b4 e = true) : starEach (e :: es) env = (false,eval e env) :: starEach es env := by
 cases e <;> first | rfl | (simp [b4] at h)
theorem dj {env : Env} {pos : Pos} : ∀ {es : List Expr},es.all b4 = true -> (backTo pos (starEach es env)).any (·.1) = false
 | [],_ => rfl
 | e :: es,h => by
  simp only [List.all_cons,Bool.and_eq_true] at h
  rw [az h.1]
  have := dj (env := env) (pos := pos) h.2
  simpa [backTo] using this
theorem nY {env : Env} {pos : Pos} : ∀ {es : List Expr},es.all b4 = true -> (backTo pos (starEach es env)).all (fun x => !x.1) = true
 | [],_ => rfl
 | e :: es,h => by
  simp only [List.all_cons,Bool.and_eq_true] at h
  rw [az h.1]
  have := nY (env := env) (pos := pos) h.2
  simpa [backTo] using this
theorem lD {o : Expr} {name : Str} {apos pos : Pos} {args : List Expr} {env : Env} (hbase : attributeBase o name env (eval o env) = eval o env) (hst : args.all b4 = true) (hl : args.length < 29) (hline : (apos.endLine == pos.line) = true) :
  eval (.Call (.Attribute o name apos) args [] pos) env = (do
   let ov <- eval o env
   standAt apos.atName
   let (f,first) <- holding [ov] (getMethod ov name (do return (<- importBound o env).getD true))
   callWith pos f first (backTo pos (starEach args env)) (backToKw pos (keywordEach [] env))) := by
 have IT : methodCallForm (args.length + ([] : List Keyword).length) (backTo pos (starEach args env)) (backToKw pos (keywordEach [] env)) = true := by
  unfold methodCallForm
  rw [nY hst]
  simp [backToKw,keywordEach]
  omega
 have hpos : methodCallPos true o env apos pos = pure pos := by unfold methodCallPos; simp [hline]
 rw [arm_eval_Call,hbase]
 unfold methodCall
 rw [IT]
 simp only [hpos]
 rfl
theorem set_plain {e : Expr} {env : Env} (h : wU e = true) : ∀ x,foldedSetIterable e env x = pure x := by
 intro x; cases e <;> first | rfl | (simp [wU] at h)
theorem vN {e : Expr} (h : nSl e = true) : tW e := by
 intro o i; cases e <;> first | rfl | (simp [nSl] at h)
theorem gY {e : Expr} {t : Option Expr} {l : Nat} {env : Env} (h : lB e = true) : swapsWith e t l env = pure false := by
 cases e <;> first | rfl | (simp [lB] at h)
theorem ud {e : Expr} {env : Env} (h : qD e = true) : ∀ whole,isTrue e env whole = (do let v <- whole; standAt e.pos; holding [v] (truthy v)) := by
 intro w; cases e <;> first | rfl | (simp [qD] at h)
theorem bF {e : Expr} {n : Str} {env : Env} (h : wV e = true) : attributeBase e n env (eval e env) = eval e env := by
 cases e <;> first | rfl | (rename_i f _ _ _; cases f <;> first | rfl | (simp [wV] at h))
theorem boot_list : bootBuiltins ("list" : Str) = some (.type "list") := by decide +kernel
theorem boot_isinstance : bootBuiltins ("isinstance" : Str) = some (.builtin "isinstance") := by decide +kernel
theorem BU : ∀ t : Ty,bootBuiltins (Str.ofString (nU t)) = some (.type (nU t)) := by
 intro t; cases t <;> decide +kernel
theorem B7 : ∀ t : Ty, Str.ofString (nU t) ≠ ("__name__" : Str) /\ (Str.ofString (nU t) == ("__debug__" : Str)) = false := by
 intro t; cases t <;> decide
noncomputable def jq : Es -> Nat
 | .nil => 0
 | .cons _ es => jq es + 1
theorem aX {Φ : aQ} : ∀ {es : Es} {σ : Sg} {M : MH} {ds : List D} {M' : MH},cA Φ es σ M = .ok ds M' -> ds.length = jq es
 | .nil,σ,M,ds,M',h => by simp only [cA] at h; cases h; rfl
 | .cons e es,σ,M,ds,M',h => by
  simp only [cA] at h
  cases h1 : ev Φ e σ M with
  | ok x M1 =>
   rw [h1] at h
   simp only [R.af] at h
   cases h2 : cA Φ es σ M1 with
   | ok xs M2 =>
    rw [h2] at h
    simp only [R.af] at h
    cases h
    simp [jq,aX h2]
   | exc c M2 => rw [h2] at h; cases h
   | bad => rw [h2] at h; cases h
  | exc c M1 => rw [h1] at h; cases h
  | bad => rw [h1] at h; cases h
theorem aF {a b : Bool} (h : (a && b) = true) : a = true /\ b = true := (Bool.and_eq_true a b).mp h
theorem eB {G : Gm} {b : Bool} {N : List Str} {sc : Scope} : ∀ {n : Nat} {as : List Expr} {cs : Es},eZ G n b N sc (.es as cs) = true -> jq cs = as.length /\ as.all b4 = true
 | 0,_,_,h => by cases h
 | n + 1,[],cs,h => by
  have := iD (c := cs) h
  subst this
  exact ⟨rfl,rfl⟩
 | n + 1,a :: as,cs,h => by
  replace h := xJ (c := cs) h
  obtain ⟨c,cs,rfl,h⟩ := h
  replace h := aF h
  obtain ⟨h,h3⟩ := h
  replace h := aF h
  obtain ⟨h1,h2⟩ := h
  obtain ⟨q1,q2⟩ := eB h3
  exact ⟨congrArg (· + 1) q1,by rw [List.all_cons,h1,q2]; rfl⟩
inductive u9 (th : Addr -> Prop) : Hp -> Hp -> Prop
 | refl (H : Hp) : u9 th H H
 | step {H H1 H2 : Hp} : ze th H H1 -> u9 th H1 H2 -> u9 th H H2
noncomputable def GX : Bool -> Cx -> XS -> Gx
 | true,_,w => ⟨w,fun _ => False,fun cv x σ H H' t h => by
  rcases t with rfl | ⟨_,_,_,z,_⟩
  ·exact h
  ·exact z.elim⟩
 | false,X,w => ⟨fun cv x σ H => ∃ H',u9 (B9 X) H H' /\ w cv x σ H',B9 X,fun cv x σ H H' t ⟨H2,h1,h2⟩ => ⟨H2,.step t h1,h2⟩⟩
theorem nV {X : Cx} {pins : List (Addr × Obj)} {σ : L2.St} {H H' : Hp} {s : Shared} (I : Inv X pins σ H s) (t : u9 (B9 X) H H') : Inv X pins σ H' s := by
 induction t with
 | refl => exact I
 | step t _ ih => exact ih (dz I t)
theorem ue {th : Addr -> Prop} {H H' : Hp} (t : u9 th H H') {b : Addr} (h : H' b ≠ none) : H b ≠ none := by
 induction t with
 | refl => exact h
 | step t _ ih =>
  have := ih h
  rcases t with rfl | ⟨a,o,kvs,_,h1,rfl⟩
  ·exact this
  ·by_cases e : b = a
   ·subst e; rw [h1]; simp
   ·rw [aq e] at this; exact this
theorem o7 {X : Cx} {w : XS} {e : Value} {s : Shared} (h : iL X (GX false X w).e e s) : iL X w e s := by
 obtain ⟨pins,σ,H,a,a0,C,B,h1,I,up,fj,hp,H',t,q⟩ := h
 exact ⟨pins,σ,H',a,a0,C,B,h1,nV I t,up,fun b hb hf => fj b (hb.imp (ue t) id) hf,hp,q⟩
theorem wN {X : Cx} {w : XS} {e : Value} {s : Shared} (h : Dc X (GX false X w).e e s) : Dc X w e s := by
 obtain ⟨pins,σ,H,a,C,vs,hh,h1,I,made,H',t,q⟩ := h
 exact ⟨pins,σ,H',a,C,vs,hh,h1,nV I t,made,q⟩
structure fN (G : Gm) (B : Bd) (Φ : aQ) (k : Nat) (X : Cx) (N : List Str) (sc : Scope) (b : Bool) (w : XS) : Prop where
 hN : X.N = N
 nd : N.Nodup
 hsc : X.env.scope = sc
 K : B.K = X.K
 calm : X.calm = true
 rm : cy k X.A
 dk : kR B X
 fo : ∀ e s,X.xe e s -> iL X (GX b X w).e e s \/ Dc X (GX b X w).e e s
 fx : ∀ e s,iL X (GX b X w).e e s -> X.xe e s
 nx : b = false -> G.rz = true -> ∀ e s,Dc X (GX b X w).e e s -> X.xe e s
 fr : pS X
 fn : b = false -> ∀ x,X.fn x = true
 fns : ∀ f i m,G.fns.lookup f = some (i,m) -> ∃ fa fd ps,X.mg f = some (.ref fa) /\ W.keepIn X.K (.ref fa) = true /\ Binds X.K fd ps [] /\ ck X.prog X.w X.K X.mg X.base (gM X.prog X.w) k fa fd ps (vI B Φ i m)
 cst : ∀ x i,G.cst.lookup x = some i -> ∃ v u,X.mg x = some u /\ RelV v u /\ ∀ d,Φ.glob i = some d -> ∀ F ρ H,RD B F ρ H d v
 blt : ∀ x,G.pQ.contains x = true -> X.mg x = none
 cls : ∀ c C,B.cls c = some C -> tX X.K C /\ ∀ f,G.Bm.contains f = true -> dh X.K C f
 AN : ∀ c nm i m,G.AN.lookup (c,nm) = some (i,m) -> ∃ C fa fd ps,B.cls c = some C /\ Meth X.K C nm fa /\ Binds X.K fd ps [] /\ ck X.prog X.w X.K X.mg X.base (gM X.prog X.w) k fa fd ps (vI B Φ i m)
 Iu : ∀ x c i m,G.cls.lookup x = some (c,i,m) -> ∃ C fa fd ps,X.mg x = some (.ref C) /\ B.cls c = some C /\ Mk X.K C fa /\ Binds X.K fd ps [] /\
  ((∃ j,k = j + 1 /\ ck X.prog X.w X.K X.mg X.base (gM X.prog X.w) j fa fd ps (spI B Φ i m)) \/ ∀ ds M,Φ.ini i ds M = .bad)
 exc : ∀ x c, G.exc.lookup x = some c -> ∃ C bmB newId bm base initId, X.mg x = some (.ref C) /\ B.JU c = some C /\ B.exc c (.ref C) /\ pT X.K C bmB newId bm /\ ExcBaseFacts base newId initId bmB /\ bm.contains (.type "BaseException") = true
 GJ : ∀ c cv,B.exc c cv -> ∃ C bmB newId bm,cv = .ref C /\ pT X.K C bmB newId bm /\ ∀ d D,B.JU d = some D -> (Value.ref C :: bm).contains (.ref D) = Φ.sub c d
 BC : ∀ x f m d,G.BC.lookup x = some (f,m,d) -> ∃ fa fd ps du,X.mg x = some (.ref fa) /\ W.keepIn X.K (.ref fa) = true /\ Binds X.K fd ps [du] /\ RelV (.int d) du /\ ck X.prog X.w X.K X.mg X.base (gM X.prog X.w) k fa fd ps (vI B Φ f m)
 st : b = false -> X.stack = X.env :: X.outer /\ X.env.frame = some X.env.locals
section
variable {G : Gm} {B : Bd} {Φ : aQ} {k : Nat} {X : Cx} {N : List Str} {sc : Scope} {b : Bool} {w : XS}
theorem fN.rm' (O : fN G B Φ k X N sc b w) : Rm X := by have := O.rm.un; unfold Rm; omega
theorem fN.nP (O : fN G B Φ k X N sc b w) {x : Str} (h : ia sc x = true) : Gl X x := by
 show X.env.scope.names.lookup x = some .globalImplicit
 rw [O.hsc]
 unfold ia at h
 split at h
 ·assumption
 ·cases h
theorem fN.vis (O : fN G B Φ k X N sc b w) {x : Str} (h : De sc x = true) : KW X.env.scope x := by
 unfold KW
 rw [O.hsc]
 unfold De at h
 split at h
 ·rename_i q; exact .inl q
 ·rename_i q; exact .inr (.inl q)
 ·rename_i q; exact .inr (.inr q)
 ·cases h
theorem fN.loc (O : fN G B Φ k X N sc b w) {x : Str} (h : AV sc x = true) : L2.Loc X.env.scope x := by
 unfold L2.Loc
 rw [O.hsc]
 unfold AV at h
 split at h
 ·rename_i q; exact .inl q
 ·rename_i q; exact .inr q
 ·cases h
theorem eE {x : Str} (h : nD x = true) : (x == ("__debug__" : Str)) = false /\ (x == ("__classdict__" : Str)) = false := by
 simp only [nD,Bool.and_eq_true,Bool.not_eq_true'] at h; exact h
theorem fN.C6 (O : fN G B Φ k X N sc b w) {scope : Scope} {N' : List Str} (hn : N'.Nodup) (cl : List (Str × Addr)) (fp : List Addr) (s : Shared) (H : Hp) (C : Addr) (E : XK) : fN G B Φ k (dO X scope cl N' fp s H C E) N' (v7 scope sc) true (fun cv x _ H' => E cv x H') :=
 ⟨rfl,hn,by show relabel scope X.env = v7 scope sc; rw [<- O.hsc]; rfl,O.K,O.calm,O.rm,O.dk,(fun e s ⟨p,σ,H,a,a0,C,B,h1,I,h⟩ => .inl ⟨p,σ,H,a,a0,C,B,h1,I.bI _,h⟩),(fun e s ⟨p,σ,H,a,a0,C,B,h1,I,h⟩ => ⟨p,σ,H,a,a0,C,B,h1,I.aY,h⟩),(fun h => by cases h),(by
  obtain ⟨env,outer,L,h1,h2,h3⟩ := O.fr
  exact ⟨env,outer,L,h1,h2,h3⟩),(fun h => by cases h),O.fns,O.cst,O.blt,O.cls,O.AN,O.Iu,O.exc,O.GJ,O.BC,(fun h => by cases h)⟩
theorem fN.comp (O : fN G B Φ k X N sc b w) {scope : Scope} {caps : List Nat} {tn : List Str} {n : Nat} (h : yw N sc scope caps tn = true) (hn : tn.length = n) : gJ X scope (eN N caps tn) caps n /\ (eN N caps tn).Nodup := by
 simp only [yw,Bool.and_eq_true,List.all_eq_true,decide_eq_true_eq] at h
 obtain ⟨⟨⟨h1,h2⟩,h3⟩,h4⟩ := h
 refine ⟨⟨fun x hx => ?_,fun y hy z => ?_,by simpa using h2,fun y hy z => ?_,by simp [eN,hn],fun i j x e1 e2 => ?_⟩,h4⟩
 ·have := h1 _ hx
  show X.env.scope.names.lookup x = some .cell \/ X.env.scope.names.lookup x = some .free
  rw [O.hsc]
  simp only at this
  split at this
  ·rename_i q; exact .inl q
  ·rename_i q; exact .inr q
  ·cases this
 ·have := h1 _ hy
  rw [z] at this
  simp at this
 ·have := h1 _ hy
  rw [z] at this
  simp only at this
  split at this
  ·assumption
  ·cases this
 ·have hj : j ∈ caps := List.mem_of_getElem? e2
  have := h3 j hj
  have hi : i < caps.length := (List.getElem?_eq_some_iff.mp e2).1
  unfold eN at e1
  rw [List.getElem?_append_left (by simpa using hi),List.getElem?_map,e2] at e1
  simp only [Option.map_some,Option.some.injEq] at e1
  split at this
  ·rename_i y hy
   rw [hy] at e1
   simp only [Option.getD_some] at e1
   subst e1
   rw [O.hN]
   refine ⟨hy,?_⟩
   split at this
   ·assumption
   ·cases this
  ·cases this
theorem xq {x : Str} (h : AX sc x = true) : sc.names.lookup x = some .local := by
 unfold AX at h
 split at h
 ·assumption
 ·cases h
theorem fN.nm (O : fN G B Φ k X N sc b w) {i : Nat} {x : Str} {p : Pos} (h : J9 N sc i x = true) : PG X (.Name x p) (lH i) := by
 replace h := aF h
 obtain ⟨h1,h2⟩ := h
 have hl : X.env.scope.names.lookup x = some .local := by rw [O.hsc]; exact xq h2
 exact Av (by rw [O.hN]; exact O.nd) (by rw [O.hN]; exact of_decide_eq_true h1) (.inl hl) (.inr hl)
theorem fN.tg (O : fN G B Φ k X N sc b w) {tn : Expr} {tg : List Nat} (h : GU N sc tn tg = true) : PG X tn (GH tg B.K) /\ (cH tn).length = tg.length := by
 cases tg with
 | nil => cases h
 | cons i r => cases r with
  | nil =>
   replace h := bV h
   obtain ⟨x,p,rfl,h⟩ := h
   exact ⟨O.nm h,rfl⟩
  | cons j r => cases r with
   | cons _ _ => cases h
   | nil =>
    replace h := qL h
    obtain ⟨as,k1,pt,rfl,h⟩ := h
    replace h := Fq h
    obtain ⟨l,r,rfl,h⟩ := h
    replace h := bV h
    obtain ⟨x,px,rfl,h⟩ := h
    replace h := bV h
    obtain ⟨y,py,rfl,h⟩ := h
    replace h := aF h
    obtain ⟨h1,h2⟩ := h
    have p := D4 (X := X) (pos := pt) (k := k1) (n := 2) O.calm (oN (O.nm (p := px) h1) (oN (O.nm (p := py) h2) Au))
    refine ⟨fun pins s σ H v u Q I r q => p pins s σ H v u Q I r ?_,rfl⟩
    obtain ⟨a,x',y',e,sq,q⟩ := q
    rw [O.K] at sq
    exact ⟨a,[x',y'],e,sq,rfl,x',[y'],rfl,y',[],rfl,rfl,q⟩
end
end Fg
end
section
set_option autoImplicit false
namespace Fg
open PySem PySem.Spec L2
section
variable {G : Gm} {B : Bd} {Φ : aQ} {k : Nat}
structure zg (G : Gm) (B : Bd) (Φ : aQ) (k n : Nat) (X : Cx) (N : List Str) (sc : Scope) (b : Bool) (w : XS) : Prop where
 e : ∀ a c,eZ G n b N sc (.e a c) = true -> PE X a (T B Φ (GX b X w) c)
 t : ∀ a c,eZ G n b N sc (.t a c) = true -> PT X a (TB B Φ (GX b X w) c) /\ (∀ op v p,a = .BoolOp op v p -> PW X a (TB B Φ (GX b X w) c))
 es : ∀ a c,eZ G n b N sc (.es a c) = true -> PA X a (TL B Φ (GX b X w) c)
 o : ∀ a c,eZ G n b N sc (.o a c) = true -> PO X a (TP B Φ (GX b X w) c)
 i : b = false -> ∀ a c tg,(!Km c || isTup tg) = true -> eZ G n b N sc (.i a c) = true -> PI X tg a (C9 B Φ (GX b X w) c)
 s : ∀ a c,eZ G n b N sc (.s a c) = true -> PS X a (TC B Φ (GX b X w) c)
 ss : ∀ a c,eZ G n b N sc (.ss a c) = true -> jP X a (vm B Φ (GX b X w) c)
 m : ∀ a c,eZ G n b N sc (.m a c) = true -> PJ X B Φ (GX b X w) a c
theorem yW {E : Gx} {σ : L2.St} {H : Hp} {Q : VK} (h : T B Φ E .bad σ H Q) : False := by
 obtain ⟨σD,M,F,ρ,S,r,h⟩ := h
 simp only [ev] at h
 exact h
theorem Gy {E : Gx} {Dn : Ends} {σ : L2.St} {H : Hp} (h : TC B Φ E .bad Dn σ H) : False := by
 obtain ⟨σD,M,F,ρ,S,r,h⟩ := h
 simp only [ex] at h
 exact h
variable {X : Cx} {N : List Str} {sc : Scope} {b : Bool} {n : Nat} {w : XS}
theorem rX {a : Const} {d : D} {j : Nat} {p : Pos} {E : Gx} (h : BE a d = true) : PE X (.Constant a j p) (T B Φ E (.k d)) := by
 unfold BE at h
 split at h
 ·rw [of_decide_eq_true h]; exact PE.weak Ec fun _ _ _ => r9 rfl
 ·rw [of_decide_eq_true h]; exact PE.weak qx fun _ _ _ => r9 rfl
 ·rw [of_decide_eq_true h]; exact PE.weak HZ fun _ _ _ => r9 rfl
 ·exact PE.weak D9 fun _ _ _ => r9 rfl
 ·cases h
theorem Dk {tn : Expr} {tg : List Nat} (h : GU N sc tn tg = true) : (cH tn).length = tg.length := by
 cases tg with
 | nil => cases h
 | cons i r => cases r with
  | nil => replace h := bV h; obtain ⟨x,p,rfl,h⟩ := h; rfl
  | cons j r => cases r with
   | cons _ _ => cases h
   | nil =>
    replace h := qL h
    obtain ⟨as,k1,pt,rfl,h⟩ := h
    replace h := Fq h
    obtain ⟨l,r,rfl,h⟩ := h
    rfl
theorem n9 (O : fN G B Φ k X N sc false w) (ih : zg G B Φ k n X N sc false w) (FF : ∀ X' N' sc' w',fN G B Φ k X' N' sc' true w' -> zg G B Φ k n X' N' sc' true w') {caps tg : List Nat} {elt : Fg.E} {it : Src} {cond : Fg.O} {el tn iter : Expr} {ifs : List Expr} {scope : Scope}
  (h : Kd (Ge n) G false N sc caps tg elt it cond el tn iter ifs scope = true) :
  gJ X scope (eN N caps (cH tn)) caps tg.length /\ PI X tn iter (C9 B Φ (GX false X w) it) /\
   (∀ σ cl fp s H C,PG (dO X scope cl (eN N caps (cH tn)) fp s H C fun cv x H' => (GX false X w).e cv x σ H') tn (GH tg B.K) /\ GL (dO X scope cl (eN N caps (cH tn)) fp s H C fun cv x H' => (GX false X w).e cv x σ H') ifs (TBo B Φ (EB (GX false X w) σ) cond) /\ PE (dO X scope cl (eN N caps (cH tn)) fp s H C fun cv x H' => (GX false X w).e cv x σ H') el (T B Φ (EB (GX false X w) σ) elt)) /\ ∀ x,foldedSetIterable iter X.env x = pure x := by
 simp only [Kd,Bool.and_eq_true] at h
 obtain ⟨⟨⟨⟨⟨⟨h0,h1⟩,h2⟩,h3⟩,h4⟩,h5⟩,h6⟩ := h
 have hlen : (cH tn).length = tg.length := Dk h4
 obtain ⟨C1,C2⟩ := O.comp h2 hlen
 refine ⟨C1,ih.i rfl iter it tn h0 h3,fun σ cl fp s H C => ?_,set_plain h1⟩
 have OB := O.C6 (scope := scope) C2 cl fp s H C fun cv x H' => (GX false X w).e cv x σ H'
 have S := FF _ _ _ _ OB
 refine ⟨(OB.tg h4).1,?_,S.e el elt h5⟩
 cases cond with
 | none => cases ifs with
  | nil => exact Ak
  | cons _ _ => cases h6
 | some d =>
  replace h6 := g9 h6
  obtain ⟨c,rfl,h6⟩ := h6
  exact Aj (S.t c d h6).1
theorem Ho (O : fN G B Φ k X N sc b w) (ih : zg G B Φ k n X N sc b w) (FF : ∀ X' N' sc' w',fN G B Φ k X' N' sc' true w' -> zg G B Φ k n X' N' sc' true w') (a : Expr) (c : Fg.E) (h : eZ G (n + 1) b N sc (.e a c) = true) : PE X a (T B Φ (GX b X w) c) := by
 replace h := sI h
 rcases h with ⟨o,v,p,rfl,h⟩ | h
 ·exact D7 (ih.e _ _ h)
 ·cases c with
  | bad => exact fun _ _ _ _ _ _ q => (yW q).elim
  | v i =>
   replace h := bV h
   obtain ⟨x,p,rfl,h⟩ := h
   simp only [Bool.and_eq_true,decide_eq_true_eq] at h
   exact PE.weak (D5 (by rw [O.hN]; exact h.1.1) (O.vis h.1.2) (eE h.2).1 (eE h.2).2) fun _ _ _ => Hr
  | k d =>
   replace h := xD h
   obtain ⟨x,j,p,rfl,h⟩ := h
   exact rX h
  | g i =>
   replace h := bV h
   obtain ⟨x,p,rfl,h⟩ := h
   simp only [Bool.and_eq_true,decide_eq_true_eq] at h
   obtain ⟨v,u,q1,q2,q3⟩ := O.cst _ _ h.1.2
   exact PE.weak (Ax (O.nP h.1.1) q1 q2 (eE h.2).1) fun _ _ _ => Ht q3
  | tup cs =>
   replace h := qL h
   obtain ⟨as,j,p,rfl,h⟩ := h
   simp only [Bool.and_eq_true,decide_eq_true_eq] at h
   obtain ⟨hl,_⟩ := eB h.2
   refine PE.weak (D6 (ih.es _ _ h.2)) fun _ _ _ => zR fun q => ?_
   rw [aX q,hl]; exact Nat.le_trans h.1 (by decide)
  | lst fz cs =>
   replace h := E9 h
   obtain ⟨as,p,rfl,h⟩ := h
   simp only [Bool.and_eq_true,decide_eq_true_eq] at h
   obtain ⟨hl,_⟩ := eB h.2
   refine PE.weak (Eb (ih.es _ _ h.2)) fun _ _ _ => zY fun q => ?_
   rw [aX q,hl]; exact Nat.le_trans h.1 (by decide)
  | BD => cases h
  | op o fz x y =>
   replace h := Fo h
   obtain ⟨l,p,q,pos,rfl,h⟩ := h
   simp only [Bool.and_eq_true,decide_eq_true_eq] at h
   obtain ⟨⟨h1,h2⟩,h3⟩ := h
   subst h1
   exact PE.weak (HX (Ey O.K o) (ih.e _ _ h2) (ih.e _ _ h3)) fun _ _ _ => Dw
  | neg x =>
   replace h := xB h
   obtain ⟨o,l,p,rfl,h⟩ := h
   replace h := aF h
   obtain ⟨ho,h⟩ := h
   cases xN ho
   exact PE.weak (HV Di (ih.e _ _ h)) fun _ _ _ => zX
  | not x =>
   replace h := xB h
   obtain ⟨o,l,p,rfl,h⟩ := h
   replace h := aF h
   obtain ⟨ho,h⟩ := h
   cases sR ho
   exact PE.weak (D8 (ih.e _ _ h)) fun _ _ _ => rZ
  | and x y =>
   replace h := sO h
   obtain ⟨o,v,w,r,p,rfl,h⟩ := h
   replace h := aF h
   obtain ⟨h,h3⟩ := h
   replace h := aF h
   obtain ⟨h1,h2⟩ := h
   cases sU h1
   replace h := And.intro h2 h3
   exact PE.weak (Ef (ih.e _ _ h.1) (ih.e _ _ h.2)) fun _ _ _ => sr
  | or x y =>
   replace h := sO h
   obtain ⟨o,v,w,r,p,rfl,h⟩ := h
   replace h := aF h
   obtain ⟨h,h3⟩ := h
   replace h := aF h
   obtain ⟨h1,h2⟩ := h
   cases xP (by simpa using h1)
   replace h := And.intro h2 h3
   exact PE.weak (HW (ih.e _ _ h.1) (ih.e _ _ h.2)) fun _ _ _ => vR
  | cmp o x y =>
   replace h := xE h
   obtain ⟨l,p,q,pos,rfl,h⟩ := h
   simp only [Bool.and_eq_true,decide_eq_true_eq,Bool.not_eq_true'] at h
   obtain ⟨⟨⟨h1,h2⟩,h3⟩,h4⟩ := h
   subst h1
   exact PE.weak (Az (wI O.K O.rm' O.dk o) (ih.e _ _ h3) (ih.e _ _ h4) h2) fun _ _ _ => sf
  | y9 t x y =>
   replace h := Fe h
   obtain ⟨u,l,q,pos,rfl,h⟩ := h
   simp only [Bool.and_eq_true] at h
   exact PE.weak (wD (ih.t _ _ h.1.1).1 (ih.e _ _ h.1.2) (ih.e _ _ h.2)) fun _ _ _ => z7
  | idx x y =>
   replace h := qM h
   obtain ⟨l,q,pos,rfl,h⟩ := h
   simp only [Bool.and_eq_true] at h
   exact PE.weak (HY (Fz O.K O.dk) (ih.e _ _ h.1.2) (ih.e _ _ h.2) (vN h.1.1)) fun _ _ _ => z8
  | sl fz x lo hi =>
   replace h := qM h
   obtain ⟨l,q,pos,rfl,h⟩ := h
   replace h := EZ h
   obtain ⟨u,v,sp,rfl,h⟩ := h
   simp only [Bool.and_eq_true] at h
   exact PE.weak (wu (Dt O.K) (ih.e _ _ h.1.1) (ih.o _ _ h.1.2) (ih.o _ _ h.2)) fun _ _ _ => Dv
  | call f cs =>
   replace h := g8 h
   obtain ⟨x,p,as,pos,rfl,h⟩ := h
   simp only [Bool.and_eq_true,decide_eq_true_eq] at h
   obtain ⟨⟨⟨⟨h1,h2⟩,h3⟩,h4⟩,h5⟩ := h
   obtain ⟨fa,fd,ps,q1,q2,q3,q4⟩ := O.fns _ _ _ h3
   obtain ⟨hl,_⟩ := eB h5
   cases as with
   | nil =>
    refine PE.weak (uB q4 O.rm (O.nP h1) q1 q2 q3 O.fx (eE h2).1) fun _ _ _ q => ?_
    have := oz (fun z => by rw [aX z,hl]) q
    cases cs with
    | nil => exact gQ this
    | cons _ _ => simp [jq] at hl
   | cons e es =>
    simp only [List.all_cons,Bool.and_eq_true] at h4
    exact PE.weak (wF q4 O.rm (O.nP h1) q1 q2 q3 O.fx (ih.es _ _ h5) (eE h2).1 (az h4.1) (dj h4.2)) fun _ _ _ => oz (fun z => by rw [aX z,hl])
  | gp f cs d =>
   replace h := g8 h
   obtain ⟨x,p,as,pos,rfl,h⟩ := h
   simp only [Bool.and_eq_true,decide_eq_true_eq] at h
   obtain ⟨⟨⟨⟨⟨h1,h2⟩,h3⟩,h6⟩,h4⟩,h5⟩ := h
   obtain ⟨fa,fd,ps,du,q1,q2,q3,q5,q4⟩ := O.BC _ _ _ _ h3
   obtain ⟨hl,_⟩ := eB h5
   cases as with
   | nil => cases h6
   | cons e es =>
    simp only [List.all_cons,Bool.and_eq_true] at h4
    exact PE.weak (wG q4 O.rm (O.nP h1) q1 q2 q3 q5 O.fx (ih.es _ _ h5) (eE h2).1 (az h4.1) (dj h4.2)) fun _ _ _ => uo (fun z => by rw [aX z,hl])
  | vg x t =>
   replace h := g8 h
   obtain ⟨y,p,as,pos,rfl,h⟩ := h
   replace h := Fq h
   obtain ⟨l,z0,rfl,h⟩ := h
   replace h := bV h
   obtain ⟨z,zp,rfl,h⟩ := h
   simp only [Bool.and_eq_true,decide_eq_true_eq] at h
   obtain ⟨⟨⟨⟨⟨⟨⟨h1,h2⟩,h3⟩,h4⟩,h5⟩,h6⟩,h7⟩,h8⟩ := h
   subst h1 h2
   refine PE.weak (kc (yE O.K O.dk) (O.nP h3) (O.blt _ h5) boot_isinstance (cW (ih.e _ _ h8) (cW (AA (v := .ty (nU t)) (O.nP h4) (O.blt _ h6) (BU t) rfl (B7 t).1 (B7 t).2) gu) (az h7)) (by decide) (by decide) (az h7)) fun _ _ _ => zZ
  | blt kd fz cs =>
   replace h := g8 h
   obtain ⟨y,p,as,pos,rfl,h⟩ := h
   replace h := g9 h
   obtain ⟨l,rfl,h⟩ := h
   simp only [Bool.and_eq_true,decide_eq_true_eq] at h
   obtain ⟨⟨⟨⟨h1,h2⟩,h3⟩,h4⟩,h5⟩ := h
   have pa := ih.es _ _ h5
   cases kd <;> simp only [JG] at h1 <;> first | (cases h1; done) | cases h1
   ·exact PE.weak (kc (uX O.K O.dk) (O.nP h2) (O.blt _ h3) PySem.boot_len pa (by decide) (by decide) (az h4)) fun _ _ _ => sj
   ·exact PE.weak (lz (uW O.K) (O.nP h2) (O.blt _ h3) boot_list pa (by decide) (by decide) (az h4)) fun _ _ _ => sj
  | bK m fz x cs =>
   replace h := CF h
   obtain ⟨o,y,ap,as,cp,rfl,h⟩ := h
   simp only [Bool.and_eq_true] at h
   obtain ⟨⟨⟨h2,h4⟩,h5⟩,h⟩ := h
   cases hm : IF m with
   | true =>
    rw [hm] at h
    replace h := aF h
    obtain ⟨h1,h⟩ := h
    replace h := g9 h
    obtain ⟨l,rfl,h⟩ := h
    replace h := aF h
    obtain ⟨h3,h6⟩ := h
    cases m <;> first | (cases hm; done) | skip
    all_goals cases of_decide_eq_true h1
    ·refine PE.weak (Cw PySem.F.plainAttrs_list PySem.F.slot_list_append PySem.F.type_list_append lC (ih.e _ _ h5) (ih.es _ _ h6) (bF h2) ?_ h4 (az h3)) fun _ _ _ q => ?_
     ·rw [az h3]; rfl
     ·have := qf q
      rw [O.K] at this
      exact this
    ·refine PE.weak (Cw PySem.F.plainAttrs_list PySem.F.slot_list_extend PySem.F.type_list_extend AO (ih.e _ _ h5) (ih.es _ _ h6) (bF h2) ?_ h4 (az h3)) fun _ _ _ q => ?_
     ·rw [az h3]; rfl
     ·have := qe q
      rw [O.K] at this
      exact this
   | false =>
    rw [hm] at h
    replace h := aF h
    obtain ⟨h,h7⟩ := h
    replace h := aF h
    obtain ⟨h1,h6⟩ := h
    cases List.isEmpty_iff.mp h6
    cases iD h7
    replace h1 := of_decide_eq_true h1
    cases m <;> simp only [Cz] at h1 <;> first | (cases h1; done) | cases h1
    ·refine PE.weak (wH PySem.F.plainAttrs_list PySem.F.slot_list_pop PySem.F.type_list_pop EF (ih.e _ _ h5) (bF h2) h4) fun _ _ _ q => ?_
     have := zW q
     rw [O.K] at this
     exact this
    ·refine PE.weak (wH PySem.F.plainAttrs_list PySem.F.slot_list_reverse PySem.F.type_list_reverse qE (ih.e _ _ h5) (bF h2) h4) fun _ _ _ q => ?_
     have := om q
     rw [O.K] at this
     exact this
  | comp fz caps tg elt it cond =>
   replace h := aF h
   obtain ⟨h0,h⟩ := h
   cases b with
   | true => cases h0
   | false =>
    replace h := CD h
    obtain ⟨el,tn,iter,ifs,scope,p,rfl,h⟩ := h
    obtain ⟨C1,C2,C3,C4⟩ := n9 O ih FF h
    exact PE.weak (Aw (Ay O.calm C1 C2 O.fr O.fx C3 C4)) fun _ _ _ => ow
  | chain _ _ _ _ _ => cases h
  | tru _ => cases h
  | fld x f =>
   replace h := qN h
   obtain ⟨l,y,p,rfl,h⟩ := h
   simp only [Bool.and_eq_true,decide_eq_true_eq] at h
   obtain ⟨⟨⟨h1,h2⟩,h3⟩,h4⟩ := h
   subst h1
   exact PE.weak (Ed (ih.e _ _ h4) (bF h3)) fun _ _ _ => Aa fun c C hc => ⟨(O.cls c C hc).1,(O.cls c C hc).2 _ h2⟩
  | cF c m nm x cs =>
   replace h := CF h
   obtain ⟨o,y,ap,as,cp,rfl,h⟩ := h
   simp only [Bool.and_eq_true,decide_eq_true_eq] at h
   obtain ⟨⟨⟨⟨⟨⟨⟨h1,h2⟩,h3⟩,h4⟩,h5⟩,h6⟩,h7⟩,h8⟩ := h
   subst h1
   obtain ⟨C,fa,fd,ps,q1,q2,q3,q4⟩ := O.AN _ _ _ _ h5
   obtain ⟨hl,_⟩ := eB h8
   cases as with
   | nil =>
    refine PE.weak (uz (ih.e _ _ h7) (O.cls _ _ q1).1 q2 q4 O.rm q3 O.fx (lD (bF h2) h6 h4 h3)) fun _ _ _ q => ?_
    have := rY (n := 1) q1 (fun z => by rw [aX z,hl]; rfl) q
    cases cs with
    | nil =>
     obtain ⟨σD,M,F,ρ,S,r,z⟩ := this
     exact ⟨σD,M,F,ρ,S,r,ai.imp z fun v H' ⟨a,dx,fs,z1,z2,z3,z4⟩ => ⟨a,dx,fs,z1,z2,z3,gQ z4⟩⟩
    | cons _ _ => simp [jq] at hl
   | cons e es =>
    simp only [List.all_cons,Bool.and_eq_true] at h6
    exact PE.weak (wA (ih.e _ _ h7) (O.cls _ _ q1).1 q2 q4 O.rm q3 O.fx (ih.es _ _ h8) (az h6.1) (dj h6.2) (lD (bF h2) (by simp [h6.1,h6.2]) h4 h3)) fun _ _ _ => rY q1 (fun z => by rw [aX z,hl])
  | new c i cs =>
   replace h := g8 h
   obtain ⟨x,p,as,pos,rfl,h⟩ := h
   simp only [Bool.and_eq_true,decide_eq_true_eq] at h
   obtain ⟨⟨⟨⟨h1,h2⟩,h3⟩,h4⟩,h5⟩ := h
   obtain ⟨C,fa,fd,ps,q1,q2,q3,q4,q5⟩ := O.Iu _ _ _ _ h3
   obtain ⟨hl,_⟩ := eB h5
   rcases q5 with ⟨j,rfl,q5⟩ | q5
   ·cases as with
    | nil =>
     refine PE.weak (uA q3 q5 O.rm (O.nP h1) q1 q4 O.fx (eE h2).1) fun _ _ _ q => ?_
     have := r6 (n := 1) q2 (fun z => by rw [aX z,hl]; rfl) q
     cases cs with
     | nil => exact gQ this
     | cons _ _ => simp [jq] at hl
    | cons e es =>
     simp only [List.all_cons,Bool.and_eq_true] at h4
     exact PE.weak (wC q3 q5 O.rm (O.nP h1) q1 q4 O.fx (ih.es _ _ h5) (eE h2).1 (az h4.1) (dj h4.2)) fun _ _ _ => r6 q2 (fun z => by rw [aX z,hl])
   ·cases as with
    | nil =>
     intro pins s σ H Q I q
     have := oq q5 q
     cases cs with
     | nil => exact (gQ this).elim
     | cons _ _ => simp [jq] at hl
    | cons e es =>
     simp only [List.all_cons,Bool.and_eq_true] at h4
     exact PE.weak (wB q3 (O.nP h1) q1 (ih.es _ _ h5) (eE h2).1 (az h4.1) (dj h4.2)) fun _ _ _ => oq q5
  | mx hi x y => cases h
  | x8 f x =>
   replace h := g8 h
   obtain ⟨y,p,as,pos,rfl,h⟩ := h
   replace h := g9 h
   obtain ⟨l,rfl,h⟩ := h
   simp only [Bool.and_eq_true,decide_eq_true_eq] at h
   obtain ⟨⟨⟨⟨h1,h2⟩,h3⟩,h4⟩,h5⟩ := h
   subst h1
   have pa := cW (ih.e _ _ h5) gu (az h4)
   cases f
   ·exact PE.weak (kc uZ (O.nP h2) (O.blt _ h3) PyProof.Rows.boot_abs pa (by decide) (by decide) (az h4)) fun _ _ _ => sd
   ·exact PE.weak (lz uY (O.nP h2) (O.blt _ h3) (show bootBuiltins ("int" : Str) = some (.type "int") by decide +kernel) pa (by decide) (by decide) (az h4)) fun _ _ _ => sd
  | all1 x => cases h
  | Kc fz x y => cases h
end
end Fg
end
section
set_option autoImplicit false
namespace Fg
open PySem PySem.Spec L2
section
variable {G : Gm} {B : Bd} {Φ : aQ} {k : Nat} {X : Cx} {N : List Str} {sc : Scope} {b : Bool} {n : Nat} {w : XS}
theorem Hi (O : fN G B Φ k X N sc b w) (ih : zg G B Φ k n X N sc b w) (a : Expr) (c : Fg.E) (h : eZ G (n + 1) b N sc (.t a c) = true) :
  PT X a (TB B Φ (GX b X w) c) /\ (∀ op v p,a = .BoolOp op v p -> PW X a (TB B Φ (GX b X w) c)) := by
 replace h := sI h
 rcases h with ⟨op,v,p,rfl,h⟩ | h
 ·have pt := (ih.t _ _ h).1
  have pw : PW X (.BoolOp op [v] p) (TB B Φ (GX b X w) c) := by
   cases op
   ·exact pw_and1 pt
   ·exact pw_or1 pt
  exact ⟨pw.pt,fun _ _ _ _ => pw⟩
 ·have notB : ∀ {P : Prop},qD a = true -> (∀ op v p,a = .BoolOp op v p -> P) := fun hq op v p e => by subst e; simp [qD] at hq
  have plain : qD a = true -> eZ G n b N sc (.e a c) = true -> PT X a (TB B Φ (GX b X w) c) /\ (∀ op v p,a = .BoolOp op v p -> PW X a (TB B Φ (GX b X w) c)) := fun h1 h2 =>
   ⟨DR (ih.e _ _ h2) (ud h1),notB h1⟩
  have jc : (qD a && eZ G n b N sc (.e a c)) = true -> PT X a (TB B Φ (GX b X w) c) /\ (∀ op v p,a = .BoolOp op v p -> PW X a (TB B Φ (GX b X w) c)) := fun hq => by
   simp only [Bool.and_eq_true] at hq; exact plain hq.1 hq.2
  cases c with
  | bad => exact ⟨fun _ _ _ _ _ _ q => (yW q).elim,fun _ _ _ _ _ _ _ _ _ _ _ q => (yW q).elim⟩
  | cmp o x y =>
   replace h := xE h
   obtain ⟨l,p,q,pos,rfl,h⟩ := h
   ·simp only [Bool.and_eq_true,decide_eq_true_eq,Bool.not_eq_true'] at h
    obtain ⟨⟨⟨h1,h2⟩,h3⟩,h4⟩ := h
    subst h1
    exact ⟨PT.weak (Al (wI O.K O.rm' O.dk o) (ih.e _ _ h3) (ih.e _ _ h4) h2) fun _ _ _ => sf,fun _ _ _ e => by cases e⟩
  | not x =>
   replace h := xB h
   obtain ⟨o,l,p,rfl,h⟩ := h
   replace h := aF h
   obtain ⟨ho,h⟩ := h
   cases sR ho
   exact ⟨PT.weak (DS (ih.t _ _ h).1) fun _ _ _ => vU,fun _ _ _ e => by cases e⟩
  | and x y =>
   replace h := sO h
   obtain ⟨o,v,w',r,p,rfl,h⟩ := h
   replace h := aF h
   obtain ⟨h,h3⟩ := h
   replace h := aF h
   obtain ⟨h1,h2⟩ := h
   cases sU h1
   have pw := PW.weak (pw_and (ih.t _ _ h2).1 ((ih.t _ _ h3).2 _ _ _ rfl)) fun _ _ _ => vV
   exact ⟨pw.pt,fun _ _ _ _ => pw⟩
  | or x y =>
   replace h := sO h
   obtain ⟨o,v,w',r,p,rfl,h⟩ := h
   replace h := aF h
   obtain ⟨h,h3⟩ := h
   replace h := aF h
   obtain ⟨h1,h2⟩ := h
   cases xP (by simpa using h1)
   have pw := PW.weak (pw_or (ih.t _ _ h2).1 ((ih.t _ _ h3).2 _ _ _ rfl)) fun _ _ _ => Ab
   exact ⟨pw.pt,fun _ _ _ _ => pw⟩
  | v i => exact jc h
  | k d => exact jc h
  | g i => exact jc h
  | tup cs => exact jc h
  | lst fz cs => exact jc h
  | BD => exact jc h
  | op o fz x y => exact jc h
  | neg x => exact jc h
  | chain _ _ _ _ _ => exact jc h
  | tru _ => exact jc h
  | y9 _ _ _ => exact jc h
  | idx _ _ => exact jc h
  | sl _ _ _ _ => exact jc h
  | call _ _ => exact jc h
  | vg _ _ => exact jc h
  | blt _ _ _ => exact jc h
  | bK _ _ _ _ => exact jc h
  | comp _ _ _ _ _ _ => exact jc h
  | fld _ _ => exact jc h
  | cF _ _ _ _ _ => exact jc h
  | new _ _ _ => exact jc h
  | mx _ _ _ => exact jc h
  | Kc _ _ _ => exact jc h
  | all1 _ => exact jc h
  | x8 _ _ => exact jc h
  | gp _ _ _ => exact jc h
theorem Hl (O : fN G B Φ k X N sc b w) (ih : zg G B Φ k n X N sc b w) (hb : b = false) (a : Expr) (c : Src) (tg : Expr) (hz : (!Km c || isTup tg) = true) (h : eZ G (n + 1) b N sc (.i a c) = true) : PI X tg a (C9 B Φ (GX b X w) c) := by
 subst hb
 cases c with
 | e c =>
  replace h := aF h
  obtain ⟨_,h⟩ := h
  exact PI.weak (D3 O.K (ih.e _ _ h)) fun _ _ _ => DA
 | gK c =>
  replace h := g8 h
  obtain ⟨y,p,as,pos,rfl,h⟩ := h
  replace h := g9 h
  obtain ⟨l,rfl,h⟩ := h
  simp only [Bool.and_eq_true,decide_eq_true_eq] at h
  obtain ⟨⟨⟨⟨h1,h2⟩,h3⟩,h4⟩,h5⟩ := h
  subst h1
  exact PI.weak (uy (O.nP h2) (O.blt _ h3) (cW (ih.e _ _ h5) gu (az h4)) (az h4)) fun _ _ _ => zT
 | DJ c d => cases h
 | enum _ => cases h
 | items _ => cases h
 | rev c =>
  replace h := g8 h
  obtain ⟨y,p,as,pos,rfl,h⟩ := h
  replace h := g9 h
  obtain ⟨l,rfl,h⟩ := h
  simp only [Bool.and_eq_true,decide_eq_true_eq] at h
  obtain ⟨⟨⟨⟨h1,h2⟩,h3⟩,h4⟩,h5⟩ := h
  subst h1
  refine PI.weak (D0 (O.nP h2) (O.blt _ h3) (cW (ih.e _ _ h5) gu (az h4)) (az h4)) fun _ _ _ q => ?_
  have := zU q
  rw [O.K] at this
  exact this
 | zip c d => cases h
theorem swap_eq (O : fN G B Φ k X N sc b w) {el tn iter : Expr} {ifs : List Expr} {scope : Scope} {lp px p : Pos} {x : Str} : swapsWith (.ListComp el [⟨tn,iter,ifs,0⟩] scope lp) (some (.Name x px)) p.line X.env = pure (vD sc scope x px lp) := by
 rw [<- O.hsc]; rfl
theorem zQ {E : Gx} {Dn : Ends} {σ : L2.St} {H : Hp} {tg : List Nat} {e : Fg.E} (h : TC B Φ E (.Dh tg e) Dn σ H) : vB (T B Φ E e) (GH tg B.K) Dn σ H := by
 obtain ⟨σD,M,F,ρ,S,r,h⟩ := h
 simp only [ex] at h
 refine TC.one S r h fun x M1 F1 ρ1 H1 v e1 S1 r1 rx h1 => ?_
 split at h1
 ·rename_i σ1 hs
  exact jY r1 rx hs fun σ' q => aN.run h1 S1 σ' q
 ·exact h1.elim
theorem vJ (O : fN G B Φ k X N sc false w) : ∀ {hds : List ExceptHandler} {hs : Hs},hdB G N sc hds hs = true -> ∃ rs,GN B Φ (GX false X w) B.JU hs = some rs /\ ∀ pins,PH (gb X pins) hds rs
 | [],hs,h => by
  cases Be (c := hs) h
  exact ⟨[],rfl,fun _ => .nil⟩
 | hd :: r,hs,h => by
  replace h := ID h
  obtain ⟨t,bd,hp,rfl,h⟩ := h
  replace h := bV h
  obtain ⟨x,np,rfl,h⟩ := h
  replace h := g9 h
  obtain ⟨st,rfl,h⟩ := h
  replace h := kr h
  obtain ⟨ty,e,p,rfl,h⟩ := h
  replace h := bV h
  obtain ⟨y,py,rfl,h⟩ := h
  replace h := xD h
  obtain ⟨cst,j,kp,rfl,h⟩ := h
  replace h := IE h
  obtain ⟨cs,b,hs',rfl,h⟩ := h
  replace h := g9 h
  obtain ⟨c,rfl,h⟩ := h
  replace h := CG h
  obtain ⟨s,ss,rfl,h⟩ := h
  replace h := aF h
  obtain ⟨hss,h⟩ := h
  cases l9 hss
  replace h := Ft h
  obtain ⟨i,v,rfl,h⟩ := h
  replace h := jK_t h
  obtain ⟨d,rfl,h⟩ := h
  simp only [Bool.and_eq_true,decide_eq_true_eq] at h
  obtain ⟨⟨⟨⟨⟨⟨h1,h2⟩,h3⟩,h4⟩,h5⟩,h6⟩,h7⟩ := h
  obtain ⟨rs,hrs,ph⟩ := vJ O h7
  obtain ⟨C,bmB,newId,bm,base,initId,q1,q2,q3,q4,q5,q6⟩ := O.exc _ _ h3
  refine ⟨(C,vm B Φ (GX false X w) (.cons (.set i (.k d)) .nil)) :: rs,by simp only [GN,q2,hrs],fun pins => .cons q1 (O.nP h1) (eE h2).1 q4 q6 (fun e => ?_) (ph pins)⟩
  have ps : PS (suite (gb X pins) e) (.Assign [.Name y py] (.Constant cst j kp) p) (TC B Φ (GX false X w) (.set i (.k d))) :=
   PS.weak (wm (X := suite (gb X pins) e) (by show X.N.Nodup; rw [O.hN]; exact O.nd) (by show X.N[i]? = some y; rw [O.hN]; exact h4) (O.loc h5) (rX h6) (gY rfl) (.inl (O.fn rfl y))) fun _ _ _ => mj
  exact jP.weak (oK ps (jP.weak sE fun _ _ _ => oj)) fun _ _ _ => k9
theorem zJ {Y : Cx} {E : Value -> Shared -> Prop} {pins : List (Addr × Obj)} {D : Ends} {f : Flow} {s' : Shared} (h : SP Y pins D f s') : SP (Y.bI E) pins D f s' := by
 cases f with
 | next => obtain ⟨σ',H',I,q⟩ := h; exact ⟨σ',H',I.bI _,q⟩
 | brk => obtain ⟨σ',H',I,q⟩ := h; exact ⟨σ',H',I.bI _,q⟩
 | cont => obtain ⟨σ',H',I,q⟩ := h; exact ⟨σ',H',I.bI _,q⟩
 | ret u => obtain ⟨v,σ',H',I,r,q⟩ := h; exact ⟨v,σ',H',I.bI _,r,q⟩
theorem zK {rs : List (Addr × TS)} {pins : List (Addr × Obj)} {D : Ends} {x : Ss} {bd : List Stmt} (Kn : ∀ G' X' N' sc' b' w',fN G' B Φ k X' N' sc' b' w' -> zg G' B Φ k n X' N' sc' b' w') (O : fN G B Φ k X N sc false w) (h : eZ { G with rz := false } n false N sc (.ss bd x) = true) :
  jP ((gb X pins).bI (iL (gb X pins) (EH X.K rs D))) bd (vm B Φ (GX false X (EH X.K rs D)) x) := by
 have O' : fN { G with rz := false } B Φ k ((gb X pins).bI (iL (gb X pins) (GX false (gb X pins) (EH X.K rs D)).e)) N sc false (EH X.K rs D) :=
  ⟨O.hN,O.nd,O.hsc,O.K,O.calm,O.rm,O.dk,(fun e s ⟨p,σ,H,a,a0,C,B,h1,I,h⟩ => .inl ⟨p,σ,H,a,a0,C,B,h1,I.bI _,h⟩),(fun e s ⟨p,σ,H,a,a0,C,B,h1,I,h⟩ => ⟨p,σ,H,a,a0,C,B,h1,I.aY,h⟩),(fun _ h => by cases h),(by
   obtain ⟨env,outer,L,h1,h2,h3⟩ := O.fr
   exact ⟨env,outer,L,h1,h2,h3⟩),O.fn,O.fns,O.cst,O.blt,O.cls,O.AN,O.Iu,O.exc,O.GJ,O.BC,O.st⟩
 have P := (Kn _ _ _ _ _ _ O').ss bd x h
 intro HU s σ H Dn I q
 exact wpAny_mono (P HU s σ H Dn (I.aY.bI _) q) (fun _ _ z => zJ (SP.aY z)) fun e s2 z => o7 z
theorem zS {rs : List (Addr × TS)} {hs : Hs} {x : Ss} {Dn : Ends} {σ : L2.St} {H : Hp} (O : fN G B Φ k X N sc false w) (hrs : GN B Φ (GX false X w) B.JU hs = some rs) (h : TC B Φ (GX false X w) (.try x hs .nil) Dn σ H) : vm B Φ (GX false X (EH X.K rs Dn)) x Dn σ H := by
 obtain ⟨σD,M,F,ρ,S,r,h⟩ := h
 simp only [ex] at h
 refine ⟨σD,M,F,ρ,S,r,?_⟩
 cases hx : exs Φ x σD M with
 | bad => rw [hx] at h; exact h
 | exc c M1 => rw [hx] at h; exact h
 | ok o M1 =>
  rw [hx] at h
  simp only [R.af] at h
  intro F1 ρ1 H1 e1 S1
  cases o with
  | nx σ1 => simp only [exs] at h; exact h F1 ρ1 H1 e1 S1
  | rt d => exact h F1 ρ1 H1 e1 S1
  | bk σ1 => exact h F1 ρ1 H1 e1 S1
  | ct σ1 => exact h F1 ρ1 H1 e1 S1
  | xc c σ1 =>
   intro σ' cv x' r1 hcv
   obtain ⟨C,bmB,newId,bm,rfl,EC,sub⟩ := O.GJ c cv hcv
   obtain ⟨t,pk,ht⟩ := se (mro := .ref C :: bm) sub hrs S1 r1 (aN.weak e1 h)
   exact ⟨H1,.refl _,C,bmB,newId,bm,t,rfl,EC,pk,ht⟩
theorem Hj (O : fN G B Φ k X N sc b w) (ih : zg G B Φ k n X N sc b w) (Kn : ∀ G' X' N' sc' b' w',fN G' B Φ k X' N' sc' b' w' -> zg G' B Φ k n X' N' sc' b' w') (a : Stmt) (c : S) (h : eZ G (n + 1) b N sc (.s a c) = true) : PS X a (TC B Φ (GX b X w) c) := by
 have FF := fun X' N' sc' w' (O' : fN G B Φ k X' N' sc' true w') => Kn G X' N' sc' true w' O'
 have hp : PassesOwn (model X.prog X.w) X.A X.env X.xe := qy O.fr O.fo O.fx
 cases c with
 | bad => exact fun _ _ _ _ _ _ q => (Gy q).elim
 | set i c =>
  replace h := kr h
  obtain ⟨t,e,p,rfl,h⟩ := h
  replace h := IC h
  obtain ⟨x,px,rfl,h⟩ := h
  simp only [Bool.and_eq_true,decide_eq_true_eq] at h
  obtain ⟨⟨⟨h3,h1⟩,h2⟩,h4⟩ := h
  cases b with
  | true => cases h3
  | false =>
   have st : eZ G n false N sc (.e e c) = true -> swapsWith e (some (.Name x px)) p.line X.env = pure false -> PS X (.Assign [.Name x px] e p) (TC B Φ (GX false X w) (.set i c)) := fun q w =>
    PS.weak (wm (by rw [O.hN]; exact O.nd) (by rw [O.hN]; exact h1) (O.loc h2) (ih.e _ _ q) w (.inl (O.fn rfl x))) fun _ _ _ => mj
   replace h4 := Bb h4
   rcases h4 with ⟨fz,caps,tg,elt,it,cond,rfl,h4⟩ | h4
   ·obtain ⟨el,tn,iter,ifs,scope,lp,rfl,h4⟩ := CD h4
    cases hs : vD sc scope x px lp with
    | true =>
     rw [hs] at h4
     replace h4 := aF h4
     obtain ⟨h4,k7⟩ := h4
     obtain ⟨C1,C2,C3,C4⟩ := n9 O ih FF h4
     have hl : X.env.scope.names.lookup x = some .local := by rw [O.hsc]; exact xq k7
     refine PS.weak (sF (Am (by rw [O.hN]; exact O.nd) (by rw [O.hN]; exact h1) hl O.calm C1 C2 O.fr O.fx C3 C4 (by rw [swap_eq O,hs]))) fun D σ H q => ?_
     exact ow (mj q)
    | false =>
     rw [hs] at h4
     exact st h4 (by rw [swap_eq O,hs])
   ·replace h4 := aF h4
    obtain ⟨q1,q2⟩ := h4
    exact st q2 (gY q1)
 | kP x y c =>
  replace h := kr h
  obtain ⟨t,e,p,rfl,h⟩ := h
  replace h := qM h
  obtain ⟨o,i,q,rfl,h⟩ := h
  simp only [Bool.and_eq_true] at h
  obtain ⟨⟨⟨h1,h2⟩,h3⟩,h4⟩ := h
  exact PS.weak (An O.rm' (ih.e _ _ h3) (ih.e _ _ h4) (ih.e _ _ h2) (gY h1)) fun _ _ _ => vP
 | ex c =>
  replace h := Fj h
  obtain ⟨e,p,rfl,h⟩ := h
  replace h := aF h
  obtain ⟨h1,h2⟩ := h
  exact PS.weak (Ao (ih.e _ _ h2) (gY h1)) fun _ _ _ => DB
 | ret c =>
  replace h := E1 h
  rcases h with ⟨p,rfl,h⟩ | ⟨e,p,rfl,h⟩
  ·cases h
  ·exact PS.weak (DU (ih.e _ _ h)) fun _ _ _ => zV
 | DK => cases h
 | ifs c x y =>
  replace h := Fc h
  obtain ⟨t,l,q,p,rfl,h⟩ := h
  replace h := aF h
  obtain ⟨h,h3⟩ := h
  replace h := aF h
  obtain ⟨h1,h2⟩ := h
  exact PS.weak (HQ (ih.t _ _ h1).1 (ih.ss _ _ h2) (ih.ss _ _ h3)) fun _ _ _ => z6
 | «for» tg it x =>
  replace h := Fi h
  obtain ⟨tn,iter,body,p,rfl,h⟩ := h
  simp only [Bool.and_eq_true] at h
  obtain ⟨⟨⟨⟨⟨h0,hz⟩,h1⟩,h2⟩,h3⟩,h4⟩ := h
  cases b with
  | true => cases h0
  | false => exact PS.weak (sF (DW hp O.calm (ih.i rfl _ _ _ hz h2) (O.tg h3).1 (ih.ss _ _ h4) (set_plain h1))) fun _ _ _ => z9
 | «while» c x =>
  replace h := IA h
  obtain ⟨t,body,p,rfl,h⟩ := h
  replace h := aF h
  obtain ⟨h1,h2⟩ := h
  exact PS.weak (wj hp (ih.t _ _ h1).1 (ih.ss _ _ h2)) fun _ _ _ => um
 | brk => cases h
 | cont => cases h
 | pass => cases h
 | bJ x f c =>
  replace h := kr h
  obtain ⟨t,e,p,rfl,h⟩ := h
  replace h := qN h
  obtain ⟨o,y,q,rfl,h⟩ := h
  simp only [Bool.and_eq_true,decide_eq_true_eq] at h
  obtain ⟨⟨⟨⟨h1,h2⟩,h3⟩,h4⟩,h5⟩ := h
  subst h1
  exact PS.weak (DX (ih.e _ _ h5) (ih.e _ _ h4) (gY h3)) fun _ _ _ => vQ fun c C hc => ⟨(O.cls c C hc).1,(O.cls c C hc).2 _ h2⟩
 | Dh tg c =>
  replace h := kr h
  obtain ⟨tn,e,p,rfl,h⟩ := h
  simp only [Bool.and_eq_true] at h
  obtain ⟨⟨⟨⟨h0,h1⟩,h2⟩,h3⟩,h4⟩ := h
  cases tn <;> first | (cases h1; done) | skip
  cases e <;> first | (cases h3; done) | skip
  exact PS.weak (DY (ih.e _ _ h4) (O.tg h2).1 rfl rfl rfl) fun _ _ _ => zQ
 | raise c es =>
  replace h := aF h
  obtain ⟨h,h'⟩ := h
  replace h := aF h
  obtain ⟨hb,hz⟩ := h
  cases b with
  | true => cases hb
  | false =>
   replace h' := E3 h'
   obtain ⟨e,pos,rfl,h⟩ := h'
   replace h := g8 h
   obtain ⟨x,np,as,cp,rfl,h⟩ := h
   replace h := g9 h
   obtain ⟨m,rfl,h⟩ := h
   simp only [Bool.and_eq_true,decide_eq_true_eq] at h
   obtain ⟨⟨⟨h1,h2⟩,h3⟩,h4⟩ := h
   obtain ⟨C,bmB,newId,bm,base,initId,q1,q2,q3,q4,q5,q6⟩ := O.exc _ _ h3
   replace h4 := E7 h4
   rcases h4 with ⟨z,j,p,rfl,h4⟩ | ⟨vs,p,rfl,h4⟩
   ·cases iD h4
    refine PS.weak (oM q1 (O.nP h1) (eE h2).1 q4 q5 O.calm rfl (cW qx gu rfl) (O.nx rfl hz)) fun D σ H q => ?_
    exact ⟨by show 1 <= 2 ^ 24; decide,(lg q3 q).nil⟩
   ·simp only [Bool.and_eq_true,decide_eq_true_eq] at h4
    refine PS.weak (oM q1 (O.nP h1) (eE h2).1 q4 q5 O.calm rfl (cW (Ea (ih.m _ _ h4.2) h4.1.1 h4.1.2) gu rfl) (O.nx rfl hz)) fun D σ H q => ?_
    obtain ⟨σD,M,F,ρ,S,r,z⟩ := lg q3 q
    exact ⟨σD,M,F,ρ,S,r,ai.imp z fun _ H' z y => ⟨by show 1 <= 2 ^ 24; decide,z⟩⟩
 | «try» x hs els =>
  replace h := aF h
  obtain ⟨h,h'⟩ := h
  replace h := aF h
  obtain ⟨hb,he⟩ := h
  cases b with
  | true => cases hb
  | false =>
   cases l9 he
   replace h' := EW h'
   obtain ⟨bd,h₀,hr,p,rfl,h⟩ := h'
   replace h := aF h
   obtain ⟨h1,h2⟩ := h
   obtain ⟨rs,hrs,ph⟩ := vJ O h2
   exact PS.weak (DT (O.st rfl).1 (O.st rfl).2 (fun pins D => zK Kn O h1) ph) fun D σ H q => zS O hrs q
theorem sound : ∀ (n : Nat) {G : Gm} {X : Cx} {N : List Str} {sc : Scope} {b : Bool} {w : XS},fN G B Φ k X N sc b w -> zg G B Φ k n X N sc b w
 | 0,G,X,N,sc,b,w,O => ⟨fun _ _ h => (by cases h),fun _ _ h => (by cases h),fun _ _ h => (by cases h),fun _ _ h => (by cases h),fun _ _ _ _ _ h => (by cases h),fun _ _ h => (by cases h),fun _ _ h => (by cases h),fun _ _ h => (by cases h)⟩
 | n + 1, G, X, N, sc, b, w, O => by
  have ih := sound n O
  have FF := fun X' N' sc' w' (O' : fN G B Φ k X' N' sc' true w') => sound n O'
  refine ⟨Ho O ih FF,Hi O ih,fun a c h => ?_,fun a c h => ?_,fun hb => Hl O ih hb,Hj O ih (fun G' X' N' sc' b' w' O' => sound n O'),fun a c h => ?_,fun a c h => ?_⟩
  ·cases a with
   | nil =>
    cases iD (c := c) h
    exact PA.weak gu fun _ _ _ => gQ
   | cons a as =>
    replace h := xJ (c := c) h
    obtain ⟨c,cs,rfl,h⟩ := h
    replace h := aF h
    obtain ⟨h,h3⟩ := h
    replace h := aF h
    obtain ⟨h1,h2⟩ := h
    exact PA.weak (cW (ih.e _ _ h2) (ih.es _ _ h3) (az h1)) fun _ _ _ => vS
  ·cases c with
   | none =>
    cases a with
    | none => exact PO.weak As fun _ _ _ => Dz
    | some _ => cases h
   | some c =>
    cases a with
    | none => cases h
    | some a => exact PO.weak (Ar (ih.e _ _ h)) fun _ _ _ => Dy
  ·cases a with
   | nil =>
    cases l9 (c := c) h
    exact jP.weak sE fun _ _ _ => oj
   | cons a as =>
    replace h := CG (c := c) h
    obtain ⟨c,cs,rfl,h⟩ := h
    replace h := aF h
    obtain ⟨h1,h2⟩ := h
    exact jP.weak (oK (ih.s _ _ h1) (ih.ss _ _ h2)) fun _ _ _ => k9
  ·cases a with
   | nil =>
    cases iD (c := c) h
    exact .nil
   | cons a as =>
    replace h := E5 h
    rcases h with ⟨y,j,p,rfl,h⟩ | ⟨v,j,p,rfl,h⟩
    ·replace h := aF h
     obtain ⟨h1,h2⟩ := h
     exact .lit (of_decide_eq_true h1) (ih.m _ _ h2)
    ·replace h := xJ h
     obtain ⟨e,es,rfl,h⟩ := h
     simp only [Bool.and_eq_true,decide_eq_true_eq] at h
     obtain ⟨⟨h1,h2⟩,h3⟩ := h
     subst h1
     exact .fld (ih.e _ _ h2) (ih.m _ _ h3)
end
end Fg
end
section
set_option autoImplicit false
namespace Fg
open PySem PySem.Spec L2
inductive Dd : List DictEntry -> List (Key × V) -> Prop
 | nil : Dd [] []
 | cons {h : Int} {x : Str} {t : Tok} {u : Value} {v : V} {es : List DictEntry} {kvs : List (Key × V)} : RelV v u -> Dd es kvs -> Dd (⟨h,.str x t,u⟩ :: es) ((Sum.inr x,v) :: kvs)
noncomputable def K0 (w : World) (K : W.Frag) (a : Addr) (kvs : List (Key × V)) : Prop :=
 kvs.length <= sizeLine /\ (a == sysModules) = false /\ (kvs.map (·.1)).Nodup /\ ∃ es n, K.lookup a = some ⟨.type "dict", none, .dict es n, #[]⟩ /\ W.KeysLit w.params es.toList /\ Dd es.toList kvs
theorem Dd.vs {prog : Program} {w : World} : ∀ {es : List DictEntry} {kvs : List (Key × V)},Dd es kvs -> ∃ vs,KV kvs vs /\ Pairs (aJ prog w) es vs /\ vs.map (·.1) = kvs.map (·.1)
 | _,_,.nil => ⟨[],.nil,.nil,rfl⟩
 | _,_,.cons (h := h) (x := x) (t := t) (u := u) r q => by
  obtain ⟨vs,h1,h2,h3⟩ := Dd.vs q
  exact ⟨(Sum.inr x,u) :: vs,.cons ⟨rfl,r⟩ h1,.cons (iT x t) rfl h2,by simp [h3]⟩
theorem K0.ok {prog : Program} {w : World} {K : W.Frag} {a : Addr} {kvs : List (Key × V)} (d : K0 w K a kvs) (h : Heap) (X : K.In h) : kvs.length <= sizeLine /\ (a == sysModules) = false /\ ∃ vs,KV kvs vs /\ h.DictOf (aJ prog w) a vs := by
 obtain ⟨h1,h2,h3,es,n,h4,h5,h6⟩ := d
 obtain ⟨vs,q1,q2,q3⟩ := Dd.vs (prog := prog) (w := w) h6
 refine ⟨h1,h2,vs,q1,_,es,n,X _ _ h4,⟨rfl,rfl,rfl⟩,rfl,fun e he => ?_,q2,by rw [q3]; exact h3⟩
 obtain ⟨x,t,e1,e2⟩ := h5.all e (Array.mem_toList_iff.mpr he)
 exact ⟨Sum.inr x,by rw [e1]; exact iT x t,e2⟩
theorem FT {K : W.Frag} {C : Addr} {bmB : List Value} {newId : String} (q : W.excIn K C bmB newId = true) : ∃ bm,pT K C bmB newId bm /\ ∀ v b,W.mroIn K C v = some b -> (Value.ref C :: bm).contains v = b := by
 unfold W.excIn at q
 split at q
 ·rename_i dd cd sl lk
  split at q
  ·rename_i C2 bm a0 a1 a2 a3 n a5 hm hs
   simp only [beq_iff_eq,Bool.not_eq_true',Bool.and_eq_true] at q; obtain ⟨⟨⟨⟨⟨rfl,rfl⟩,dl⟩,ht⟩,hok⟩,hni⟩ := q
   obtain ⟨nm,bs,mr,ns,qn,hd,sn,sb,ab,cl,dl'⟩ := cd; dsimp only at hm dl hok hni; subst hm dl
   obtain ⟨l⟩ := sl
   simp only at hs
   subst hs
   refine ⟨bm,⟨nm,qn,ns,bs,hd,sn,sb,ab,cl,dd,a0,a1,a2,a3,a5,lk,hok,hni,ht⟩,fun v b e => ?_⟩
   unfold W.mroIn W.clsIn at e
   rw [lk] at e
   simpa using e
  ·cases q
 ·cases q
theorem jO {C : Addr} {bm : List Value} {s : String} (h : (Value.ref C :: bm).contains (.type s) = true) : bm.contains (.type s) = true := by
 rw [List.contains_cons] at h
 simpa using h
noncomputable def kT (w : World) (K : W.Frag) (cl : Nat -> Option Addr) (xc : Nat -> Option Addr) : Bd := ⟨K,K0 w K,cl,fun c cv => ∃ C,xc c = some C /\ cv = .ref C,xc⟩
theorem JH {X : Cx} {cl xc : Nat -> Option Addr} : kR (kT X.w X.K cl xc) X := fun a kvs h hp KX => K0.ok h hp KX
structure B4 (K : W.Frag) (x qual : Str) (st : Stmt) (f : Addr) (fd : FuncData) : Prop where
 ex : ∃ (oc : Value) (od : Option Addr) (dV kV doc pm : Value) (an : Option Addr) (cdv ct : Value) (osl : Array (Option Value)),
  fd = W.fnOf x qual (iG st) (bX st) (aD st) dV kV doc pm an cdv ct /\ K.lookup f = some ⟨oc,od,.func fd,osl⟩ /\ W.codeIn K cdv qual = true
noncomputable def FnAt (G : Gm) (P : lX) (K : W.Frag) (i m : Nat) (fa : Addr) (fd : FuncData) (ps : List Str) : Prop := ∃ x qual st N fn,B4 K x qual st fa fd /\ P.fn i = some fn /\ cZ N ps (aD st) /\ ps.length = m /\ fn.np = m /\ fn.ns = N.length /\ fn.kI = [] /\ eZ G 200 false N (aD st) (.ss (bX st) fn.body) = true
structure Md (G : Gm) (P : lX) (w : World) (K : W.Frag) (mg : Str -> Option Value) (cl xc : Nat -> Option Addr) : Prop where
 cst : ∀ x i,G.cst.lookup x = some i -> ∃ v u,mg x = some u /\ RelV v u /\ ∀ d,P.glob i = some d -> ∀ F ρ H,RD (kT w K cl xc) F ρ H d v
 blt : ∀ x,G.pQ.contains x = true -> mg x = none
 fns : ∀ f i m,G.fns.lookup f = some (i,m) -> ∃ fa fd ps,mg f = some (.ref fa) /\ W.keepIn K (.ref fa) = true /\ Binds K fd ps [] /\ FnAt G P K i m fa fd ps
 cls : ∀ c C,cl c = some C -> tX K C /\ ∀ f,G.Bm.contains f = true -> dh K C f
 AN : ∀ c nm i m,G.AN.lookup (c,nm) = some (i,m) -> ∃ C fa fd ps,cl c = some C /\ Meth K C nm fa /\ Binds K fd ps [] /\ FnAt G P K i m fa fd ps
 Iu : ∀ x c i m,G.cls.lookup x = some (c,i,m) -> ∃ C fa fd ps,mg x = some (.ref C) /\ cl c = some C /\ Mk K C fa /\ Binds K fd ps [] /\ FnAt G P K i m fa fd ps
 exc : ∀ x c,G.exc.lookup x = some c -> ∃ C,mg x = some (.ref C) /\ xc c = some C
 GJ : ∀ c C, xc c = some C -> ∃ bmB newId bm base initId, pT K C bmB newId bm /\ ExcBaseFacts base newId initId bmB /\ bm.contains (.type "BaseException") = true /\ ∀ d D, xc d = some D -> (Value.ref C :: bm).contains (.ref D) = P.sub c d
 BC : ∀ x f m d,G.BC.lookup x = some (f,m,d) -> ∃ fa fd ps du,mg x = some (.ref fa) /\ W.keepIn K (.ref fa) = true /\ Binds K fd ps [du] /\ RelV (.int d) du /\ FnAt G P K f m fa fd ps
 rz : G.rz = true
section
variable {G : Gm} {P : lX} {w : World} {K : W.Frag} {mg : Str -> Option Value} {prog : Program} {base : Heap}
theorem vF {B : Bd} {F : Addr -> Prop} {ρ : List Addr} {H : Hp} {N : List Str} {ds : List D} {vs : List V} {n : Nat} (r : aj B F ρ H ds vs) (hn : n = N.length - vs.length) : RS B F ρ H (ds.map some ++ List.replicate n none) (L2.start N vs) := by
 subst hn
 refine ⟨by simp [L2.start,aj.length r],fun i d q => ?_⟩
 by_cases hi : i < ds.length
 ·rw [List.getElem?_append_left (by simpa using hi),List.getElem?_map] at q
  cases hd : ds[i]? with
  | none => rw [hd] at q; cases q
  | some e =>
   rw [hd] at q
   simp only [Option.map_some,Option.some.injEq] at q
   subst q
   obtain ⟨v,h1,h2⟩ := aj.get r hd
   refine ⟨v,?_,h2⟩
   unfold L2.start
   rw [List.getElem?_append_left (by rw [List.length_map,<- aj.length r]; exact hi),List.getElem?_map,h1]; rfl
 ·rw [List.getElem?_append_right (by simpa using Nat.le_of_not_lt hi),List.getElem?_replicate] at q
  split at q <;> cases q
theorem ly {B : Bd} {F F' : Addr -> Prop} {ρ ρ' : List Addr} {H H' : Hp} {M M' : MH} {d : D} {v : V} {kp : Bool} {Q : VK} {X : XK} (S : SR B F ρ M H) (h : Post B (eU kp M d M') F ρ H Q X) (e : Ext F ρ H F' ρ' H') (S' : SR B F' ρ' M' H') (rd : RD B F' ρ' H' d v) : Q v H' := by
 unfold eU at h
 split at h
 ·rename_i hk
  split at h
  ·rename_i hn
   exact h F' ρ H' v e.cut (S.cut S' e hk.2) (RD.cut e.r (by rw [S.len]; exact hn) rd)
  ·rename_i hn
   split at h
   ·rename_i n
    split at h
    ·rename_i ds hM
     split at h
     ·rename_i hns
      simp only [RD] at rd
      obtain ⟨a,h1,rfl⟩ := rd
      obtain ⟨vs,h2,h3⟩ := S'.obj n a _ h1 hM
      have hlt : ¬ n < M.length := by simpa [nr] using hn
      have ha : a ∉ ρ := fun z => by
       obtain ⟨j,hj,ej⟩ := List.mem_iff_getElem.mp z
       have q : ρ'[j]? = some a := e.at (by rw [List.getElem?_eq_getElem hj,ej])
       obtain ⟨j1,q1⟩ := List.getElem?_eq_some_iff.mp q
       obtain ⟨j2,q2⟩ := List.getElem?_eq_some_iff.mp h1
       have := (List.getElem_inj S'.nd).mp (q1.trans q2.symm)
       rw [S.len] at hj
       omega
      have hHa : H a = none := (e.n a (List.mem_of_getElem? h1)).resolve_left ha
      have Sc := S.cut S' e hk.2
      have r3 := aj.cut e.r (by rw [S.len]; exact hns) h3
      have xt : pU F' ρ H' (fun b => F' b \/ b = a) ρ H' := ⟨fun _ q => .inl q,fun _ _ _ => rfl,List.prefix_refl _⟩
      have ec := e.cut
      refine h (fun b => F' b \/ b = a) ρ H' (.ref a) ⟨⟨ec.s,fun b q => .inl (ec.f b q),ec.h,ec.r,ec.n,fun b q => q.elim (ec.g b) fun z => .inr (.inl (z ▸ hHa))⟩,ec.z⟩ (Sc.take ha (by rw [h2]; simp)) ?_
      simp only [RD]
      exact ⟨a,vs,rfl,.inl ⟨.inr rfl,.inl h2⟩,aj.aU xt _ _ r3⟩
     ·exact h F' ρ' H' v e S' rd
    ·exact h F' ρ' H' v e S' rd
   ·exact h F' ρ' H' v e S' rd
 ·exact h F' ρ' H' v e S' rd
theorem uv {B : Bd} {F F' : Addr -> Prop} {ρ ρ' : List Addr} {H H' : Hp} {M M' : MH} {c : Nat} {cv : Value} {x : Option Addr} {Q : VK} {X : XK} (S : SR B F ρ M H) (h : Post B (oH M c M') F ρ H Q X) (e : Ext F ρ H F' ρ' H') (S' : SR B F' ρ' M' H') (q : B.exc c cv) : X cv x H' := by
 unfold oH at h
 split at h
 ·rename_i hk
  exact h F' ρ H' cv x e.cut (S.cut S' e hk) q
 ·exact h F' ρ' H' cv x e S' q
noncomputable abbrev yN (X : Cx) (w : XS) : Cx := X.bI fun e s => iL X (GX false X w).e e s \/ Dc X (GX false X w).e e s
theorem Bf {x qual : Str} {st : Stmt} {f : Addr} {fd : FuncData} {N ps : List Str} {k : Nat} {sp : Sp} (F : B4 K x qual st f fd) (S : cZ N ps (aD st)) (len : ∀ vs H Q E,sp vs H Q E -> vs.length = ps.length)
  (hbody : ∀ (cdv : Value) (A : Around) (outer : List Env) (s : Shared) (H : Hp) (vs : List V) (Q : VK) (E : XK),cy k (A.deeper (PyProof.Rows.envOfC qual (aD st) s.heap.objs.size f cdv)) -> sp vs H Q E ->
   ∃ t,jP (yN (iH (gM prog w) prog w K mg base N qual (aD st) f cdv A outer s H E) fun cv x _ H' => E cv x H') (bX st) t /\ t { nx := fun _ H' => Q .ak H',rt := Q } (L2.start N vs) H) : ck prog w K mg base (gM prog w) (k + 1) f fd ps sp := by
 obtain ⟨oc,od,dV,kV,doc,pm,an,cdv,ct,osl,rfl,lk,hcd⟩ := F.ex
 refine CM lk hcd S len fun A outer s H vs Q E hr h => ?_
 obtain ⟨t,h1,h2⟩ := hbody cdv A outer s H vs Q E hr h
 refine ⟨t,fun pins s1 σ H1 D I q => ?_,h2⟩
 exact wpAny_mono (h1 pins s1 σ H1 D (I.bI _) q) (fun _ _ z => z.aY) fun e s2 z => z.elim (fun z => uJ e s2 (o7 z)) fun z => leave_new e s2 (wN z)
theorem l8 {cl xc : Nat -> Option Addr} (D : Md G P w K mg cl xc) {k : Nat} (ih : ∀ (i m : Nat) (fa : Addr) (fd : FuncData) (ps : List Str),FnAt G P K i m fa fd ps -> ck prog w K mg base (gM prog w) k fa fd ps (vI (kT w K cl xc) (aa P k) i m))
  (ih0 : ∀ j,k = j + 1 -> ∀ (i m : Nat) (fa : Addr) (fd : FuncData) (ps : List Str),FnAt G P K i m fa fd ps -> ck prog w K mg base (gM prog w) j fa fd ps (vI (kT w K cl xc) (aa P j) i m))
  {f qual : Str} {i m : Nat} {fa : Addr} {fd : FuncData} {ps : List Str} {st : Stmt} {N : List Str} {fn : Fn} (h2 : B4 K f qual st fa fd) (h4 : P.fn i = some fn) (h5 : cZ N ps (aD st)) (h6 : ps.length = m) (h7 : fn.np = m) (h8 : fn.ns = N.length) (h9 : fn.kI = []) (za : eZ G 200 false N (aD st) (.ss (bX st) fn.body) = true) :
  ck prog w K mg base (gM prog w) (k + 1) fa fd ps (vI (kT w K cl xc) (aa P (k + 1)) i m) := by
  refine Bf h2 h5 (fun vs H Q E q => by rw [q.1,h6]) fun cdv A outer s H vs Q E hr q => ?_
  let X0 := iH (gM prog w) prog w K mg base N qual (aD st) fa cdv A outer s H E
  obtain ⟨hl,ds,M,F,ρ,S,rd,post⟩ := q
  have O : fN G (kT w K cl xc) (aa P k) k (yN X0 fun cv x _ H' => E cv x H') N (aD st) false (fun cv x _ H' => E cv x H') :=
   ⟨rfl,h5.nd,rfl,rfl,rfl,hr,JH (X := yN X0 fun cv x _ H' => E cv x H') (cl := cl) (xc := xc),(fun e s z => z.imp (fun ⟨p,σ,H,a,a0,C,B,h1,I,h⟩ => ⟨p,σ,H,a,a0,C,B,h1,I.bI _,h⟩) fun ⟨p,σ,H,a,C,vs,hh,h1,I,h⟩ => ⟨p,σ,H,a,C,vs,hh,h1,I.bI _,h⟩),
    (fun e s ⟨p,σ,H,a,a0,C,B,h1,I,h⟩ => .inl ⟨p,σ,H,a,a0,C,B,h1,I.aY,h⟩),(fun _ _ e s ⟨p,σ,H,a,C,vs,hh,h1,I,h⟩ => .inr ⟨p,σ,H,a,C,vs,hh,h1,I.aY,h⟩),⟨_,_,_,rfl,rfl,rfl⟩,fun _ _ => rfl,(fun g j n hg => by
    obtain ⟨fa,fd,ps,a1,a2,a3,a4⟩ := D.fns g j n hg
    exact ⟨fa,fd,ps,a1,a2,a3,ih j n fa fd ps a4⟩),fun x j hx => by
    obtain ⟨v,u,a1,a2,a3⟩ := D.cst x j hx
    refine ⟨v,u,a1,a2,fun d hd => a3 d ?_⟩
    cases k <;> exact hd,D.blt,D.cls,(fun c nm j n hg => by
    obtain ⟨C,fa,fd,ps,a1,a2,a3,a4⟩ := D.AN c nm j n hg
    exact ⟨C,fa,fd,ps,a1,a2,a3,ih j n fa fd ps a4⟩),(fun x c j n hg => by
    obtain ⟨C,fa,fd,ps,a1,a2,a3,a4,a5⟩ := D.Iu x c j n hg
    refine ⟨C,fa,fd,ps,a1,a2,a3,a4,?_⟩
    cases k with
    | zero => exact .inr fun _ _ => rfl
    | succ k' => exact .inl ⟨k',rfl,ih0 k' rfl j n fa fd ps a5⟩),(fun x c hx => by
    obtain ⟨C,a1,a2⟩ := D.exc x c hx
    obtain ⟨bmB,newId,bm,base,initId,a3,a4,a5,_⟩ := D.GJ c C a2
    exact ⟨C,bmB,newId,bm,base,initId,a1,a2,⟨C,a2,rfl⟩,a3,a4,a5⟩),(fun c cv hc => by
    obtain ⟨C,a2,rfl⟩ := hc
    obtain ⟨bmB,newId,bm,base,initId,a3,a4,a5,a6⟩ := D.GJ c C a2
    refine ⟨C,bmB,newId,bm,rfl,a3,fun d D' hd => (a6 d D' hd).trans ?_⟩
    cases k <;> rfl),(fun x f m d hd => by
    obtain ⟨fa,fd,ps,du,a1,a2,a3,a4,a5⟩ := D.BC x f m d hd
    exact ⟨fa,fd,ps,du,a1,a2,a3,a4,ih f m fa fd ps a5⟩),fun _ => ⟨rfl,rfl⟩⟩
  refine ⟨_,(sound 200 O).ss _ _ za,_,M,F,ρ,S,vF (n := fn.ns - fn.np) rd (by rw [h8,h7,hl]),?_⟩
  have hds : ds.length = m := by rw [aj.length rd,hl]
  have hc : (aa P (k + 1)).call i ds M = kQ (aa P k) fn ds M := by simp only [aa,h4]
  rw [hc] at post
  have hz : ds.length + fn.kI.length - fn.np = 0 := by rw [h9,h7,hds]; simp
  unfold kQ at post
  rw [if_pos (by rw [h9,h7,hds]; simp),hz,h9] at post
  simp only [List.drop_nil,List.append_nil] at post
  cases hx : exs (aa P k) fn.body (ds.map some ++ List.replicate (fn.ns - fn.np) none) M with
  | bad => rw [hx] at post; exact post
  | exc c M' => rw [hx] at post; exact post
  | ok o M' =>
   rw [hx] at post
   intro F' ρ' H' e S'
   cases o with
   | rt d => exact fun v q => ly S post e S' q
   | nx σ' => exact fun σ q => ly S post e S' (d := .ak) (v := .ak) (by simp only [RD])
   | bk _ => exact post.elim
   | ct _ => exact post.elim
   | xc c σ' =>
    intro σ cv x q1 q2
    exact ⟨H',.refl _,uv S post e S' q2⟩
theorem kL {cl xc : Nat -> Option Addr} (D : Md G P w K mg cl xc) : ∀ (k : Nat) (i m : Nat) (fa : Addr) (fd : FuncData) (ps : List Str),FnAt G P K i m fa fd ps -> ck prog w K mg base (gM prog w) k fa fd ps (vI (kT w K cl xc) (aa P k) i m)
 | 0, i, m, fa, fd, ps, h => by
  have no : ∀ vs H Q E,¬ vI (kT w K cl xc) (aa P 0) i m vs H Q E := fun vs H Q E q => by
   obtain ⟨_,ds,M,F,ρ,_,_,q⟩ := q
   exact q
  exact ⟨fun vs H Q E q => absurd q (no vs H Q E),fun A outer s H args us vs Q E _ _ _ _ q => absurd q (no vs H Q E)⟩
 | 1,i,m,fa,fd,ps,h => by
  obtain ⟨x,qual,st,N,fn,h2,h4,h5,h6,h7,h8,h9,za⟩ := h
  exact l8 D (kL D 0) (fun j e => by cases e) h2 h4 h5 h6 h7 h8 h9 za
 | k + 2,i,m,fa,fd,ps,h => by
  obtain ⟨x,qual,st,N,fn,h2,h4,h5,h6,h7,h8,h9,za⟩ := h
  exact l8 D (kL D (k + 1)) (fun j e => by cases e; exact kL D k) h2 h4 h5 h6 h7 h8 h9 za
noncomputable def Ci (K : W.Frag) : Sp := fun vs H Q _ => ∃ (a : Addr) (ns : List Int),vs = [.ref a] /\ fk K H a (ns.map V.int) /\ ns.length <= 63 /\ ∀ H',Q (.bl true) H'
theorem EM {cl xc : Nat -> Option Addr} (D : Md G P w K mg cl xc) {f qual : Str} {i k : Nat} (hP : ∀ ns : List Int,ns.length <= 63 -> ∃ M',(aa P (k + 1)).call i [.lst (ns.map .int)] [] = .ok (.bl true) M')
  {fa : Addr} {fd : FuncData} {ps : List Str} {st : Stmt} {N : List Str} {fn : Fn} (h2 : B4 K f qual st fa fd) (h4 : P.fn i = some fn) (h5 : cZ N ps (aD st)) (h6 : ps.length = 1) (h7 : fn.np = 1) (h8 : fn.ns = N.length) (h9 : fn.kI = []) (za : eZ G 200 false N (aD st) (.ss (bX st) fn.body) = true) :
  ck prog w K mg base (gM prog w) (k + 1) fa fd ps (Ci K) := by
 refine (l8 (prog := prog) (base := base) D (kL D k) (fun j _ => kL D j) h2 h4 h5 h6 h7 h8 h9 za).imp fun vs H Q E q => ?_
 obtain ⟨a,ns,rfl,hS,hl,q⟩ := q
 obtain ⟨M',hM⟩ := hP ns hl
 have CH : ∀ (F : Addr -> Prop) (ns : List Int),aj (kT w K cl xc) F [] H (ns.map Fg.D.int) (ns.map V.int) := by
  intro F ns
  induction ns with
  | nil => exact aj.nil
  | cons n ns ih => exact aj.cons (by simp only [RD]) ih
 have fin : ∀ F : Addr -> Prop,Post (kT w K cl xc) ((aa P (k + 1)).call i [.lst (ns.map .int)] []) F [] H Q E := by
  intro F
  rw [hM]
  intro F' ρ' H' v e S' rd
  simp only [RD] at rd
  subst rd
  exact q H'
 rcases hS with hS | hS
 ·refine ⟨rfl,[.lst (ns.map .int)],[],fun b => b = a,[],⟨rfl,List.nodup_nil,fun _ z => by simp at z,fun b e => by rw [e]; exact Cp hS,fun n b o z => by simp at z⟩,?_,fin _⟩
  refine aj.cons ?_ aj.nil
  simp only [RD]
  exact ⟨a,_,rfl,.inl ⟨rfl,hS⟩,CH _ ns⟩
 ·refine ⟨rfl,[.lst (ns.map .int)],[],fun _ => False,[],⟨rfl,List.nodup_nil,fun _ z => by simp at z,fun b e => e.elim,fun n b o z => by simp at z⟩,?_,fin _⟩
  refine aj.cons ?_ aj.nil
  simp only [RD]
  exact ⟨a,_,rfl,.inr hS,CH _ ns⟩
end
end Fg
end
section
set_option autoImplicit false
namespace Fg
open PySem PySem.Spec L2
theorem rQ : ∀ {ps : List Str} {us : List Value} {n : Str},n ∉ ps -> (ps.zip us).lookup n = none
 | [],_,_,_ => rfl
 | _ :: _,[],_,_ => rfl
 | p :: ps,u :: us,n,h => by
  rw [List.zip_cons_cons,List.lookup_cons,show (n == p) = false from beq_eq_false_iff_ne.mpr fun e => h (e ▸ List.mem_cons_self)]
  exact rQ fun z => h (List.mem_cons_of_mem _ z)
theorem jQ : ∀ {ps : List Str} {us : List Value} {n : Str},n ∈ ps -> ps.length <= us.length -> ((ps.zip us).lookup n).isNone = false
 | p :: ps,[],n,_,hl => by simp at hl
 | p :: ps,u :: us,n,h,hl => by
  rw [List.zip_cons_cons,List.lookup_cons]
  cases e : n == p with
  | true => rfl
  | false =>
   have e := beq_eq_false_iff_ne.mp e
   exact jQ ((List.mem_cons.mp h).resolve_left e) (by simpa using hl)
theorem o6 {α β : Type} {f g : α -> Option β} : ∀ {l : List α},(∀ n ∈ l,f n = g n) -> l.filterMap f = l.filterMap g
 | [],_ => rfl
 | a :: l,h => by
  rw [List.filterMap_cons,List.filterMap_cons,h a List.mem_cons_self,o6 fun n hn => h n (List.mem_cons_of_mem _ hn)]
theorem jF : ∀ {ps : List Str} {us : List Value},ps.Nodup -> us.length = ps.length -> (ps.filterMap fun n => ((ps.zip us).lookup n).map (n,·)) = ps.zip us
 | [],_,_,_ => rfl
 | p :: ps,[],_,hl => by simp at hl
 | p :: ps,u :: us,nd,hl => by
  rw [List.nodup_cons] at nd
  rw [List.zip_cons_cons,List.filterMap_cons,List.lookup_cons,beq_self_eq_true]
  simp only [Option.map_some]
  congr 1
  refine Eq.trans ?_ (jF (us := us) nd.2 (by simpa using hl))
  exact o6 fun n hn => by rw [List.lookup_cons,show (n == p) = false from beq_eq_false_iff_ne.mpr fun e => nd.1 (e ▸ hn)]
noncomputable def j6 (a : Arguments) (ps : List Str) : Bool := a.posonlyargs.isEmpty && a.kwonlyargs.isEmpty && a.vararg.isNone && a.kwarg.isNone && decide (a.args.map (·.arg) = ps)
section
variable {s : Shared} {fd : FuncData} {ps : List Str} {us : List Value}
theorem jd {us : List Value} {qs : List Str} (h : ∀ n ∈ qs,((ps.zip us).lookup n).isNone = false) : (qs.filter fun n => ((ps.zip us).lookup n).isNone) = [] := by
 rw [List.filter_eq_nil_iff]
 intro n hn
 rw [h n hn]
 decide
theorem ju (hp : j6 fd.params ps = true) (nd : ps.Nodup) (hd : fd.defaults = .none) (hl : us.length = ps.length) : BindsTo s fd ⟨us,[]⟩ (ps.zip us) := by
 simp only [j6,Bool.and_eq_true,List.isEmpty_iff,Option.isNone_iff_eq_none,decide_eq_true_eq] at hp
 obtain ⟨⟨⟨⟨h1,h2⟩,h3⟩,h4⟩,h5⟩ := hp
 refine BindsTo.of_eq ?_
 unfold bindArgs
 simp only [h1,h2,h3,h4,h5,hd,List.map_nil,List.nil_append,List.append_nil,List.forIn_nil,Option.isNone_none,Bool.and_true,pure_bind]
 rw [show seqItems? Value.none = pure none from rfl,pure_bind]
 simp only [Option.getD_none,List.length_nil,Nat.zero_sub,List.drop_zero,Nat.sub_zero,List.take_length]
 rw [jd fun n hn => jQ hn (Nat.le_of_eq hl.symm),if_neg (by rw [hl]; simp)]
 simp only [List.isEmpty_nil,Bool.not_true,Bool.false_eq_true,if_false,List.drop_length,List.zip_nil_left,List.forIn_nil,pure_bind]
 rw [jF nd hl]
theorem lQ (hp : j6 fd.params ps = true) (nd : ps.Nodup) {T : Addr} {o : Obj} {its : Array Value} {n : Nat} {du : Value} (hd : fd.defaults = .ref T) (ho : s.heap.get? T = some o) (hs : o.data = .seq its n) (hi : its.toList = [du])
  {ds : List Value} (hds : ds = [] \/ ds = [du]) (hl : (us ++ ds).length = ps.length) (h0 : ps ≠ []) : BindsTo s fd ⟨us,[]⟩ (ps.zip (us ++ ds)) := by
 simp only [j6,Bool.and_eq_true,List.isEmpty_iff,Option.isNone_iff_eq_none,decide_eq_true_eq] at hp
 obtain ⟨⟨⟨⟨h1,h2⟩,h3⟩,h4⟩,h5⟩ := hp
 obtain ⟨qs,z,rfl⟩ : ∃ qs z,ps = qs ++ [z] := by
  rcases List.eq_nil_or_concat ps with e | ⟨qs,z,e⟩
  ·exact absurd e h0
  ·exact ⟨qs,z,by simpa using e⟩
 intro M A E Q hq
 unfold bindArgs
 simp only [h1,h2,h3,h4,h5,hd,List.map_nil,List.nil_append,List.append_nil,List.forIn_nil,Option.isNone_none,Bool.and_true,pure_bind]
 refine wpAny_bind (wpAny_seqItems ho hs ?_)
 simp only [Option.getD_some,hi,List.length_append,List.length_cons,List.length_nil] at hl ⊢
 have hz : z ∉ qs := fun m => by
  rw [List.nodup_append] at nd
  exact nd.2.2 z m z List.mem_cons_self rfl
 rw [show (0 + 1 - (qs.length + (0 + 1))) = 0 by omega,List.drop_zero,List.length_cons,List.length_nil,show qs.length + (0 + 1) - (0 + 1) = qs.length by omega,List.take_left,List.drop_left,
  jd (fun n hn => ?_),if_neg (by simp; rcases hds with rfl | rfl <;> simp at hl <;> omega)]
 ·simp only [List.isEmpty_nil,Bool.not_true,Bool.false_eq_true,if_false,List.zip_cons_cons,List.zip_nil_right,List.forIn_cons,List.forIn_nil,pure_bind]
  rcases hds with rfl | rfl
  ·rw [List.append_nil] at hq
   rw [jQ (by simp) (by simp at hl ⊢; omega)]
   simp only [Bool.false_eq_true,if_false,pure_bind]
   rw [jF nd (by simpa using hl)]
   exact wpAny_pure hq
  ·have hl' : us.length = qs.length := by simp at hl; omega
   have e : (qs ++ [z]).zip us = qs.zip us := by
    rw [show us = us ++ [] by simp,List.zip_append hl'.symm]; simp
   have e2 : (qs ++ [z]).zip (us ++ [du]) = qs.zip us ++ [(z,du)] := by
    rw [List.zip_append hl'.symm]; simp
   rw [e,rQ hz]
   simp only [Option.isNone_none,if_true,pure_bind]
   rw [<- e2,jF nd (by simpa using hl)]
   exact wpAny_pure hq
 ·rcases hds with rfl | rfl
  ·exact jQ (by simp [hn]) (by simp at hl ⊢; omega)
  ·have hl' : us.length = qs.length := by simp at hl; omega
   have e : (qs ++ [z]).zip us = qs.zip us := by
    rw [show us = us ++ [] by simp,List.zip_append hl'.symm]; simp
   rw [e]
   exact jQ hn (Nat.le_of_eq hl'.symm)
end
end Fg
end
section
set_option autoImplicit false
namespace Fg
open PySem PySem.Spec L2
theorem C7 {K : W.Frag} {x : Str} {a : Addr} (h : adr K x = some a) : W.nsIn K mainGlobals x = some (some (.ref a)) := by
 unfold adr at h
 split at h
 ·rename_i e; cases h; exact e
 ·cases h
theorem pK {K : W.Frag} {v : Value} (h : i7 K v = some none) : v = .none := by
 unfold i7 at h
 split at h
 ·rfl
 ·split at h
  ·split at h <;> cases h
  ·cases h
 ·cases h
theorem pJ {K : W.Frag} {v : Value} {d : Int} (h : i7 K v = some (some d)) : ∃ T oc od its n sl tk,v = .ref T /\ K.lookup T = some ⟨oc,od,.seq its n,sl⟩ /\ its.toList = [.int d tk] := by
 unfold i7 at h
 split at h
 ·cases h
 ·split at h
  ·rename_i T _ oc od its n sl lk
   split at h
   ·rename_i _ d' tk hi
    cases h
    exact ⟨T,oc,od,its,n,sl,tk,rfl,lk,hi⟩
   ·cases h
  ·cases h
 ·cases h
theorem x6 {K : W.Frag} {f : Addr} {r : Row} (h : o5 K f = some r.good) : ∃ oc od dV kV doc pm an cdv ct osl,
  K.lookup f = some ⟨oc,od,.func (W.fnOf r.x r.ql (iG r.st) (bX r.st) (aD r.st) dV kV doc pm an cdv ct),osl⟩ /\ W.codeIn K cdv r.ql = true /\ i7 K dV = some r.kI := by
 unfold o5 at h
 split at h
 ·rename_i oc od fd osl lk
  simp only [Row.good,Option.some.injEq,Prod.mk.injEq] at h
  obtain ⟨h1,h2,h3,h4,h5,h6,h7,h8,h9,za⟩ := h
  obtain ⟨f1,f2,f3,f4,f5,f6,f7,f8,f9,f10,f11,f12,f13,f14,f15⟩ := fd
  dsimp only at h1 h2 h3 h4 h5 h6 h7 h8 h9 za
  subst h1 h2 h3 h4 h5 h6 h7 h8
  exact ⟨oc,od,f8,f9,f10,f11,f12,f13,f14,osl,lk,za,h9⟩
 ·cases h
noncomputable def scB (N P : List Str) (sc : Scope) : Bool := decide (sc.kind = .function) && !sc.isCoroutine && !sc.isGenerator && decide N.Nodup && decide (N.take P.length = P) &&
 (P.all fun x => decide (sc.names.lookup x = some .local) || decide (sc.names.lookup x = some .cell)) && sc.names.all fun y => decide (y.2 ≠ .free)
theorem Hv {N P : List Str} {sc : Scope} (h : scB N P sc = true) : cZ N P sc := by
 simp only [scB,Bool.and_eq_true,decide_eq_true_eq,Bool.not_eq_true',List.all_eq_true,Bool.or_eq_true] at h
 obtain ⟨⟨⟨⟨⟨⟨h1,h2⟩,h3⟩,h4⟩,h5⟩,h6⟩,h7⟩ := h
 exact ⟨h1,h2,h3,h4,h5,h6,h7⟩
noncomputable def Row.ok (G : Gm) (P : lX) (r : Row) : Bool := match P.fn r.i with
 | some fn => scB r.N r.ps (aD r.st) && j6 (iG r.st) r.ps && decide (fn.np = r.ps.length) && decide (fn.ns = r.N.length) && fn.kI.isEmpty && (r.kI.isNone || !r.ps.isEmpty) && eZ G 200 false r.N (aD r.st) (.ss (bX r.st) fn.body)
 | none => false
structure Rw (G : Gm) (P : lX) (K : W.Frag) (r : Row) (f : Addr) (fd : FuncData) : Prop where
 at_ : FnAt G P K r.i r.ps.length f fd r.ps
 bd : Binds K fd r.ps []
 kp : W.keepIn K (.ref f) = true
 bn : r.kI = none -> ∀ (s : Shared) (us : List Value),us.length = r.ps.length -> BindsTo s fd ⟨us,[]⟩ (r.ps.zip us)
 df : ∀ d,r.kI = some d -> ∃ tk,Binds K fd r.ps [.int d tk]
theorem A6 {K : W.Frag} {f : Addr} {oc : Value} {od : Option Addr} {fd : FuncData} {sl : Array (Option Value)} (h : K.lookup f = some ⟨oc,od,.func fd,sl⟩) : W.keepIn K (.ref f) = true := by
 simp only [W.keepIn,h]
theorem v5 {G : Gm} {P : lX} {K : W.Frag} {r : Row} {f : Addr} (h : o5 K f = some r.good) (ok : r.ok G P = true) : ∃ fd,Rw G P K r f fd := by
 obtain ⟨oc,od,dV,kV,doc,pm,an,cdv,ct,osl,lk,hc,hd⟩ := x6 h
 unfold Row.ok at ok
 split at ok
 ·rename_i fn hf
  simp only [Bool.and_eq_true,decide_eq_true_eq,List.isEmpty_iff] at ok
  obtain ⟨⟨⟨⟨⟨⟨k1,k2⟩,k3⟩,k4⟩,k5⟩,k6⟩,k7⟩ := ok
  have S := Hv k1
  have nd : r.ps.Nodup := by rw [<- S.pre]; exact S.nd.sublist (List.take_sublist _ _)
  refine ⟨_,⟨_,_,_,_,_,⟨⟨oc,od,dV,kV,doc,pm,an,cdv,ct,osl,rfl,lk,hc⟩⟩,hf,S,rfl,k3,k4,k5,k7⟩,?_,A6 lk,fun e s us hl => ?_,fun d e => ?_⟩
  ·intro s us KX hl
   cases e : r.kI with
   | none =>
    rw [e] at hd
    rw [List.append_nil] at hl ⊢
    exact ju k2 nd (pK hd) hl
   | some d =>
    rw [e] at hd k6
    obtain ⟨T,o1,o2,its,n,sl,tk,rfl,lT,hi⟩ := pJ hd
    exact lQ k2 nd rfl (KX _ _ lT) rfl hi (.inl rfl) hl (by simpa using k6)
  ·rw [e] at hd
   exact ju k2 nd (pK hd) hl
  ·rw [e] at hd k6
   obtain ⟨T,o1,o2,its,n,sl,tk,rfl,lT,hi⟩ := pJ hd
   exact ⟨tk,fun s us KX hl => lQ k2 nd rfl (KX _ _ lT) rfl hi (.inr rfl) hl (by simpa using k6)⟩
 ·cases ok
end Fg
end
section
set_option autoImplicit false
namespace Fg
open PySem PySem.Spec L2
theorem mem_of_lookup {α β : Type} [BEq α] [LawfulBEq α] {x : α} {b : β} : ∀ {l : List (α × β)},l.lookup x = some b -> (x,b) ∈ l
 | [],h => by cases h
 | (y, c) :: l, h => by
  rw [List.lookup_cons] at h
  by_cases e : x = y
  ·subst e; simp at h; subst h; exact List.mem_cons_self
  ·rw [show (x == y) = false from beq_eq_false_iff_ne.mpr e] at h
   exact List.mem_cons_of_mem _ (mem_of_lookup h)
theorem c8 {α β : Type} {f g : α -> β} : ∀ {l : List α},l.map f = l.map g -> ∀ a ∈ l,f a = g a
 | [],_,_,h => by cases h
 | b :: l,e,a,h => by
  rw [List.map_cons,List.map_cons,List.cons.injEq] at e
  rcases List.mem_cons.mp h with rfl | h
  ·exact e.1
  ·exact c8 e.2 a h
noncomputable def Tb.gm (t : Tb) : Gm := ⟨t.fn.map fun r => (r.x,r.i,r.ps.length),t.cs.map fun c => (c.1,c.2.1),t.bl,
 t.mt.filterMap fun r => if r.2.x = ("__init__" : Str) then (t.cl[r.1]?).map fun x => (x, r.1, r.2.i, r.2.ps.length) else none,
 t.mt.filterMap fun r => if r.2.x = ("__init__" : Str) then none else some ((r.1, r.2.x), r.2.i, r.2.ps.length), t.fl, t.xc.zipIdx,
 t.fn.filterMap fun r => r.kI.map fun d => (r.x,r.i,r.ps.length,d),true⟩
noncomputable def Tb.ok (t : Tb) (G : Gm) (P : lX) : Bool := (t.fn.all fun r => r.ok G P) && (t.mt.all fun r => r.2.ok G P) && t.cs.all fun c => match P.glob c.2.1 with
 | some (.int n) => decide (n = c.2.2)
 | _ => false
theorem yV {α : Type} {K : W.Frag} {x : Str} {f : Addr -> Option α} {v : α} (h : (adr K x).bind f = some v) : ∃ a,adr K x = some a /\ f a = some v := Option.bind_eq_some_iff.mp h
theorem nK {α : Type} {K : W.Frag} {x : Str} {f : Addr -> α} {v : α} (h : (adr K x).map f = some v) : ∃ a,adr K x = some a /\ f a = v := Option.map_eq_some_iff.mp h
section
variable {t : Tb} {P : lX} {w : World} {K : W.Frag} {h : Heap} {mg : Str -> Option Value}
theorem w6 (e : t.su K = t.good P) (ok : t.ok t.gm P = true) (r : Row) (hr : r ∈ t.fn) : ∃ f fd,adr K r.x = some f /\ Rw t.gm P K r f fd := by
 simp only [Tb.su,Tb.good,Prod.mk.injEq] at e
 obtain ⟨f,h1,h2⟩ := yV (c8 e.1 r hr)
 simp only [Tb.ok,Bool.and_eq_true,List.all_eq_true] at ok
 obtain ⟨fd,R⟩ := v5 h2 (ok.1.1 r hr)
 exact ⟨f,fd,h1,R⟩
theorem CA (e : t.su K = t.good P) (ok : t.ok t.gm P = true) (r : Nat × Row) (hr : r ∈ t.mt) : ∃ x C f fd,t.cl[r.1]? = some x /\ adr K x = some C /\ W.findIn K (.ref C) r.2.x = some (some (.ref f)) /\ W.isFn K (.ref f) = true /\ Rw t.gm P K r.2 f fd := by
 simp only [Tb.su,Tb.good,Prod.mk.injEq] at e
 have h1 := c8 e.2.2.1 r hr
 unfold w5 at h1
 obtain ⟨C,h2,h3⟩ := Option.bind_eq_some_iff.mp h1
 obtain ⟨x,h4,h5⟩ := Option.bind_eq_some_iff.mp h2
 simp only [Tb.ok,Bool.and_eq_true,List.all_eq_true] at ok
 split at h3
 ·rename_i f hf
  obtain ⟨z,h6,h7⟩ := Option.map_eq_some_iff.mp h3
  rw [Prod.mk.injEq] at h7
  rw [h7.1] at h6
  obtain ⟨fd,R⟩ := v5 h6 (ok.1.2 r hr)
  exact ⟨x,C,f,fd,h4,h5,hf,h7.2,R⟩
 ·cases h3
theorem CB (e : t.su K = t.good P) {c : Nat} {C : Addr} (hc : (t.cl[c]?).bind (adr K) = some C) : nA t K C = jN t := by
 obtain ⟨x,h1,h2⟩ := Option.bind_eq_some_iff.mp hc
 simp only [Tb.su,Tb.good,Prod.mk.injEq] at e
 obtain ⟨C',h3,h4⟩ := nK (c8 e.2.1 x (List.mem_of_getElem? h1))
 rw [h2] at h3
 cases h3
 exact h4
theorem pW {xs : List Str} {x : Str} {c : Nat} (h : xs[c]? = some x) : (x,c) ∈ xs.zipIdx := List.mk_mem_zipIdx_iff_getElem?.mpr h
theorem Iv (e : t.su K = t.good P) {c : Nat} {X : Addr} (hc : (t.xc[c]?).bind (adr K) = some X) : W.excIn K X BMV "ValueError.__new__" = true /\ W.mroIn K X (.type "BaseException") = some true /\
  ∀ d D,(t.xc[d]?).bind (adr K) = some D -> W.mroIn K X (.ref D) = some (P.sub c d) := by
 obtain ⟨x,h1,h2⟩ := Option.bind_eq_some_iff.mp hc
 simp only [Tb.su,Tb.good,Prod.mk.injEq] at e
 obtain ⟨C',h3,h4⟩ := nK (c8 e.2.2.2.1 (x,c) (pW h1))
 rw [show adr K (x,c).1 = some X from h2] at h3
 cases h3
 simp only [yc,Prod.mk.injEq] at h4
 refine ⟨h4.1,h4.2.1,fun d D hd => ?_⟩
 obtain ⟨y,h5,h6⟩ := Option.bind_eq_some_iff.mp hd
 have z : (t.xc.zipIdx.map fun y => (adr K y.1).bind fun Y => W.mroIn K X (.ref Y)) = t.xc.zipIdx.map fun y => some (P.sub c y.2) := by
  rw [<- h4.2.2]
  conv => rhs; rw [<- List.zipIdx_map_fst 0 t.xc]
  rw [List.map_map]
  rfl
 have q := c8 z (y,d) (pW h5)
 rw [show adr K (y,d).1 = some D from h6] at q
 exact q
theorem Tb.md (X : K.In h) (G : h.Ns mainGlobals mg) (e : t.su K = t.good P) (ok : t.ok t.gm P = true) : Md t.gm P w K mg (fun c => (t.cl[c]?).bind (adr K)) (fun c => (t.xc[c]?).bind (adr K)) := by
 have Ka : ∀ {x a},adr K x = some a -> mg x = some (.ref a) := fun q => W.mg_of X G (C7 q)
 refine ⟨fun x i hx => ?_,fun x hx => ?_,fun f i m hx => ?_,fun c C hx => ?_,fun c nm i m hx => ?_,fun x c i m hx => ?_,fun x c hx => ?_,fun c C hx => ?_,fun x f m d hx => ?_,rfl⟩
 ·obtain ⟨c,hc,q⟩ := List.mem_map.mp (mem_of_lookup hx)
  cases q
  have e' := e
  simp only [Tb.su,Tb.good,Prod.mk.injEq] at e'
  have h1 := c8 e'.2.2.2.2.1 c hc
  unfold yv at h1
  split at h1
  ·rename_i n tk hn
   cases h1
   refine ⟨.int c.2.2,_,W.mg_of X G hn,⟨_,rfl⟩,fun d hd F ρ H => ?_⟩
   simp only [Tb.ok,Bool.and_eq_true,List.all_eq_true] at ok
   have h2 := ok.2 c hc
   rw [hd] at h2
   split at h2
   ·rename_i n' hn'
    cases hn'
    rw [of_decide_eq_true h2]
    simp only [RD]
   ·cases h2
  ·cases h1
 ·have e' := e
  simp only [Tb.su,Tb.good,Prod.mk.injEq] at e'
  exact W.mg_none_of X G (c8 e'.2.2.2.2.2 x (List.contains_iff_mem.mp hx))
 ·obtain ⟨r,hr,q⟩ := List.mem_map.mp (mem_of_lookup hx)
  cases q
  obtain ⟨fa,fd,h1,R⟩ := w6 e ok r hr
  exact ⟨fa,fd,r.ps,Ka h1,R.kp,R.bd,R.at_⟩
 ·have q := CB e hx
  simp only [nA,jN,Prod.mk.injEq] at q
  obtain ⟨q1,q2,q3,q4,q5,q6,q7⟩ := q
  exact ⟨⟨q1,q2,q3,q4⟩,fun f hf => c8 q7 f (List.contains_iff_mem.mp hf)⟩
 ·obtain ⟨r,hr,q⟩ := List.mem_filterMap.mp (mem_of_lookup hx)
  split at q
  ·cases q
  ·cases q
   obtain ⟨x,C,f,fd,h1,h2,h3,h4,R⟩ := CA e ok r hr
   exact ⟨C,f,fd,r.2.ps,by rw [h1]; exact h2,⟨h3,h4,R.kp⟩,R.bd,R.at_⟩
 ·obtain ⟨r,hr,q⟩ := List.mem_filterMap.mp (mem_of_lookup hx)
  split at q
  ·rename_i hi
   obtain ⟨y,h0,q⟩ := Option.map_eq_some_iff.mp q
   cases q
   obtain ⟨x',C,f,fd,h1,h2,h3,h4,R⟩ := CA e ok r hr
   rw [h0] at h1
   cases h1
   have hC : (t.cl[r.1]?).bind (adr K) = some C := by rw [h0]; exact h2
   have q := CB e hC
   simp only [nA,jN,Prod.mk.injEq] at q
   rw [hi] at h3
   exact ⟨C,f,fd,r.2.ps,Ka h2,hC,⟨q.2.2.2.2.1,h3,h4,q.2.2.2.2.2.1⟩,R.bd,R.at_⟩
  ·cases q
 ·have hm := List.mk_mem_zipIdx_iff_getElem?.mp (mem_of_lookup hx)
  have e' := e
  simp only [Tb.su,Tb.good,Prod.mk.injEq] at e'
  obtain ⟨C,h3,_⟩ := nK (c8 e'.2.2.2.1 (x,c) (pW hm))
  exact ⟨C,Ka h3,by rw [hm]; exact h3⟩
 ·obtain ⟨q1,q2,q3⟩ := Iv e hx
  obtain ⟨bm,ec,em⟩ := FT q1
  exact ⟨_,_,bm,_,_,ec,PySem.F.excBase_ValueError,jO (em _ _ q2),fun d D hd => em _ _ (q3 d D hd)⟩
 ·obtain ⟨r,hr,q⟩ := List.mem_filterMap.mp (mem_of_lookup hx)
  obtain ⟨d',hd,q⟩ := Option.map_eq_some_iff.mp q
  cases q
  obtain ⟨fa,fd,h1,R⟩ := w6 e ok r hr
  obtain ⟨tk,hb⟩ := R.df _ hd
  exact ⟨fa,fd,r.ps,_,Ka h1,R.kp,hb,⟨_,rfl⟩,R.at_⟩
theorem Tb.walk (t : Tb) (P : lX) {l : W.OpenLaw} {q : Program} {loose : List Str} {XP : (Str -> Option Value) -> Heap -> Prop} {d : DefRec} {r : Row} {x : Str} (k : Nat) (hn : l.most = some 63) (hdf : d.params.defaults = []) (hk : cy (k + 1) callerA)
  (ok : t.ok t.gm P = true) (hr : r ∈ t.fn) (hx : d.name = r.x) (h0 : r.kI = none) (hps : r.ps = [x])
  (hP : ∀ ns : List Int,ns.length <= 63 -> ∃ M',(aa P (k + 1)).call r.i [.lst (ns.map .int)] [] = .ok (.bl true) M') :
  W.WalkO q loose XP (t.hook P).says l.row.toRowW d [] (fun f vs => PySem.call f vs) := by
 refine Att.pR hn hdf fun w s₀ s₁ mg mb fa o pm cd doc a vs ns G Y ho hd hcd hmg hobj hints hlen hg => ?_
 obtain ⟨K,KX,e⟩ := Y
 obtain ⟨f,fd,h1,R⟩ := w6 e ok r hr
 have hf : mg d.name = some (.ref f) := by rw [hx]; exact W.mg_of KX G.T.g (C7 h1)
 cases hmg.symm.trans hf
 obtain ⟨y,qual,st,N,fn,F,q1,q2,q3,q4,q5,q6,q7⟩ := R.at_
 have D := Tb.md (w := w) KX G.T.g e ok
 have bd := R.bn h0
 rw [hps] at bd q2 q3 q4
 exact xx (CX := gM l.prog w) (sp := Ci K) (x := x) (fd := fd) KX G.T.g G.T.b G.T.builtins G.T.nolimit hg hobj hints (Nat.le_trans hlen (by decide)) hk (fun base _ _ => EM D hP F q1 q2 q3 q4 q5 q6 q7) (fun s u => bd s [u] rfl)
  (fun H hO hS => ⟨a,ns,rfl,hS,hlen,fun _ => rfl⟩) fun H e s' ⟨_,_,_,_,_,_,_,_,_,_,_,_,z⟩ => z
end
end Fg
end
section
set_option autoImplicit false
namespace bR
open Fg PySem
theorem fn0 : ah.fn 0 = some iV := rfl
theorem x8 : ah.fn 1 = some fS := rfl
theorem fn4 : ah.fn 4 = some jj := rfl
theorem fn5 : ah.fn 5 = some x9 := rfl
theorem fn6 : ah.fn 6 = some dD := rfl
theorem fn7 : ah.fn 7 = some lJ := rfl
theorem fn8 : ah.fn 8 = some dH := rfl
theorem fn9 : ah.fn 9 = some cQ := rfl
theorem fn10 : ah.fn 10 = some cg := rfl
theorem fn11 : ah.fn 11 = some b9 := rfl
theorem Ji : ah.fn 12 = some cz := rfl
theorem FP : ah.fn 13 = some gk := rfl
theorem Jh : ah.fn 14 = some fJ := rfl
theorem Bk : ah.fn 16 = some eL := rfl
theorem Bj : ah.fn 17 = some iB := rfl
theorem Jg : ah.fn 18 = some eK := rfl
theorem Jf : ah.fn 19 = some bN := rfl
theorem Je : ah.fn 20 = some bH := rfl
theorem Jd : ah.fn 21 = some dG := rfl
noncomputable abbrev w (x : String) : Str := Str.ofString x
structure Mx where
 rows : D
 most : Int
 bg : Int
 pl : D
 pile : List D
 frs : List D
 av : List D
 log : List D
 T : MH
noncomputable def Mx.o (s : Mx) (n : Nat) : MO := .ins 1 [(w "rows", s.rows), (w "most", .int s.most), (w "begun", .int s.bg), (w "place", s.pl), (w "pile", .ref (n + 1)), (w "frames", .ref (n + 2)), (w "lies_open", .ref (n + 3)), (w "log", .ref (n + 4))]
noncomputable def Mx.h (s : Mx) (M0 : MH) : MH := M0 ++ (s.o M0.length :: .lst s.pile :: .lst s.frs :: .lst s.av :: .lst s.log :: s.T)
section
variable {M0 : MH} {s : Mx} {ds : List D} {t : Nat} {o : MO}
theorem off (i : Nat) (X : MH) : (M0 ++ X)[M0.length + i]? = X[i]? := by
 rw [List.getElem?_append_right (Nat.le_add_right _ _),Nat.add_sub_cancel_left]
theorem offs (i : Nat) (X : MH) (o : MO) : (M0 ++ X).set (M0.length + i) o = M0 ++ X.set i o := by
 rw [List.set_append_right _ _ (Nat.le_add_right _ _),Nat.add_sub_cancel_left]
theorem g0 : (s.h M0)[M0.length]? = some (s.o M0.length) := off 0 _
theorem g1 : (s.h M0)[M0.length + 1]? = some (.lst s.pile) := off 1 _
theorem g2 : (s.h M0)[M0.length + 2]? = some (.lst s.frs) := off 2 _
theorem g3 : (s.h M0)[M0.length + 3]? = some (.lst s.av) := off 3 _
theorem g4 : (s.h M0)[M0.length + 4]? = some (.lst s.log) := off 4 _
theorem gT : (s.h M0)[M0.length + (t + 5)]? = s.T[t]? := off (t + 5) _
theorem s0 {s' : Mx} : (s.h M0).set M0.length (s'.o M0.length) = ({ s with rows := s'.rows,most := s'.most,bg := s'.bg,pl := s'.pl } : Mx).h M0 := offs 0 _ _
theorem s1 : (s.h M0).set (M0.length + 1) (.lst ds) = ({ s with pile := ds } : Mx).h M0 := offs 1 _ _
theorem s2 : (s.h M0).set (M0.length + 2) (.lst ds) = ({ s with frs := ds } : Mx).h M0 := offs 2 _ _
theorem s3 : (s.h M0).set (M0.length + 3) (.lst ds) = ({ s with av := ds } : Mx).h M0 := offs 3 _ _
theorem s4 : (s.h M0).set (M0.length + 4) (.lst ds) = ({ s with log := ds } : Mx).h M0 := offs 4 _ _
theorem sT : (s.h M0).set (M0.length + (t + 5)) o = ({ s with T := s.T.set t o } : Mx).h M0 := offs (t + 5) _ _
theorem len : (s.h M0).length = M0.length + (s.T.length + 5) := by simp [Mx.h]
theorem app {X : MH} : s.h M0 ++ X = ({ s with T := s.T ++ X } : Mx).h M0 := by simp [Mx.h,Mx.o]
theorem wz {a b : String} (h : decide (Str.ofString a = Str.ofString b) = false := by decide +kernel) : (Str.ofString a == Str.ofString b) = false := by
 rw [beq_eq_false_iff_ne]; exact of_decide_eq_false h
theorem wn {a b : String} (h : decide (Str.ofString a = Str.ofString b) = false := by decide +kernel) : (Str.ofString a = Str.ofString b) = False := by
 simpa using h
theorem FQ {Φ : aQ} {σ : Sg} {i : Nat} (h : σ[i]? = some (some (.ref M0.length))) : ev Φ (.fld (.v i) (w "rows")) σ (s.h M0) = .ok s.rows (s.h M0) := by
 simp only [cR,gF,h,R.af,g0,Mx.o,List.lookup_cons,beq_self_eq_true]
theorem yb {Φ : aQ} {σ : Sg} {i : Nat} (h : σ[i]? = some (some (.ref M0.length))) : ev Φ (.fld (.v i) (w "most")) σ (s.h M0) = .ok (.int s.most) (s.h M0) := by
 simp only [cR, gF, h, R.af, g0, Mx.o, List.lookup_cons, beq_self_eq_true, wz (a := "most") (b := "rows")]
theorem m7 {Φ : aQ} {σ : Sg} {i : Nat} (h : σ[i]? = some (some (.ref M0.length))) : ev Φ (.fld (.v i) (w "begun")) σ (s.h M0) = .ok (.int s.bg) (s.h M0) := by
 simp only [cR, gF, h, R.af, g0, Mx.o, List.lookup_cons, beq_self_eq_true, wz (a := "begun") (b := "rows"), wz (a := "begun") (b := "most")]
theorem m5 {Φ : aQ} {σ : Sg} {i : Nat} (h : σ[i]? = some (some (.ref M0.length))) : ev Φ (.fld (.v i) (w "place")) σ (s.h M0) = .ok s.pl (s.h M0) := by
 simp only [cR, gF, h, R.af, g0, Mx.o, List.lookup_cons, beq_self_eq_true, wz (a := "place") (b := "rows"), wz (a := "place") (b := "most"), wz (a := "place") (b := "begun")]
theorem ya {Φ : aQ} {σ : Sg} {i : Nat} (h : σ[i]? = some (some (.ref M0.length))) : ev Φ (.fld (.v i) (w "pile")) σ (s.h M0) = .ok (.ref (M0.length + 1)) (s.h M0) := by
 simp only [cR, gF, h, R.af, g0, Mx.o, List.lookup_cons, beq_self_eq_true, wz (a := "pile") (b := "rows"), wz (a := "pile") (b := "most"), wz (a := "pile") (b := "begun"), wz (a := "pile") (b := "place")]
theorem cN {Φ : aQ} {σ : Sg} {i : Nat} (h : σ[i]? = some (some (.ref M0.length))) : ev Φ (.fld (.v i) (w "frames")) σ (s.h M0) = .ok (.ref (M0.length + 2)) (s.h M0) := by
 simp only [cR, gF, h, R.af, g0, Mx.o, List.lookup_cons, beq_self_eq_true, wz (a := "frames") (b := "rows"), wz (a := "frames") (b := "most"), wz (a := "frames") (b := "begun"), wz (a := "frames") (b := "place"), wz (a := "frames") (b := "pile")]
theorem m6 {Φ : aQ} {σ : Sg} {i : Nat} (h : σ[i]? = some (some (.ref M0.length))) : ev Φ (.fld (.v i) (w "lies_open")) σ (s.h M0) = .ok (.ref (M0.length + 3)) (s.h M0) := by
 simp only [cR, gF, h, R.af, g0, Mx.o, List.lookup_cons, beq_self_eq_true, wz (a := "lies_open") (b := "rows"), wz (a := "lies_open") (b := "most"), wz (a := "lies_open") (b := "begun"), wz (a := "lies_open") (b := "place"), wz (a := "lies_open") (b := "pile"), wz (a := "lies_open") (b := "frames")]
theorem CN {Φ : aQ} {σ : Sg} {i : Nat} (h : σ[i]? = some (some (.ref M0.length))) : ev Φ (.fld (.v i) (w "log")) σ (s.h M0) = .ok (.ref (M0.length + 4)) (s.h M0) := by
 simp only [cR, gF, h, R.af, g0, Mx.o, List.lookup_cons, beq_self_eq_true, wz (a := "log") (b := "rows"), wz (a := "log") (b := "most"), wz (a := "log") (b := "begun"), wz (a := "log") (b := "place"), wz (a := "log") (b := "pile"), wz (a := "log") (b := "frames"), wz (a := "log") (b := "lies_open")]
theorem AD {i : Int} : bE (w "begun") (.int i) [(w "rows", s.rows), (w "most", .int s.most), (w "begun", .int s.bg), (w "place", s.pl), (w "pile", .ref (M0.length + 1)), (w "frames", .ref (M0.length + 2)), (w "lies_open", .ref (M0.length + 3)), (w "log", .ref (M0.length + 4))] = [(w "rows", s.rows), (w "most", .int s.most), (w "begun", .int i), (w "place", s.pl), (w "pile", .ref (M0.length + 1)), (w "frames", .ref (M0.length + 2)), (w "lies_open", .ref (M0.length + 3)), (w "log", .ref (M0.length + 4))] := by
 simp only [bE, wn (a := "rows") (b := "begun"), wn (a := "most") (b := "begun"), if_true, if_false]
theorem AB {d : D} : bE (w "place") d [(w "rows", s.rows), (w "most", .int s.most), (w "begun", .int s.bg), (w "place", s.pl), (w "pile", .ref (M0.length + 1)), (w "frames", .ref (M0.length + 2)), (w "lies_open", .ref (M0.length + 3)), (w "log", .ref (M0.length + 4))] = [(w "rows", s.rows), (w "most", .int s.most), (w "begun", .int s.bg), (w "place", d), (w "pile", .ref (M0.length + 1)), (w "frames", .ref (M0.length + 2)), (w "lies_open", .ref (M0.length + 3)), (w "log", .ref (M0.length + 4))] := by
 simp only [bE, wn (a := "rows") (b := "place"), wn (a := "most") (b := "place"), wn (a := "begun") (b := "place"), if_true, if_false]
theorem BB {Φ : aQ} {σ : Sg} {i : Nat} {e : E} {n : Int} (h : σ[i]? = some (some (.ref M0.length))) (he : ev Φ e σ (s.h M0) = .ok (.int n) (s.h M0)) : ex Φ (.bJ (.v i) (w "begun") e) σ (s.h M0) = .ok (.nx σ) (({ s with bg := n } : Mx).h M0) := by
 simp only [m9,he,R.fm,gF,h,g0,Mx.o,AD]
 exact congrArg (R.ok _) (s0 (s' := { s with bg := n }))
theorem iE {Φ : aQ} {σ : Sg} {i : Nat} {e : E} {d : D} {s' : Mx} (h : σ[i]? = some (some (.ref M0.length))) (he : ev Φ e σ (s.h M0) = .ok d (s'.h M0)) : ex Φ (.bJ (.v i) (w "place") e) σ (s.h M0) = .ok (.nx σ) (({ s' with pl := d } : Mx).h M0) := by
 simp only [m9,he,R.fm,gF,h,g0,Mx.o,AB]
 exact congrArg (R.ok _) (s0 (s' := { s' with pl := d }))
theorem u_ {Φ : aQ} {σ : Sg} {i m : Nat} {nm : Str} {es : Es} (h : σ[i]? = some (some (.ref M0.length))) (hn : ([w "rows", w "most", w "begun", w "place", w "pile", w "frames", w "lies_open", w "log"].all fun x => !(nm == x)) = true) : ev Φ (.cF 1 m nm (.v i) es) σ (s.h M0) = (cA Φ es σ (s.h M0)).bind fun ds M2 => Φ.call m (.ref M0.length :: ds) M2 := by
 simp only [List.all_cons,List.all_nil,Bool.and_true,Bool.and_eq_true,Bool.not_eq_true'] at hn
 obtain ⟨h1,h2,h3,h4,h5,h6,h7,h8⟩ := hn
 simp only [FY,gF,h,R.af,g0,Mx.o,List.lookup_cons,List.lookup_nil,h1,h2,h3,h4,h5,h6,h7,h8,Option.isNone_none,decide_true,Bool.and_self,if_true]
end
end bR
end
section
set_option autoImplicit false
namespace bR
open Fg PySem
inductive Vl : D -> Prop
 | int (i : Int) : Vl (.int i)
 | ak : Vl .ak
 | cell {wd : Str} {sz : Int} {a b : D} {f : Nat} : 1 <= sz -> sz <= 1000 -> Vl a -> Vl b -> Vl (.tup [.str wd,.int sz,a,b,.int f])
noncomputable def bU : D -> Int
 | .tup (_ :: .int n :: _) => n
 | _ => 1
theorem Vl.sz {v : D} (h : Vl v) : 1 <= bU v /\ bU v <= 1000 := by
 cases h with
 | int i => simp [bU]
 | ak => simp [bU]
 | cell h1 h2 _ _ => exact ⟨h1,h2⟩
theorem cG {M : MH} {c : Nat} : oH M c M = .exc c M := by simp [oH]
theorem ay {kp : Bool} {M M' : MH} {d : D} (h : nr M.length d = true) (hl : M'.length = M.length) : eU kp M d M' = .ok d M' := by
 unfold eU
 by_cases hk : kp = false /\ M'.take M.length = M
 ·rw [if_pos hk,if_pos h]
  have : M' = M := by rw [<- hk.2,<- hl,List.take_length]
  rw [this]
 ·rw [if_neg hk]
theorem fB {M M' : MH} {c : Nat} (hl : M'.length = M.length) : oH M c M' = .exc c M' := by
 unfold oH
 by_cases hk : M'.take M.length = M
 ·rw [if_pos hk]
  have : M' = M := by rw [<- hk,<- hl,List.take_length]
  rw [this]
 ·rw [if_neg hk]
section
variable {M : MH} {k : Nat}
theorem nI {v : D} (hv : Vl v) : (aa ah (k + 1)).call 0 [v] M = .ok (.int (bU v)) M := by
 rw [dN fn0]
 cases hv <;> simp [kQ,iV,FD,mS,vw,bU,eU,nr]
theorem gl0 : ah.glob 0 = some (.int 1000) := rfl
theorem yM {wd : Str} {a b : D} (hw : wd.length <= 100000) (ha : Vl a) (hb : Vl b) : (aa ah (k + 2)).call 1 [.str wd,a,b] M = if 1000 < 1 + bU a + bU b then .exc 1 M else .ok (.tup [.str wd,.int (1 + bU a + bU b),a,b]) M := by
 rw [dN x8]
 have h1 := ha.sz
 have h2 := hb.sz
 have h3 : (1 + bU a + bU b).natAbs < 18446744073709551616 := by omega
 have n1 : ∀ {v : D},Vl v -> ∀ m,nr m v = true := fun h m => by
  induction h with
  | int => simp [nr]
  | ak => simp [nr]
  | cell _ _ _ _ i j => simp [nr,fc,i,j]
 by_cases hq : 1000 < 1 + bU a + bU b
 ·simp [kQ,fS,nI ha,nI hb,uE,jx,gl0,cj,rA,hq,bL,hw,h3,cG]
 ·simp [kQ,fS,nI ha,nI hb,uE,jx,gl0,cj,rA,hq,eU,nr,fc,n1 ha,n1 hb]
end
end bR
end
section
set_option autoImplicit false
namespace bR
open Fg PySem
theorem Vl.nr {v : D} (h : Vl v) : ∀ m,Fg.nr m v = true := fun m => by
 induction h with
 | int => simp [Fg.nr]
 | ak => simp [Fg.nr]
 | cell _ _ _ _ i j => simp [Fg.nr,fc,i,j]
theorem yT {α : Type} {xs : List α} {x : α} : cB (xs ++ [x]) (-1) = some x := by
 have h1 : ¬ (0 : Int) <= -1 := by omega
 have h2 : -(((xs ++ [x]).length : Nat) : Int) <= -1 := by rw [List.length_append,List.length_singleton]; omega
 have h3 : ((-1 : Int) + (((xs ++ [x]).length : Nat) : Int)).toNat = xs.length := by rw [List.length_append,List.length_singleton]; omega
 simp only [cB,yZ,if_neg h1,if_pos h2,h3,Option.bind_some]
 simp
theorem sP {n x : Nat} (h : x < n) : yZ n (x : Int) = some x := by
 have h1 : (x : Int) < (n : Int) := by omega
 simp only [yZ,if_pos (show (0 : Int) <= (x : Int) by omega),if_pos h1,Int.toNat_natCast]
theorem cE {α : Type} {xs : List α} {i : Nat} {x : α} (h : xs[i]? = some x) : cB xs (i : Int) = some x := by
 have hx := (List.getElem?_eq_some_iff.mp h).1
 simp only [cB,sP hx,Option.bind_some,h]
theorem fM {P : lX} {k f : Nat} {fn : Fn} {ds : List D} {M M' : MH} {σ' : Sg} {r : R D} (hf : P.fn f = some fn) (hn : ds.length = fn.np) (hb : exs (aa P k) fn.body (ds.map some ++ List.replicate (fn.ns - fn.np) none) M = .ok (.nx σ') M') (hr : eU fn.keep M .ak M' = r) : (aa P (k + 1)).call f ds M = r := by
 rw [dN hf]
 have h1 : ds.length + fn.kI.length - fn.np = fn.kI.length := by omega
 simp only [kQ,h1,List.drop_length,List.append_nil,hb]
 rw [if_pos (by simp; omega)]
 exact hr
theorem i8 {P : lX} {k f c : Nat} {fn : Fn} {ds : List D} {M M' : MH} {σ' : Sg} {r : R D} (hf : P.fn f = some fn) (hn : ds.length = fn.np) (hb : exs (aa P k) fn.body (ds.map some ++ List.replicate (fn.ns - fn.np) none) M = .ok (.xc c σ') M') (hr : oH M c M' = r) : (aa P (k + 1)).call f ds M = r := by
 rw [dN hf]
 have h1 : ds.length + fn.kI.length - fn.np = fn.kI.length := by omega
 simp only [kQ,h1,List.drop_length,List.append_nil,hb]
 rw [if_pos (by simp; omega)]
 exact hr
section
variable {Φ : aQ} {σ σ' : Sg} {M M1 M2 M3 : MH} {e c a b : E} {x d : D} {ss sa sb : Ss} {i n j k : Nat} {xs : List D}
theorem qj (he : ev Φ e σ M = .ok d M1) (ha : ev Φ a σ M1 = .ok (.ref n) M2) (hb : ev Φ b σ M2 = .ok (.int (j : Int)) M3) (h : M3[n]? = some (.lst xs)) (hj : j < xs.length) : exs Φ (.cons (.kP a b e) ss) σ M = exs Φ ss σ (M3.set n (.lst (xs.set j d))) := by
 simp only [bO,Bq,he,R.fm,ha,hb,mq,h,sP hj,R.af]
theorem j0 (h : ev Φ e σ M = .exc k M1) : exs Φ (.cons (.ex e) ss) σ M = .ok (.xc k σ) M1 := by simp only [bO,Jk,h,R.rR,R.af]
theorem qh (h : ev Φ e σ M = .exc k M1) : exs Φ (.cons (.set i e) ss) σ M = .ok (.xc k σ) M1 := by simp only [bO,FW,h,R.rR,R.af]
theorem oB (h : ev Φ c σ M = .ok (.bl true) M1) (ha : exs Φ sa σ M1 = .ok (.xc k σ') M2) : exs Φ (.cons (.ifs c sa sb) ss) σ M = .ok (.xc k σ') M2 := by simp only [bO,nc,h,R.fm,ha,R.af]
theorem DE (h : ev Φ c σ M = .ok (.bl false) M1) (ha : exs Φ sb σ M1 = .ok (.xc k σ') M2) : exs Φ (.cons (.ifs c sa sb) ss) σ M = .ok (.xc k σ') M2 := by simp only [bO,nc,h,R.fm,ha,R.af]
theorem oA {f : Nat} (he : ev Φ e σ M = .ok d M1) (hs : bL d = true) : exs Φ (.cons (.raise f (.cons e .nil)) ss) σ M = .ok (.xc f σ) M1 := by simp only [bO,ye,yf,Bs,he,R.af,hs,if_true,R.fm]
theorem bY {s : S} (h : ex Φ s σ M = .ok (.nx σ') M1) : exs Φ (.cons s ss) σ M = exs Φ ss σ' M1 := by simp only [bO,h,R.af]
end
section
variable {M0 : MH} {s s' : Mx} {d x y : D} {xs p : List D} {t k i : Nat} {Φ : aQ} {σ : Sg} {e : E}
theorem HR {M : MH} {n : Nat} (h : M[n]? = some (.lst (p ++ [x]))) : fU .pop true M (.ref n) [] = .ok x (M.set n (.lst p)) := by
 simp [fU,b5 h,mL]
theorem Gu {M : MH} {n : Nat} (h : M[n]? = some (.lst xs)) (hl : xs.length < line) : fU .append true M (.ref n) [d] = .ok .ak (M.set n (.lst (xs ++ [d]))) := by
 simp only [fU,b5 h,mL,uF,hl,decide_true,if_true]
theorem wJ {M : MH} {n : Nat} (h : M[n]? = some (.lst xs)) : mO .pop M (.ref n) = true := by simp only [mO,b5 h,Option.isSome_some,Bool.and_self]
theorem qA {M : MH} {n : Nat} (h : M[n]? = some (.lst xs)) : mO .append M (.ref n) = true := by simp only [mO,b5 h,Option.isSome_some,Bool.and_self]
theorem e_v {M : MH} (h : σ[i]? = some (some d)) : ev Φ (.v i) σ M = .ok d M := by simp only [gF,h]
theorem e_len {M M1 : MH} {n : Nat} {fz : Bool} (he : ev Φ e σ M = .ok (.ref n) M1) (h : M1[n]? = some (.lst xs)) : ev Φ (.blt .len fz (.cons e .nil)) σ M = .ok (.int xs.length) M1 := by
 simp only [ym,au,he,R.af,bh,yP,vw,h]
theorem pH {M M1 M2 : MH} {n : Nat} {e' : E} {ys : List D} (he : ev Φ e σ M = .ok (.ref n) M1) (h : M1[n]? = some (.lst ys)) (hx : ev Φ e' σ M1 = .ok d M2) (h2 : M2[n]? = some (.lst xs)) (hl : xs.length < line) : ev Φ (.bK .append true e (.cons e' .nil)) σ M = .ok .ak (M2.set n (.lst (xs ++ [d]))) := by
 simp only [gH,he,R.af,qA h,if_true,au,hx,bh,Gu h2 hl]
theorem nq {M M1 : MH} {n : Nat} (he : ev Φ e σ M = .ok (.ref n) M1) (h : M1[n]? = some (.lst (p ++ [x]))) : ev Φ (.bK .pop true e .nil) σ M = .ok x (M1.set n (.lst p)) := by
 simp only [gH,he,R.af,wJ h,if_true,bh,HR h]
theorem tD {M M1 M2 : MH} {n : Nat} {e' : E} {j : Int} (he : ev Φ e σ M = .ok (.ref n) M1) (hx : ev Φ e' σ M1 = .ok (.int j) M2) (h : M2[n]? = some (.lst xs)) (ha : cB xs j = some d) : ev Φ (.idx e e') σ M = .ok d M2 := by
 simp only [nh,he,R.af,hx,mS,vw,h,ha]
theorem lO {M M1 M2 : MH} {e' : E} {j : Int} (he : ev Φ e σ M = .ok (.lst xs) M1) (hx : ev Φ e' σ M1 = .ok (.int j) M2) (ha : cB xs j = some d) : ev Φ (.idx e e') σ M = .ok d M2 := by
 simp only [nh,he,R.af,hx,mS,vw,ha]
theorem aK {M M1 M2 : MH} {e' : E} {j : Int} (he : ev Φ e σ M = .ok (.tup xs) M1) (hx : ev Φ e' σ M1 = .ok (.int j) M2) (ha : cB xs j = some d) : ev Φ (.idx e e') σ M = .ok d M2 := by
 simp only [nh,he,R.af,hx,mS,vw,ha]
theorem kH {M M1 M2 : MH} {e' : E} {a b : Int} {fz : Bool} (he : ev Φ e σ M = .ok (.int a) M1) (hx : ev Φ e' σ M1 = .ok (.int b) M2) : ev Φ (.op .add fz e e') σ M = .ok (.int (a + b)) M2 := by
 simp only [jo,he,R.af,hx,uE,jx]
theorem yp {M M1 M2 : MH} {e' : E} {a b : Int} {fz : Bool} (he : ev Φ e σ M = .ok (.int a) M1) (hx : ev Φ e' σ M1 = .ok (.int b) M2) : ev Φ (.op .sub fz e e') σ M = .ok (.int (a - b)) M2 := by
 simp only [jo,he,R.af,hx,uE,jx]
theorem aT {M M1 : MH} {f : Nat} (he : ev Φ e σ M = .ok d M1) : ev Φ (.call f (.cons e .nil)) σ M = Φ.call f [d] M1 := by
 simp only [fT,au,he,R.af,bh]
theorem Jw {M M1 : MH} {a b : Str} (he : ev Φ e σ M = .ok (.str a) M1) : ev Φ (.cmp .eq e (.k (.str b))) σ M = .ok (.bl (decide (a = b))) M1 := by
 simp [he,cj,BV,KP,cS,top,Fg.plain,dep]
theorem dJ (h : σ[i]? = some (some (.ref M0.length))) (hp : s.pile = p ++ [x]) : ev Φ (.bK .pop true (.fld (.v i) (w "pile")) .nil) σ (s.h M0) = .ok x (({ s with pile := p } : Mx).h M0) := by
 have g : (s.h M0)[M0.length + 1]? = some (.lst (p ++ [x])) := by rw [g1,hp]
 simp only [gH,ya h,R.af,wJ g,if_true,bh,HR g,s1]
theorem i6 (h : σ[i]? = some (some (.ref M0.length))) (he : ev Φ e σ (s.h M0) = .ok d (s'.h M0)) (hl : s'.pile.length < line) : ev Φ (.bK .append true (.fld (.v i) (w "pile")) (.cons e .nil)) σ (s.h M0) = .ok .ak (({ s' with pile := s'.pile ++ [d] } : Mx).h M0) := by
 simp only [gH,ya h,R.af,qA g1,if_true,au,bh,he,Gu g1 hl,s1]
theorem tw (h : σ[i]? = some (some (.ref M0.length))) (he : ev Φ e σ (s.h M0) = .ok d (s.h M0)) (hl : s.log.length < line) : ev Φ (.bK .append true (.fld (.v i) (w "log")) (.cons e .nil)) σ (s.h M0) = .ok .ak (({ s with log := s.log ++ [d] } : Mx).h M0) := by
 simp only [gH,CN h,R.af,qA g4,if_true,au,bh,he,Gu g4 hl,s4]
theorem jr (h : σ[i]? = some (some (.ref M0.length))) (hf : s.frs = p ++ [x]) : ev Φ (.idx (.fld (.v i) (w "frames")) (.neg (.k (.int 1)))) σ (s.h M0) = .ok x (s.h M0) := by
 simp only [nh,cN h,R.af,F5,yj,mS,vw,g2,hf,yT]
end
structure cV (n : Nat) (T : MH) (t k l : Nat) (kn fl : List D) (bk : D) : Prop where
 at_ : T[t]? = some (.ins 0 [(w "known", .ref (n + (k + 5))), (w "fields", .ref (n + (l + 5))), (w "behind_call", bk)])
 kn : T[k]? = some (.lst kn)
 fl : T[l]? = some (.lst fl)
section
variable {M0 : MH} {s s' : Mx} {d x y bk : D} {xs p kn fl : List D} {t k l i : Nat} {Φ : aQ} {σ : Sg} {e : E}
theorem F9 (A : cV M0.length s.T t k l kn fl bk) (he : ev Φ e σ (s.h M0) = .ok (.ref (M0.length + (t + 5))) (s.h M0)) : ev Φ (.fld e (w "known")) σ (s.h M0) = .ok (.ref (M0.length + (k + 5))) (s.h M0) := by
 simp only [cR,he,R.af,gT,A.at_,List.lookup_cons,beq_self_eq_true]
theorem By (A : cV M0.length s.T t k l kn fl bk) (he : ev Φ e σ (s.h M0) = .ok (.ref (M0.length + (t + 5))) (s.h M0)) : ev Φ (.fld e (w "fields")) σ (s.h M0) = .ok (.ref (M0.length + (l + 5))) (s.h M0) := by
 simp only [cR, he, R.af, gT, A.at_, List.lookup_cons, beq_self_eq_true, wz (a := "fields") (b := "known")]
theorem e_bk {s0 : Mx} (A : cV M0.length s.T t k l kn fl bk) (he : ev Φ e σ (s0.h M0) = .ok (.ref (M0.length + (t + 5))) (s.h M0)) : ev Φ (.fld e (w "behind_call")) σ (s0.h M0) = .ok bk (s.h M0) := by
 simp only [cR, he, R.af, gT, A.at_, List.lookup_cons, beq_self_eq_true, wz (a := "behind_call") (b := "known"), wz (a := "behind_call") (b := "fields")]
end
section
variable {M0 : MH} {s : Mx} {v x y bk : D} {p kn fl : List D} {t k l f : Nat} {b : Bool}
theorem xh (h1 : s.av.length < line) (h2 : s.log.length < line) : (aa ah (k + 1)).call 10 [.ref M0.length] (s.h M0) = .ok (.int s.av.length) (({ s with av := s.av ++ [.bl true], log := s.log ++ [.tup [.str (w "open"), .int s.av.length]] } : Mx).h M0) := by
 have e0 : ev (aa ah k) (.blt .len true (.cons (.fld (.v 0) (w "lies_open")) .nil)) [some (.ref M0.length), none] (s.h M0) = .ok (.int s.av.length) (s.h M0) := e_len (m6 rfl) g3
 have e1 := pH (Φ := aa ah k) (e := .fld (.v 0) (w "lies_open")) (e' := .k (.bl true)) (σ := [some (.ref M0.length), some (.int s.av.length)]) (m6 (s := s) rfl) g3 rfl g3 h1
 rw [s3] at e1
 have e2 := tw (Φ := aa ah k) (e := .tup (.cons (.k (.str (w "open"))) (.cons (.v 1) .nil))) (σ := [some (.ref M0.length), some (.int s.av.length)]) (s := { s with av := s.av ++ [.bl true] }) (M0 := M0) (i := 0) rfl rfl h2
 exact aO fn10 rfl ((ao e0).trans ((bZ e1).trans ((bZ e2).trans (aR rfl)))) (ay (by simp [nr]) (by rw [len,len]))
theorem xg (hf : f < s.av.length) (h2 : s.log.length < line) : (aa ah (k + 1)).call 11 [.ref M0.length, .int f] (s.h M0) = .ok .ak (({ s with av := s.av.set f (.bl false), log := s.log ++ [.tup [.str (w "shut"), .int f]] } : Mx).h M0) := by
 have e2 := tw (Φ := aa ah k) (e := .tup (.cons (.k (.str (w "shut"))) (.cons (.v 1) .nil))) (σ := [some (.ref M0.length), some (.int f)]) (s := { s with av := s.av.set f (.bl false) }) (M0 := M0) (i := 0) rfl rfl h2
 have e1 := qj (Φ := aa ah k) (e := .k (.bl false)) (a := .fld (.v 0) (w "lies_open")) (b := .v 1) (σ := [some (.ref M0.length), some (.int f)]) (ss := .cons (.ex (.bK .append true (.fld (.v 0) (w "log")) (.cons (.tup (.cons (.k (.str (w "shut"))) (.cons (.v 1) .nil))) .nil))) .nil) rfl (m6 (s := s) (M0 := M0) rfl) rfl g3 hf
 rw [s3] at e1
 exact fM fn11 rfl (e1.trans ((bZ e2).trans rfl)) (ay (by simp [nr]) (by rw [len,len]))
theorem kg (hf : s.av[f]? = some (.bl b)) (hs : f < 18446744073709551616) : (aa ah (k + 1)).call 12 [.ref M0.length,.int f] (s.h M0) = if b then .ok .ak (s.h M0) else .exc 5 (s.h M0) := by
 have e0 : ev (aa ah k) (.not (.idx (.fld (.v 0) (w "lies_open")) (.v 1))) [some (.ref M0.length), some (.int f)] (s.h M0) = .ok (.bl (!b)) (s.h M0) := by
  rw [yh,tD (m6 (s := s) (M0 := M0) (i := 0) rfl) rfl g3 (cE hf)]
  rfl
 have hs' : bL (.int (f : Int)) = true := by simp only [bL,decide_eq_true_eq]; omega
 cases b with
 | true => exact fM Ji rfl ((bG e0).trans rfl) (ay (by simp [nr]) rfl)
 | false => exact i8 Ji rfl (oB e0 (oA rfl hs')) cG
end
end bR
end
section
set_option autoImplicit false
namespace bR
open Fg PySem
section
variable {M0 : MH} {s : Mx} {v x y bk a b : D} {p fs kn fl : List D} {t k l f : Nat} {bo : Bool} {wd : Str}
theorem BP {M : MH} (hw : wd.length <= 100000) (ha : Vl a) (hb : Vl b) (h : 1000 < 1 + bU a + bU b) : (aa ah (k + 2)).call 1 [.str wd,a,b] M = .exc 1 M := by rw [yM hw ha hb,if_pos h]
theorem tQ {M : MH} (hw : wd.length <= 100000) (ha : Vl a) (hb : Vl b) (h : ¬ 1000 < 1 + bU a + bU b) : (aa ah (k + 2)).call 1 [.str wd,a,b] M = .ok (.tup [.str wd,.int (1 + bU a + bU b),a,b]) M := by rw [yM hw ha hb,if_neg h]
theorem kG {e : E} {σ : Sg} {i : Nat} {Φ : aQ} (h : σ[i]? = some (some (.ref M0.length))) (he : ev Φ e σ (s.h M0) = .ok (.int f) (s.h M0)) : ev Φ (.cF 1 12 (w "want_open") (.v i) (.cons e .nil)) σ (s.h M0) = Φ.call 12 [.ref M0.length, .int f] (s.h M0) := by
 rw [u_ h (by decide +kernel),au,he]; rfl
theorem EK (hw : wd.length <= 100000) (ha : Vl a) (hb : Vl b) (hp : s.pile = p ++ [a] ++ [b]) (h : 1000 < 1 + bU a + bU b) : (aa ah (k + 3)).call 13 [.ref M0.length,.str wd,.int f] (s.h M0) = .exc 1 (({ s with pile := p } : Mx).h M0) := by
 have e1 := dJ (Φ := aa ah (k + 2)) (σ := [some (.ref M0.length),some (.str wd),some (.int f),none,none,none]) (M0 := M0) (i := 0) (s := s) rfl hp
 have e2 := dJ (Φ := aa ah (k + 2)) (σ := [some (.ref M0.length),some (.str wd),some (.int f),some b,none,none]) (M0 := M0) (i := 0) (s := { s with pile := p ++ [a] }) rfl rfl
 exact i8 FP rfl ((ao e1).trans ((ao e2).trans (qh (BP hw ha hb h)))) (fB (by rw [len,len]))
theorem EJ (hw : wd.length <= 100000) (ha : Vl a) (hb : Vl b) (hp : s.pile = p ++ [a] ++ [b]) (h : ¬ 1000 < 1 + bU a + bU b) (hf : s.av[f]? = some (.bl false)) (hs : f < 18446744073709551616) : (aa ah (k + 3)).call 13 [.ref M0.length,.str wd,.int f] (s.h M0) = .exc 5 (({ s with pile := p } : Mx).h M0) := by
 have e1 := dJ (Φ := aa ah (k + 2)) (σ := [some (.ref M0.length),some (.str wd),some (.int f),none,none,none]) (M0 := M0) (i := 0) (s := s) rfl hp
 have e2 := dJ (Φ := aa ah (k + 2)) (σ := [some (.ref M0.length),some (.str wd),some (.int f),some b,none,none]) (M0 := M0) (i := 0) (s := { s with pile := p ++ [a] }) rfl rfl
 have ec : ev (aa ah (k + 2)) (.call 1 (.cons (.v 1) (.cons (.v 4) (.cons (.v 3) .nil)))) [some (.ref M0.length),some (.str wd),some (.int f),some b,some a,none] (({ s with pile := p } : Mx).h M0) = .ok (.tup [.str wd,.int (1 + bU a + bU b),a,b]) (({ s with pile := p } : Mx).h M0) := tQ hw ha hb h
 have e3 := kG (Φ := aa ah (k + 2)) (e := .v 2) (f := f) (σ := [some (.ref M0.length),some (.str wd),some (.int f),some b,some a,some (.tup [.str wd,.int (1 + bU a + bU b),a,b])]) (M0 := M0) (i := 0) (s := { s with pile := p }) rfl rfl
 replace e3 := e3.trans (kg (s := { s with pile := p }) (b := false) hf hs)
 exact i8 FP rfl ((ao e1).trans ((ao e2).trans ((ao ec).trans (j0 e3)))) (fB (by rw [len,len]))
theorem Iw (hw : wd.length <= 100000) (ha : Vl a) (hb : Vl b) (hp : s.pile = p ++ [a] ++ [b]) (h : ¬ 1000 < 1 + bU a + bU b) (hf : s.av[f]? = some (.bl true)) (hs : f < 18446744073709551616) (h2 : s.log.length < line) (h3 : p.length < line) : (aa ah (k + 3)).call 13 [.ref M0.length,.str wd,.int f] (s.h M0) =
  .ok .ak (({ s with pile := p ++ [.tup [.str wd, .int (1 + bU a + bU b), a, b, .int f]], log := s.log ++ [.tup [.str (w "lay"), .int f]] } : Mx).h M0) := by
 have e1 := dJ (Φ := aa ah (k + 2)) (σ := [some (.ref M0.length),some (.str wd),some (.int f),none,none,none]) (M0 := M0) (i := 0) (s := s) rfl hp
 have e2 := dJ (Φ := aa ah (k + 2)) (σ := [some (.ref M0.length),some (.str wd),some (.int f),some b,none,none]) (M0 := M0) (i := 0) (s := { s with pile := p ++ [a] }) rfl rfl
 have ec : ev (aa ah (k + 2)) (.call 1 (.cons (.v 1) (.cons (.v 4) (.cons (.v 3) .nil)))) [some (.ref M0.length),some (.str wd),some (.int f),some b,some a,none] (({ s with pile := p } : Mx).h M0) = .ok (.tup [.str wd,.int (1 + bU a + bU b),a,b]) (({ s with pile := p } : Mx).h M0) := tQ hw ha hb h
 have e3 := kG (Φ := aa ah (k + 2)) (e := .v 2) (f := f) (σ := [some (.ref M0.length),some (.str wd),some (.int f),some b,some a,some (.tup [.str wd,.int (1 + bU a + bU b),a,b])]) (M0 := M0) (i := 0) (s := { s with pile := p }) rfl rfl
 replace e3 := e3.trans (kg (s := { s with pile := p }) (b := true) hf hs)
 have e4 := tw (Φ := aa ah (k + 2)) (e := .tup (.cons (.k (.str (w "lay"))) (.cons (.v 2) .nil))) (σ := [some (.ref M0.length), some (.str wd), some (.int f), some b, some a, some (.tup [.str wd, .int (1 + bU a + bU b), a, b])]) (s := { s with pile := p }) (M0 := M0) (i := 0) rfl rfl h2
 have e6 : ev (aa ah (k + 2)) (.op .add true (.v 5) (.tup (.cons (.v 2) .nil))) [some (.ref M0.length), some (.str wd), some (.int f), some b, some a, some (.tup [.str wd, .int (1 + bU a + bU b), a, b])] (({ s with pile := p, log := s.log ++ [.tup [.str (w "lay"), .int f]] } : Mx).h M0) =
  .ok (.tup [.str wd, .int (1 + bU a + bU b), a, b, .int f]) (({ s with pile := p, log := s.log ++ [.tup [.str (w "lay"), .int f]] } : Mx).h M0) := rfl
 have e5 := i6 (Φ := aa ah (k + 2)) (M0 := M0) (i := 0) (s := { s with pile := p, log := s.log ++ [.tup [.str (w "lay"), .int f]] }) (s' := { s with pile := p, log := s.log ++ [.tup [.str (w "lay"), .int f]] }) rfl e6 h3
 exact fM FP rfl ((ao e1).trans ((ao e2).trans ((ao ec).trans ((bZ e3).trans ((bZ e4).trans ((bZ e5).trans rfl)))))) (ay (by simp [nr]) (by rw [len,len]))
end
noncomputable def CQ : List Str -> Es
 | [] => .nil
 | b :: bs => .cons (.k (.str b)) (CQ bs)
theorem sX {Φ : aQ} {σ : Sg} {M : MH} : ∀ bs : List Str,cA Φ (CQ bs) σ M = .ok (bs.map D.str) M
 | [] => rfl
 | b :: bs => by rw [CQ,au,yj,R.af,sX bs]; rfl
theorem pF {Φ : aQ} {σ : Sg} {M M1 : MH} {e : E} {c : Str} {bs : List Str} {q : Bool} (he : ev Φ e σ M = .ok (.str c) M1) (hq : (bs.any fun z => decide (z = c)) = q) : ev Φ (.cmp .isin e (.tup (CQ bs))) σ M = .ok (.bl q) M1 := by
 have h1 : (bs.map D.str).all flat = true := by rw [List.all_map]; exact List.all_eq_true.mpr fun _ _ => rfl
 have h2 : ((bs.map D.str).any fun d => aI d (.str c)) = q := by
  rw [List.any_map,<- hq]
  congr 1
 rw [fK,he,R.af,gG,sX]
 simp only [R.af,cj,FE,vw,flat,h1,h2,Bool.and_self,if_true]
theorem bA {Φ : aQ} {σ : Sg} {M M1 : MH} {e : E} {c z : Str} {q : Bool} (he : ev Φ e σ M = .ok (.str c) M1) (hq : decide (c = z) = q) : ev Φ (.cmp .eq e (.k (.str z))) σ M = .ok (.bl q) M1 := by
 rw [Jw he,hq]
section
variable {M0 : MH} {s : Mx} {v x y bk a b : D} {p fs kn fl : List D} {t k l f : Nat} {bo : Bool} {wd c : Str} {sz : Int}
theorem lu {M : MH} {q : Bool} (hq : ([w "first", w "head"].any fun z => decide (z = wd)) = q) (ha : Vl a) (hb : Vl b) : (aa ah (k + 1)).call 4 [.str wd, .tup [.str c, .int sz, a, b, .int f]] M = .ok (if q then a else b) M := by
 have e1 : ev (aa ah k) (.cmp .xQ (.v 1) (.k .ak)) [some (.str wd),some (.tup [.str c,.int sz,a,b,.int f])] M = .ok (.bl false) M := rfl
 have e2 := pF (Φ := aa ah k) (e := .v 0) (σ := [some (.str wd),some (.tup [.str c,.int sz,a,b,.int f])]) (M := M) (M1 := M) rfl hq
 cases q with
 | true => exact aO fn4 rfl ((bG e1).trans (ja e2 (aR rfl))) (ay (ha.nr _) rfl)
 | false => exact aO fn4 rfl ((bG e1).trans ((bG e2).trans (aR rfl))) (ay (hb.nr _) rfl)
theorem AQ {q : Bool} (hq : ([w "first", w "head"].any fun z => decide (z = wd)) = q) (ha : Vl a) (hb : Vl b) (hp : s.pile = p ++ [.tup [.str c, .int sz, a, b, .int f]]) (hf : s.av[f]? = some (.bl false)) (hs : f < 18446744073709551616) : (aa ah (k + 3)).call 14 [.ref M0.length, .str wd] (s.h M0) = .exc 5 (({ s with pile := p } : Mx).h M0) := by
 have e1 := dJ (Φ := aa ah (k + 2)) (σ := [some (.ref M0.length),some (.str wd),none,none]) (M0 := M0) (i := 0) (s := s) rfl hp
 have ec : ev (aa ah (k + 2)) (.call 4 (.cons (.v 1) (.cons (.v 2) .nil))) [some (.ref M0.length),some (.str wd),some (.tup [.str c,.int sz,a,b,.int f]),none] (({ s with pile := p } : Mx).h M0) = .ok (if q then a else b) (({ s with pile := p } : Mx).h M0) := lu hq ha hb
 have e3 := (kG (Φ := aa ah (k + 2)) (e := .idx (.v 2) (.k (.int 4))) (f := f) (σ := [some (.ref M0.length),some (.str wd),some (.tup [.str c,.int sz,a,b,.int f]),some (if q then a else b)]) (M0 := M0) (i := 0) (s := { s with pile := p }) rfl rfl).trans (kg (s := { s with pile := p }) (b := false) hf hs)
 exact i8 Jh rfl ((ao e1).trans ((ao ec).trans (j0 e3))) (fB (by rw [len,len]))
theorem EI {q : Bool} (hq : ([w "first", w "head"].any fun z => decide (z = wd)) = q) (ha : Vl a) (hb : Vl b) (hp : s.pile = p ++ [.tup [.str c, .int sz, a, b, .int f]]) (hf : s.av[f]? = some (.bl true)) (hs : f < 18446744073709551616) (h2 : s.log.length < line) (h3 : p.length < line) : (aa ah (k + 3)).call 14 [.ref M0.length, .str wd] (s.h M0) =
  .ok .ak (({ s with pile := p ++ [if q then a else b], log := s.log ++ [.tup [.str (w "look"), .int f]] } : Mx).h M0) := by
 have e1 := dJ (Φ := aa ah (k + 2)) (σ := [some (.ref M0.length),some (.str wd),none,none]) (M0 := M0) (i := 0) (s := s) rfl hp
 have ec : ev (aa ah (k + 2)) (.call 4 (.cons (.v 1) (.cons (.v 2) .nil))) [some (.ref M0.length),some (.str wd),some (.tup [.str c,.int sz,a,b,.int f]),none] (({ s with pile := p } : Mx).h M0) = .ok (if q then a else b) (({ s with pile := p } : Mx).h M0) := lu hq ha hb
 have e3 := (kG (Φ := aa ah (k + 2)) (e := .idx (.v 2) (.k (.int 4))) (f := f) (σ := [some (.ref M0.length),some (.str wd),some (.tup [.str c,.int sz,a,b,.int f]),some (if q then a else b)]) (M0 := M0) (i := 0) (s := { s with pile := p }) rfl rfl).trans (kg (s := { s with pile := p }) (b := true) hf hs)
 have e4 := tw (Φ := aa ah (k + 2)) (e := .tup (.cons (.k (.str (w "look"))) (.cons (.idx (.v 2) (.k (.int 4))) .nil))) (σ := [some (.ref M0.length), some (.str wd), some (.tup [.str c, .int sz, a, b, .int f]), some (if q then a else b)]) (s := { s with pile := p }) (M0 := M0) (i := 0) rfl rfl h2
 have e5 := i6 (Φ := aa ah (k + 2)) (e := .v 3) (d := if q then a else b) (σ := [some (.ref M0.length), some (.str wd), some (.tup [.str c, .int sz, a, b, .int f]), some (if q then a else b)]) (M0 := M0) (i := 0) (s := { s with pile := p, log := s.log ++ [.tup [.str (w "look"), .int f]] }) (s' := { s with pile := p, log := s.log ++ [.tup [.str (w "look"), .int f]] }) rfl rfl h3
 exact fM Jh rfl ((ao e1).trans ((ao ec).trans ((bZ e3).trans ((bZ e4).trans ((bZ e5).trans rfl))))) (ay (by simp [nr]) (by rw [len,len]))
end
end bR
end
section
set_option autoImplicit false
namespace bR
open Fg PySem
theorem m8 {Φ : aQ} {s : S} {σ : Sg} {M : MH} : exs Φ (.cons s .nil) σ M = ex Φ s σ M := by
 rw [bO]
 cases ex Φ s σ M with
 | ok o M1 => cases o <;> rfl
 | exc c M1 => rfl
 | bad => rfl
section
variable {Φ : aQ} {σ : Sg} {M M1 : MH} {c : E} {a b : Ss}
theorem selF (h : ev Φ c σ M = .ok (.bl false) M1) : exs Φ (.cons (.ifs c a b) .nil) σ M = exs Φ b σ M1 := by rw [m8,nc,h]; rfl
theorem selT (h : ev Φ c σ M = .ok (.bl true) M1) : exs Φ (.cons (.ifs c a b) .nil) σ M = exs Φ a σ M1 := by rw [m8,nc,h]; rfl
end
noncomputable def rF : Ss := .cons (.ex (.cF 1 16 (w "carry") (.v 0) (.cons (.v 1) .nil))) .nil
noncomputable def bGo : Ss := .cons (.ex (.cF 1 17 (w "go") (.v 0) (.cons (.v 1) .nil))) .nil
noncomputable def GK : E := .fld (.idx (.fld (.v 0) (w "frames")) (.neg (.k (.int 1)))) (w "fields")
noncomputable def Gr : Ss := .cons (.ex (.cF 1 13 (w "lay") (.v 0) (.cons (.v 2) (.cons (.idx GK (.idx (.v 1) (.k (.int 1)))) .nil)))) .nil
noncomputable def yR : Ss := .cons (.ex (.cF 1 14 (w "look") (.v 0) (.cons (.v 2) .nil))) .nil
noncomputable def yu : E := .fld (.v 0) (w "pile")
noncomputable def BW : Ss := .cons (.ex (.bK .append true yu (.cons (.k .ak) .nil))) .nil
noncomputable def tT : Ss := .cons (.ex (.bK .append true yu (.cons (.y9 (.cmp .xQ (.bK .pop true yu .nil) (.k .ak)) (.k (.int 1)) (.k (.int 0))) .nil))) .nil
noncomputable def bOpen : Ss := .cons (.ex (.bK .append true GK (.cons (.cF 1 10 (w "open_field") (.v 0) .nil) .nil))) .nil
noncomputable def tS : Ss := .cons (.ex (.cF 1 11 (w "shut_field") (.v 0) (.cons (.bK .pop true GK .nil) .nil))) .nil
noncomputable def yQ : Ss := .cons (.ex (.cF 1 15 (w "reckon") (.v 0) (.cons (.v 2) .nil))) .nil
noncomputable def t8 : Ss := .cons (.ifs (.cmp .eq (.v 2) (.k (.str (w "shut")))) tS yQ) .nil
noncomputable def t7 : Ss := .cons (.ifs (.cmp .eq (.v 2) (.k (.str (w "open")))) bOpen t8) .nil
noncomputable def t6 : Ss := .cons (.ifs (.cmp .eq (.v 2) (.k (.str (w "none")))) tT t7) .nil
noncomputable def t5 : Ss := .cons (.ifs (.cmp .eq (.v 2) (.k (.str (w "nil")))) BW t6) .nil
noncomputable def w1 : List Str := [w "number", w "local", w "keep", w "drop"]
noncomputable def w2 : List Str := [w "jump", w "unless", w "call", w "back"]
noncomputable def w3 : List Str := [w "pair", w "cons"]
noncomputable def w4 : List Str := [w "first", w "second", w "head", w "tail"]
noncomputable def t4 : Ss := .cons (.ifs (.cmp .isin (.v 2) (.tup (CQ w4))) yR t5) .nil
noncomputable def t3 : Ss := .cons (.ifs (.cmp .isin (.v 2) (.tup (CQ w3))) Gr t4) .nil
noncomputable def t2 : Ss := .cons (.ifs (.cmp .isin (.v 2) (.tup (CQ w2))) bGo t3) .nil
noncomputable def t1 : Ss := .cons (.ifs (.cmp .isin (.v 2) (.tup (CQ w1))) rF t2) .nil
theorem uf : bN.body = .cons (.set 1 (.idx (.fld (.v 0) (w "rows")) (.fld (.v 0) (w "place")))) (.cons (.bJ (.v 0) (w "place") (.op .add false (.fld (.v 0) (w "place")) (.k (.int 1)))) (.cons (.set 2 (.idx (.v 1) (.k (.int 0)))) t1)) := rfl
noncomputable def an (ws : List Str) (z : Str) : Bool := ws.any fun y => decide (y = z)
noncomputable def br (z : Str) : Ss :=
 if an w1 z then rF else if an w2 z then bGo else if an w3 z then Gr else if an w4 z then yR
 else if decide (z = w "nil") then BW else if decide (z = w "none") then tT else if decide (z = w "open") then bOpen else if decide (z = w "shut") then tS else yQ
theorem sel {Φ : aQ} {σ : Sg} {M : MH} {c : E} {a b b' : Ss} {q : Bool} (h : ev Φ c σ M = .ok (.bl q) M) (hb : exs Φ b σ M = exs Φ b' σ M) : exs Φ (.cons (.ifs c a b) .nil) σ M = exs Φ (if q then a else b') σ M := by
 cases q with
 | true => exact selT h
 | false => exact (selF h).trans hb
theorem Hg {Φ : aQ} {M : MH} {r x : D} {z : Str} : exs Φ t1 [some r,some x,some (.str z)] M = exs Φ (br z) [some r,some x,some (.str z)] M :=
 sel (pF rfl rfl) (sel (pF rfl rfl) (sel (pF rfl rfl) (sel (pF rfl rfl) (sel (bA rfl rfl) (sel (bA rfl rfl) (sel (bA rfl rfl) (sel (bA rfl rfl) rfl)))))))
section
variable {M0 : MH} {s : Mx} {rs rest : List D} {z : Str} {j k : Nat} {i : Int}
theorem nX {Φ : aQ} (hr : s.rows = .lst rs) (hp : s.pl = .int i) (ha : cB rs i = some (.tup (.str z :: rest))) :
  exs Φ bN.body [some (.ref M0.length),none,none] (s.h M0) = exs Φ (br z) [some (.ref M0.length),some (.tup (.str z :: rest)),some (.str z)] (({ s with pl := .int (i + 1) } : Mx).h M0) := by
 have e1 : ev Φ (.idx (.fld (.v 0) (w "rows")) (.fld (.v 0) (w "place"))) [some (.ref M0.length), none, none] (s.h M0) = .ok (.tup (.str z :: rest)) (s.h M0) :=
  lO ((FQ (M0 := M0) (s := s) (i := 0) rfl).trans (by rw [hr])) ((m5 (M0 := M0) (s := s) (i := 0) rfl).trans (by rw [hp])) ha
 have e2 := iE (Φ := Φ) (σ := [some (.ref M0.length), some (.tup (.str z :: rest)), none]) (e := .op .add false (.fld (.v 0) (w "place")) (.k (.int 1))) (s := s) (s' := s) (M0 := M0) (i := 0) rfl (kH ((m5 (M0 := M0) (s := s) (i := 0) rfl).trans (by rw [hp])) rfl)
 have e3 : ev Φ (.idx (.v 1) (.k (.int 0))) [some (.ref M0.length),some (.tup (.str z :: rest)),none] (({ s with pl := .int (i + 1) } : Mx).h M0) = .ok (.str z) (({ s with pl := .int (i + 1) } : Mx).h M0) := aK rfl rfl bB
 rw [uf]
 exact (ao e1).trans ((bY e2).trans ((ao e3).trans Hg))
theorem bx {s' : Mx} (hr : s.rows = .lst rs) (hp : s.pl = .int i) (ha : cB rs i = some (.tup (.str z :: rest))) (hb : exs (aa ah k) (br z) [some (.ref M0.length),some (.tup (.str z :: rest)),some (.str z)] (({ s with pl := .int (i + 1) } : Mx).h M0) = .ok (.nx [some (.ref M0.length),some (.tup (.str z :: rest)),some (.str z)]) (s'.h M0))
  (hn : eU false (s.h M0) .ak (s'.h M0) = .ok .ak (s'.h M0)) : (aa ah (k + 1)).call 19 [.ref M0.length] (s.h M0) = .ok .ak (s'.h M0) := fM Jf rfl ((nX hr hp ha).trans hb) hn
theorem jH {s' : Mx} {c : Nat} (hr : s.rows = .lst rs) (hp : s.pl = .int i) (ha : cB rs i = some (.tup (.str z :: rest))) (hb : exs (aa ah k) (br z) [some (.ref M0.length),some (.tup (.str z :: rest)),some (.str z)] (({ s with pl := .int (i + 1) } : Mx).h M0) = .ok (.xc c [some (.ref M0.length),some (.tup (.str z :: rest)),some (.str z)]) (s'.h M0))
  (hn : s'.T.length = s.T.length) : (aa ah (k + 1)).call 19 [.ref M0.length] (s.h M0) = .exc c (s'.h M0) := i8 Jf rfl ((nX hr hp ha).trans hb) (fB (by rw [len,len,hn]))
theorem aZ {s' : Mx} (h : s'.T.length = s.T.length) : eU false (s.h M0) .ak (s'.h M0) = .ok .ak (s'.h M0) := ay (by simp [nr]) (by rw [len,len,h])
end
end bR
end
section
set_option autoImplicit false
namespace bR
open Fg PySem
section
variable {M0 : MH} {s : Mx} {x y v bk : D} {rest fs kn fl p : List D} {z : Str} {t k l f j : Nat} {i : Int} {Φ : aQ} {σ : Sg}
theorem fu {m : Nat} {nm : Str} {es : Es} {ds : List D} {s' : Mx} {M1 : MH} {ss : Ss} (h : σ[0]? = some (some (.ref M0.length))) (hn : ([w "rows", w "most", w "begun", w "place", w "pile", w "frames", w "lies_open", w "log"].all fun x => !(nm == x)) = true) (he : cA Φ es σ (s.h M0) = .ok ds (s'.h M0)) (hc : Φ.call m (.ref M0.length :: ds) (s'.h M0) = .ok y M1) : exs Φ (.cons (.ex (.cF 1 m nm (.v 0) es)) ss) σ (s.h M0) = exs Φ ss σ M1 :=
 bZ ((u_ h hn).trans (by rw [he]; exact hc))
theorem jZ {m c : Nat} {nm : Str} {es : Es} {ds : List D} {s' : Mx} {M1 : MH} {ss : Ss} (h : σ[0]? = some (some (.ref M0.length))) (hn : ([w "rows", w "most", w "begun", w "place", w "pile", w "frames", w "lies_open", w "log"].all fun x => !(nm == x)) = true) (he : cA Φ es σ (s.h M0) = .ok ds (s'.h M0)) (hc : Φ.call m (.ref M0.length :: ds) (s'.h M0) = .exc c M1) : exs Φ (.cons (.ex (.cF 1 m nm (.v 0) es)) ss) σ (s.h M0) = .ok (.xc c σ) M1 :=
 j0 ((u_ h hn).trans (by rw [he]; exact hc))
theorem yJ (hf : s.frs = fs ++ [y]) (hl : s.pile.length < line) : (aa ah (k + 1)).call 16 [.ref M0.length, .tup [.str (w "number"), x]] (s.h M0) = .ok .ak (({ s with pile := s.pile ++ [x] } : Mx).h M0) := by
 have e1 := jr (Φ := aa ah k) (σ := [some (.ref M0.length), some (.tup [.str (w "number"), x]), none]) (M0 := M0) (s := s) (i := 0) rfl hf
 have e2 : ev (aa ah k) (.cmp .eq (.idx (.v 1) (.k (.int 0))) (.k (.str (w "number")))) [some (.ref M0.length), some (.tup [.str (w "number"), x]), some y] (s.h M0) = .ok (.bl true) (s.h M0) := bA (aK rfl rfl bB) (by decide +kernel)
 have e3 := i6 (Φ := aa ah k) (e := .idx (.v 1) (.k (.int 1))) (d := x) (σ := [some (.ref M0.length), some (.tup [.str (w "number"), x]), some y]) (M0 := M0) (i := 0) (s := s) (s' := s) rfl (aK rfl rfl gq) hl
 exact fM Bk rfl ((ao e1).trans (gS e2 ((bZ e3).trans rfl))) (aZ rfl)
theorem BK (hf : s.frs = fs ++ [.ref (M0.length + (t + 5))]) (A : cV M0.length s.T t j l kn fl bk) (hx : cB kn i = some x) (hl : s.pile.length < line) : (aa ah (k + 1)).call 16 [.ref M0.length, .tup [.str (w "local"), .int i]] (s.h M0) = .ok .ak (({ s with pile := s.pile ++ [x] } : Mx).h M0) := by
 have e1 := jr (Φ := aa ah k) (σ := [some (.ref M0.length), some (.tup [.str (w "local"), .int i]), none]) (M0 := M0) (s := s) (i := 0) rfl hf
 have e2 : ev (aa ah k) (.cmp .eq (.idx (.v 1) (.k (.int 0))) (.k (.str (w "number")))) [some (.ref M0.length), some (.tup [.str (w "local"), .int i]), some (.ref (M0.length + (t + 5)))] (s.h M0) = .ok (.bl false) (s.h M0) := bA (aK rfl rfl bB) (by decide +kernel)
 have e3 : ev (aa ah k) (.cmp .eq (.idx (.v 1) (.k (.int 0))) (.k (.str (w "local")))) [some (.ref M0.length), some (.tup [.str (w "local"), .int i]), some (.ref (M0.length + (t + 5)))] (s.h M0) = .ok (.bl true) (s.h M0) := bA (aK rfl rfl bB) (by decide +kernel)
 have e4 : ev (aa ah k) (.idx (.fld (.v 2) (w "known")) (.idx (.v 1) (.k (.int 1)))) [some (.ref M0.length), some (.tup [.str (w "local"), .int i]), some (.ref (M0.length + (t + 5)))] (s.h M0) = .ok x (s.h M0) := tD (F9 A rfl) (aK rfl rfl gq) (gT.trans A.kn) hx
 have e5 := i6 (Φ := aa ah k) (M0 := M0) (i := 0) (s := s) (s' := s) rfl e4 hl
 exact fM Bk rfl ((ao e1).trans (dU e2 ((gS e3 ((bZ e5).trans rfl)).trans rfl))) (aZ rfl)
theorem Gh (hf : s.frs = fs ++ [.ref (M0.length + (t + 5))]) (A : cV M0.length s.T t j l kn fl bk) (hp : s.pile = p ++ [x]) (hl : kn.length < line) : (aa ah (k + 1)).call 16 [.ref M0.length, .tup [.str (w "keep")]] (s.h M0) = .ok .ak (({ s with pile := p, T := s.T.set j (.lst (kn ++ [x])) } : Mx).h M0) := by
 have e1 := jr (Φ := aa ah k) (σ := [some (.ref M0.length), some (.tup [.str (w "keep")]), none]) (M0 := M0) (s := s) (i := 0) rfl hf
 have q : ∀ u : Str, decide (w "keep" = u) = false -> ev (aa ah k) (.cmp .eq (.idx (.v 1) (.k (.int 0))) (.k (.str u))) [some (.ref M0.length), some (.tup [.str (w "keep")]), some (.ref (M0.length + (t + 5)))] (s.h M0) = .ok (.bl false) (s.h M0) := fun u h => bA (aK rfl rfl bB) h
 have e4 : ev (aa ah k) (.cmp .eq (.idx (.v 1) (.k (.int 0))) (.k (.str (w "keep")))) [some (.ref M0.length), some (.tup [.str (w "keep")]), some (.ref (M0.length + (t + 5)))] (s.h M0) = .ok (.bl true) (s.h M0) := bA (aK rfl rfl bB) (by decide +kernel)
 have e5 := dJ (Φ := aa ah k) (σ := [some (.ref M0.length), some (.tup [.str (w "keep")]), some (.ref (M0.length + (t + 5)))]) (M0 := M0) (i := 0) (s := s) rfl hp
 have g : (({ s with pile := p } : Mx).h M0)[M0.length + (j + 5)]? = some (.lst kn) := gT.trans A.kn
 have e6 := pH (F9 (Φ := aa ah k) (e := .v 2) (σ := [some (.ref M0.length), some (.tup [.str (w "keep")]), some (.ref (M0.length + (t + 5)))]) A rfl) (gT.trans A.kn) e5 g hl
 rw [sT] at e6
 exact fM Bk rfl ((ao e1).trans (dU (q _ (by decide +kernel)) ((dU (q _ (by decide +kernel)) ((gS e4 ((bZ e6).trans rfl)).trans rfl)).trans rfl))) (aZ (by simp))
theorem Gj (hf : s.frs = fs ++ [.ref (M0.length + (t + 5))]) (A : cV M0.length s.T t j l (kn ++ [x]) fl bk) : (aa ah (k + 1)).call 16 [.ref M0.length, .tup [.str (w "drop")]] (s.h M0) = .ok .ak (({ s with T := s.T.set j (.lst kn) } : Mx).h M0) := by
 have e1 := jr (Φ := aa ah k) (σ := [some (.ref M0.length), some (.tup [.str (w "drop")]), none]) (M0 := M0) (s := s) (i := 0) rfl hf
 have q : ∀ u : Str, decide (w "drop" = u) = false -> ev (aa ah k) (.cmp .eq (.idx (.v 1) (.k (.int 0))) (.k (.str u))) [some (.ref M0.length), some (.tup [.str (w "drop")]), some (.ref (M0.length + (t + 5)))] (s.h M0) = .ok (.bl false) (s.h M0) := fun u h => bA (aK rfl rfl bB) h
 have e6 := nq (F9 (Φ := aa ah k) (e := .v 2) (σ := [some (.ref M0.length), some (.tup [.str (w "drop")]), some (.ref (M0.length + (t + 5)))]) A rfl) (gT.trans A.kn)
 rw [sT] at e6
 exact fM Bk rfl ((ao e1).trans (dU (q _ (by decide +kernel)) ((dU (q _ (by decide +kernel)) ((dU (q _ (by decide +kernel)) ((bZ e6).trans rfl)).trans rfl)).trans rfl))) (aZ (by simp))
theorem Gi : (aa ah (k + 1)).call 17 [.ref M0.length, .tup [.str (w "jump"), x]] (s.h M0) = .ok .ak (({ s with pl := x } : Mx).h M0) := by
 have e1 : ev (aa ah k) (.cmp .eq (.idx (.v 1) (.k (.int 0))) (.k (.str (w "jump")))) [some (.ref M0.length), some (.tup [.str (w "jump"), x])] (s.h M0) = .ok (.bl true) (s.h M0) := bA (aK rfl rfl bB) (by decide +kernel)
 have e2 := iE (Φ := aa ah k) (σ := [some (.ref M0.length), some (.tup [.str (w "jump"), x])]) (e := .idx (.v 1) (.k (.int 1))) (d := x) (s := s) (s' := s) (M0 := M0) (i := 0) rfl (aK rfl rfl gq)
 exact fM Bj rfl (gS e1 ((bY e2).trans rfl)) (aZ rfl)
theorem Gk (hf : s.frs = fs ++ [.ref (M0.length + (t + 5))]) (A : cV M0.length s.T t j l kn fl bk) : (aa ah (k + 1)).call 17 [.ref M0.length, .tup [.str (w "back")]] (s.h M0) = .ok .ak (({ s with frs := fs, pl := bk } : Mx).h M0) := by
 have q : ∀ u : Str, decide (w "back" = u) = false -> ev (aa ah k) (.cmp .eq (.idx (.v 1) (.k (.int 0))) (.k (.str u))) [some (.ref M0.length), some (.tup [.str (w "back")])] (s.h M0) = .ok (.bl false) (s.h M0) := fun u h => bA (aK rfl rfl bB) h
 have e4 : ev (aa ah k) (.cmp .eq (.idx (.v 1) (.k (.int 0))) (.k (.str (w "back")))) [some (.ref M0.length), some (.tup [.str (w "back")])] (s.h M0) = .ok (.bl true) (s.h M0) := bA (aK rfl rfl bB) (by decide +kernel)
 have e5 := nq (cN (Φ := aa ah k) (σ := [some (.ref M0.length), some (.tup [.str (w "back")])]) (M0 := M0) (s := s) (i := 0) rfl) (g2.trans (by rw [hf]))
 rw [s2] at e5
 have e6 := iE (Φ := aa ah k) (σ := [some (.ref M0.length), some (.tup [.str (w "back")])]) (s := s) (s' := { s with frs := fs }) (M0 := M0) (i := 0) rfl (e_bk (s := { s with frs := fs }) A e5)
 exact fM Bj rfl (dU (q _ (by decide +kernel)) ((dU (q _ (by decide +kernel)) ((gS e4 ((bY e6).trans rfl)).trans rfl)).trans rfl)) (aZ rfl)
end
end bR
end
section
set_option autoImplicit false
namespace bR
open Fg PySem
section
variable {M0 : MH} {s : Mx} {x y v bk : D} {rest fs kn fl p : List D} {z : Str} {t k l f j : Nat} {i : Int} {Φ : aQ} {σ : Sg} {M : MH}
theorem Bx {M1 M2 : MH} {e e' : E} {a b : Int} {q : Bool} (he : ev Φ e σ M = .ok (.int a) M1) (hx : ev Φ e' σ M1 = .ok (.int b) M2) (hq : decide (b < a) = q) : ev Φ (.cmp .gt e e') σ M = .ok (.bl q) M2 := by
 rw [fK,he,R.af,hx,<- hq]; rfl
theorem C5 {b u m : Int} : (aa ah (k + 1)).call 6 [.int b,.int u,.int m] M = if m < b + 1 then .exc 3 M else if 12 < u + 1 then .exc 4 M else .ok .ak M := by
 have e1 : ∀ q,decide (m < b + 1) = q -> ev (aa ah k) (.cmp .gt (.op .add true (.v 0) (.k (.int 1))) (.v 2)) [some (.int b),some (.int u),some (.int m)] M = .ok (.bl q) M := fun q h => Bx (kH rfl rfl) rfl h
 have g : ev (aa ah k) (.g 1) [some (.int b),some (.int u),some (.int m)] M = .ok (.int 12) M := by rw [ev_g,rD]; rfl
 have e2 : ∀ q,decide (12 < u + 1) = q -> ev (aa ah k) (.cmp .gt (.op .add true (.v 1) (.k (.int 1))) (.g 1)) [some (.int b),some (.int u),some (.int m)] M = .ok (.bl q) M := fun q h => Bx (kH rfl rfl) g h
 by_cases h1 : m < b + 1
 ·rw [if_pos h1]
  exact i8 fn6 rfl (oB (e1 true (decide_eq_true h1)) rfl) cG
 ·rw [if_neg h1]
  by_cases h2 : 12 < u + 1
  ·rw [if_pos h2]
   exact i8 fn6 rfl ((bG (e1 false (decide_eq_false h1))).trans (oB (e2 true (decide_eq_true h2)) (oA g (by decide)))) cG
  ·rw [if_neg h2]
   exact fM fn6 rfl ((bG (e1 false (decide_eq_false h1))).trans ((bG (e2 false (decide_eq_false h2))).trans rfl)) (ay (by simp [nr]) rfl)
theorem nk {M1 M2 : MH} {e a : E} {d : D} {n c : Nat} {g : Str} {gs gs' : List (Str × D)} (he : ev Φ e σ M = .ok d M1) (ha : ev Φ a σ M1 = .ok (.ref n) M2) (h : M2[n]? = some (.ins c gs)) (hl : gs.length < 1000) (hg : bE g d gs = gs') : ex Φ (.bJ a g e) σ M = .ok (.nx σ) (M2.set n (.ins c gs')) := by
 simp only [m9,he,R.fm,ha,h,hl,decide_true,if_true,hg]
theorem tP {n : Nat} {x y z : D} (h : M[n]? = some (.ins 0 [])) : (aa ah (k + 1)).call 8 [.ref n, x, y, z] M = .ok .ak (M.set n (.ins 0 [(w "known", x), (w "fields", y), (w "behind_call", z)])) := by
 have p1 : bE (w "fields") y [(w "known", x)] = [(w "known", x), (w "fields", y)] := by simp only [bE, wn (a := "known") (b := "fields"), if_false]
 have p2 : bE (w "behind_call") z [(w "known", x), (w "fields", y)] = [(w "known", x), (w "fields", y), (w "behind_call", z)] := by simp only [bE, wn (a := "known") (b := "behind_call"), wn (a := "fields") (b := "behind_call"), if_false]
 have e1 := nk (Φ := aa ah k) (σ := [some (.ref n), some x, some y, some z]) (e := .v 1) (a := .v 0) (g := w "known") (gs' := [(w "known", x)]) rfl rfl h (by decide) rfl
 have e2 := nk (Φ := aa ah k) (σ := [some (.ref n), some x, some y, some z]) (e := .v 2) (a := .v 0) (g := w "fields") rfl rfl (fQ (b := .ins 0 [(w "known", x)]) h) (by simp) p1
 rw [List.set_set] at e2
 have e3 := nk (Φ := aa ah k) (σ := [some (.ref n), some x, some y, some z]) (e := .v 3) (a := .v 0) (g := w "behind_call") rfl rfl (fQ (b := .ins 0 [(w "known", x), (w "fields", y)]) h) (by simp) p2
 rw [List.set_set] at e3
 exact fM fn8 rfl ((bY e1).trans ((bY e2).trans ((bY e3).trans rfl))) (ay (by simp [nr]) (by simp))
theorem e_new {M1 M2 : MH} {c g : Nat} {es : Es} {ds : List D} (he : cA Φ es σ M = .ok ds M1) (hc : Φ.ini g (.ref M1.length :: ds) (M1 ++ [.ins c []]) = .ok .ak M2) : ev Φ (.new c g es) σ M = .ok (.ref M1.length) M2 := by
 rw [FZ,he,R.af,hc]; rfl
theorem yt {M1 M2 : MH} {caps tg : List Nat} {elt : E} {it : Src} {d : D} {ds out : List D} (hi : bP Φ it σ M = .ok (d,ds,false) M1) (hl : bw (nQ Φ .none) (ev Φ elt) tg (aP M1 d) ds (nC σ caps ++ List.replicate tg.length none) M1 [] = .ok out M2) : ev Φ (.comp false caps tg elt it .none) σ M = .ok (.ref M2.length) (M2 ++ [.lst out]) := by
 rw [nj,hi,R.af,lI,hl]; rfl
theorem BA {M1 M2 : MH} {caps tg : List Nat} {elt : E} {it : Src} {d : D} {ds out : List D} (hi : bP Φ it σ M = .ok (d,ds,false) M1) (hl : bw (nQ Φ .none) (ev Φ elt) tg (aP M1 d) ds (nC σ caps ++ List.replicate tg.length none) M1 [] = .ok out M2) : ev Φ (.comp true caps tg elt it .none) σ M = .ok (.lst out) M2 := by
 rw [nj,hi,R.af,lI,hl]; rfl
theorem qJ {elt : Sg -> MH -> R D} {n : Nat} {ch : MH -> Bool} {d x : D} {ds acc : List D} {M1 : MH} (h : elt (σ.set n (some d)) M = .ok x M1) (hc : ch M1 = true) (hl : acc.length < line) : bw (nQ Φ .none) elt [n] ch (d :: ds) σ M acc = bw (nQ Φ .none) elt [n] ch ds (σ.set n (some d)) M1 (acc ++ [x]) := by
 rw [bw]
 simp only [sets,yg,R.af,h,hc,if_true,hl,decide_true]
theorem xr {ch : MH -> Bool} (hch : ∀ M,ch M = true) : ∀ (xs ds : List D) (s : Mx) (o : Option D) (acc : List D),ds.length = xs.length -> s.pile = p ++ xs.reverse -> acc.length + xs.length <= line ->
  bw (nQ Φ .none) (ev Φ (.bK .pop true (.fld (.v 0) (w "pile")) .nil)) [1] ch ds [some (.ref M0.length), o] (s.h M0) acc = .ok (acc ++ xs) (({ s with pile := p } : Mx).h M0)
 | [],[],s,o,acc,_,hp,_ => by
  rw [List.reverse_nil,List.append_nil] at hp
  rw [List.append_nil,bw,<- hp]
 | x :: xs,d :: ds,s,o,acc,hd,hp,hl => by
  rw [List.reverse_cons,<- List.append_assoc] at hp
  simp only [List.length_cons] at hd hl
  rw [qJ (Φ := Φ) (σ := [some (.ref M0.length),o]) (dJ (Φ := Φ) (σ := [some (.ref M0.length),some d]) (M0 := M0) (i := 0) rfl hp) (hch _) (by omega)]
  rw [show ([some (.ref M0.length),o] : Sg).set 1 (some d) = [some (.ref M0.length),some d] from rfl,xr hch xs ds { s with pile := p ++ xs.reverse } (some d) (acc ++ [x]) (by omega) rfl (by simp; omega)]
  rw [List.append_assoc]; rfl
 | [],_ :: _,_,_,_,hd,_,_ => by simp at hd
 | _ :: _,[],_,_,_,hd,_,_ => by simp at hd
theorem xu {a : Nat} {ch : MH -> Bool} (hch : ch M = true) (hM : M[a]? = some (.lst fl)) : ∀ (is : List Int) (ys : List D) (o : Option D) (acc : List D),is.map (cB fl) = ys.map some -> acc.length + is.length <= line ->
  bw (nQ Φ .none) (ev Φ (.idx (.v 0) (.v 1))) [1] ch (is.map D.int) [some (.ref a),o] M acc = .ok (acc ++ ys) M
 | [],[],o,acc,_,_ => by rw [List.append_nil,List.map_nil,bw]
 | i :: is,y :: ys,o,acc,h,hl => by
  simp only [List.map_cons,List.cons.injEq] at h
  simp only [List.length_cons] at hl
  rw [List.map_cons,qJ (Φ := Φ) (σ := [some (.ref a),o]) (x := y) (M1 := M) (tD rfl rfl hM h.1) hch (by omega)]
  rw [show ([some (.ref a),o] : Sg).set 1 (some (.int i)) = [some (.ref a),some (.int i)] from rfl,xu hch hM is ys (some (.int i)) (acc ++ [y]) h.2 (by simp; omega)]
  rw [List.append_assoc]; rfl
 | [],_ :: _,_,_,h,_ => by simp at h
 | _ :: _,[],_,_,h,_ => by simp at h
theorem yr {M1 : MH} {e : E} {n : Nat} (he : ev Φ e σ M = .ok (.int n) M1) (hn : n <= 1000000) : bP Φ (.gK e) σ M = .ok (.ak,eS 0 n,false) M1 := by
 rw [Bu,he,R.af]
 simp only [AL hn,if_true]
theorem oE {n : Nat} : (eS 0 (n : Int)).length = n := by simp [eS]
theorem yL {a b : D} {c : Nat} {n : Int} (hc : (if s.most < s.bg + 1 then (.exc 3 (s.h M0) : R D) else if 12 < ((s.frs.length : Int) - 1) + 1 then .exc 4 (s.h M0) else .ok .ak (s.h M0)) = .exc c (s.h M0)) : (aa ah (k + 2)).call 18 [.ref M0.length,a,.int n,b] (s.h M0) = .exc c (s.h M0) := by
 have e1 : ev (aa ah (k + 1)) (.call 6 (.cons (.fld (.v 0) (w "begun")) (.cons (.op .sub true (.blt .len true (.cons (.fld (.v 0) (w "frames")) .nil)) (.k (.int 1))) (.cons (.fld (.v 0) (w "most")) .nil)))) [some (.ref M0.length), some a, some (.int n), some b, none, none] (s.h M0) = .exc c (s.h M0) := by
  rw [fT,au,m7 (s := s) (M0 := M0) (i := 0) rfl,R.af,au,yp (e_len (cN (s := s) (M0 := M0) (i := 0) rfl) g2) rfl,R.af,au,yb (s := s) (M0 := M0) (i := 0) rfl,R.af,bh]
  exact C5.trans hc
 exact i8 Jg rfl (j0 e1) cG
end
theorem lZ {M M' : MH} {i : Nat} {a b : MO} (h1 : M[i]? = some a) (h2 : M'[i]? = some b) (hn : a ≠ b) : M'.take M.length ≠ M := fun h => by
 have hi := (List.getElem?_eq_some_iff.mp h1).1
 have := List.getElem?_take_of_lt (l := M') hi
 rw [h,h1,h2] at this
 exact hn (Option.some.inj this)
theorem mC {M M' : MH} {d : D} (h : M'.take M.length ≠ M) : eU false M d M' = .ok d M' := by
 unfold eU; rw [if_neg fun z => h z.2]
theorem dY {s : Mx} {M0 : MH} : (s.h M0).length = M0.length + (s.T.length + 5) := len
section
variable {M0 : MH} {s : Mx} {bk : D} {fs kn fl p xs ys : List D} {t k l j : Nat} {is : List Int}
theorem BO {a pl : D} (hf : s.frs = fs ++ [.ref (M0.length + (t + 5))]) (A : cV M0.length s.T t j l kn fl bk) (h1 : ¬ s.most < s.bg + 1) (h2 : ¬ 12 < ((s.frs.length : Int) - 1) + 1) (hp : s.pile = p ++ xs) (hx : xs.length <= 1000000) (hy : is.map (cB fl) = ys.map some) (hi : is.length <= line) (hpl : s.pl = pl) (hfl : s.frs.length < line) :
  (aa ah (k + 3)).call 18 [.ref M0.length,a,.int xs.length,.tup (is.map D.int)] (s.h M0) =
   .ok .ak (({ s with bg := s.bg + 1, pile := p, pl := a, frs := s.frs ++ [.ref (M0.length + (s.T.length + 2 + 5))], T := s.T ++ [.lst xs, .lst ys, .ins 0 [(w "known", .ref (M0.length + (s.T.length + 5))), (w "fields", .ref (M0.length + (s.T.length + 1 + 5))), (w "behind_call", pl)]] } : Mx).h M0) := by
 have hlt : t < s.T.length := (List.getElem?_eq_some_iff.mp A.at_).1
 have hll : l < s.T.length := (List.getElem?_eq_some_iff.mp A.fl).1
 have e1 : ev (aa ah (k + 2)) (.call 6 (.cons (.fld (.v 0) (w "begun")) (.cons (.op .sub true (.blt .len true (.cons (.fld (.v 0) (w "frames")) .nil)) (.k (.int 1))) (.cons (.fld (.v 0) (w "most")) .nil)))) [some (.ref M0.length), some a, some (.int xs.length), some (.tup (is.map D.int)), none, none] (s.h M0) = .ok .ak (s.h M0) := by
  rw [fT,au,m7 (s := s) (M0 := M0) (i := 0) rfl,R.af,au,yp (e_len (cN (s := s) (M0 := M0) (i := 0) rfl) g2) rfl,R.af,au,yb (s := s) (M0 := M0) (i := 0) rfl,R.af,bh]
  exact C5.trans (by rw [if_neg h1,if_neg h2])
 have e2 := BB (Φ := aa ah (k + 2)) (σ := [some (.ref M0.length), some a, some (.int xs.length), some (.tup (is.map D.int)), none, none]) (e := .op .add false (.fld (.v 0) (w "begun")) (.k (.int 1))) (s := s) (M0 := M0) (i := 0) rfl (kH (m7 (s := s) (M0 := M0) (i := 0) rfl) rfl)
 let s1 : Mx := { s with bg := s.bg + 1 }
 let s2' : Mx := { s with bg := s.bg + 1,pile := p }
 have e3 := yt (Φ := aa ah (k + 2)) (σ := [some (.ref M0.length),some a,some (.int xs.length),some (.tup (is.map D.int)),none,none]) (M := s1.h M0) (caps := [0]) (tg := [1]) (it := .gK (.v 2)) (yr (n := xs.length) rfl hx)
  (xr (Φ := aa ah (k + 2)) (M0 := M0) (ch := aP (s1.h M0) .ak) (fun _ => rfl) xs.reverse (eS 0 (xs.length : Int)) s1 none [] (by rw [oE,List.length_reverse]) (by rw [List.reverse_reverse]; exact hp) (by rw [List.length_reverse]; exact Nat.le_trans (by simp) hx))
 rw [List.nil_append,app] at e3
 rw [show ({ s1 with pile := p } : Mx) = s2' from rfl,dY] at e3
 let s3' : Mx := { s2' with T := s2'.T ++ [.lst xs.reverse] }
 have g4' : (s3'.h M0)[M0.length + (s.T.length + 5)]? = some (.lst xs.reverse) := gT.trans (by show (s.T ++ [MO.lst xs.reverse])[s.T.length]? = _; simp)
 have e4 : ev (aa ah (k + 2)) (.bK .reverse true (.v 4) .nil) [some (.ref M0.length),some a,some (.int xs.length),some (.tup (is.map D.int)),some (.ref (M0.length + (s.T.length + 5))),none] (s3'.h M0) = .ok .ak (({ s2' with T := s.T ++ [.lst xs] } : Mx).h M0) := by
  rw [gH,gF]
  simp only [List.getElem?_cons_succ,List.getElem?_cons_zero,R.af,mO,b5 g4',Option.isSome_some,Bool.and_self,if_true,bh,fU,mL,List.isEmpty_nil,List.reverse_reverse]
  rw [sT]
  show R.ok D.ak (({ s2' with T := (s.T ++ [MO.lst xs.reverse]).set s.T.length (.lst xs) } : Mx).h M0) = _
  rw [List.set_append_right _ _ (Nat.le_refl _),Nat.sub_self]; rfl
 let vf : Mx := { s2' with T := s.T ++ [.lst xs] }
 have up : ∀ {i : Nat} {o : MO},i < s.T.length -> s.T[i]? = some o -> vf.T[i]? = some o := fun {i o} h e => by show (s.T ++ [MO.lst xs])[i]? = _; rw [List.getElem?_append_left h]; exact e
 have A4 : cV M0.length vf.T t j l kn fl bk := ⟨up hlt A.at_,up ((List.getElem?_eq_some_iff.mp A.kn).1) A.kn,up hll A.fl⟩
 have e5 : ev (aa ah (k + 2)) (.fld (.idx (.fld (.v 0) (w "frames")) (.neg (.k (.int 1)))) (w "fields")) [some (.ref M0.length), some a, some (.int xs.length), some (.tup (is.map D.int)), some (.ref (M0.length + (s.T.length + 5))), none] (vf.h M0) = .ok (.ref (M0.length + (l + 5))) (vf.h M0) := By A4 (jr rfl hf)
 have e6 := yt (Φ := aa ah (k + 2)) (σ := [some (.ref M0.length),some a,some (.int xs.length),some (.tup (is.map D.int)),some (.ref (M0.length + (s.T.length + 5))),some (.ref (M0.length + (l + 5)))]) (M := vf.h M0) (M1 := vf.h M0) (caps := [5]) (tg := [1]) (it := .e (.v 3)) (d := .tup (is.map D.int)) (ds := is.map D.int) rfl
  (xu (Φ := aa ah (k + 2)) (ch := aP (vf.h M0) (.tup (is.map D.int))) (a := M0.length + (l + 5)) rfl (gT.trans A4.fl) is ys none [] hy (by simpa using hi))
 rw [List.nil_append,app,dY] at e6
 have l4 : vf.T.length = s.T.length + 1 := by show (s.T ++ [MO.lst xs]).length = _; simp
 let ve : Mx := { vf with T := vf.T ++ [.lst ys] }
 have l5 : ve.T.length = s.T.length + 2 := by show (s.T ++ [MO.lst xs] ++ [MO.lst ys]).length = _; simp
 let fo : MO := .ins 0 [(w "known", .ref (M0.length + (s.T.length + 5))), (w "fields", .ref (M0.length + (s.T.length + 1 + 5))), (w "behind_call", pl)]
 let Hx : Mx := { ve with T := ve.T ++ [fo] }
 have e7 : ev (aa ah (k + 2)) (.new 0 8 (.cons (.v 4) (.cons (.comp false [5] [1] (.idx (.v 0) (.v 1)) (.e (.v 3)) .none) (.cons (.fld (.v 0) (w "place")) .nil)))) [some (.ref M0.length), some a, some (.int xs.length), some (.tup (is.map D.int)), some (.ref (M0.length + (s.T.length + 5))), some (.ref (M0.length + (l + 5)))] (vf.h M0) = .ok (.ref (ve.h M0).length) (Hx.h M0) := by
  refine e_new (M1 := ve.h M0) (ds := [.ref (M0.length + (s.T.length + 5)),.ref (M0.length + (s.T.length + 1 + 5)),pl]) ?_ ?_
  ·rw [au,gF]
   simp only [List.getElem?_cons_succ,List.getElem?_cons_zero,R.af]
   rw [au,e6,R.af,au,m5 (s := ve) (M0 := M0) (i := 0) rfl,R.af,bh,R.af,l4]
   show R.ok [_,_,s.pl] _ = _
   rw [hpl]
  ·rw [app,dY,l5]
   have gn : (({ ve with T := ve.T ++ [.ins 0 []] } : Mx).h M0)[M0.length + (s.T.length + 2 + 5)]? = some (.ins 0 []) := gT.trans (by rw [<- l5]; show (ve.T ++ [MO.ins 0 []])[ve.T.length]? = _; simp)
   refine (tP (k := k) gn).trans ?_
   rw [sT]
   show R.ok D.ak (({ ve with T := (ve.T ++ [MO.ins 0 []]).set (s.T.length + 2) fo } : Mx).h M0) = _
   rw [<- l5,List.set_append_right _ _ (Nat.le_refl _),Nat.sub_self]; rfl
 have e8 := pH (cN (Φ := aa ah (k + 2)) (σ := [some (.ref M0.length),some a,some (.int xs.length),some (.tup (is.map D.int)),some (.ref (M0.length + (s.T.length + 5))),some (.ref (M0.length + (l + 5)))]) (M0 := M0) (s := vf) (i := 0) rfl) g2 e7 (g2 (s := Hx)) hfl
 rw [s2,dY,l5] at e8
 have e9 := iE (Φ := aa ah (k + 2)) (σ := [some (.ref M0.length),some a,some (.int xs.length),some (.tup (is.map D.int)),some (.ref (M0.length + (s.T.length + 5))),some (.ref (M0.length + (l + 5)))]) (e := .v 1) (d := a) (s := { Hx with frs := s.frs ++ [.ref (M0.length + (s.T.length + 2 + 5))] }) (s' := { Hx with frs := s.frs ++ [.ref (M0.length + (s.T.length + 2 + 5))] }) (M0 := M0) (i := 0) rfl rfl
 refine fM Jg rfl ((bZ e1).trans ((bY e2).trans ((ao e3).trans ((bZ e4).trans ((ao e5).trans ((bZ e8).trans ((bY e9).trans rfl))))))) ?_
 have eT : ({ s with bg := s.bg + 1,pile := p,pl := a,frs := s.frs ++ [.ref (M0.length + (s.T.length + 2 + 5))],T := s.T ++ [.lst xs,.lst ys,fo] } : Mx) = { Hx with frs := s.frs ++ [.ref (M0.length + (s.T.length + 2 + 5))],pl := a } := by
  exact congrArg (Mx.mk _ _ _ _ _ _ _ _) (show s.T ++ [MO.lst xs,MO.lst ys,fo] = s.T ++ [MO.lst xs] ++ [MO.lst ys] ++ [fo] by simp)
 rw [eT]
 refine mC (lZ (i := M0.length + 2) g2 g2 fun h => ?_)
 have h := congrArg (fun o => match o with | MO.lst xs => xs.length | _ => 0) h
 simp at h
end
end bR
end
section
set_option autoImplicit false
namespace bR
open Fg PySem
section
variable {z : Str}
theorem KR (h : an w1 z = true) : br z = rF := if_pos h
theorem KQ (h1 : an w1 z = false) (h : an w2 z = true) : br z = bGo := by
 unfold br; rw [if_neg (by rw [h1]; decide),if_pos h]
theorem br3 (h1 : an w1 z = false) (h2 : an w2 z = false) (h : an w3 z = true) : br z = Gr := by
 unfold br; rw [if_neg (by rw [h1]; decide),if_neg (by rw [h2]; decide),if_pos h]
theorem br4 (h1 : an w1 z = false) (h2 : an w2 z = false) (h3 : an w3 z = false) (h : an w4 z = true) : br z = yR := by
 unfold br; rw [if_neg (by rw [h1]; decide),if_neg (by rw [h2]; decide),if_neg (by rw [h3]; decide),if_pos h]
theorem KS (h1 : an w1 z = false) (h2 : an w2 z = false) (h3 : an w3 z = false) (h4 : an w4 z = false) : br z = if decide (z = w "nil") then BW else if decide (z = w "none") then tT else if decide (z = w "open") then bOpen else if decide (z = w "shut") then tS else yQ := by
 unfold br; rw [if_neg (by rw [h1]; decide),if_neg (by rw [h2]; decide),if_neg (by rw [h3]; decide),if_neg (by rw [h4]; decide)]
theorem Gn : br (w "nil") = BW := (KS (by decide +kernel) (by decide +kernel) (by decide +kernel) (by decide +kernel)).trans (if_pos (by decide +kernel))
theorem BS : br (w "none") = tT := (KS (by decide +kernel) (by decide +kernel) (by decide +kernel) (by decide +kernel)).trans ((if_neg (by decide +kernel)).trans (if_pos (by decide +kernel)))
theorem BR : br (w "open") = bOpen := (KS (by decide +kernel) (by decide +kernel) (by decide +kernel) (by decide +kernel)).trans ((if_neg (by decide +kernel)).trans ((if_neg (by decide +kernel)).trans (if_pos (by decide +kernel))))
theorem BQ : br (w "shut") = tS := (KS (by decide +kernel) (by decide +kernel) (by decide +kernel) (by decide +kernel)).trans ((if_neg (by decide +kernel)).trans ((if_neg (by decide +kernel)).trans ((if_neg (by decide +kernel)).trans (if_pos (by decide +kernel)))))
end
section
variable {M0 : MH} {s : Mx} {x y v bk a b : D} {rs fs kn fl p xs ys : List D} {z c : Str} {t k l f j : Nat} {i n sz : Int} {is : List Int}
theorem ug (hr : s.rows = .lst rs) (hp : s.pl = .int i) (ha : cB rs i = some (.tup [.str (w "number"), x])) (hf : s.frs = fs ++ [y]) (hl : s.pile.length < line) : (aa ah (k + 2)).call 19 [.ref M0.length] (s.h M0) = .ok .ak (({ s with pl := .int (i + 1), pile := s.pile ++ [x] } : Mx).h M0) := by
 refine bx (s := s) hr hp ha ?_ (aZ rfl)
 rw [KR (by decide +kernel)]
 exact (fu (s := { s with pl := .int (i + 1) }) (s' := { s with pl := .int (i + 1) }) rfl (by decide +kernel) rfl (yJ hf hl)).trans rfl
theorem vH (hr : s.rows = .lst rs) (hp : s.pl = .int i) (ha : cB rs i = some (.tup [.str (w "local"), .int n])) (hf : s.frs = fs ++ [.ref (M0.length + (t + 5))]) (A : cV M0.length s.T t j l kn fl bk) (hx : cB kn n = some x) (hl : s.pile.length < line) : (aa ah (k + 2)).call 19 [.ref M0.length] (s.h M0) = .ok .ak (({ s with pl := .int (i + 1), pile := s.pile ++ [x] } : Mx).h M0) := by
 refine bx (s := s) hr hp ha ?_ (aZ rfl)
 rw [KR (by decide +kernel)]
 exact (fu (s := { s with pl := .int (i + 1) }) (s' := { s with pl := .int (i + 1) }) rfl (by decide +kernel) rfl (BK (s := { s with pl := .int (i + 1) }) hf A hx hl)).trans rfl
theorem zE (hr : s.rows = .lst rs) (hp : s.pl = .int i) (ha : cB rs i = some (.tup [.str (w "keep")])) (hf : s.frs = fs ++ [.ref (M0.length + (t + 5))]) (A : cV M0.length s.T t j l kn fl bk) (hx : s.pile = p ++ [x]) (hl : kn.length < line) : (aa ah (k + 2)).call 19 [.ref M0.length] (s.h M0) = .ok .ak (({ s with pl := .int (i + 1), pile := p, T := s.T.set j (.lst (kn ++ [x])) } : Mx).h M0) := by
 refine bx (s := s) hr hp ha ?_ (aZ (by simp))
 rw [KR (by decide +kernel)]
 exact (fu (s := { s with pl := .int (i + 1) }) (s' := { s with pl := .int (i + 1) }) rfl (by decide +kernel) rfl (Gh (s := { s with pl := .int (i + 1) }) hf A hx hl)).trans rfl
theorem zG (hr : s.rows = .lst rs) (hp : s.pl = .int i) (ha : cB rs i = some (.tup [.str (w "drop")])) (hf : s.frs = fs ++ [.ref (M0.length + (t + 5))]) (A : cV M0.length s.T t j l (kn ++ [x]) fl bk) : (aa ah (k + 2)).call 19 [.ref M0.length] (s.h M0) = .ok .ak (({ s with pl := .int (i + 1), T := s.T.set j (.lst kn) } : Mx).h M0) := by
 refine bx (s := s) hr hp ha ?_ (aZ (by simp))
 rw [KR (by decide +kernel)]
 exact (fu (s := { s with pl := .int (i + 1) }) (s' := { s with pl := .int (i + 1) }) rfl (by decide +kernel) rfl (Gj (s := { s with pl := .int (i + 1) }) hf A)).trans rfl
theorem zF (hr : s.rows = .lst rs) (hp : s.pl = .int i) (ha : cB rs i = some (.tup [.str (w "jump"), x])) : (aa ah (k + 2)).call 19 [.ref M0.length] (s.h M0) = .ok .ak (({ s with pl := x } : Mx).h M0) := by
 refine bx (s := s) hr hp ha ?_ (aZ rfl)
 rw [KQ (by decide +kernel) (by decide +kernel)]
 exact (fu (s := { s with pl := .int (i + 1) }) (s' := { s with pl := .int (i + 1) }) rfl (by decide +kernel) rfl (Gi (s := { s with pl := .int (i + 1) }))).trans rfl
theorem zI (hr : s.rows = .lst rs) (hp : s.pl = .int i) (ha : cB rs i = some (.tup [.str (w "back")])) (hf : s.frs = fs ++ [.ref (M0.length + (t + 5))]) (A : cV M0.length s.T t j l kn fl bk) : (aa ah (k + 2)).call 19 [.ref M0.length] (s.h M0) = .ok .ak (({ s with pl := bk, frs := fs } : Mx).h M0) := by
 refine bx (s := s) hr hp ha ?_ (aZ rfl)
 rw [KQ (by decide +kernel) (by decide +kernel)]
 exact (fu (s := { s with pl := .int (i + 1) }) (s' := { s with pl := .int (i + 1) }) rfl (by decide +kernel) rfl (Gk (s := { s with pl := .int (i + 1) }) hf A)).trans rfl
theorem nt {Φ : aQ} {σ : Sg} (h0 : σ[0]? = some (some (.ref M0.length))) (h1 : σ[1]? = some (some (.tup [.str z,.int n]))) (hf : s.frs = fs ++ [.ref (M0.length + (t + 5))]) (A : cV M0.length s.T t j l kn fl bk) (hn : cB fl n = some x) : ev Φ (.idx GK (.idx (.v 1) (.k (.int 1)))) σ (s.h M0) = .ok x (s.h M0) :=
 tD (By A (jr h0 hf)) (aK (e_v h1) rfl gq) (gT.trans A.fl) hn
theorem ng {Φ : aQ} {σ : Sg} {M M1 M2 : MH} {e e' : E} (h : ev Φ e σ M = .ok x M1) (h' : ev Φ e' σ M1 = .ok y M2) : cA Φ (.cons e (.cons e' .nil)) σ M = .ok [x,y] M2 := by rw [au,h,R.af,au,h']; rfl
theorem evs1 {Φ : aQ} {σ : Sg} {M M1 : MH} {e : E} (h : ev Φ e σ M = .ok x M1) : cA Φ (.cons e .nil) σ M = .ok [x] M1 := by rw [au,h]; rfl
theorem Dp (hz : an w3 z = true) (hz1 : an w1 z = false) (hz2 : an w2 z = false) (hw : z.length <= 100000) (hr : s.rows = .lst rs) (hp : s.pl = .int i) (ha : cB rs i = some (.tup [.str z,.int n])) (hf : s.frs = fs ++ [.ref (M0.length + (t + 5))]) (A : cV M0.length s.T t j l kn fl bk) (hn : cB fl n = some (.int f)) (va : Vl a) (vb : Vl b) (hx : s.pile = p ++ [a] ++ [b])
  (h : ¬ 1000 < 1 + bU a + bU b) (ho : s.av[f]? = some (.bl true)) (hs : f < 18446744073709551616) (h2 : s.log.length < line) (h3 : p.length < line) : (aa ah (k + 4)).call 19 [.ref M0.length] (s.h M0) = .ok .ak (({ s with pl := .int (i + 1), pile := p ++ [.tup [.str z, .int (1 + bU a + bU b), a, b, .int f]], log := s.log ++ [.tup [.str (w "lay"), .int f]] } : Mx).h M0) := by
 refine bx (s := s) hr hp ha ?_ (aZ rfl)
 rw [br3 hz1 hz2 hz]
 exact (fu (s := { s with pl := .int (i + 1) }) (s' := { s with pl := .int (i + 1) }) rfl (by decide +kernel) (ng rfl (nt (s := { s with pl := .int (i + 1) }) rfl rfl hf A hn)) (Iw (s := { s with pl := .int (i + 1) }) hw va vb hx h ho hs h2 h3)).trans rfl
theorem zD (hz : an w3 z = true) (hz1 : an w1 z = false) (hz2 : an w2 z = false) (hw : z.length <= 100000) (hr : s.rows = .lst rs) (hp : s.pl = .int i) (ha : cB rs i = some (.tup [.str z,.int n])) (hf : s.frs = fs ++ [.ref (M0.length + (t + 5))]) (A : cV M0.length s.T t j l kn fl bk) (hn : cB fl n = some (.int f)) (va : Vl a) (vb : Vl b) (hx : s.pile = p ++ [a] ++ [b])
  (h : 1000 < 1 + bU a + bU b) : (aa ah (k + 4)).call 19 [.ref M0.length] (s.h M0) = .exc 1 (({ s with pl := .int (i + 1),pile := p } : Mx).h M0) := by
 refine jH (s := s) hr hp ha ?_ rfl
 rw [br3 hz1 hz2 hz]
 exact jZ (s := { s with pl := .int (i + 1) }) (s' := { s with pl := .int (i + 1) }) rfl (by decide +kernel) (ng rfl (nt (s := { s with pl := .int (i + 1) }) rfl rfl hf A hn)) (EK (s := { s with pl := .int (i + 1) }) hw va vb hx h)
theorem zC (hz : an w3 z = true) (hz1 : an w1 z = false) (hz2 : an w2 z = false) (hw : z.length <= 100000) (hr : s.rows = .lst rs) (hp : s.pl = .int i) (ha : cB rs i = some (.tup [.str z,.int n])) (hf : s.frs = fs ++ [.ref (M0.length + (t + 5))]) (A : cV M0.length s.T t j l kn fl bk) (hn : cB fl n = some (.int f)) (va : Vl a) (vb : Vl b) (hx : s.pile = p ++ [a] ++ [b])
  (h : ¬ 1000 < 1 + bU a + bU b) (ho : s.av[f]? = some (.bl false)) (hs : f < 18446744073709551616) : (aa ah (k + 4)).call 19 [.ref M0.length] (s.h M0) = .exc 5 (({ s with pl := .int (i + 1),pile := p } : Mx).h M0) := by
 refine jH (s := s) hr hp ha ?_ rfl
 rw [br3 hz1 hz2 hz]
 exact jZ (s := { s with pl := .int (i + 1) }) (s' := { s with pl := .int (i + 1) }) rfl (by decide +kernel) (ng rfl (nt (s := { s with pl := .int (i + 1) }) rfl rfl hf A hn)) (EJ (s := { s with pl := .int (i + 1) }) hw va vb hx h ho hs)
theorem zB {q : Bool} (hz : an w4 z = true) (hz1 : an w1 z = false) (hz2 : an w2 z = false) (hz3 : an w3 z = false) (hq : ([w "first", w "head"].any fun y => decide (y = z)) = q) (hr : s.rows = .lst rs) (hp : s.pl = .int i) (ha : cB rs i = some (.tup [.str z])) (va : Vl a) (vb : Vl b) (hx : s.pile = p ++ [.tup [.str c, .int sz, a, b, .int f]])
  (ho : s.av[f]? = some (.bl true)) (hs : f < 18446744073709551616) (h2 : s.log.length < line) (h3 : p.length < line) : (aa ah (k + 4)).call 19 [.ref M0.length] (s.h M0) = .ok .ak (({ s with pl := .int (i + 1), pile := p ++ [if q then a else b], log := s.log ++ [.tup [.str (w "look"), .int f]] } : Mx).h M0) := by
 refine bx (s := s) hr hp ha ?_ (aZ rfl)
 rw [br4 hz1 hz2 hz3 hz]
 exact (fu (s := { s with pl := .int (i + 1) }) (s' := { s with pl := .int (i + 1) }) rfl (by decide +kernel) rfl (EI (s := { s with pl := .int (i + 1) }) hq va vb hx ho hs h2 h3)).trans rfl
theorem vG {q : Bool} (hz : an w4 z = true) (hz1 : an w1 z = false) (hz2 : an w2 z = false) (hz3 : an w3 z = false) (hq : ([w "first", w "head"].any fun y => decide (y = z)) = q) (hr : s.rows = .lst rs) (hp : s.pl = .int i) (ha : cB rs i = some (.tup [.str z])) (va : Vl a) (vb : Vl b) (hx : s.pile = p ++ [.tup [.str c, .int sz, a, b, .int f]])
  (ho : s.av[f]? = some (.bl false)) (hs : f < 18446744073709551616) : (aa ah (k + 4)).call 19 [.ref M0.length] (s.h M0) = .exc 5 (({ s with pl := .int (i + 1),pile := p } : Mx).h M0) := by
 refine jH (s := s) hr hp ha ?_ rfl
 rw [br4 hz1 hz2 hz3 hz]
 exact jZ (s := { s with pl := .int (i + 1) }) (s' := { s with pl := .int (i + 1) }) rfl (by decide +kernel) rfl (AQ (s := { s with pl := .int (i + 1) }) hq va vb hx ho hs)
theorem Dm (hr : s.rows = .lst rs) (hp : s.pl = .int i) (ha : cB rs i = some (.tup [.str (w "nil")])) (hl : s.pile.length < line) : (aa ah (k + 1)).call 19 [.ref M0.length] (s.h M0) = .ok .ak (({ s with pl := .int (i + 1), pile := s.pile ++ [.ak] } : Mx).h M0) := by
 refine bx (s := s) hr hp ha ?_ (aZ rfl)
 rw [Gn]
 exact (bZ (i6 (s := { s with pl := .int (i + 1) }) (s' := { s with pl := .int (i + 1) }) rfl rfl hl)).trans rfl
theorem Jv {Φ : aQ} {σ : Sg} {M M1 : MH} {e : E} (h : ev Φ e σ M = .ok x M1) : ev Φ (.y9 (.cmp .xQ e (.k .ak)) (.k (.int 1)) (.k (.int 0))) σ M = .ok (.int (if dw x then 1 else 0)) M1 := by
 rw [F6,fK,h,R.af,yj,R.af]
 have e : cj .xQ M1 x .ak = .ok (.bl (dw x)) M1 := rfl
 rw [e]
 cases dw x <;> rfl
theorem zA (hr : s.rows = .lst rs) (hp : s.pl = .int i) (ha : cB rs i = some (.tup [.str (w "none")])) (hx : s.pile = p ++ [x]) (hl : p.length < line) : (aa ah (k + 1)).call 19 [.ref M0.length] (s.h M0) = .ok .ak (({ s with pl := .int (i + 1), pile := p ++ [.int (if dw x then 1 else 0)] } : Mx).h M0) := by
 refine bx (s := s) hr hp ha ?_ (aZ rfl)
 rw [BS]
 exact (bZ (i6 (s := { s with pl := .int (i + 1) }) (s' := { s with pl := .int (i + 1),pile := p }) rfl (Jv (dJ (s := { s with pl := .int (i + 1) }) rfl hx)) hl)).trans rfl
theorem zz (hr : s.rows = .lst rs) (hp : s.pl = .int i) (ha : cB rs i = some (.tup [.str (w "open")])) (hf : s.frs = fs ++ [.ref (M0.length + (t + 5))]) (A : cV M0.length s.T t j l kn fl bk) (h1 : s.av.length < line) (h2 : s.log.length < line) (h3 : fl.length < line) :
  (aa ah (k + 2)).call 19 [.ref M0.length] (s.h M0) = .ok .ak (({ s with pl := .int (i + 1), av := s.av ++ [.bl true], log := s.log ++ [.tup [.str (w "open"), .int s.av.length]], T := s.T.set l (.lst (fl ++ [.int s.av.length])) } : Mx).h M0) := by
 refine bx (s := s) hr hp ha ?_ (aZ (by simp))
 rw [BR]
 have e1 : ev (aa ah (k + 1)) GK [some (.ref M0.length), some (.tup [.str (w "open")]), some (.str (w "open"))] (({ s with pl := .int (i + 1) } : Mx).h M0) = .ok (.ref (M0.length + (l + 5))) (({ s with pl := .int (i + 1) } : Mx).h M0) := By (s := { s with pl := .int (i + 1) }) A (jr rfl hf)
 have e2 : ev (aa ah (k + 1)) (.cF 1 10 (w "open_field") (.v 0) .nil) [some (.ref M0.length), some (.tup [.str (w "open")]), some (.str (w "open"))] (({ s with pl := .int (i + 1) } : Mx).h M0) = .ok (.int s.av.length) (({ s with pl := .int (i + 1), av := s.av ++ [.bl true], log := s.log ++ [.tup [.str (w "open"), .int s.av.length]] } : Mx).h M0) :=
  (u_ (s := { s with pl := .int (i + 1) }) rfl (by decide +kernel)).trans (xh (s := { s with pl := .int (i + 1) }) h1 h2)
 have e3 := pH e1 (gT.trans A.fl) e2 (gT.trans A.fl) h3
 rw [sT] at e3
 exact (bZ e3).trans rfl
theorem zy (hr : s.rows = .lst rs) (hp : s.pl = .int i) (ha : cB rs i = some (.tup [.str (w "shut")])) (hf : s.frs = fs ++ [.ref (M0.length + (t + 5))]) (A : cV M0.length s.T t j l kn (fl ++ [.int f]) bk) (h1 : f < s.av.length) (h2 : s.log.length < line) :
  (aa ah (k + 2)).call 19 [.ref M0.length] (s.h M0) = .ok .ak (({ s with pl := .int (i + 1), av := s.av.set f (.bl false), log := s.log ++ [.tup [.str (w "shut"), .int f]], T := s.T.set l (.lst fl) } : Mx).h M0) := by
 refine bx (s := s) hr hp ha ?_ (aZ (by simp))
 rw [BQ]
 have e1 : ev (aa ah (k + 1)) GK [some (.ref M0.length), some (.tup [.str (w "shut")]), some (.str (w "shut"))] (({ s with pl := .int (i + 1) } : Mx).h M0) = .ok (.ref (M0.length + (l + 5))) (({ s with pl := .int (i + 1) } : Mx).h M0) := By (s := { s with pl := .int (i + 1) }) A (jr rfl hf)
 have e2 := nq e1 (gT.trans A.fl)
 rw [sT] at e2
 exact (fu (s := { s with pl := .int (i + 1) }) (s' := { s with pl := .int (i + 1),T := s.T.set l (.lst fl) }) rfl (by decide +kernel) (evs1 e2) (xg (s := { s with pl := .int (i + 1),T := s.T.set l (.lst fl) }) h1 h2)).trans rfl
theorem yK {r : List D} {M1 : MH} {d : D} (hd : (aa ah k).call 18 [.ref M0.length, a, b, x] (s.h M0) = .ok d M1) (hn : eU false (s.h M0) .ak M1 = .ok .ak M1) : (aa ah (k + 1)).call 17 [.ref M0.length, .tup [.str (w "call"), a, b, x]] (s.h M0) = .ok .ak M1 := by
 have q1 : ev (aa ah k) (.cmp .eq (.idx (.v 1) (.k (.int 0))) (.k (.str (w "jump")))) [some (.ref M0.length), some (.tup [.str (w "call"), a, b, x])] (s.h M0) = .ok (.bl false) (s.h M0) := bA (aK rfl rfl bB) (by decide +kernel)
 have q2 : ev (aa ah k) (.cmp .eq (.idx (.v 1) (.k (.int 0))) (.k (.str (w "call")))) [some (.ref M0.length), some (.tup [.str (w "call"), a, b, x])] (s.h M0) = .ok (.bl true) (s.h M0) := bA (aK rfl rfl bB) (by decide +kernel)
 have q3 : exs (aa ah k) (.cons (.ex (.cF 1 18 (w "enter") (.v 0) (.cons (.idx (.v 1) (.k (.int 1))) (.cons (.idx (.v 1) (.k (.int 2))) (.cons (.idx (.v 1) (.k (.int 3))) .nil))))) .nil) [some (.ref M0.length), some (.tup [.str (w "call"), a, b, x])] (s.h M0) = .ok (.nx [some (.ref M0.length), some (.tup [.str (w "call"), a, b, x])]) M1 :=
  (fu rfl (by decide +kernel) rfl hd).trans rfl
 exact fM Bj rfl (dU q1 ((gS q2 q3).trans rfl)) hn
theorem u6 {c : Nat} (hd : (aa ah k).call 18 [.ref M0.length, a, b, x] (s.h M0) = .exc c (s.h M0)) : (aa ah (k + 1)).call 17 [.ref M0.length, .tup [.str (w "call"), a, b, x]] (s.h M0) = .exc c (s.h M0) := by
 have q1 : ev (aa ah k) (.cmp .eq (.idx (.v 1) (.k (.int 0))) (.k (.str (w "jump")))) [some (.ref M0.length), some (.tup [.str (w "call"), a, b, x])] (s.h M0) = .ok (.bl false) (s.h M0) := bA (aK rfl rfl bB) (by decide +kernel)
 have q2 : ev (aa ah k) (.cmp .eq (.idx (.v 1) (.k (.int 0))) (.k (.str (w "call")))) [some (.ref M0.length), some (.tup [.str (w "call"), a, b, x])] (s.h M0) = .ok (.bl true) (s.h M0) := bA (aK rfl rfl bB) (by decide +kernel)
 have q3 : exs (aa ah k) (.cons (.ex (.cF 1 18 (w "enter") (.v 0) (.cons (.idx (.v 1) (.k (.int 1))) (.cons (.idx (.v 1) (.k (.int 2))) (.cons (.idx (.v 1) (.k (.int 3))) .nil))))) .nil) [some (.ref M0.length), some (.tup [.str (w "call"), a, b, x])] (s.h M0) = .ok (.xc c [some (.ref M0.length), some (.tup [.str (w "call"), a, b, x])]) (s.h M0) :=
  jZ rfl (by decide +kernel) rfl hd
 exact i8 Bj rfl (DE q1 (oB q2 q3)) cG
end
end bR
end
section
set_option autoImplicit false
namespace bR
open Fg PySem
structure Fm where
 kn : List D
 fl : List Nat
 bk : D
structure Ms where
 pile : List D
 frs : List Fm
 av : List Bool
 log : List D
 bg : Int
 pl : D
inductive Rw where
 | num (i : Int)
 | loc (n : Nat)
 | keep
 | drop
 | lay (c : Bool) (i : Nat)
 | look (h t : Bool)
 | nil
 | none
 | av
 | gg
 | jump (to : Int)
 | call (to : Int) (many : Nat) (is : List Nat)
 | back
noncomputable def layW (c : Bool) : Str := if c then w "cons" else w "pair"
noncomputable def lE (h t : Bool) : Str := if h then (if t then w "tail" else w "head") else (if t then w "second" else w "first")
noncomputable def Rw.d : Rw -> D
 | .num i => .tup [.str (w "number"), .int i]
 | .loc n => .tup [.str (w "local"), .int n]
 | .keep => .tup [.str (w "keep")]
 | .drop => .tup [.str (w "drop")]
 | .lay c i => .tup [.str (layW c),.int i]
 | .look h t => .tup [.str (lE h t)]
 | .nil => .tup [.str (w "nil")]
 | .none => .tup [.str (w "none")]
 | .av => .tup [.str (w "open")]
 | .gg => .tup [.str (w "shut")]
 | .jump to => .tup [.str (w "jump"), .int to]
 | .call to many is => .tup [.str (w "call"), .int to, .int many, .tup (is.map fun (n : Nat) => D.int n)]
 | .back => .tup [.str (w "back")]
inductive Rz where
 | ok (s : Ms)
 | exc (c : Nat)
 | bad
noncomputable def lim : Nat := 900000
noncomputable def xy (xs : List D) : Option (List D × D) := match xs.getLast? with
 | some x => some (xs.dropLast,x)
 | none => none
theorem EN {xs p : List D} {x : D} (h : xy xs = some (p,x)) : xs = p ++ [x] := by
 unfold xy at h
 split at h
 ·rename_i y hy
  cases h
  obtain ⟨ys,rfl⟩ := List.getLast?_eq_some_iff.mp hy
  simp
 ·cases h
noncomputable def yD : D -> Option (D × D × Nat)
 | .tup [_,_,a,b,.int f] => some (a,b,f.toNat)
 | _ => none
theorem A1 {xs : List Nat} {x : Nat} (h : xs.getLast? = some x) : xs = xs.dropLast ++ [x] := by
 obtain ⟨ys,rfl⟩ := List.getLast?_eq_some_iff.mp h
 simp
noncomputable def jz {α : Type} (o : Option α) (k : α -> Rz) : Rz := match o with | some a => k a | none => .bad
@[irreducible] noncomputable def jh (xs : List D) (k : List D -> D -> Rz) : Rz := jz (xy xs) fun q => k q.1 q.2
noncomputable def Sm (P : Ms -> Prop) (X : Nat -> Prop) : Rz -> Prop
 | .ok s => P s
 | .exc c => X c
 | .bad => True
section
variable {P : Ms -> Prop} {X : Nat -> Prop}
theorem sm_get {α : Type} {o : Option α} {k : α -> Rz} (h : ∀ a,o = some a -> Sm P X (k a)) : Sm P X (jz o k) := by
 cases o with
 | none => exact True.intro
 | some a => exact h a rfl
theorem fP {xs : List D} {k : List D -> D -> Rz} (h : ∀ p x,xs = p ++ [x] -> Sm P X (k p x)) : Sm P X (jh xs k) := by
 unfold jh
 exact sm_get fun q hq => h q.1 q.2 (EN hq)
theorem i9 {c : Prop} [Decidable c] {a b : Rz} (h1 : c -> Sm P X a) (h2 : ¬ c -> Sm P X b) : Sm P X (if c then a else b) := by
 by_cases h : c
 ·rw [if_pos h]; exact h1 h
 ·rw [if_neg h]; exact h2 h
end
noncomputable def mrow (most : Int) (r : Rw) (s : Ms) (f : Fm) (fs : List Fm) : Rz := match r with
 | .num i => .ok { s with pile := s.pile ++ [.int i] }
 | .loc n => jz f.kn[n]? fun x => .ok { s with pile := s.pile ++ [x] }
 | .keep => jh s.pile fun p x => .ok { s with pile := p,frs := { f with kn := f.kn ++ [x] } :: fs }
 | .drop => jh f.kn fun p _ => .ok { s with frs := { f with kn := p } :: fs }
 | .lay c i => jh s.pile fun p1 b => jh p1 fun p a => jz f.fl[i]? fun n => jz s.av[n]? fun o =>
   if 1000 < 1 + bU a + bU b then .exc 1 else if o = true then .ok { s with pile := p ++ [.tup [.str (layW c), .int (1 + bU a + bU b), a, b, .int n]], log := s.log ++ [.tup [.str (w "lay"), .int n]] } else .exc 5
 | .look h t => jh s.pile fun p v => jz (yD v) fun q => jz s.av[q.2.2]? fun o =>
   if o = true then .ok { s with pile := p ++ [if t then q.2.1 else q.1], log := s.log ++ [.tup [.str (w "look"), .int q.2.2]] } else .exc 5
 | .nil => .ok { s with pile := s.pile ++ [.ak] }
 | .none => jh s.pile fun p x => .ok { s with pile := p ++ [.int (if dw x then 1 else 0)] }
 | .av => .ok { s with av := s.av ++ [true], log := s.log ++ [.tup [.str (w "open"), .int s.av.length]], frs := { f with fl := f.fl ++ [s.av.length] } :: fs }
 | .gg => jz f.fl.getLast? fun n => if n < s.av.length then .ok { s with av := s.av.set n false, log := s.log ++ [.tup [.str (w "shut"), .int n]], frs := { f with fl := f.fl.dropLast } :: fs } else .bad
 | .jump to => .ok { s with pl := .int to }
 | .call to many is => if most < s.bg + 1 then .exc 3 else if 12 < fs.length + 1 then .exc 4 else
   if many <= s.pile.length /\ (is.all fun i => decide (i < f.fl.length)) = true /\ is.length < lim then .ok { s with bg := s.bg + 1,pile := s.pile.take (s.pile.length - many),pl := .int to,frs := ⟨s.pile.drop (s.pile.length - many),is.map fun i => f.fl.getD i 0,s.pl⟩ :: f :: fs } else .bad
 | .back => .ok { s with pl := f.bk,frs := fs }
noncomputable def fits (s : Ms) (f : Fm) (fs : List Fm) : Prop := s.pile.length < lim /\ s.av.length < lim /\ s.log.length < lim /\ f.kn.length < lim /\ f.fl.length < lim /\ fs.length < lim
noncomputable instance (s : Ms) (f : Fm) (fs : List Fm) : Decidable (fits s f fs) := inferInstanceAs (Decidable (_ /\ _))
noncomputable def mst (most : Int) (r : Rw) (s : Ms) : Rz := match s.frs with
 | [] => .bad
 | f :: fs => if fits s f fs then mrow most r s f fs else .bad
noncomputable abbrev ix := Nat × Nat × Nat
noncomputable def nats (ns : List Nat) : List D := ns.map fun (n : Nat) => D.int n
noncomputable def frR (n : Nat) (q : ix) : D := .ref (n + (q.1 + 5))
inductive Frs (n : Nat) (T : MH) : List ix -> List Fm -> Prop
 | nil : Frs n T [] []
 | cons {q : ix} {qs : List ix} {f : Fm} {fs : List Fm} : cV n T q.1 q.2.1 q.2.2 f.kn (nats f.fl) f.bk -> Frs n T qs fs -> Frs n T (q :: qs) (f :: fs)
noncomputable def ixs (qs : List ix) : List Nat := qs.flatMap fun q => [q.1,q.2.1,q.2.2]
structure Rep (n : Nat) (s : Ms) (x : Mx) (qs : List ix) : Prop where
 pile : x.pile = s.pile
 av : x.av = s.av.map D.bl
 log : x.log = s.log
 bg : x.bg = s.bg
 pl : x.pl = s.pl
 frs : x.frs = (qs.map (frR n)).reverse
 at_ : Frs n x.T qs s.frs
 nd : (ixs qs).Nodup
 lt : ∀ i ∈ ixs qs,i < x.T.length
 pv : ∀ v ∈ s.pile,Vl v
 fv : ∀ f ∈ s.frs,∀ v ∈ f.kn,Vl v
theorem Frs.set {n : Nat} {T : MH} {j : Nat} {o : MO} {qs : List ix} {fs : List Fm} (h : Frs n T qs fs) (hj : j ∉ ixs qs) : Frs n (T.set j o) qs fs := by
 induction h with
 | nil => exact .nil
 | @cons q qs f fs a _ ih =>
  have h0 : j ≠ q.1 /\ j ≠ q.2.1 /\ j ≠ q.2.2 /\ j ∉ ixs qs := by
   simp only [ixs,List.flatMap_cons,List.mem_append,List.mem_cons,List.not_mem_nil,or_false,not_or] at hj
   exact ⟨hj.1.1,hj.1.2.1,hj.1.2.2,hj.2⟩
  exact .cons ⟨by rw [List.getElem?_set_ne h0.1]; exact a.at_,by rw [List.getElem?_set_ne h0.2.1]; exact a.kn,by rw [List.getElem?_set_ne h0.2.2.1]; exact a.fl⟩ (ih h0.2.2.2)
theorem Frs.app {n : Nat} {T X : MH} {qs : List ix} {fs : List Fm} (h : Frs n T qs fs) : Frs n (T ++ X) qs fs := by
 have up : ∀ {i : Nat} {o : MO},T[i]? = some o -> (T ++ X)[i]? = some o := fun {i o} e => by rw [List.getElem?_append_left (List.getElem?_eq_some_iff.mp e).1]; exact e
 induction h with
 | nil => exact .nil
 | cons a _ ih => exact .cons ⟨up a.at_,up a.kn,up a.fl⟩ ih
theorem Frs.len {n : Nat} {T : MH} {qs : List ix} {fs : List Fm} (h : Frs n T qs fs) : qs.length = fs.length := by
 induction h with
 | nil => rfl
 | cons _ _ ih => simp [ih]
theorem ku {q : ix} {qs : List ix} : ixs (q :: qs) = q.1 :: q.2.1 :: q.2.2 :: ixs qs := rfl
theorem Frs.kn {n : Nat} {T : MH} {q : ix} {qs : List ix} {f : Fm} {fs : List Fm} {kn : List D} (h : Frs n T (q :: qs) (f :: fs)) (nd : (ixs (q :: qs)).Nodup) : Frs n (T.set q.2.1 (.lst kn)) (q :: qs) ({ f with kn := kn } :: fs) := by
 cases h with
 | cons a r =>
  rw [ku] at nd
  simp only [List.nodup_cons,List.mem_cons,not_or] at nd
  obtain ⟨⟨n1,n2,n3⟩,⟨n4,n5⟩,n6,n7⟩ := nd
  exact .cons ⟨by rw [List.getElem?_set_ne (Ne.symm n1)]; exact a.at_,fQ a.kn,by rw [List.getElem?_set_ne n4]; exact a.fl⟩ (r.set n5)
theorem Frs.fl {n : Nat} {T : MH} {q : ix} {qs : List ix} {f : Fm} {fs : List Fm} {fl : List Nat} (h : Frs n T (q :: qs) (f :: fs)) (nd : (ixs (q :: qs)).Nodup) : Frs n (T.set q.2.2 (.lst (nats fl))) (q :: qs) ({ f with fl := fl } :: fs) := by
 cases h with
 | cons a r =>
  rw [ku] at nd
  simp only [List.nodup_cons,List.mem_cons,not_or] at nd
  obtain ⟨⟨n1,n2,n3⟩,⟨n4,n5⟩,n6,n7⟩ := nd
  exact .cons ⟨by rw [List.getElem?_set_ne (Ne.symm n2)]; exact a.at_,by rw [List.getElem?_set_ne (Ne.symm n4)]; exact a.kn,fQ a.fl⟩ (r.set n6)
theorem gZ {ns : List Nat} {i n : Nat} (h : ns[i]? = some n) : cB (nats ns) (i : Int) = some (.int n) := cE (by rw [nats,List.getElem?_map,h]; rfl)
theorem wR {fl is : List Nat} (h : (is.all fun i => decide (i < fl.length)) = true) : (is.map fun (n : Nat) => (n : Int)).map (cB (nats fl)) = (nats (is.map fun i => fl.getD i 0)).map some := by
 induction is with
 | nil => rfl
 | cons j is ih =>
  simp only [List.all_cons,Bool.and_eq_true,decide_eq_true_eq] at h
  have e : fl[j]? = some (fl.getD j 0) := by rw [List.getD_eq_getElem?_getD,List.getElem?_eq_getElem h.1]; rfl
  rw [List.map_cons,List.map_cons,ih h.2,gZ e]; rfl
theorem mF {bs : List Bool} {i : Nat} {b : Bool} (h : bs[i]? = some b) : (bs.map D.bl)[i]? = some (.bl b) := by rw [List.getElem?_map,h]; rfl
theorem Gf {v a b : D} {n : Nat} (hv : Vl v) (h : yD v = some (a,b,n)) : ∃ c sz,v = .tup [.str c,.int sz,a,b,.int n] /\ Vl a /\ Vl b := by
 cases hv with
 | int i => cases h
 | ak => cases h
 | cell h1 h2 va vb =>
  simp only [yD,Int.toNat_natCast,Option.some.injEq,Prod.mk.injEq] at h
  obtain ⟨rfl,rfl,rfl⟩ := h
  exact ⟨_,_,rfl,va,vb⟩
theorem AY (c : Bool) : an w3 (layW c) = true /\ an w1 (layW c) = false /\ an w2 (layW c) = false /\ (layW c).length <= 100000 := by cases c <;> decide +kernel
theorem xm (h t : Bool) : an w4 (lE h t) = true /\ an w1 (lE h t) = false /\ an w2 (lE h t) = false /\ an w3 (lE h t) = false /\ ([w "first", w "head"].any fun y => decide (y = lE h t)) = !t := by cases h <;> cases t <;> decide +kernel
theorem dX {n : Nat} (h : n < lim) : n < line := Nat.lt_of_lt_of_le h (by decide)
theorem uL {qs : List ix} {m : Nat} (h : ∀ i ∈ ixs qs,i < m) (nd : (ixs qs).Nodup) : (ixs ((m + 2,m,m + 1) :: qs)).Nodup /\ ∀ i ∈ ixs ((m + 2,m,m + 1) :: qs),i < m + 3 := by
 rw [ku]
 refine ⟨?_,fun i hi => ?_⟩
 ·simp only [List.nodup_cons,List.mem_cons,not_or]
  refine ⟨⟨by omega,by omega,fun z => ?_⟩,⟨by omega,fun z => ?_⟩,fun z => ?_,nd⟩ <;> (have := h _ z; omega)
 ·simp only [List.mem_cons] at hi
  rcases hi with rfl | rfl | rfl | hi
  ·omega
  ·omega
  ·omega
  ·have := h _ hi; omega
theorem jV {xs : List D} {n : Nat} : xs = xs.take (xs.length - n) ++ xs.drop (xs.length - n) := (List.take_append_drop _ _).symm
section
variable {M0 : MH} {s : Mx} {a bk : D} {rs fs kn fl p xs ys : List D} {t k l j n : Nat} {i : Int} {is : List Int}
theorem nZ {c : Nat} {b : D} {m : Int} (hr : s.rows = .lst rs) (hp : s.pl = .int i) (ha : cB rs i = some (.tup [.str (w "call"), a, .int m, b])) (hc : (if s.most < s.bg + 1 then (.exc 3 (({ s with pl := .int (i + 1) } : Mx).h M0) : R D) else if 12 < ((s.frs.length : Int) - 1) + 1 then .exc 4 (({ s with pl := .int (i + 1) } : Mx).h M0) else .ok .ak (({ s with pl := .int (i + 1) } : Mx).h M0)) = .exc c (({ s with pl := .int (i + 1) } : Mx).h M0)) :
  ∃ x' : Mx,(aa ah (k + 4)).call 19 [.ref M0.length] (s.h M0) = .exc c (x'.h M0) := by
 refine ⟨_,jH (s := s) (s' := { s with pl := .int (i + 1) }) hr hp ha ?_ rfl⟩
 rw [KQ (by decide +kernel) (by decide +kernel)]
 exact jZ (s := { s with pl := .int (i + 1) }) (s' := { s with pl := .int (i + 1) }) rfl (by decide +kernel) rfl (u6 (s := { s with pl := .int (i + 1) }) (yL (k := k) (s := { s with pl := .int (i + 1) }) hc))
theorem zH {b : D} (hr : s.rows = .lst rs) (hp : s.pl = .int i) (ha : cB rs i = some (.tup [.str (w "call"), a, .int n, b])) (hf : s.frs = fs ++ [.ref (M0.length + (t + 5))]) (A : cV M0.length s.T t j l kn fl bk) (h1 : ¬ s.most < s.bg + 1) (h2 : ¬ 12 < ((s.frs.length : Int) - 1) + 1) (hx : s.pile = p ++ xs) (hn : xs.length = n) (hm : n <= 1000000) (hy : is.map (cB fl) = ys.map some) (hi : is.length <= line) (hfl : s.frs.length < line) (hb : b = .tup (is.map D.int)) :
  (aa ah (k + 5)).call 19 [.ref M0.length] (s.h M0) =
   .ok .ak (({ s with bg := s.bg + 1, pile := p, pl := a, frs := s.frs ++ [.ref (M0.length + (s.T.length + 2 + 5))], T := s.T ++ [.lst xs, .lst ys, .ins 0 [(w "known", .ref (M0.length + (s.T.length + 5))), (w "fields", .ref (M0.length + (s.T.length + 1 + 5))), (w "behind_call", .int (i + 1))]] } : Mx).h M0) := by
 subst hn hb
 have ne : ∀ M' : MH,M'[M0.length + 2]? = some (.lst (s.frs ++ [.ref (M0.length + (s.T.length + 2 + 5))])) -> ∀ s1 : Mx,s1.frs = s.frs -> eU false (s1.h M0) .ak M' = .ok .ak M' := fun M' h s1 e => mC (lZ (i := M0.length + 2) g2 h fun q => by
  rw [e] at q
  have q := congrArg (fun o => match o with | MO.lst xs => xs.length | _ => 0) q
  simp at q)
 refine bx (s := s) hr hp ha ?_ (ne _ g2 _ rfl)
 rw [KQ (by decide +kernel) (by decide +kernel)]
 have en := BO (M0 := M0) (k := k) (s := { s with pl := .int (i + 1) }) (a := a) hf A h1 h2 hx hm hy hi rfl hfl
 exact (fu (s := { s with pl := .int (i + 1) }) (s' := { s with pl := .int (i + 1) }) rfl (by decide +kernel) rfl (yK (r := []) (s := { s with pl := .int (i + 1) }) en (ne _ g2 _ rfl))).trans rfl
end
theorem sim {M0 : MH} {s : Ms} {x : Mx} {qs : List ix} {rs : List Rw} {r : Rw} {i k : Nat} (R : Rep M0.length s x qs) (hr : x.rows = .lst (rs.map Rw.d)) (hi : s.pl = .int i) (hg : rs[i]? = some r) :
  Sm (fun s' => ∃ x' HP,(aa ah (k + 5)).call 19 [.ref M0.length] (x.h M0) = .ok .ak (x'.h M0) /\ Rep M0.length s' x' HP /\ x'.rows = x.rows /\ x'.most = x.most)
   (fun c => ∃ x' : Mx,(aa ah (k + 5)).call 19 [.ref M0.length] (x.h M0) = .exc c (x'.h M0)) (mst x.most r { s with pl := .int ((i : Int) + 1) }) := by
 obtain ⟨pile,frs,av,log,bg,pl⟩ := s
 cases (show pl = .int i from hi)
 have ha : cB (rs.map Rw.d) (i : Int) = some r.d := cE (by rw [List.getElem?_map,hg]; rfl)
 have hp : x.pl = .int (i : Int) := R.pl
 cases frs with
 | nil => exact True.intro
 | cons f fs =>
  obtain ⟨b3,eO,gW,pV,rpl,gX,rat,oF,uu,nM,nN⟩ := R
  refine i9 (fun hl => ?_) fun _ => True.intro
  obtain ⟨l1,l2,l3,l4,l5,l6⟩ := hl
  cases qs with
  | nil => cases rat
  | cons q qs =>
   have iQ := rat
   cases rat with
   | cons A rr =>
    have hfr : x.frs = (qs.map (frR M0.length)).reverse ++ [.ref (M0.length + (q.1 + 5))] := by rw [gX,List.map_cons,List.reverse_cons]; rfl
    have lp : x.pile.length < line := by rw [b3]; exact dX l1
    have ll : x.log.length < line := by rw [gW]; exact dX l3
    have lo : x.av.length < line := by rw [eO,List.length_map]; exact dX l2
    have big : ∀ {n : Nat} {b : Bool},av[n]? = some b -> n < 18446744073709551616 := fun {n b} h =>
     Nat.lt_of_lt_of_le (Nat.lt_trans (List.getElem?_eq_some_iff.mp h).1 l2) (by decide)
    cases r with
    | num n => exact ⟨_,q :: qs,ug hr hp ha hfr lp,⟨congrArg (· ++ _) b3,eO,gW,pV,rfl,gX,iQ,oF,uu,fun v hv => (List.mem_append.mp hv).elim (nM v) fun z => by rw [List.mem_singleton.mp z]; exact .int n,nN⟩,rfl,rfl⟩
    | loc n =>
     refine sm_get fun y hn => ?_
     exact ⟨_,q :: qs,vH hr hp ha hfr A (cE hn) lp,⟨congrArg (· ++ _) b3,eO,gW,pV,rfl,gX,iQ,oF,uu,fun v hv => (List.mem_append.mp hv).elim (nM v) fun z => by rw [List.mem_singleton.mp z]; exact nN f List.mem_cons_self y (List.mem_of_getElem? hn),nN⟩,rfl,rfl⟩
    | keep =>
     refine fP fun p y e => ?_
     cases (show pile = p ++ [y] from e)
     refine ⟨_,q :: qs,zE hr hp ha hfr A b3 (dX l4),⟨rfl,eO,gW,pV,rfl,gX,iQ.kn oF,oF,by simpa using uu,fun v hv => nM v (List.mem_append_left _ hv),fun g hg v hv => ?_⟩,rfl,rfl⟩
     rcases List.mem_cons.mp hg with rfl | hg
     ·exact (List.mem_append.mp hv).elim (nN f List.mem_cons_self v) fun z => nM v (List.mem_append_right _ z)
     ·exact nN g (List.mem_cons_of_mem _ hg) v hv
    | drop =>
     refine fP fun p y e => ?_
     rw [e] at A
     refine ⟨_,q :: qs,zG hr hp ha hfr A,⟨b3,eO,gW,pV,rfl,gX,iQ.kn oF,oF,by simpa using uu,nM,fun g hg v hv => ?_⟩,rfl,rfl⟩
     rcases List.mem_cons.mp hg with rfl | hg
     ·exact nN f List.mem_cons_self v (by rw [e]; exact List.mem_append_left _ hv)
     ·exact nN g (List.mem_cons_of_mem _ hg) v hv
    | jump to => exact ⟨_,q :: qs,zF hr hp ha,⟨b3,eO,gW,pV,rfl,gX,iQ,oF,uu,nM,nN⟩,rfl,rfl⟩
    | back => exact ⟨_,qs,zI hr hp ha hfr A,⟨b3,eO,gW,pV,rfl,rfl,rr,(List.nodup_cons.mp (List.nodup_cons.mp (List.nodup_cons.mp oF).2).2).2,fun i hi => uu i (List.mem_cons_of_mem _ (List.mem_cons_of_mem _ (List.mem_cons_of_mem _ hi))),nM,fun g hg => nN g (List.mem_cons_of_mem _ hg)⟩,rfl,rfl⟩
    | nil => exact ⟨_,q :: qs,Dm hr hp ha lp,⟨congrArg (· ++ _) b3,eO,gW,pV,rfl,gX,iQ,oF,uu,fun v hv => (List.mem_append.mp hv).elim (nM v) fun z => by rw [List.mem_singleton.mp z]; exact .ak,nN⟩,rfl,rfl⟩
    | none =>
     refine fP fun p y e => ?_
     cases (show pile = p ++ [y] from e)
     have IM : p.length < line := by have := dX l1; rw [List.length_append] at this; omega
     exact ⟨_,q :: qs,zA hr hp ha b3 IM,⟨rfl,eO,gW,pV,rfl,gX,iQ,oF,uu,fun v hv => (List.mem_append.mp hv).elim (fun z => nM v (List.mem_append_left _ z)) fun z => by rw [List.mem_singleton.mp z]; exact .int _,nN⟩,rfl,rfl⟩
    | av =>
     have hlo : x.av.length = av.length := by rw [eO,List.length_map]
     have e : nats (f.fl ++ [av.length]) = nats f.fl ++ [.int (x.av.length : Nat)] := by rw [hlo]; simp [nats]
     have st := zz (k := k + 3) hr hp ha hfr A lo ll (by rw [nats,List.length_map]; exact dX l5)
     rw [<- e] at st
     exact ⟨_,q :: qs,st,⟨b3,by rw [eO]; simp,by rw [hlo,gW],pV,rfl,gX,iQ.fl oF,oF,by simpa using uu,nM,fun g hg v hv => by
      rcases List.mem_cons.mp hg with rfl | hg
      ·exact nN f List.mem_cons_self v hv
      ·exact nN g (List.mem_cons_of_mem _ hg) v hv⟩,rfl,rfl⟩
    | gg =>
     refine sm_get fun n hn => i9 (fun hlt => ?_) fun _ => True.intro
     have e := A1 hn
     have A' : cV M0.length x.T q.1 q.2.1 q.2.2 f.kn (nats f.fl.dropLast ++ [.int n]) f.bk := by
      have e2 : nats f.fl = nats f.fl.dropLast ++ [.int n] := by rw [e]; simp [nats]
      rw [e2] at A; exact A
     have st := zy (k := k + 3) hr hp ha hfr A' (by rw [eO,List.length_map]; exact hlt) ll
     exact ⟨_,q :: qs,st,⟨b3,by rw [eO,List.map_set],by rw [gW],pV,rfl,gX,iQ.fl oF,oF,by simpa using uu,nM,fun g hg v hv => by
      rcases List.mem_cons.mp hg with rfl | hg
      ·exact nN f List.mem_cons_self v hv
      ·exact nN g (List.mem_cons_of_mem _ hg) v hv⟩,rfl,rfl⟩
    | lay c n =>
     refine fP fun p1 b e1 => fP fun p a e2 => sm_get fun m hm => sm_get fun o ho => ?_
     cases e2
     cases (show pile = p ++ [a] ++ [b] from e1)
     obtain ⟨z1,z2,z3,z4⟩ := AY c
     have va : Vl a := nM a (by simp)
     have vb : Vl b := nM b (by simp)
     have ho' := mF ho
     rw [<- eO] at ho'
     have IM : p.length < line := by have := dX l1; simp only [List.length_append] at this; omega
     refine i9 (fun hs => ⟨_,zD (k := k + 1) z1 z2 z3 z4 hr hp ha hfr A (gZ hm) va vb b3 hs⟩) fun hs => i9 (fun h1 => ?_) fun h1 => ?_
     ·subst h1
      have sa := va.sz
      have sb := vb.sz
      refine ⟨_,q :: qs,Dp (k := k + 1) z1 z2 z3 z4 hr hp ha hfr A (gZ hm) va vb b3 hs ho' (big ho) ll IM,⟨rfl,eO,by rw [gW],pV,rfl,gX,iQ,oF,uu,fun v hv => (List.mem_append.mp hv).elim (fun z => nM v (by simp [z])) fun z => ?_,nN⟩,rfl,rfl⟩
      rw [List.mem_singleton.mp z]
      exact .cell (by omega) (by omega) va vb
     ·have h1 : o = false := by cases o <;> simp_all
      subst h1
      exact ⟨_,zC (k := k + 1) z1 z2 z3 z4 hr hp ha hfr A (gZ hm) va vb b3 hs ho' (big ho)⟩
    | look h t =>
     refine fP fun p v e1 => sm_get fun ab hab => sm_get fun o ho => ?_
     cases (show pile = p ++ [v] from e1)
     obtain ⟨a,b,m⟩ := ab
     obtain ⟨c,sz,rfl,va,vb⟩ := Gf (nM v (by simp)) hab
     obtain ⟨z1,z2,z3,z4,z5⟩ := xm h t
     have ho' := mF ho
     rw [<- eO] at ho'
     have IM : p.length < line := by have := dX l1; simp only [List.length_append] at this; omega
     refine i9 (fun h1 => ?_) fun h1 => ?_
     ·subst h1
      have st := zB (M0 := M0) (k := k + 1) z1 z2 z3 z4 z5 hr hp ha va vb b3 ho' (big ho) ll IM
      have e : (if (!t) = true then a else b) = if t = true then b else a := by cases t <;> rfl
      rw [e] at st
      refine ⟨_,q :: qs,st,⟨rfl,eO,by rw [gW],pV,rfl,gX,iQ,oF,uu,fun v hv => (List.mem_append.mp hv).elim (fun z => nM v (List.mem_append_left _ z)) fun z => ?_,nN⟩,rfl,rfl⟩
      rw [List.mem_singleton.mp z]
      cases t
      ·exact va
      ·exact vb
     ·have h1 : o = false := by cases o <;> simp_all
      subst h1
      exact ⟨_,vG (k := k + 1) z1 z2 z3 z4 z5 hr hp ha va vb b3 ho' (big ho)⟩
    | call to many is =>
     have hlf : (x.frs.length : Int) = (fs.length : Int) + 1 := by
      have e := iQ.len
      rw [gX,List.length_reverse,List.length_map,e]; simp
     refine i9 (fun h1 => ?_) fun h1 => i9 (fun h2 => ?_) fun h2 => i9 (fun h3 => ?_) fun _ => True.intro
     ·have FL : x.most < x.bg + 1 := by rw [pV]; exact h1
      exact nZ (k := k + 1) hr hp ha (if_pos FL)
     ·have FL : ¬ x.most < x.bg + 1 := by rw [pV]; exact h1
      have h2' : 12 < fs.length + 1 := h2
      have FJ : 12 < ((x.frs.length : Int) - 1) + 1 := by rw [hlf]; omega
      exact nZ (k := k + 1) hr hp ha ((if_neg FL).trans (if_pos FJ))
     ·obtain ⟨h3,h4,h5⟩ := h3
      have hm0 : many <= pile.length := h3
      have h60 : pile.length < lim := l1
      have h61 : fs.length < lim := l6
      have h62 : ¬ 12 < fs.length + 1 := h2
      have FL : ¬ x.most < x.bg + 1 := by rw [pV]; exact h1
      have FJ : ¬ 12 < ((x.frs.length : Int) - 1) + 1 := by rw [hlf]; omega
      have hm : (pile.drop (pile.length - many)).length = many := by rw [List.length_drop]; omega
      have hmm : many <= 1000000 := Nat.le_trans hm0 (Nat.le_trans (Nat.le_of_lt h60) (by decide))
      have hlen : x.frs.length < line := by
       have e : x.frs.length = fs.length + 1 := by omega
       rw [e]; exact Nat.lt_of_le_of_lt h61 (by decide)
      have hy := wR (fl := f.fl) h4
      have e1 : x.pile = pile.take (pile.length - many) ++ pile.drop (pile.length - many) := b3.trans jV
      have hb : D.tup (is.map fun (n : Nat) => D.int n) = .tup ((is.map fun (n : Nat) => (n : Int)).map D.int) := by rw [List.map_map]; rfl
      have st := zH (M0 := M0) (k := k) (n := many) (a := .int to) (b := D.tup (is.map fun (n : Nat) => D.int n)) hr hp ha hfr A FL FJ e1 hm hmm hy (by rw [List.length_map]; exact Nat.le_of_lt (dX h5)) hlen hb
      obtain ⟨n1,n2⟩ := uL uu oF
      refine ⟨_,(x.T.length + 2,x.T.length,x.T.length + 1) :: q :: qs,st,⟨rfl,eO,gW,congrArg (· + 1) pV,rfl,?_,.cons ⟨?_,?_,?_⟩ iQ.app,n1,fun i hi => ?_,fun v hv => nM v (List.mem_of_mem_take hv),fun g hg v hv => ?_⟩,rfl,rfl⟩
      ·show x.frs ++ _ = _
       rw [List.map_cons,List.reverse_cons,<- gX]; rfl
      ·show (x.T ++ _)[x.T.length + 2]? = _
       rw [List.getElem?_append_right (by omega),Nat.add_sub_cancel_left]; rfl
      ·show (x.T ++ _)[x.T.length]? = _
       rw [List.getElem?_append_right (Nat.le_refl _),Nat.sub_self]; rfl
      ·show (x.T ++ _)[x.T.length + 1]? = _
       rw [List.getElem?_append_right (by omega),Nat.add_sub_cancel_left]; rfl
      ·show i < (x.T ++ _).length
       rw [List.length_append]; exact n2 i hi
      ·rcases List.mem_cons.mp hg with rfl | hg
       ·exact nM v (List.mem_of_mem_drop hv)
       ·exact nN g hg v hv
end bR
end
section
set_option autoImplicit false
namespace bR
open Fg PySem
noncomputable def vv (r : Rz) (k : Ms -> Rz) : Rz := match r with
 | .ok s => k s
 | .exc c => .exc c
 | .bad => .bad
theorem zM {P P' : Ms -> Prop} {X X' : Nat -> Prop} {r : Rz} {k : Ms -> Rz} (h : Sm P X r) (h1 : ∀ s,P s -> Sm P' X' (k s)) (h2 : ∀ c,X c -> X' c) : Sm P' X' (vv r k) := by
 cases r with
 | ok s => exact h1 s h
 | exc c => exact h2 c h
 | bad => exact True.intro
noncomputable def J1 (d : D) : Option Nat := match d with
 | .int i => if 0 <= i then some i.toNat else none
 | _ => none
theorem HS {d : D} {j : Nat} (h : J1 d = some j) : d = .int j := by
 cases d with
 | int i =>
  simp only [J1] at h
  split at h
  ·rename_i h0; cases h; rw [Int.toNat_of_nonneg h0]
  ·cases h
 | _ => cases h
noncomputable def go (rs : List Rw) (most : Int) : Nat -> Ms -> Rz
 | 0,_ => .bad
 | n + 1,s => bif s.frs.isEmpty then .ok s else jz (J1 s.pl) fun i => jz rs[i]? fun r => vv (mst most r { s with pl := .int ((i : Int) + 1) }) (go rs most n)
noncomputable def eW : E := .cmp .ne (.fld (.v 3) (w "frames")) (.lst true .nil)
noncomputable def bW : Ss := .cons (.ex (.cF 1 19 (w "step") (.v 3) .nil)) .nil
theorem cond {Φ : aQ} {σ : Sg} {M0 : MH} {x : Mx} (h : σ[3]? = some (some (.ref M0.length))) (hr : ∀ d ∈ x.frs,∃ n,d = .ref n) : ev Φ eW σ (x.h M0) = .ok (.bl (!x.frs.isEmpty)) (x.h M0) := by
 unfold eW
 rw [fK,cN h,R.af,yi,bh,R.af]
 show cj .ne (x.h M0) (.ref (M0.length + 2)) (.lst []) = _
 have e1 : top (x.h M0) (.ref (M0.length + 2)) = .lst x.frs := by simp only [top,g2]
 have e2 : top (x.h M0) (.lst []) = .lst [] := rfl
 have e3 : mK (x.h M0) (.ref (M0.length + 2)) (.lst []) = some x.frs.isEmpty := by simp only [mK,vw,g2]; rfl
 show wQ (x.h M0) (.ref (M0.length + 2)) (.lst []) = _
 unfold wQ
 rw [e1,e2,e3]
 cases hx : x.frs with
 | nil => rfl
 | cons d ds =>
  obtain ⟨n,rfl⟩ := hr d (by rw [hx]; exact List.mem_cons_self)
  rfl
theorem xZ {n : Nat} {s : Ms} {x : Mx} {qs : List ix} (R : Rep n s x qs) : ∀ d ∈ x.frs,∃ m,d = .ref m := by
 intro d hd
 rw [R.frs,List.mem_reverse,List.mem_map] at hd
 obtain ⟨q,_,rfl⟩ := hd
 exact ⟨_,rfl⟩
theorem uR {n : Nat} {s : Ms} {x : Mx} {qs : List ix} (R : Rep n s x qs) : x.frs.isEmpty = s.frs.isEmpty := by
 have e := R.at_.len
 rw [R.frs]
 cases qs <;> cases hs : s.frs <;> rw [hs] at e <;> first | rfl | (simp at e; done) | simp
theorem loop {M0 : MH} {rs : List Rw} {σ : Sg} {k : Nat} (hσ : σ[3]? = some (some (.ref M0.length))) : ∀ (n N : Nat) (s : Ms) (x : Mx) (qs : List ix),n <= N -> Rep M0.length s x qs -> x.rows = .lst (rs.map Rw.d) ->
  Sm (fun s' => ∃ x' HP,bf (ev (aa ah (k + 5)) eW) (exs (aa ah (k + 5)) bW) N σ (x.h M0) = .ok (.nx σ) (x'.h M0) /\ Rep M0.length s' x' HP /\ x'.most = x.most)
   (fun c => ∃ x' : Mx,bf (ev (aa ah (k + 5)) eW) (exs (aa ah (k + 5)) bW) N σ (x.h M0) = .ok (.xc c σ) (x'.h M0)) (go rs x.most n s)
 | 0,N,s,x,qs,_,_,_ => True.intro
 | n + 1,0,s,x,qs,h,_,_ => absurd h (by omega)
 | n + 1, N + 1, s, x, qs, h, Rp, hr => by
  have hc := cond (Φ := aa ah (k + 5)) hσ (xZ Rp)
  rw [uR Rp] at hc
  have hg : go rs x.most (n + 1) s = bif s.frs.isEmpty then .ok s else jz (J1 s.pl) fun i => jz rs[i]? fun r => vv (mst x.most r { s with pl := .int ((i : Int) + 1) }) (go rs x.most n) := rfl
  rw [hg]
  cases hf : s.frs.isEmpty with
  | true =>
   rw [hf] at hc
   refine ⟨x,qs,?_,Rp,rfl⟩
   rw [bf,hc]; rfl
  | false =>
   rw [hf] at hc
   have GG : bf (ev (aa ah (k + 5)) eW) (exs (aa ah (k + 5)) bW) (N + 1) σ (x.h M0) = (exs (aa ah (k + 5)) bW σ (x.h M0)).bind fun o M1 => match o with
    | .nx σ2 => bf (ev (aa ah (k + 5)) eW) (exs (aa ah (k + 5)) bW) N σ2 M1
    | .ct σ2 => bf (ev (aa ah (k + 5)) eW) (exs (aa ah (k + 5)) bW) N σ2 M1
    | .bk σ2 => .ok (.nx σ2) M1
    | .rt r => .ok (.rt r) M1
    | .xc c σ2 => .ok (.xc c σ2) M1 := by rw [bf,hc]; rfl
   have hb : ∀ r : Fg.R D, (aa ah (k + 5)).call 19 [.ref M0.length] (x.h M0) = r -> ev (aa ah (k + 5)) (.cF 1 19 (w "step") (.v 3) .nil) σ (x.h M0) = r := fun r e => (u_ (nm := w "step") hσ (by decide +kernel)).trans e
   refine sm_get fun i hp => sm_get fun r hg => zM (sim (k := k) Rp hr (HS hp) hg) (fun s' ⟨x',HP,e,R',r1,r2⟩ => ?_) fun c ⟨x',e⟩ => ⟨x',?_⟩
   ·have ih := loop (k := k) hσ n N s' x' HP (by omega) R' (r1.trans hr)
    rw [r2] at ih
    have e2 : bf (ev (aa ah (k + 5)) eW) (exs (aa ah (k + 5)) bW) (N + 1) σ (x.h M0) = bf (ev (aa ah (k + 5)) eW) (exs (aa ah (k + 5)) bW) N σ (x'.h M0) := by
     rw [GG,bW,bZ (hb _ e)]; rfl
    rw [e2]
    exact ih
   ·rw [GG,bW,j0 (hb _ e)]; rfl
end bR
end
section
set_option autoImplicit false
namespace bR
open Fg PySem
noncomputable def fInt (d : D) : Bool := match d with | .int _ => true | _ => false
section
variable {M : MH} {k : Nat}
theorem jU {i : Int} : (aa ah (k + 1)).call 5 [.int i] M = .ok (.int i) M := aO fn5 rfl (ja (x := .int i) (M1 := M) rfl rfl) (ay rfl rfl)
inductive Told (k : Nat) (M : MH) : D -> List D -> Prop
 | nil : Told k M .ak []
 | cons {sz : Int} {a b x : D} {xs : List D} {f : Nat} : (∀ M', M'.take M.length = M -> (aa ah k).call 5 [a] M' = .ok x M') -> Fg.nr M.length x = true -> Told k M b xs -> Told k M (.tup [.str (w "cons"), .int sz, a, b, .int f]) (x :: xs)
end
end bR
end
section
set_option autoImplicit false
namespace bR
open Fg PySem
inductive Wa (av : List Bool) : D -> Nat -> Bool -> Prop
 | int (i : Int) : Wa av (.int i) 1 true
 | ak : Wa av .ak 1 true
 | cell {c : Str} {sz : Int} {a b : D} {f n1 n2 : Nat} {o b1 b2 : Bool} : av[f]? = some o -> Wa av a n1 b1 -> Wa av b n2 b2 -> Wa av (.tup [.str c,.int sz,a,b,.int f]) (n1 + n2 + 1) (o && (b1 && b2))
inductive C8 (av : List Bool) : List D -> Nat -> Bool -> Prop
 | nil : C8 av [] 0 true
 | snoc {v : D} {ds : List D} {n m : Nat} {b q : Bool} : C8 av ds n b -> Wa av v m q -> C8 av (ds ++ [v]) (n + m) (q && b)
noncomputable def aE : E := .cmp .ne (.v 2) (.lst true .nil)
noncomputable def aB : Ss := .cons (.set 3 (.bK .pop true (.v 2) .nil)) (.cons (.ifs (.vg (.v 3) .tuple) (.cons (.ex (.cF 1 12 (w "want_open") (.v 0) (.cons (.idx (.v 3) (.k (.int 4))) .nil))) (.cons (.ex (.bK .extend true (.v 2) (.cons (.sl true (.v 3) (.some (.k (.int 2))) (.some (.k (.int 4)))) .nil))) .nil)) .nil) .nil)
section
variable {M0 : MH} {x : Mx} {av : List Bool} {k : Nat}
noncomputable abbrev wT (x : Mx) (ds : List D) : Mx := { x with T := x.T ++ [.lst ds] }
theorem gD {ds : List D} : ((wT x ds).h M0)[M0.length + (x.T.length + 5)]? = some (.lst ds) := gT.trans (by show (x.T ++ [MO.lst ds])[x.T.length]? = _; simp)
theorem sD {ds es : List D} : ((wT x ds).h M0).set (M0.length + (x.T.length + 5)) (.lst es) = (wT x es).h M0 := by
 rw [sT]
 show Mx.h { x with T := (x.T ++ [MO.lst ds]).set x.T.length (.lst es) } M0 = _
 rw [List.set_append_right _ _ (Nat.le_refl _),Nat.sub_self]; rfl
theorem JJ {Φ : aQ} {a v c : Option D} {ds : List D} (hv : ∃ n b,C8 av ds n b) : ev Φ aE [a,v,some (.ref (M0.length + (x.T.length + 5))),c] ((wT x ds).h M0) = .ok (.bl (!ds.isEmpty)) ((wT x ds).h M0) := by
 show wQ ((wT x ds).h M0) (.ref (M0.length + (x.T.length + 5))) (.lst []) = _
 have e1 : top ((wT x ds).h M0) (.ref (M0.length + (x.T.length + 5))) = .lst ds := by simp only [top,gD]
 have e2 : top ((wT x ds).h M0) (.lst []) = .lst [] := rfl
 have e3 : mK ((wT x ds).h M0) (.ref (M0.length + (x.T.length + 5))) (.lst []) = some ds.isEmpty := by simp only [mK,vw,gD]; rfl
 unfold wQ
 rw [e1,e2,e3]
 cases hd : ds with
 | nil => rfl
 | cons d es =>
  by_cases hc : cS (.lst (d :: es)) (.lst []) = true
  ·rw [if_pos hc,pC,Bv]; rfl
  ·rw [if_neg hc]
theorem zm (ho : x.av = av.map D.bl) (hl : av.length < lim) : ∀ (n : Nat) (ds : List D) (q : Bool) (N : Nat) (v c : Option D),C8 av ds n q -> n < N -> n < lim -> ds.length + n < lim ->
  ∃ c' es,bf (ev (aa ah (k + 1)) aE) (exs (aa ah (k + 1)) aB) N [some (.ref M0.length),v,some (.ref (M0.length + (x.T.length + 5))),c] ((wT x ds).h M0) =
   .ok (if q then .nx [some (.ref M0.length),v,some (.ref (M0.length + (x.T.length + 5))),c'] else .xc 5 [some (.ref M0.length),v,some (.ref (M0.length + (x.T.length + 5))),c']) ((wT x es).h M0) := by
 intro n
 induction n using Nat.strongRecOn with
 | ind n ih =>
  intro ds q N v c h hN hn hd
  obtain ⟨N,rfl⟩ : ∃ m,N = m + 1 := ⟨N - 1,by omega⟩
  have hc := JJ (Φ := aa ah (k + 1)) (M0 := M0) (x := x) (a := some (.ref M0.length)) (v := v) (c := c) ⟨n,q,h⟩
  cases h with
  | nil =>
   refine ⟨c,[],?_⟩
   rw [bf,hc]; rfl
  | @snoc u ds n m b q h hu =>
   have hne : (ds ++ [u]).isEmpty = false := by cases ds <;> rfl
   rw [hne] at hc
   have e1 := nq (Φ := aa ah (k + 1)) (e := .v 2) (σ := [some (.ref M0.length),v,some (.ref (M0.length + (x.T.length + 5))),c]) rfl (gD (M0 := M0) (x := x) (ds := ds ++ [u]))
   rw [sD] at e1
   have GG : bf (ev (aa ah (k + 1)) aE) (exs (aa ah (k + 1)) aB) (N + 1) [some (.ref M0.length),v,some (.ref (M0.length + (x.T.length + 5))),c] ((wT x (ds ++ [u])).h M0) = (exs (aa ah (k + 1)) aB [some (.ref M0.length),v,some (.ref (M0.length + (x.T.length + 5))),c] ((wT x (ds ++ [u])).h M0)).bind fun o M1 => match o with
    | .nx σ2 => bf (ev (aa ah (k + 1)) aE) (exs (aa ah (k + 1)) aB) N σ2 M1
    | .ct σ2 => bf (ev (aa ah (k + 1)) aE) (exs (aa ah (k + 1)) aB) N σ2 M1
    | .bk σ2 => .ok (.nx σ2) M1
    | .rt r => .ok (.rt r) M1
    | .xc c σ2 => .ok (.xc c σ2) M1 := by rw [bf,hc]; rfl
   have flat : ∀ (m0 : Nat),m = m0 + 1 -> ev (aa ah (k + 1)) (.vg (.v 3) .tuple) [some (.ref M0.length),v,some (.ref (M0.length + (x.T.length + 5))),some u] ((wT x ds).h M0) = .ok (.bl false) ((wT x ds).h M0) -> q = true ->
     ∃ c' es,bf (ev (aa ah (k + 1)) aE) (exs (aa ah (k + 1)) aB) (N + 1) [some (.ref M0.length),v,some (.ref (M0.length + (x.T.length + 5))),c] ((wT x (ds ++ [u])).h M0) =
      .ok (if (q && b) then .nx [some (.ref M0.length),v,some (.ref (M0.length + (x.T.length + 5))),c'] else .xc 5 [some (.ref M0.length),v,some (.ref (M0.length + (x.T.length + 5))),c']) ((wT x es).h M0) := fun m0 hm e2 hq => by
    subst hq
    obtain ⟨c',es,e3⟩ := ih n (by omega) ds b N v (some u) h (by omega) (by omega) (by rw [List.length_append] at hd; omega)
    refine ⟨c',es,?_⟩
    rw [GG,aB,(ao e1).trans ((bG e2).trans rfl)]
    exact e3
   cases hu with
   | int i => exact flat 0 rfl rfl rfl
   | ak => exact flat 0 rfl rfl rfl
   | @cell cw sz a b' f n1 n2 o b1 b2 hf ha hb =>
    have ho' : (wT x ds).av[f]? = some (.bl o) := by show x.av[f]? = _; rw [ho]; exact mF hf
    have hbig : f < 18446744073709551616 := Nat.lt_of_lt_of_le (Nat.lt_trans (List.getElem?_eq_some_iff.mp hf).1 hl) (by decide)
    have e2 : ev (aa ah (k + 1)) (.vg (.v 3) .tuple) [some (.ref M0.length),v,some (.ref (M0.length + (x.T.length + 5))),some (.tup [.str cw,.int sz,a,b',.int f])] ((wT x ds).h M0) = .ok (.bl true) ((wT x ds).h M0) := rfl
    have e3 := (kG (Φ := aa ah (k + 1)) (e := .idx (.v 3) (.k (.int 4))) (f := f) (σ := [some (.ref M0.length),v,some (.ref (M0.length + (x.T.length + 5))),some (.tup [.str cw,.int sz,a,b',.int f])]) (M0 := M0) (i := 0) (s := wT x ds) rfl rfl).trans (kg (k := k) (s := wT x ds) (b := o) ho' hbig)
    cases o with
    | false =>
     refine ⟨some (.tup [.str cw,.int sz,a,b',.int f]),ds,?_⟩
     rw [GG,aB,(ao e1).trans (oB e2 (j0 e3))]; rfl
    | true =>
     have e4 : ev (aa ah (k + 1)) (.bK .extend true (.v 2) (.cons (.sl true (.v 3) (.some (.k (.int 2))) (.some (.k (.int 4)))) .nil)) [some (.ref M0.length),v,some (.ref (M0.length + (x.T.length + 5))),some (.tup [.str cw,.int sz,a,b',.int f])] ((wT x ds).h M0) = .ok .ak ((wT x (ds ++ [a] ++ [b'])).h M0) := by
      have es : ev (aa ah (k + 1)) (.sl true (.v 3) (.some (.k (.int 2))) (.some (.k (.int 4)))) [some (.ref M0.length),v,some (.ref (M0.length + (x.T.length + 5))),some (.tup [.str cw,.int sz,a,b',.int f])] ((wT x ds).h M0) = .ok (.tup [a,b']) ((wT x ds).h M0) := rfl
      have hlen : ds.length + 2 <= line := by
       have h7 : lim < line := by decide
       rw [List.length_append] at hd
       simp only [List.length_singleton] at hd
       omega
      rw [gH,gF]
      simp only [List.getElem?_cons_succ,List.getElem?_cons_zero,R.af,mO,b5 gD,Option.isSome_some,Bool.and_self,if_true,au,es,bh,fU,mL,uF,vq,List.length_cons,List.length_nil,hlen,decide_true,sD]
      rw [List.append_assoc]; rfl
     have hw : C8 av (ds ++ [a] ++ [b']) (n + n1 + n2) (b2 && (b1 && b)) := .snoc (.snoc h ha) hb
     obtain ⟨c',es,e5⟩ := ih (n + n1 + n2) (by omega) _ _ N v (some (.tup [.str cw,.int sz,a,b',.int f])) hw (by omega) (by omega) (by simp only [List.length_append,List.length_singleton] at hd ⊢; omega)
     refine ⟨c',es,?_⟩
     have eq : (true && (b1 && b2) && b) = (b2 && (b1 && b)) := by cases b1 <;> cases b2 <;> cases b <;> rfl
     rw [GG,aB,(ao e1).trans ((gS e2 ((bZ e3).trans ((bZ e4).trans rfl))).trans rfl),eq]
     exact e5
theorem CC {v : D} {n : Nat} {q : Bool} (ho : x.av = av.map D.bl) (hl : av.length < lim) (h : Wa av v n q) (hn : n < 100000) : (aa ah (k + 2)).call 20 [.ref M0.length,v] (x.h M0) = if q then .ok .ak (x.h M0) else .exc 5 (x.h M0) := by
 have hw : C8 av [v] (0 + n) (q && true) := C8.snoc (ds := []) .nil h
 rw [Nat.zero_add,Bool.and_true] at hw
 have h1n : [v].length + n < lim := Nat.lt_of_le_of_lt (Nat.add_le_add_left (Nat.le_of_lt hn) 1) (by decide)
 obtain ⟨c',es,e⟩ := zm (k := k) (M0 := M0) (x := x) ho hl n [v] q 100000 (some v) none hw hn (Nat.lt_of_lt_of_le hn (by decide)) h1n
 have e1 : ev (aa ah (k + 1)) (.lst false (.cons (.v 1) .nil)) [some (.ref M0.length),some v,none,none] (x.h M0) = .ok (.ref (M0.length + (x.T.length + 5))) ((wT x [v]).h M0) := by
  show R.ok (D.ref (x.h M0).length) (x.h M0 ++ [.lst [v]]) = _
  rw [dY,app]
 have tk : ∀ ds : List D,((wT x ds).h M0).take (x.h M0).length = x.h M0 := fun ds => by
  have : (wT x ds).h M0 = x.h M0 ++ [.lst ds] := app.symm
  rw [this]; simp
 have e2 : ex (aa ah (k + 1)) (.while aE aB) [some (.ref M0.length),some v,some (.ref (M0.length + (x.T.length + 5))),none] ((wT x [v]).h M0) = .ok (if q then .nx [some (.ref M0.length),some v,some (.ref (M0.length + (x.T.length + 5))),c'] else .xc 5 [some (.ref M0.length),some v,some (.ref (M0.length + (x.T.length + 5))),c']) ((wT x es).h M0) := by
  rw [iC,cY]; exact e
 cases q with
 | true => exact fM Je rfl ((ao e1).trans ((bY e2).trans rfl)) (cJ rfl (tk es))
 | false =>
  have e3 : exs (aa ah (k + 1)) (.cons (.while aE aB) .nil) [some (.ref M0.length),some v,some (.ref (M0.length + (x.T.length + 5))),none] ((wT x [v]).h M0) = .ok (.xc 5 [some (.ref M0.length),some v,some (.ref (M0.length + (x.T.length + 5))),c']) ((wT x es).h M0) := m8.trans e2
  exact i8 Je rfl ((ao e1).trans e3) (if_pos (tk es))
theorem xj {v y : D} {p : List D} {n : Nat} (hp : x.pile = p ++ [v]) (ho : x.av = av.map D.bl) (hl : av.length < lim) (h : Wa av v n true) (hn : n < 100000) (ht : (aa ah (k + 2)).call 5 [v] (({ x with pile := p } : Mx).h M0) = .ok y (({ x with pile := p } : Mx).h M0)) (hy : nr (x.h M0).length y = true) : (aa ah (k + 3)).call 21 [.ref M0.length] (x.h M0) = .ok y (({ x with pile := p } : Mx).h M0) := by
 have e1 := dJ (Φ := aa ah (k + 2)) (σ := [some (.ref M0.length),none]) (M0 := M0) (i := 0) (s := x) rfl hp
 have e2 := (u_ (Φ := aa ah (k + 2)) (σ := [some (.ref M0.length), some v]) (m := 20) (nm := w "want_all_open") (es := .cons (.v 1) .nil) (s := { x with pile := p }) (M0 := M0) (i := 0) rfl (by decide +kernel)).trans (CC (k := k) (x := { x with pile := p }) ho hl h hn)
 exact aO Jd rfl ((ao e1).trans ((bZ e2).trans (aR ((aT rfl).trans ht)))) (ay hy (by rw [len,len]))
theorem uH {v : D} {p : List D} {n : Nat} (hp : x.pile = p ++ [v]) (ho : x.av = av.map D.bl) (hl : av.length < lim) (h : Wa av v n false) (hn : n < 100000) : (aa ah (k + 3)).call 21 [.ref M0.length] (x.h M0) = .exc 5 (({ x with pile := p } : Mx).h M0) := by
 have e1 := dJ (Φ := aa ah (k + 2)) (σ := [some (.ref M0.length),none]) (M0 := M0) (i := 0) (s := x) rfl hp
 have e2 := (u_ (Φ := aa ah (k + 2)) (σ := [some (.ref M0.length), some v]) (m := 20) (nm := w "want_all_open") (es := .cons (.v 1) .nil) (s := { x with pile := p }) (M0 := M0) (i := 0) rfl (by decide +kernel)).trans (CC (k := k) (x := { x with pile := p }) ho hl h hn)
 exact i8 Jd rfl ((ao e1).trans (j0 e2)) (fB (by rw [len,len]))
end
end bR
end
section
set_option autoImplicit false
namespace bR
open Fg PySem
noncomputable def Iq (rows : D) (most : Int) : Mx := ⟨rows,most,0,.int 0,[],[],[],[],[]⟩
section
variable {M0 : MH} {x : Mx} {k : Nat} {rows : D} {most : Int}
theorem u5 : (aa ah (k + 1)).call 9 [.ref M0.length,rows,.int most] (M0 ++ [.ins 1 []]) = .ok .ak ((Iq rows most).h M0) := by
 have g : ∀ (o : MO) (X : MH),(M0 ++ o :: X)[M0.length]? = some o := fun o X => off 0 _
 have st : ∀ (o o' : MO) (X : MH),(M0 ++ o :: X).set M0.length o' = M0 ++ o' :: X := fun o o' X => offs 0 _ _
 have ln : ∀ (X : MH) (n : Nat),X.length = n -> (M0 ++ X).length = M0.length + n := fun X n h => by rw [List.length_append,h]
 have nl : ∀ {σ : Sg} (X : MH) (n : Nat),X.length = n -> ev (aa ah k) (.lst false .nil) σ (M0 ++ X) = .ok (.ref (M0.length + n)) (M0 ++ (X ++ [.lst []])) := fun {σ} X n h => by
  rw [yi,bh,R.af]
  show R.ok (D.ref (M0 ++ X).length) ((M0 ++ X) ++ [.lst []]) = _
  rw [ln X n h,List.append_assoc]
 let σ : Sg := [some (.ref M0.length),some rows,some (.int most)]
 have q : ∀ {e : E} {d : D} {X : MH} {gs gs' : List (Str × D)} {Y : MH} {f : Str},ev (aa ah k) e σ (M0 ++ .ins 1 gs :: X) = .ok d (M0 ++ .ins 1 gs :: Y) -> gs.length < 1000 -> bE f d gs = gs' -> ex (aa ah k) (.bJ (.v 0) f e) σ (M0 ++ .ins 1 gs :: X) = .ok (.nx σ) (M0 ++ .ins 1 gs' :: Y) := fun {e d X gs gs' Y f} he hl hp => by
  rw [nk he rfl (g _ _) hl hp,st]
 have p2 : bE (w "most") (.int most) [(w "rows", rows)] = [(w "rows", rows), (w "most", .int most)] := by simp only [bE, wn (a := "rows") (b := "most"), if_false]
 have p3 : bE (w "begun") (.int 0) [(w "rows", rows), (w "most", .int most)] = [(w "rows", rows), (w "most", .int most), (w "begun", .int 0)] := by simp only [bE, wn (a := "rows") (b := "begun"), wn (a := "most") (b := "begun"), if_false]
 have p4 : bE (w "place") (.int 0) [(w "rows", rows), (w "most", .int most), (w "begun", .int 0)] = [(w "rows", rows), (w "most", .int most), (w "begun", .int 0), (w "place", .int 0)] := by simp only [bE, wn (a := "rows") (b := "place"), wn (a := "most") (b := "place"), wn (a := "begun") (b := "place"), if_false]
 have p5 : ∀ d, bE (w "pile") d [(w "rows", rows), (w "most", .int most), (w "begun", .int 0), (w "place", .int 0)] = [(w "rows", rows), (w "most", .int most), (w "begun", .int 0), (w "place", .int 0), (w "pile", d)] := fun d => by simp only [bE, wn (a := "rows") (b := "pile"), wn (a := "most") (b := "pile"), wn (a := "begun") (b := "pile"), wn (a := "place") (b := "pile"), if_false]
 have p6 : ∀ a d, bE (w "frames") d [(w "rows", rows), (w "most", .int most), (w "begun", .int 0), (w "place", .int 0), (w "pile", a)] = [(w "rows", rows), (w "most", .int most), (w "begun", .int 0), (w "place", .int 0), (w "pile", a), (w "frames", d)] := fun a d => by simp only [bE, wn (a := "rows") (b := "frames"), wn (a := "most") (b := "frames"), wn (a := "begun") (b := "frames"), wn (a := "place") (b := "frames"), wn (a := "pile") (b := "frames"), if_false]
 have p7 : ∀ a b d, bE (w "lies_open") d [(w "rows", rows), (w "most", .int most), (w "begun", .int 0), (w "place", .int 0), (w "pile", a), (w "frames", b)] = [(w "rows", rows), (w "most", .int most), (w "begun", .int 0), (w "place", .int 0), (w "pile", a), (w "frames", b), (w "lies_open", d)] := fun a b d => by simp only [bE, wn (a := "rows") (b := "lies_open"), wn (a := "most") (b := "lies_open"), wn (a := "begun") (b := "lies_open"), wn (a := "place") (b := "lies_open"), wn (a := "pile") (b := "lies_open"), wn (a := "frames") (b := "lies_open"), if_false]
 have p8 : ∀ a b c d, bE (w "log") d [(w "rows", rows), (w "most", .int most), (w "begun", .int 0), (w "place", .int 0), (w "pile", a), (w "frames", b), (w "lies_open", c)] = [(w "rows", rows), (w "most", .int most), (w "begun", .int 0), (w "place", .int 0), (w "pile", a), (w "frames", b), (w "lies_open", c), (w "log", d)] := fun a b c d => by simp only [bE, wn (a := "rows") (b := "log"), wn (a := "most") (b := "log"), wn (a := "begun") (b := "log"), wn (a := "place") (b := "log"), wn (a := "pile") (b := "log"), wn (a := "frames") (b := "log"), wn (a := "lies_open") (b := "log"), if_false]
 refine fM fn9 rfl ((bY (q (X := []) (Y := []) (f := w "rows") (e := .v 1) (gs := []) rfl (by simp) rfl)).trans ((bY (q (X := []) (Y := []) (e := .v 2) rfl (by simp) p2)).trans ((bY (q (X := []) (Y := []) (e := .k (.int 0)) rfl (by simp) p3)).trans ((bY (q (X := []) (Y := []) (e := .k (.int 0)) rfl (by simp) p4)).trans
  ((bY (q (nl [_] 1 rfl) (by simp) (p5 _))).trans ((bY (q (nl [_,_] 2 rfl) (by simp) (p6 _ _))).trans ((bY (q (nl [_,_,_] 3 rfl) (by simp) (p7 _ _ _))).trans ((bY (q (nl [_,_,_,_] 4 rfl) (by simp) (p8 _ _ _ _))).trans rfl)))))))) ?_
 refine mC (lZ (i := M0.length) (g _ _) (g0 (s := Iq rows most)) fun h => ?_)
 have h := congrArg (fun o => match o with | MO.ins _ fs => fs.length | _ => 0) h
 simp [Mx.o] at h
noncomputable def opens (n : Nat) : List D := (List.range n).map fun (i : Nat) => .tup [.str (w "open"), .int i]
noncomputable def nO (rows : D) (most : Int) (n : Nat) : Mx := { Iq rows most with av := (List.replicate n true).map D.bl,log := opens n }
theorem wW {n : Nat} : ({ nO rows most n with av := (nO rows most n).av ++ [.bl true], log := (nO rows most n).log ++ [.tup [.str (w "open"), .int (nO rows most n).av.length]] } : Mx) = nO rows most (n + 1) := by
 simp only [nO,opens,List.range_succ,List.map_append,List.map_cons,List.map_nil,List.replicate_succ',List.length_map,List.length_replicate]
theorem sN {ch : MH -> Bool} (hch : ∀ M,ch M = true) : ∀ (ds : List D) (n : Nat) (o : Option D) (acc : List D),acc = nats (List.range n) -> n + ds.length < lim ->
  bw (nQ (aa ah (k + 1)) .none) (ev (aa ah (k + 1)) (.cF 1 10 (w "open_field") (.v 0) .nil)) [1] ch ds [some (.ref M0.length), o] ((nO rows most n).h M0) acc = .ok (nats (List.range (n + ds.length))) ((nO rows most (n + ds.length)).h M0)
 | [],n,o,acc,ha,_ => by rw [bw,ha]; rfl
 | d :: ds,n,o,acc,ha,hl => by
  simp only [List.length_cons] at hl
  have hn : (nO rows most n).av.length = n := by simp [nO]
  have h7 : lim < line := by decide
  have e := xh (M0 := M0) (k := k) (s := nO rows most n) (by rw [hn]; omega) (by show (opens n).length < line; simp [opens]; omega)
  rw [wW,hn] at e
  have eu : ev (aa ah (k + 1)) (.cF 1 10 (w "open_field") (.v 0) .nil) (([some (.ref M0.length), o] : Sg).set 1 (some d)) ((nO rows most n).h M0) = .ok (.int n) ((nO rows most (n + 1)).h M0) := (u_ (nm := w "open_field") rfl (by decide +kernel)).trans e
  rw [qJ eu (hch _) (by rw [ha]; simp [nats]; omega)]
  have := sN hch ds (n + 1) (some d) (acc ++ [.int n]) (by rw [ha,List.range_succ]; simp [nats]) (by omega)
  rw [show n + 1 + ds.length = n + (d :: ds).length by simp; omega] at this
  exact this
end
end bR
end
section
set_option autoImplicit false
namespace bR
open Fg PySem
section
variable {M0 : MH} {x : Mx} {k : Nat} {rows : D} {most : Int}
noncomputable def wX (M0 : MH) (rows : D) (most : Int) (o : Nat) (kn : List D) (pl : D) : Mx := { nO rows most o with pl := pl, frs := [.ref (M0.length + (2 + 5))], T := [.lst kn, .lst (nats (List.range o)), .ins 0 [(w "known", .ref (M0.length + (0 + 5))), (w "fields", .ref (M0.length + (1 + 5))), (w "behind_call", .ak)]] }
noncomputable def ms1 (o : Nat) (kn : List D) (b : Nat) : Ms := ⟨[],[⟨kn,List.range o,.ak⟩],List.replicate o true,opens o,0,.int b⟩
theorem rep1 {o b : Nat} {kn : List D} (hv : ∀ v ∈ kn,Vl v) : Rep M0.length (ms1 o kn b) (wX M0 rows most o kn (.int b)) [(2,0,1)] where
 pile := rfl
 av := rfl
 log := rfl
 bg := rfl
 pl := rfl
 frs := rfl
 at_ := .cons ⟨rfl,rfl,rfl⟩ .nil
 nd := by decide
 lt := fun i hi => by
  have hi : i ∈ [2,0,1] := hi
  simp only [List.mem_cons,List.not_mem_nil,or_false] at hi
  show i < 3
  omega
 pv := fun v hv => by cases hv
 fv := fun f hf v h => by rw [List.mem_singleton.mp hf] at h; exact hv v h
noncomputable def rE : Ss := .cons (.set 5 (.cF 1 21 (w "answer") (.v 3) .nil)) (.cons (.for [6] (.rev (.v 4)) (.cons (.ex (.cF 1 11 (w "shut_field") (.v 3) (.cons (.v 6) .nil))) .nil)) (.cons (.ret (.tup (.cons (.v 5) (.cons (.fld (.v 3) (w "log")) .nil)))) .nil))
theorem j3 : lJ.body = .cons (.set 3 (.new 1 9 (.cons (.idx (.v 0) (.k (.int 0))) (.cons (.v 2) .nil)))) (.cons (.set 4 (.comp true [3] [1] (.cF 1 10 (w "open_field") (.v 0) .nil) (.gK (.idx (.v 0) (.k (.int 2)))) .none))
  (.cons (.ex (.bK .append true (.fld (.v 3) (w "frames")) (.cons (.new 0 8 (.cons (.blt .list false (.cons (.v 1) .nil)) (.cons (.blt .list false (.cons (.v 4) .nil)) (.cons (.k .ak) .nil)))) .nil)))
  (.cons (.bJ (.v 3) (w "place") (.idx (.v 0) (.k (.int 1)))) (.cons (.while eW bW) rE)))) := rfl
theorem mw {o b : Nat} {kn : List D} (ho : o < lim) {ss : Ss} : exs (aa ah (k + 2)) (.cons (.set 3 (.new 1 9 (.cons (.idx (.v 0) (.k (.int 0))) (.cons (.v 2) .nil)))) (.cons (.set 4 (.comp true [3] [1] (.cF 1 10 (w "open_field") (.v 0) .nil) (.gK (.idx (.v 0) (.k (.int 2)))) .none))
  (.cons (.ex (.bK .append true (.fld (.v 3) (w "frames")) (.cons (.new 0 8 (.cons (.blt .list false (.cons (.v 1) .nil)) (.cons (.blt .list false (.cons (.v 4) .nil)) (.cons (.k .ak) .nil)))) .nil)))
  (.cons (.bJ (.v 3) (w "place") (.idx (.v 0) (.k (.int 1)))) ss)))) [some (.tup [rows, .int b, .int o]), some (.lst kn), some (.int most), none, none, none, none] M0 =
  exs (aa ah (k + 2)) ss [some (.tup [rows,.int b,.int o]),some (.lst kn),some (.int most),some (.ref M0.length),some (.lst (nats (List.range o))),none,none] ((wX M0 rows most o kn (.int b)).h M0) := by
 have e1 : ev (aa ah (k + 2)) (.new 1 9 (.cons (.idx (.v 0) (.k (.int 0))) (.cons (.v 2) .nil))) [some (.tup [rows,.int b,.int o]),some (.lst kn),some (.int most),none,none,none,none] M0 = .ok (.ref M0.length) ((Iq rows most).h M0) :=
  e_new (ng (aK rfl rfl bB) rfl) u5
 have h0 : (Iq rows most).h M0 = (nO rows most 0).h M0 := rfl
 rw [h0] at e1
 have hl : (eS 0 (o : Int)).length = o := oE
 have e2 := BA (Φ := aa ah (k + 2)) (σ := [some (.tup [rows,.int b,.int o]),some (.lst kn),some (.int most),some (.ref M0.length),none,none,none]) (M := (nO rows most 0).h M0) (caps := [3]) (tg := [1]) (it := .gK (.idx (.v 0) (.k (.int 2)))) (yr (n := o) (aK rfl rfl JI) (Nat.le_trans (Nat.le_of_lt ho) (by decide)))
  (sN (k := k + 1) (M0 := M0) (ch := aP ((nO rows most 0).h M0) .ak) (fun _ => rfl) (eS 0 (o : Int)) 0 none [] rfl (by rw [hl]; omega))
 rw [hl,Nat.zero_add] at e2
 let x1 : Mx := nO rows most o
 have hT : x1.T = [] := rfl
 let fo : MO := .ins 0 [(w "known", .ref (M0.length + (0 + 5))), (w "fields", .ref (M0.length + (1 + 5))), (w "behind_call", .ak)]
 let x2 : Mx := { x1 with T := [.lst kn,.lst (nats (List.range o)),fo] }
 have e3 : ev (aa ah (k + 2)) (.new 0 8 (.cons (.blt .list false (.cons (.v 1) .nil)) (.cons (.blt .list false (.cons (.v 4) .nil)) (.cons (.k .ak) .nil)))) [some (.tup [rows,.int b,.int o]),some (.lst kn),some (.int most),some (.ref M0.length),some (.lst (nats (List.range o))),none,none] (x1.h M0) = .ok (.ref (M0.length + (2 + 5))) (x2.h M0) := by
  have ea : cA (aa ah (k + 2)) (.cons (.blt .list false (.cons (.v 1) .nil)) (.cons (.blt .list false (.cons (.v 4) .nil)) (.cons (.k .ak) .nil))) [some (.tup [rows,.int b,.int o]),some (.lst kn),some (.int most),some (.ref M0.length),some (.lst (nats (List.range o))),none,none] (x1.h M0) = .ok [.ref (M0.length + (0 + 5)),.ref (M0.length + (1 + 5)),.ak] (({ x1 with T := [.lst kn,.lst (nats (List.range o))] } : Mx).h M0) := by
   have q1 : ev (aa ah (k + 2)) (.blt .list false (.cons (.v 1) .nil)) [some (.tup [rows,.int b,.int o]),some (.lst kn),some (.int most),some (.ref M0.length),some (.lst (nats (List.range o))),none,none] (x1.h M0) = .ok (.ref (M0.length + (0 + 5))) (({ x1 with T := [.lst kn] } : Mx).h M0) := by
    show R.ok (D.ref (x1.h M0).length) (x1.h M0 ++ [.lst kn]) = _
    rw [dY,app]; rfl
   have q2 : ev (aa ah (k + 2)) (.blt .list false (.cons (.v 4) .nil)) [some (.tup [rows,.int b,.int o]),some (.lst kn),some (.int most),some (.ref M0.length),some (.lst (nats (List.range o))),none,none] (({ x1 with T := [.lst kn] } : Mx).h M0) = .ok (.ref (M0.length + (1 + 5))) (({ x1 with T := [.lst kn,.lst (nats (List.range o))] } : Mx).h M0) := by
    show R.ok (D.ref (({ x1 with T := [.lst kn] } : Mx).h M0).length) (({ x1 with T := [.lst kn] } : Mx).h M0 ++ [.lst (nats (List.range o))]) = _
    rw [dY,app]; rfl
   rw [au,q1,R.af,au,q2]; rfl
  have en := e_new (c := 0) (g := 8) (M2 := x2.h M0) ea (by
   rw [app,dY]
   refine (tP (k := k) (gT (t := 2) (s := ({ x1 with T := [.lst kn,.lst (nats (List.range o))] ++ [.ins 0 []] } : Mx)))).trans ?_
   exact congrArg (R.ok _) sT)
  rw [dY] at en
  exact en
 have e4 := pH (cN (Φ := aa ah (k + 2)) (σ := [some (.tup [rows,.int b,.int o]),some (.lst kn),some (.int most),some (.ref M0.length),some (.lst (nats (List.range o))),none,none]) (M0 := M0) (s := x1) (i := 3) rfl) g2 e3 (g2 (s := x2)) (show ([] : List D).length < line by decide)
 rw [s2] at e4
 have e5 := iE (Φ := aa ah (k + 2)) (σ := [some (.tup [rows,.int b,.int o]),some (.lst kn),some (.int most),some (.ref M0.length),some (.lst (nats (List.range o))),none,none]) (e := .idx (.v 0) (.k (.int 1))) (d := .int b) (s := { x2 with frs := [] ++ [.ref (M0.length + (2 + 5))] }) (s' := { x2 with frs := [] ++ [.ref (M0.length + (2 + 5))] }) (M0 := M0) (i := 3) rfl (aK rfl rfl gq)
 exact (ao e1).trans ((ao e2).trans ((bZ e4).trans (bY e5)))
noncomputable def Cm (o : Nat) : List D := (List.range o).reverse.map fun (i : Nat) => .tup [.str (w "shut"), .int i]
theorem AW {a b c e f : Option D} : ∀ (ns : List Nat) (x : Mx) (g : Option D),(∀ n ∈ ns,n < x.av.length) -> x.log.length + ns.length < line ->
  ∃ (x' : Mx) (g' : Option D), b6 (exs (aa ah (k + 2)) (.cons (.ex (.cF 1 11 (w "shut_field") (.v 3) (.cons (.v 6) .nil))) .nil)) [6] (aP (x.h M0) .ak) (nats ns) [a, b, c, some (.ref M0.length), e, f, g] (x.h M0) = .ok (.nx [a, b, c, some (.ref M0.length), e, f, g']) (x'.h M0) /\ x'.log = x.log ++ ns.map (fun (i : Nat) => .tup [.str (w "shut"), .int i]) := by
 intro ns
 induction ns with
 | nil => intro x g _ _; exact ⟨x,g,rfl,by simp⟩
 | cons n ns ih =>
  intro x g h hl
  have e1 := xg (M0 := M0) (k := k + 1) (s := x) (f := n) (h n List.mem_cons_self) (by simp only [List.length_cons] at hl; omega)
  have e2 := (u_ (Φ := aa ah (k + 2)) (σ := [a, b, c, some (.ref M0.length), e, f, some (.int n)]) (m := 11) (nm := w "shut_field") (es := .cons (.v 6) .nil) (s := x) (M0 := M0) (i := 3) rfl (by decide +kernel)).trans e1
  obtain ⟨x', g', e3, e4⟩ := ih { x with av := x.av.set n (.bl false), log := x.log ++ [.tup [.str (w "shut"), .int n]] } (some (.int n)) (fun m hm => by show m < (x.av.set n _).length; rw [List.length_set]; exact h m (List.mem_cons_of_mem _ hm)) (by show (x.log ++ [_]).length + ns.length < line; rw [List.length_append]; simp only [List.length_cons, List.length_nil] at hl ⊢; omega)
  refine ⟨x',g',?_,?_⟩
  ·have eb : exs (aa ah (k + 2)) (.cons (.ex (.cF 1 11 (w "shut_field") (.v 3) (.cons (.v 6) .nil))) .nil) [a, b, c, some (.ref M0.length), e, f, some (.int n)] (x.h M0) = .ok (.nx [a, b, c, some (.ref M0.length), e, f, some (.int n)]) (({ x with av := x.av.set n (.bl false), log := x.log ++ [.tup [.str (w "shut"), .int n]] } : Mx).h M0) := (bZ e2).trans rfl
   rw [nats,List.map_cons,b6]
   show (exs (aa ah (k + 2)) _ [a,b,c,some (.ref M0.length),e,f,some (.int n)] (x.h M0)).bind _ = _
   rw [eb]
   exact e3
  ·rw [e4]; show (x.log ++ [_]) ++ _ = _; rw [List.append_assoc]; rfl
theorem qm {rs : List Rw} {o b N n : Nat} {kn p : List D} {s' : Ms} {v y : D} (ho : o < 1000) (hv : ∀ v ∈ kn,Vl v) (hg : go rs most N (ms1 o kn b) = .ok s') (hN : N <= 100000) (hp : s'.pile = p ++ [v]) (hw : Wa s'.av v n true) (hn : n < 100000) (hop : s'.av.length < lim) (hoo : o <= s'.av.length) (IQ : s'.log.length < lim)
  (ht : ∀ M,(aa ah (k + 5)).call 5 [v] M = .ok y M) (hy : ∀ m,nr m y = true) :
  ∃ x' : Mx,(aa ah (k + 7)).call 7 [.tup [.lst (rs.map Rw.d),.int b,.int o],.lst kn,.int most] M0 = .ok (.tup [y,.ref (M0.length + 4)]) (x'.h M0) /\ x'.log = s'.log ++ Cm o := by
 have lp := loop (M0 := M0) (rs := rs) (k := k + 1) (σ := [some (.tup [.lst (rs.map Rw.d),.int b,.int o]),some (.lst kn),some (.int most),some (.ref M0.length),some (.lst (nats (List.range o))),none,none]) rfl N 100000 (ms1 o kn b) (wX M0 (.lst (rs.map Rw.d)) most o kn (.int b)) [(2,0,1)] hN (rep1 hv) rfl
 have hm : (wX M0 (.lst (rs.map Rw.d)) most o kn (.int b)).most = most := rfl
 rw [hm,hg] at lp
 obtain ⟨x1,qs,e1,R1,_⟩ := lp
 have e2 := xj (M0 := M0) (k := k + 3) (x := x1) (av := s'.av) (R1.pile.trans hp) R1.av hop hw hn (ht _) (hy _)
 have e3 := (u_ (Φ := aa ah (k + 6)) (σ := [some (.tup [.lst (rs.map Rw.d), .int b, .int o]), some (.lst kn), some (.int most), some (.ref M0.length), some (.lst (nats (List.range o))), none, none]) (m := 21) (nm := w "answer") (es := .nil) (s := x1) (M0 := M0) (i := 3) rfl (by decide +kernel)).trans e2
 let x2 : Mx := { x1 with pile := p }
 have h7 : lim + 1000 < line := by decide
 obtain ⟨x3,g',e4,e5⟩ := AW (M0 := M0) (k := k + 4) (a := some (.tup [.lst (rs.map Rw.d),.int b,.int o])) (b := some (.lst kn)) (c := some (.int most)) (e := some (.lst (nats (List.range o)))) (f := some y) (List.range o).reverse x2 none (fun n hn => by
  show n < x1.av.length
  rw [R1.av,List.length_map]
  have := List.mem_range.mp (List.mem_reverse.mp hn)
  omega) (by show x1.log.length + _ < line; rw [R1.log,List.length_reverse,List.length_range]; omega)
 have e6 : ex (aa ah (k + 6)) (.for [6] (.rev (.v 4)) (.cons (.ex (.cF 1 11 (w "shut_field") (.v 3) (.cons (.v 6) .nil))) .nil)) [some (.tup [.lst (rs.map Rw.d), .int b, .int o]), some (.lst kn), some (.int most), some (.ref M0.length), some (.lst (nats (List.range o))), some y, none] (x2.h M0) = .ok (.nx [some (.tup [.lst (rs.map Rw.d), .int b, .int o]), some (.lst kn), some (.int most), some (.ref M0.length), some (.lst (nats (List.range o))), some y, g']) (x3.h M0) := by
  have er : bP (aa ah (k + 6)) (.rev (.v 4)) [some (.tup [.lst (rs.map Rw.d),.int b,.int o]),some (.lst kn),some (.int most),some (.ref M0.length),some (.lst (nats (List.range o))),some y,none] (x2.h M0) = .ok (.ak,nats (List.range o).reverse,false) (x2.h M0) := by
   have : (nats (List.range o)).reverse = nats (List.range o).reverse := by simp only [nats,List.map_reverse]
   rw [<- this]; rfl
  rw [qY,er]
  show (b6 _ _ _ _ _ _).fin (c6 false .ak) = _
  rw [lI]
  exact e4
 have e7 : ev (aa ah (k + 6)) (.tup (.cons (.v 5) (.cons (.fld (.v 3) (w "log")) .nil))) [some (.tup [.lst (rs.map Rw.d), .int b, .int o]), some (.lst kn), some (.int most), some (.ref M0.length), some (.lst (nats (List.range o))), some y, g'] (x3.h M0) = .ok (.tup [y, .ref (M0.length + 4)]) (x3.h M0) := by
  rw [gG,ng rfl (CN (i := 3) rfl)]; rfl
 have ew : ex (aa ah (k + 6)) (.while eW bW) [some (.tup [.lst (rs.map Rw.d),.int b,.int o]),some (.lst kn),some (.int most),some (.ref M0.length),some (.lst (nats (List.range o))),none,none] ((wX M0 (.lst (rs.map Rw.d)) most o kn (.int b)).h M0) = .ok (.nx [some (.tup [.lst (rs.map Rw.d),.int b,.int o]),some (.lst kn),some (.int most),some (.ref M0.length),some (.lst (nats (List.range o))),none,none]) (x1.h M0) := by
  rw [iC,cY]; exact e1
 refine ⟨x3,?_,?_⟩
 ·have eb : exs (aa ah (k + 6)) lJ.body [some (.tup [.lst (rs.map Rw.d),.int b,.int o]),some (.lst kn),some (.int most),none,none,none,none] M0 = .ok (.rt (.tup [y,.ref (M0.length + 4)])) (x3.h M0) := by
   rw [j3,mw (k := k + 4) (Nat.lt_of_lt_of_le ho (by decide))]
   exact (bY ew).trans ((ao e3).trans ((bY e6).trans (aR e7)))
  have tk : (x3.h M0).take M0.length = M0 := by simp [Mx.h]
  have nn : ¬ nr M0.length (.tup [y,.ref (M0.length + 4)]) = true := by simp [nr,fc]
  exact aO fn7 rfl eb ((if_pos ⟨rfl,tk⟩).trans (if_neg nn))
 ·rw [e5]
  show x1.log ++ _ = _
  rw [R1.log]; rfl
theorem vW {rs : List Rw} {o b N c : Nat} {kn : List D} (ho : o < 1000) (hv : ∀ v ∈ kn,Vl v) (hg : go rs most N (ms1 o kn b) = .exc c) (hN : N <= 100000) : (aa ah (k + 7)).call 7 [.tup [.lst (rs.map Rw.d),.int b,.int o],.lst kn,.int most] M0 = .exc c M0 := by
 have lp := loop (M0 := M0) (rs := rs) (k := k + 1) (σ := [some (.tup [.lst (rs.map Rw.d),.int b,.int o]),some (.lst kn),some (.int most),some (.ref M0.length),some (.lst (nats (List.range o))),none,none]) rfl N 100000 (ms1 o kn b) (wX M0 (.lst (rs.map Rw.d)) most o kn (.int b)) [(2,0,1)] hN (rep1 hv) rfl
 have hm : (wX M0 (.lst (rs.map Rw.d)) most o kn (.int b)).most = most := rfl
 rw [hm,hg] at lp
 obtain ⟨x1,e1⟩ := lp
 have ew : ∀ ss,exs (aa ah (k + 6)) (.cons (.while eW bW) ss) [some (.tup [.lst (rs.map Rw.d),.int b,.int o]),some (.lst kn),some (.int most),some (.ref M0.length),some (.lst (nats (List.range o))),none,none] ((wX M0 (.lst (rs.map Rw.d)) most o kn (.int b)).h M0) = .ok (.xc c [some (.tup [.lst (rs.map Rw.d),.int b,.int o]),some (.lst kn),some (.int most),some (.ref M0.length),some (.lst (nats (List.range o))),none,none]) (x1.h M0) := fun ss => by
  rw [bO,iC,cY,show ah.turns = 100000 from rfl,e1]; rfl
 have tk : (x1.h M0).take M0.length = M0 := by simp [Mx.h]
 have eb : exs (aa ah (k + 6)) lJ.body [some (.tup [.lst (rs.map Rw.d),.int b,.int o]),some (.lst kn),some (.int most),none,none,none,none] M0 = .ok (.xc c [some (.tup [.lst (rs.map Rw.d),.int b,.int o]),some (.lst kn),some (.int most),some (.ref M0.length),some (.lst (nats (List.range o))),none,none]) (x1.h M0) := by
  rw [j3,mw (k := k + 4) (Nat.lt_of_lt_of_le ho (by decide))]
  exact ew _
 exact i8 fn7 rfl eb (if_pos tk)
theorem vX {rs : List Rw} {o b N n : Nat} {kn p : List D} {s' : Ms} {v : D} (ho : o < 1000) (hv : ∀ v ∈ kn,Vl v) (hg : go rs most N (ms1 o kn b) = .ok s') (hN : N <= 100000) (hp : s'.pile = p ++ [v]) (hw : Wa s'.av v n false) (hn : n < 100000) (hop : s'.av.length < lim) :
  (aa ah (k + 7)).call 7 [.tup [.lst (rs.map Rw.d),.int b,.int o],.lst kn,.int most] M0 = .exc 5 M0 := by
 have lp := loop (M0 := M0) (rs := rs) (k := k + 1) (σ := [some (.tup [.lst (rs.map Rw.d),.int b,.int o]),some (.lst kn),some (.int most),some (.ref M0.length),some (.lst (nats (List.range o))),none,none]) rfl N 100000 (ms1 o kn b) (wX M0 (.lst (rs.map Rw.d)) most o kn (.int b)) [(2,0,1)] hN (rep1 hv) rfl
 have hm : (wX M0 (.lst (rs.map Rw.d)) most o kn (.int b)).most = most := rfl
 rw [hm,hg] at lp
 obtain ⟨x1,qs,e1,R1,_⟩ := lp
 have e2 := uH (M0 := M0) (k := k + 3) (x := x1) (av := s'.av) (R1.pile.trans hp) R1.av hop hw hn
 have e3 := (u_ (Φ := aa ah (k + 6)) (σ := [some (.tup [.lst (rs.map Rw.d), .int b, .int o]), some (.lst kn), some (.int most), some (.ref M0.length), some (.lst (nats (List.range o))), none, none]) (m := 21) (nm := w "answer") (es := .nil) (s := x1) (M0 := M0) (i := 3) rfl (by decide +kernel)).trans e2
 have ew : ex (aa ah (k + 6)) (.while eW bW) [some (.tup [.lst (rs.map Rw.d),.int b,.int o]),some (.lst kn),some (.int most),some (.ref M0.length),some (.lst (nats (List.range o))),none,none] ((wX M0 (.lst (rs.map Rw.d)) most o kn (.int b)).h M0) = .ok (.nx [some (.tup [.lst (rs.map Rw.d),.int b,.int o]),some (.lst kn),some (.int most),some (.ref M0.length),some (.lst (nats (List.range o))),none,none]) (x1.h M0) := by
  rw [iC,cY]; exact e1
 have tk : (({ x1 with pile := p } : Mx).h M0).take M0.length = M0 := by simp [Mx.h]
 have eb : exs (aa ah (k + 6)) lJ.body [some (.tup [.lst (rs.map Rw.d),.int b,.int o]),some (.lst kn),some (.int most),none,none,none,none] M0 = .ok (.xc 5 [some (.tup [.lst (rs.map Rw.d),.int b,.int o]),some (.lst kn),some (.int most),some (.ref M0.length),some (.lst (nats (List.range o))),none,none]) (({ x1 with pile := p } : Mx).h M0) := by
  rw [j3,mw (k := k + 4) (Nat.lt_of_lt_of_le ho (by decide))]
  exact (bY ew).trans (qh e3)
 exact i8 fn7 rfl eb (if_pos tk)
end
end bR
end
section
set_option autoImplicit false
namespace bR
open Fg PySem
noncomputable def bT : Nat -> List Rw
 | 0 => []
 | n + 1 => [.av,.gg] ++ bT n
noncomputable def fL (pr : Bool) (v : Int) (i : Nat) : List Rw := if pr then [.num 4,.num v,.lay false i] else [.num v,.nil,.lay true i]
noncomputable def rp (m : Bool) (r : Rw) : List Rw := if m then [r] else []
noncomputable def bC (u : Nat) (pr : Bool) : List Rw := match u with
 | 0 => [.look (!pr) false]
 | 1 => if pr then [.look false true] else [.look true true,.none]
 | 2 => [.none]
 | 3 => [.keep,.num 7]
 | _ => []
structure Cb where
 a : Nat
 d : Nat
 u : Nat
 pr : Bool
 sh : Bool
 m : Bool
noncomputable def gU (c : Cb) (v : Int) : List Rw := [.av] ++ bT c.a ++ fL c.pr v 0 ++ bT c.d ++ (if c.sh then [.gg] ++ rp c.m .av ++ bC c.u c.pr ++ rp c.m .gg ++ [.back] else bC c.u c.pr ++ [.gg,.back])
noncomputable def FA (x : Str) (d : D) : Bool := match d with
 | .tup ds => (match ds with | e :: _ => (match e with | .str y => decide (y = x) | _ => false) | [] => false)
 | _ => false
noncomputable def xO (d : D) : Bool := match d with
 | .tup ds => (match ds with | e :: r => (match e with | .str _ => (match r with | f :: q => q.isEmpty && fInt f | [] => false) | _ => false) | [] => false)
 | _ => false
structure Sy where
 c : Nat
 pile : List D
 o0 : Option Bool
 lo : Bool
 ll : Bool
 rows : Bool
 looks : Nat
 lays : List D
noncomputable def JZ : Rz -> Sy
 | .ok s => ⟨0, s.pile, s.av[0]?, decide (s.av.length < 100), decide (s.log.length < 1000), s.log.all xO, (s.log.filter (FA (w "look"))).length, s.log.filter (FA (w "lay"))⟩
 | .exc c => ⟨c,[],none,true,true,true,0,[]⟩
 | .bad => ⟨99,[],none,true,true,true,0,[]⟩
noncomputable def lay0 : D := .tup [.str (w "lay"), .int (0 : Nat)]
noncomputable def yC (pr : Bool) (v : Int) (i : Nat) : D := if pr then .tup [.str (layW false),.int 3,.int 4,.int v,.int i] else .tup [.str (layW true),.int 3,.int v,.ak,.int i]
noncomputable def iN (u : Nat) (pr : Bool) (v : Int) : Int := match u with
 | 0 => if pr then 4 else v
 | 1 => if pr then v else 1
 | 2 => 0
 | _ => 7
noncomputable def vL (c : Cb) (v : Int) : Sy := if c.u = 4 then ⟨0,[yC c.pr v 0],some false,true,true,true,0,[lay0]⟩ else
 if c.sh /\ c.u < 2 then ⟨5,[],none,true,true,true,0,[]⟩ else ⟨0,[.int (iN c.u c.pr v)],some false,true,true,true,if c.u < 2 then 1 else 0,[lay0]⟩
noncomputable def ny : List Cb := (List.range 4).flatMap fun a => (List.range 4).flatMap fun d => (List.range 5).flatMap fun u => [true,false].flatMap fun pr => [true,false].flatMap fun m => ⟨a,d,u,pr,true,m⟩ :: (if u = 4 then [] else [⟨a,d,u,pr,false,m⟩])
theorem runs (v : Int) : ny.map (fun c => JZ (go (gU c v) 200 60 (ms1 0 [] 0))) = ny.map (fun c => vL c v) := by kernel_rfl
end bR
end
section
set_option autoImplicit false
namespace bR
open Fg PySem
structure Pb where
 x : Nat
 m : Bool
 a : Nat
 s : Bool
noncomputable def gv (x : Nat) : List Rw := match x with
 | 0 => [.num 1,.num 2,.lay false 0,.look false false]
 | 1 => [.num 1,.nil,.lay true 0,.none]
 | 2 => [.num 3]
 | _ => [.nil,.none]
noncomputable def aM (p : Pb) (to : Int) : List Rw := [.av,.call to 0 [0]] ++ rp p.m .av ++ [.keep] ++ gv p.x ++ rp p.m .gg ++ [.back]
noncomputable def uq (p : Pb) : List Rw := bT p.a ++ (if p.s then [.num 1,.num 2,.lay false 0,.gg,.back] else [.gg,.num 9,.back])
noncomputable def j4 (p : Pb) : List Rw := aM p (aM p 0).length ++ uq p
noncomputable def zL (p : Pb) : Nat × List D := if p.x < 2 then (5,[]) else (0,[.int (if p.x = 2 then 3 else 1)])
noncomputable def uh (z : Rz) : Nat × List D := match z with
 | .ok s => (if s.av.length < 100 /\ s.log.length < 1000 /\ (s.av[0]?).isSome then 0 else 98,s.pile)
 | .exc c => (c,[])
 | .bad => (99,[])
noncomputable def yx : List Pb := (List.range 4).flatMap fun x => [true,false].flatMap fun m => (List.range 4).flatMap fun a => [true,false].flatMap fun s => [⟨x,m,a,s⟩]
theorem Hz : yx.map (fun p => uh (go (j4 p) 200 60 (ms1 0 [] 0))) = yx.map zL := by kernel_rfl
noncomputable def jb (pr : Bool) (v : Int) : List Rw := [.av] ++ fL pr v 1 ++ [.num 5,.lay false 0,.gg]
noncomputable def outD (pr : Bool) (v : Int) : D := .tup [.str (layW false),.int 5,yC pr v 1,.int 5,.int (0 : Nat)]
noncomputable def opW (z : Rz) : List Bool := match z with | .ok s => s.av | _ => []
theorem Hy (v : Int) : [true,false].map (fun pr => (uh (go (jb pr v ++ [.back]) 200 60 (ms1 1 [] 0)),opW (go (jb pr v ++ [.back]) 200 60 (ms1 1 [] 0)))) = [true,false].map (fun pr => ((0,[outD pr v]),[true,false])) := by kernel_rfl
theorem DG (v : Int) : [true,false].map (fun pr => uh (go (jb pr v ++ [.look false true,.back]) 200 60 (ms1 1 [] 0))) = [true,false].map (fun pr => (0,[.int 5])) := by kernel_rfl
noncomputable def bu : Nat -> List Rw
 | 0 => []
 | k + 1 => bu k ++ [.keep,.loc k,.loc k,.lay false 0]
noncomputable def jE (n : Nat) (to : Int) : List Rw := [.av,.nil] ++ bu n ++ [.keep,.call to 0 [1],.keep,.loc n,.loc n,.lay false 1,.back]
noncomputable def vZ (n : Nat) : List Rw := jE n (jE n 0).length ++ [.gg,.num 9,.back]
theorem HA : [0,1].map (fun q => uh (go (vZ (7 + q)) 200 90 (ms1 1 [] 0))) = [0,1].map (fun q => (if q = 0 then 5 else 1,[])) := by kernel_rfl
end bR
end
section
set_option autoImplicit false
namespace bR
open Fg PySem
theorem fn22 : ah.fn 22 = some jk := rfl
theorem Jc : ah.fn 23 = some lM := rfl
theorem Jb : ah.fn 24 = some kD := rfl
theorem fn25 : ah.fn 25 = some iA := rfl
theorem Ja : ah.fn 26 = some lK := rfl
theorem IZ : ah.fn 27 = some eG := rfl
theorem FN : ah.fn 28 = some gj := rfl
theorem fn29 : ah.fn 29 = some jl := rfl
theorem IY : ah.fn 30 = some dF := rfl
theorem IX : ah.fn 31 = some jm := rfl
theorem IW : ah.fn 32 = some ir := rfl
theorem fn33 : ah.fn 33 = some ig := rfl
theorem fn34 : ah.fn 34 = some jn := rfl
theorem fn35 : ah.fn 35 = some CO := rfl
theorem vK {z : Rz} {p l : List D} {o : Option Bool} {k : Nat} (h : JZ z = ⟨0, p, o, true, true, true, k, l⟩) (hp : p ≠ []) : ∃ s, z = .ok s /\ s.pile = p /\ s.av[0]? = o /\ s.av.length < 100 /\ s.log.length < 1000 /\ s.log.all xO = true /\ (s.log.filter (FA (w "look"))).length = k /\ s.log.filter (FA (w "lay")) = l := by
 cases z with
 | ok s =>
  injection h with h1 h2 h3 h4 h5 h6 h7 h8
  exact ⟨s,rfl,h2,h3,of_decide_eq_true h4,of_decide_eq_true h5,h6,h7,h8⟩
 | exc c => injection h with h1 h2; exact absurd h2.symm hp
 | bad => injection h with h1 h2; cases h1
theorem Hq {z : Rz} {c : Nat} (h : JZ z = ⟨c,[],none,true,true,true,0,[]⟩) (hc : c ≠ 99) (h0 : c ≠ 0) : z = .exc c := by
 cases z with
 | ok s => injection h with h1; exact absurd h1.symm h0
 | exc d => injection h with h1; rw [h1]
 | bad => injection h with h1; exact absurd h1.symm hc
theorem qc {z : Rz} {p : List D} (h : uh z = (0,p)) (hp : p ≠ []) : ∃ s,z = .ok s /\ s.pile = p /\ s.av.length < 100 /\ s.log.length < 1000 /\ (s.av[0]?).isSome = true := by
 cases z with
 | ok s =>
  simp only [uh,Prod.mk.injEq] at h
  obtain ⟨h1,h2⟩ := h
  split at h1
  ·rename_i hq; exact ⟨s,rfl,h2,hq.1,hq.2.1,hq.2.2⟩
  ·cases h1
 | exc c => simp only [uh,Prod.mk.injEq] at h; exact absurd h.2.symm hp
 | bad => simp only [uh,Prod.mk.injEq] at h; cases h.1
theorem Cj {z : Rz} {c : Nat} (h : uh z = (c,[])) (hc : c ≠ 99) (h0 : c ≠ 0) (h8 : c ≠ 98) : z = .exc c := by
 cases z with
 | ok s =>
  simp only [uh,Prod.mk.injEq] at h
  obtain ⟨h1,h2⟩ := h
  split at h1
  ·exact absurd h1.symm h0
  ·exact absurd h1.symm h8
 | exc d => simp only [uh,Prod.mk.injEq] at h; rw [h.1]
 | bad => simp only [uh,Prod.mk.injEq] at h; exact absurd h.1.symm hc
section
variable {M M1 : MH} {k : Nat} {code d y : D}
theorem yF {Φ : aQ} {σ : Sg} (h : σ[0]? = some (some code)) : ev Φ (.gp 7 (.cons (.v 0) (.cons (.lst true .nil) .nil)) 200) σ M = Φ.call 7 [code,.lst [],.int 200] M := by
 rw [yk,ng (e_v h) rfl]; rfl
theorem qp {n : Nat} (h : (aa ah k).call 7 [code, .lst [], .int 200] M = .ok (.tup [y, .ref n]) M1) (ht : M1.take M.length = M) (hn : M.length <= n) : (aa ah (k + 1)).call 23 [code] M = .ok (.tup [.str (w ""), .tup [y, .ref n]]) M1 := by
 have et : ex (aa ah k) (.try (.cons (.set 2 (.gp 7 (.cons (.v 0) (.cons (.lst true .nil) .nil)) 200)) .nil) (.cons [5] (.cons (.set 1 (.k (.str (w "gone")))) .nil) (.cons [1] (.cons (.set 1 (.k (.str (w "great")))) .nil) (.cons [0] (.cons (.set 1 (.k (.str (w "other")))) .nil) .nil))) .nil) [some code, some (.str (w "")), some .ak] M = .ok (.nx [some code, some (.str (w "")), some (.tup [y, .ref n])]) M1 := by
  rw [yd,ao ((yF rfl).trans h)]; rfl
 have nn : ¬ nr M.length (.tup [.str (w ""), .tup [y, .ref n]]) = true := by
  simp only [nr,fc,Bool.and_true,Bool.and_eq_true,decide_eq_true_eq,not_and,Nat.not_lt]
  exact fun _ _ => hn
 exact aO Jc rfl ((ao rfl).trans ((ao rfl).trans ((bY et).trans (aR rfl)))) ((if_pos ⟨rfl,ht⟩).trans (if_neg nn))
noncomputable def rW (c : Nat) : Str := if c = 5 then w "gone" else w "great"
theorem sA {c : Nat} (hc : c = 5 \/ c = 1) (h : (aa ah k).call 7 [code,.lst [],.int 200] M = .exc c M) : (aa ah (k + 1)).call 23 [code] M = .ok (.tup [.str (rW c),.ak]) M := by
 have sub : (aa ah k).sub = ah.sub := u0
 have et : ex (aa ah k) (.try (.cons (.set 2 (.gp 7 (.cons (.v 0) (.cons (.lst true .nil) .nil)) 200)) .nil) (.cons [5] (.cons (.set 1 (.k (.str (w "gone")))) .nil) (.cons [1] (.cons (.set 1 (.k (.str (w "great")))) .nil) (.cons [0] (.cons (.set 1 (.k (.str (w "other")))) .nil) .nil))) .nil) [some code, some (.str (w "")), some .ak] M = .ok (.nx [some code, some (.str (rW c)), some .ak]) M := by
  rw [yd,qh ((yF rfl).trans h),R.af]
  show zc (aa ah k) _ c _ M = _
  rw [pA,pA,sub]
  rcases hc with rfl | rfl <;> rfl
 exact aO Jc rfl ((ao rfl).trans ((ao rfl).trans ((bY et).trans (aR rfl)))) (ay (by simp [nr,fc]) rfl)
end
section
variable {M : MH} {k : Nat} {Φ : aQ} {σ : Sg}
noncomputable def dR (rs : List Rw) : D := .lst (rs.map Rw.d)
theorem bQ {e e' : E} {xs ys : List Rw} {fz : Bool} (h : ev Φ e σ M = .ok (dR xs) M) (h' : ev Φ e' σ M = .ok (dR ys) M) (hl : xs.length + ys.length <= 1000) : ev Φ (.op .add true e e') σ M = .ok (dR (xs ++ ys)) M := by
 rw [jo,h,R.af,h',R.af]
 show (if decide ((xs.map Rw.d).length + (ys.map Rw.d).length <= line) then cK true (xs.map Rw.d ++ ys.map Rw.d) M else .bad) = _
 rw [if_pos (decide_eq_true (by rw [List.length_map,List.length_map]; exact Nat.le_trans hl (by decide))),<- List.map_append]; rfl
theorem tu {e e' : E} {xs : List Rw} {m : Bool} (h : ev Φ e σ M = .ok (.lst [Rw.d (xs.headD .nil)]) M) (h' : ev Φ e' σ M = .ok (.int (if m then 1 else 0)) M) : ev Φ (.op .mul true e e') σ M = .ok (dR (rp m (xs.headD .nil))) M := by
 rw [jo,h,R.af,h',R.af]
 cases m <;> rfl
theorem kJ {n : Int} {a : Nat} (h : n % 4 = a) (ha : a < 4) : (aa ah (k + 1)).call 25 [.int n] M = .ok (dR (bT a)) M := by
 have e1 : ev (aa ah k) (.op .mod true (.v 0) (.k (.int 4))) [some (.int n)] M = .ok (.int a) M := by
  rw [<- h]; rfl
 have e2 : ev (aa ah k) (.op .mul true (.lst true (.cons (.tup (.cons (.k (.str (w "open"))) .nil)) (.cons (.tup (.cons (.k (.str (w "shut"))) .nil)) .nil))) (.op .mod true (.v 0) (.k (.int 4)))) [some (.int n)] M = .ok (dR (bT a)) M := by
  rw [jo, show ev (aa ah k) (.lst true (.cons (.tup (.cons (.k (.str (w "open"))) .nil)) (.cons (.tup (.cons (.k (.str (w "shut"))) .nil)) .nil))) [some (.int n)] M = .ok (.lst [.tup [.str (w "open")], .tup [.str (w "shut")]]) M from rfl, R.af, e1, R.af]
  match a,ha with
  | 0,_ => rfl
  | 1,_ => rfl
  | 2,_ => rfl
  | 3,_ => rfl
 have nn : nr M.length (dR (bT a)) = true := by
  match a,ha with
  | 0,_ => simp [nr,fc,dR,bT,Rw.d]
  | 1,_ => simp [nr,fc,dR,bT,Rw.d]
  | 2,_ => simp [nr,fc,dR,bT,Rw.d]
  | 3,_ => simp [nr,fc,dR,bT,Rw.d]
 exact aO fn25 rfl (aR e2) (ay nn rfl)
theorem iF {e e' : E} {a b : Int} {q : Bool} (h : ev Φ e σ M = .ok (.int a) M) (h' : ev Φ e' σ M = .ok (.int b) M) (hq : decide (a = b) = q) : ev Φ (.cmp .eq e e') σ M = .ok (.bl q) M := by
 rw [fK,h,R.af,h',R.af,<- hq]
 simp [cj,BV,KP,cS,top,Fg.plain,dep]
theorem pD {e e' : E} {a b : Int} {q : Bool} (h : ev Φ e σ M = .ok (.int a) M) (h' : ev Φ e' σ M = .ok (.int b) M) (hq : decide (a < b) = q) : ev Φ (.cmp .lt e e') σ M = .ok (.bl q) M := by
 rw [fK,h,R.af,h',R.af,<- hq]; rfl
theorem tR {n : Int} {pr : Bool} {v : Int} {i : Nat} (h : decide (n % 2 = 0) = pr) (hv : n / 2 % 90 = v) : (aa ah (k + 1)).call 24 [.int n,.int i] M = .ok (dR (fL pr v i)) M := by
 have e1 : ev (aa ah k) (.cmp .eq (.op .mod true (.v 0) (.k (.int 2))) (.k (.int 0))) [some (.int n),some (.int i)] M = .ok (.bl pr) M := iF (a := n % 2) rfl rfl h
 subst hv
 cases pr with
 | true => exact aO Jb rfl (ja e1 (aR rfl)) (ay (by simp [nr,fc]) rfl)
 | false => exact aO Jb rfl ((bG e1).trans (aR rfl)) (ay (by simp [nr,fc]) rfl)
theorem Gg {n : Int} {pr : Bool} {u : Nat} (h : n % 5 = u) (hu : u < 5) : (aa ah (k + 1)).call 26 [.int n,.bl pr,.lst []] M = .ok (dR (bC u pr)) M := by
 have e1 : ∀ x : Option D,ev (aa ah k) (.op .mod true (.v 0) (.k (.int 5))) [some (.int n),some (.bl pr),some (.lst []),x] M = .ok (.int u) M := fun x => by
  rw [<- h]; rfl
 have nn : nr M.length (dR (bC u pr)) = true := by
  match u,hu,pr with
  | 0,_,true => simp [nr,fc,dR,bC,Rw.d]
  | 0,_,false => simp [nr,fc,dR,bC,Rw.d]
  | 1,_,true => simp [nr,fc,dR,bC,Rw.d]
  | 1,_,false => simp [nr,fc,dR,bC,Rw.d]
  | 2,_,_ => simp [nr,fc,dR,bC,Rw.d]
  | 3,_,_ => simp [nr,fc,dR,bC,Rw.d]
  | 4,_,_ => simp [nr,fc,dR,bC,Rw.d]
 have ix : ∀ {e : E} {xs : List D} {d : D} {x : Option D},ev (aa ah k) e [some (.int n),some (.bl pr),some (.lst []),x] M = .ok (.lst xs) M -> xs[u]? = some d -> ev (aa ah k) (.idx e (.op .mod true (.v 0) (.k (.int 5)))) [some (.int n),some (.bl pr),some (.lst []),x] M = .ok d M := fun {e xs d x} he hx => lO he (e1 x) (cE hx)
 cases pr with
 | true =>
  have ei : ∀ x : Option D, exs (aa ah k) (.cons (.set 3 (.lst true (.cons (.lst true (.cons (.tup (.cons (.k (.str (w "first"))) .nil)) .nil)) (.cons (.lst true (.cons (.tup (.cons (.k (.str (w "second"))) .nil)) .nil)) .nil)))) .nil) [some (.int n), some (.bl true), some (.lst []), x] M = .ok (.nx [some (.int n), some (.bl true), some (.lst []), some (.lst [.lst [.tup [.str (w "first")]], .lst [.tup [.str (w "second")]]])]) M := fun x => rfl
  have hc : ∀ x : Option D,ev (aa ah k) (.v 1) [some (.int n),some (.bl true),some (.lst []),x] M = .ok (.bl true) M := fun x => rfl
  refine aO Ja rfl ((ao rfl).trans ((gS (hc _) (ei _)).trans (aR (ix (d := dR (bC u true)) rfl ?_)))) (ay nn rfl)
  match u,hu with
  | 0,_ => rfl
  | 1,_ => rfl
  | 2,_ => rfl
  | 3,_ => rfl
  | 4,_ => rfl
 | false =>
  refine aO Ja rfl ((ao rfl).trans ((bG rfl).trans (aR (ix (d := dR (bC u false)) rfl ?_)))) (ay nn rfl)
  match u,hu with
  | 0,_ => rfl
  | 1,_ => rfl
  | 2,_ => rfl
  | 3,_ => rfl
  | 4,_ => rfl
structure JL (n : Int) (c : Cb) (t v : Int) : Prop where
 a : n / 5 % 4 = c.a
 ha : c.a < 4
 pr : decide (n / 20 % 2 = 0) = c.pr
 fv : n / 20 / 2 % 90 = v
 d : n / 7 % 4 = c.d
 hd : c.d < 4
 u : n / 11 % 5 = c.u
 hu : c.u < 5
 ft : n % 3 = t
 sh : (decide (0 < t) || decide ((c.u : Int) = 4)) = c.sh
 m : n / 13 % 2 = if c.m then 1 else 0
theorem iJ : ∀ a,(bT a).length = 2 * a
 | 0 => rfl
 | a + 1 => by rw [bT,List.length_append,iJ a]; simp; omega
theorem dM {pr : Bool} {v : Int} {i : Nat} : (fL pr v i).length = 3 := by cases pr <;> rfl
theorem vn (u : Nat) (pr : Bool) : (bC u pr).length <= 2 := by
 match u,pr with
 | 0,_ => simp [bC]
 | 1,true => simp [bC]
 | 1,false => simp [bC]
 | 2,_ => simp [bC]
 | 3,_ => simp [bC]
 | u + 4,_ => simp [bC]
theorem vY {m : Bool} {r : Rw} : (rp m r).length <= 1 := by cases m <;> simp [rp]
theorem mz {rs : List Rw} {m : Nat} : nr m (dR rs) = true := by
 have ns : ∀ ds : List D,(∀ d ∈ ds,nr m d = true) -> fc m ds = true := fun ds h => by
  induction ds with
  | nil => rfl
  | cons d ds ih => simp only [fc,Bool.and_eq_true]; exact ⟨h d List.mem_cons_self,ih fun e he => h e (List.mem_cons_of_mem _ he)⟩
 show fc m (rs.map Rw.d) = true
 refine ns _ fun d hd => ?_
 obtain ⟨r,_,rfl⟩ := List.mem_map.mp hd
 cases r with
 | call to many is =>
  have : fc m (is.map fun (n : Nat) => D.int n) = true := ns _ fun d hd => by
   obtain ⟨j,_,rfl⟩ := List.mem_map.mp hd
   simp [nr]
  simp [Rw.d,nr,fc,this]
 | _ => simp [Rw.d,nr,fc]
theorem JE {n t v : Int} {c : Cb} (Z : JL n c t v) : (aa ah (k + 2)).call 27 [.int n] M = .ok (dR (gU c v)) M := by
 let σ : Option D -> Option D -> Option D -> Sg := fun x y z => [some (.int n),x,y,z]
 have a1 : ∀ x y z,ev (aa ah (k + 1)) (.call 25 (.cons (.op .fdiv true (.v 0) (.k (.int 5))) .nil)) (σ x y z) M = .ok (dR (bT c.a)) M := fun x y z => (aT (d := .int (n / 5)) rfl).trans (kJ Z.a Z.ha)
 have a2 : ∀ x y z,ev (aa ah (k + 1)) (.call 25 (.cons (.op .fdiv true (.v 0) (.k (.int 7))) .nil)) (σ x y z) M = .ok (dR (bT c.d)) M := fun x y z => (aT (d := .int (n / 7)) rfl).trans (kJ Z.d Z.hd)
 have a3 : ∀ x y z,ev (aa ah (k + 1)) (.call 24 (.cons (.op .fdiv true (.v 0) (.k (.int 20))) (.cons (.k (.int 0)) .nil))) (σ x y z) M = .ok (dR (fL c.pr v 0)) M := fun x y z => by
  rw [fT,ng (x := .int (n / 20)) rfl rfl]
  exact tR (i := 0) Z.pr Z.fv
 have l1 : (bT c.a).length <= 8 := by rw [iJ]; have := Z.ha; omega
 have l2 : (bT c.d).length <= 8 := by rw [iJ]; have := Z.hd; omega
 have l3 := vn c.u c.pr
 have l4 : ∀ r,(rp c.m r).length <= 1 := fun r => vY
 have e1 : ∀ x y z, ev (aa ah (k + 1)) (.op .add true (.op .add true (.op .add true (.lst true (.cons (.tup (.cons (.k (.str (w "open"))) .nil)) .nil)) (.call 25 (.cons (.op .fdiv true (.v 0) (.k (.int 5))) .nil))) (.call 24 (.cons (.op .fdiv true (.v 0) (.k (.int 20))) (.cons (.k (.int 0)) .nil)))) (.call 25 (.cons (.op .fdiv true (.v 0) (.k (.int 7))) .nil))) (σ x y z) M = .ok (dR ([.av] ++ bT c.a ++ fL c.pr v 0 ++ bT c.d)) M := fun x y z =>
  bQ (fz := true) (bQ (fz := true) (bQ (fz := true) (xs := [.av]) rfl (a1 x y z) (by simp only [List.length_cons,List.length_nil]; omega)) (a3 x y z) (by simp only [List.length_append,List.length_cons,List.length_nil,dM]; omega)) (a2 x y z) (by simp only [List.length_append,List.length_cons,List.length_nil,dM]; omega)
 let pre : List Rw := [.av] ++ bT c.a ++ fL c.pr v 0 ++ bT c.d
 have lp : pre.length <= 20 := by simp only [pre,List.length_append,List.length_cons,List.length_nil,dM]; omega
 have e2 : ev (aa ah (k + 1)) (.call 26 (.cons (.op .fdiv true (.v 0) (.k (.int 11))) (.cons (.cmp .eq (.op .mod true (.op .fdiv true (.v 0) (.k (.int 20))) (.k (.int 2))) (.k (.int 0))) (.cons (.lst true .nil) .nil)))) (σ (some (dR pre)) none none) M = .ok (dR (bC c.u c.pr)) M := by
  have q : ev (aa ah (k + 1)) (.cmp .eq (.op .mod true (.op .fdiv true (.v 0) (.k (.int 20))) (.k (.int 2))) (.k (.int 0))) (σ (some (dR pre)) none none) M = .ok (.bl c.pr) M := iF (a := n / 20 % 2) rfl rfl Z.pr
  rw [fT,au,show ev (aa ah (k + 1)) (.op .fdiv true (.v 0) (.k (.int 11))) (σ (some (dR pre)) none none) M = .ok (.int (n / 11)) M from rfl,R.af,au,q]
  exact Gg Z.u Z.hu
 have e3 : ev (aa ah (k + 1)) (.or (.cmp .gt (.op .mod true (.v 0) (.k (.int 3))) (.k (.int 0))) (.cmp .eq (.op .mod true (.op .fdiv true (.v 0) (.k (.int 11))) (.k (.int 5))) (.k (.int 4)))) (σ (some (dR pre)) (some (dR (bC c.u c.pr))) none) M = .ok (.bl c.sh) M := by
  have q1 : ev (aa ah (k + 1)) (.cmp .gt (.op .mod true (.v 0) (.k (.int 3))) (.k (.int 0))) (σ (some (dR pre)) (some (dR (bC c.u c.pr))) none) M = .ok (.bl (decide (0 < t))) M := Bx (a := n % 3) rfl rfl (by rw [Z.ft])
  have q2 : ev (aa ah (k + 1)) (.cmp .eq (.op .mod true (.op .fdiv true (.v 0) (.k (.int 11))) (.k (.int 5))) (.k (.int 4))) (σ (some (dR pre)) (some (dR (bC c.u c.pr))) none) M = .ok (.bl (decide ((c.u : Int) = 4))) M := iF (a := n / 11 % 5) rfl rfl (by rw [Z.u])
  rw [sY,q1,R.af,<- Z.sh]
  cases decide (0 < t) with
  | true => rfl
  | false => exact q2
 cases hs : c.sh with
 | true =>
  rw [hs] at e3
  have em : ∀ z,ev (aa ah (k + 1)) (.op .mod true (.op .fdiv true (.v 0) (.k (.int 13))) (.k (.int 2))) (σ (some (dR pre)) (some (dR (bC c.u c.pr))) z) M = .ok (.int (if c.m then 1 else 0)) M := fun z => by rw [<- Z.m]; rfl
  have ro : ev (aa ah (k + 1)) (.op .mul true (.lst true (.cons (.tup (.cons (.k (.str (w "open"))) .nil)) .nil)) (.v 3)) (σ (some (dR pre)) (some (dR (bC c.u c.pr))) (some (.int (if c.m then 1 else 0)))) M = .ok (dR (rp c.m .av)) M := tu (xs := [.av]) rfl rfl
  have rs : ev (aa ah (k + 1)) (.op .mul true (.lst true (.cons (.tup (.cons (.k (.str (w "shut"))) .nil)) .nil)) (.v 3)) (σ (some (dR pre)) (some (dR (bC c.u c.pr))) (some (.int (if c.m then 1 else 0)))) M = .ok (dR (rp c.m .gg)) M := tu (xs := [.gg]) rfl rfl
  have l5 := l4 .av
  have l6 := l4 .gg
  have er := bQ (fz := true) (bQ (fz := true) (bQ (fz := true) (bQ (fz := true) (bQ (fz := true) (e := .v 1) (e' := .lst true (.cons (.tup (.cons (.k (.str (w "shut"))) .nil)) .nil)) (Φ := aa ah (k + 1)) (M := M) (σ := σ (some (dR pre)) (some (dR (bC c.u c.pr))) (some (.int (if c.m then 1 else 0)))) (xs := pre) (ys := [.gg]) rfl rfl (by simp only [List.length_cons, List.length_nil]; omega)) ro (by simp only [List.length_append, List.length_cons, List.length_nil]; omega)) (e' := .v 2) (ys := bC c.u c.pr) rfl (by simp only [List.length_append, List.length_cons, List.length_nil]; omega)) rs (by simp only [List.length_append, List.length_cons, List.length_nil]; omega)) (e' := .lst true (.cons (.tup (.cons (.k (.str (w "back"))) .nil)) .nil)) (ys := [.back]) rfl (by simp only [List.length_append, List.length_cons, List.length_nil]; omega)
  have eq : pre ++ [.gg] ++ rp c.m .av ++ bC c.u c.pr ++ rp c.m .gg ++ [.back] = gU c v := by
   rw [gU,if_pos hs]; simp only [pre,List.append_assoc]
  rw [eq] at er
  exact aO IZ rfl ((ao (e1 _ _ _)).trans ((ao e2).trans (ja e3 ((ao (em _)).trans (aR er))))) (ay mz rfl)
 | false =>
  rw [hs] at e3
  have er := bQ (fz := true) (bQ (fz := true) (e := .v 1) (e' := .v 2) (Φ := aa ah (k + 1)) (M := M) (σ := σ (some (dR pre)) (some (dR (bC c.u c.pr))) none) (xs := pre) (ys := bC c.u c.pr) rfl rfl (by omega)) (e' := .lst true (.cons (.tup (.cons (.k (.str (w "shut"))) .nil)) (.cons (.tup (.cons (.k (.str (w "back"))) .nil)) .nil))) (ys := [.gg, .back]) rfl (by simp only [List.length_append, List.length_cons, List.length_nil]; omega)
  have eq : pre ++ bC c.u c.pr ++ [.gg,.back] = gU c v := by
   rw [gU,if_neg (by rw [hs]; decide)]; simp only [pre,List.append_assoc]
  rw [eq] at er
  exact aO IZ rfl ((ao (e1 _ _ _)).trans ((ao e2).trans ((bG e3).trans (aR er)))) (ay mz rfl)
end
end bR
end
section
set_option autoImplicit false
namespace bR
open Fg PySem
section
variable {M : MH} {k : Nat} {Φ : aQ} {σ : Sg} {n t v : Int} {c : Cb}
noncomputable def uU (c : Cb) (t v : Int) : D := if c.u = 4 \/ (0 < t /\ c.u < 2) then .str (w "gone") else .int (iN c.u c.pr v)
theorem JF (Z : JL n c t v) : (aa ah (k + 1)).call 28 [.int n] M = .ok (uU c t v) M := by
 obtain ⟨a,d,u,pr,sh,m⟩ := c
 have zu : n / 11 % 5 = u := Z.u
 have zh : u < 5 := Z.hu
 have zp : decide (n / 20 % 2 = 0) = pr := Z.pr
 have zv : n / 20 / 2 % 90 = v := Z.fv
 have zt : n % 3 = t := Z.ft
 have e1 : ev (aa ah k) (.op .mod true (.op .fdiv true (.v 0) (.k (.int 11))) (.k (.int 5))) [some (.int n),none,none,none] M = .ok (.int u) M := by rw [<- zu]; rfl
 have e2 : ev (aa ah k) (.cmp .eq (.op .mod true (.op .fdiv true (.v 0) (.k (.int 20))) (.k (.int 2))) (.k (.int 0))) [some (.int n),some (.int u),none,none] M = .ok (.bl pr) M := iF (a := n / 20 % 2) rfl rfl zp
 have e3 : ev (aa ah k) (.or (.cmp .eq (.v 1) (.k (.int 4))) (.and (.cmp .gt (.op .mod true (.v 0) (.k (.int 3))) (.k (.int 0))) (.cmp .lt (.v 1) (.k (.int 2))))) [some (.int n),some (.int u),some (.bl pr),none] M = .ok (.bl (decide ((u : Int) = 4) || (decide (0 < t) && decide ((u : Int) < 2)))) M := by
  have q1 : ev (aa ah k) (.cmp .eq (.v 1) (.k (.int 4))) [some (.int n),some (.int u),some (.bl pr),none] M = .ok (.bl (decide ((u : Int) = 4))) M := iF rfl rfl rfl
  have q2 : ev (aa ah k) (.cmp .gt (.op .mod true (.v 0) (.k (.int 3))) (.k (.int 0))) [some (.int n),some (.int u),some (.bl pr),none] M = .ok (.bl (decide (0 < t))) M := Bx (a := n % 3) rfl rfl (by rw [zt])
  have q3 : ev (aa ah k) (.cmp .lt (.v 1) (.k (.int 2))) [some (.int n),some (.int u),some (.bl pr),none] M = .ok (.bl (decide ((u : Int) < 2))) M := pD rfl rfl rfl
  rw [sY,q1,R.af]
  cases decide ((u : Int) = 4) with
  | true => rfl
  | false =>
   show ev (aa ah k) (.and _ _) _ M = _
   rw [iZ,q2,R.af]
   cases decide (0 < t) with
   | true => exact q3
   | false => rfl
 have e4 : ev (aa ah k) (.op .mod true (.op .fdiv true (.op .fdiv true (.v 0) (.k (.int 20))) (.k (.int 2))) (.k (.int 90))) [some (.int n),some (.int u),some (.bl pr),none] M = .ok (.int v) M := by rw [<- zv]; rfl
 have e5 : ev (aa ah k) (.and (.cmp .lt (.v 1) (.k (.int 2))) (.v 2)) [some (.int n),some (.int u),some (.bl pr),some (.int v)] M = .ok (.bl (decide ((u : Int) < 2) && pr)) M := by
  have q3 : ev (aa ah k) (.cmp .lt (.v 1) (.k (.int 2))) [some (.int n),some (.int u),some (.bl pr),some (.int v)] M = .ok (.bl (decide ((u : Int) < 2))) M := pD rfl rfl rfl
  rw [iZ,q3,R.af]
  cases decide ((u : Int) < 2) <;> rfl
 by_cases hg : u = 4 \/ (0 < t /\ u < 2)
 ·have hb : (decide ((u : Int) = 4) || (decide (0 < t) && decide ((u : Int) < 2))) = true := by
   rcases hg with h | h
   ·subst h; rfl
   ·rw [decide_eq_true h.1,decide_eq_true (by omega : (u : Int) < 2)]; simp
  rw [hb] at e3
  have : uU ⟨a, d, u, pr, sh, m⟩ t v = .str (w "gone") := if_pos hg
  rw [this]
  exact aO FN rfl ((ao e1).trans ((ao e2).trans (ja e3 (aR rfl)))) (ay (by simp [nr]) rfl)
 ·have hb : (decide ((u : Int) = 4) || (decide (0 < t) && decide ((u : Int) < 2))) = false := by
   rw [decide_eq_false (by omega : ¬ (u : Int) = 4)]
   by_cases h0 : 0 < t
   ·rw [decide_eq_false (by omega : ¬ (u : Int) < 2)]; simp
   ·rw [decide_eq_false h0]; simp
  rw [hb] at e3
  have : uU ⟨a,d,u,pr,sh,m⟩ t v = .int (iN u pr v) := if_neg hg
  rw [this]
  have ix : ∀ {e : E} {xs : List D} {y : D},ev (aa ah k) e [some (.int n),some (.int u),some (.bl pr),some (.int v)] M = .ok (.lst xs) M -> xs[u]? = some y -> ev (aa ah k) (.idx e (.v 1)) [some (.int n),some (.int u),some (.bl pr),some (.int v)] M = .ok y M := fun {e xs y} he hx => lO he rfl (cE hx)
  have nn : nr M.length (.int (iN u pr v)) = true := by simp [nr]
  cases hq : (decide ((u : Int) < 2) && pr) with
  | true =>
   rw [hq] at e5
   have hq := (Bool.and_eq_true _ _).mp hq
   have h2 : u < 2 := by have := of_decide_eq_true hq.1; omega
   have e6 := ix (e := .lst true (.cons (.k (.int 4)) (.cons (.v 3) .nil))) (xs := [.int 4,.int v]) (y := .int (iN u pr v)) rfl (by
    rw [hq.2]
    match u,h2 with
    | 0,_ => rfl
    | 1,_ => rfl)
   exact aO FN rfl ((ao e1).trans ((ao e2).trans ((bG e3).trans ((ao e4).trans (ja e5 (aR e6)))))) (ay nn rfl)
  | false =>
   rw [hq] at e5
   have h4 : u ≠ 4 := fun h => hg (.inl h)
   have e6 := ix (e := .lst true (.cons (.v 3) (.cons (.k (.int 1)) (.cons (.k (.int 0)) (.cons (.k (.int 7)) .nil))))) (xs := [.int v,.int 1,.int 0,.int 7]) (y := .int (iN u pr v)) rfl (by
    match u,zh,h4,pr,hq with
    | 0,_,_,false,_ => rfl
    | 1,_,_,false,_ => rfl
    | 2,_,_,_,_ => rfl
    | 3,_,_,_,_ => rfl
    | 0,_,_,true,h => cases h
    | 1,_,_,true,h => cases h
    | 4,_,h,_,_ => exact absurd rfl h)
   exact aO FN rfl ((ao e1).trans ((ao e2).trans ((bG e3).trans ((ao e4).trans ((bG e5).trans (aR e6)))))) (ay nn rfl)
theorem BJ (Z : JL n c t v) : (aa ah (k + 1)).call 29 [.int n] M = .ok (.int (if c.u < 2 then 1 else 0)) M := by
 have q : ev (aa ah k) (.cmp .lt (.op .mod true (.op .fdiv true (.v 0) (.k (.int 11))) (.k (.int 5))) (.k (.int 2))) [some (.int n)] M = .ok (.bl (decide ((c.u : Int) < 2))) M := pD (a := n / 11 % 5) rfl rfl (by rw [Z.u])
 have e : ev (aa ah k) (.x8 .int (.cmp .lt (.op .mod true (.op .fdiv true (.v 0) (.k (.int 11))) (.k (.int 5))) (.k (.int 2)))) [some (.int n)] M = .ok (.int (if c.u < 2 then 1 else 0)) M := by
  rw [F7,q,R.af]
  by_cases h : c.u < 2
  ·rw [decide_eq_true (by omega : (c.u : Int) < 2),if_pos h]; rfl
  ·rw [decide_eq_false (by omega : ¬ (c.u : Int) < 2),if_neg h]; rfl
 exact aO fn29 rfl (aR e) (ay (by simp [nr]) rfl)
theorem pG {e e' : E} {x y : D} {M1 : MH} {q : Bool} (h : ev Φ e σ M = .ok x M1) (h' : ev Φ e' σ M1 = .ok y M1) (hx : (match x with | .ref _ => false | .bl _ => false | _ => true) = true) (hy : (match y with | .ref _ => false | _ => true) = true) (hc : cS x y = true) (hq : aI x y = q) : ev Φ (.cmp .eq e e') σ M = .ok (.bl q) M1 := by
 rw [fK,h,R.af,h',R.af]
 have t1 : top M1 x = x := by cases x <;> first | rfl | cases hx
 have t2 : top M1 y = y := by cases y <;> first | rfl | cases hy
 have b : BV x y = none := by cases x <;> first | rfl | cases hx
 simp only [cj,b,KP,t1,t2,hc,if_true,hq]
theorem CW {e e' : E} {x y : D} {M1 : MH} {q : Bool} (h : ev Φ e σ M = .ok x M1) (h' : ev Φ e' σ M1 = .ok y M1) (hx : (match x with | .ref _ => false | .bl _ => false | _ => true) = true) (hy : (match y with | .ref _ => false | _ => true) = true) (hc : cS x y = true) (hq : aI x y = q) : ev Φ (.cmp .ne e e') σ M = .ok (.bl (!q)) M1 := by
 rw [fK,h,R.af,h',R.af]
 have t1 : top M1 x = x := by cases x <;> first | rfl | cases hx
 have t2 : top M1 y = y := by cases y <;> first | rfl | cases hy
 have b : BV x y = none := by cases x <;> first | rfl | cases hx
 simp only [cj,b,wQ,t1,t2,hc,if_true,hq]
theorem yq {e : E} {m : Nat} {z : Str} {ds : List D} (he : ev Φ e σ M = .ok (.ref m) M) (hm : M[m]? = some (.lst ds)) (hr : ds.all xO = true) (hl : ds.length < 2000) : ev Φ (.comp true [] [0] (.v 0) (.e e) (.some (.cmp .eq (.idx (.v 0) (.k (.int 0))) (.k (.str z))))) σ M = .ok (.lst (ds.filter (FA z))) M := by
 have hi : bP Φ (.e e) σ M = .ok (.ref m,ds,false) M := by
  rw [CP,he,R.af]
  simp only [itemsOf,vw,hm,wk,walk]
 have hl' := kh (cond := nQ Φ (.some (.cmp .eq (.idx (.v 0) (.k (.int 0))) (.k (.str z))))) (elt := ev Φ (.v 0)) (i := 0) (eZ := aP M (.ref m)) (M := M) (f := id) (p := FA z) (by simp [aP]) ds [] [none] (fun d hd => by
  have hd := List.all_eq_true.mp hr d hd
  refine ⟨?_,fun _ => rfl⟩
  show ev Φ (.cmp .eq (.idx (.v 0) (.k (.int 0))) (.k (.str z))) [some d] M = _
  cases d with
  | tup xs => cases xs with
   | nil => cases hd
   | cons y ys => cases y with
    | str q => exact bA (aK rfl rfl bB) rfl
    | _ => cases hd
  | _ => cases hd) (by simp only [List.length_nil,Nat.zero_add]; exact Nat.le_trans (Nat.le_of_lt hl) (by decide))
 rw [nj,hi,R.af]
 show ((bw _ _ _ _ ds ([] ++ [none]) M []).fin (c6 false (.ref m))).bind _ = _
 rw [lI,List.nil_append,hl',List.map_id]; rfl
theorem Df {av : List Bool} {i : Int} : Wa av (.int i) 1 true := .int i
theorem CZ {av : List Bool} {pr : Bool} {v : Int} {i : Nat} {o : Bool} (h : av[i]? = some o) : Wa av (yC pr v i) 3 o := by
 cases pr with
 | true => have := Wa.cell (c := layW false) (sz := 3) h (.int 4) (.int v); rw [Bool.and_true,Bool.and_true] at this; exact this
 | false => have := Wa.cell (c := layW true) (sz := 3) h (.int v) .ak; rw [Bool.and_true,Bool.and_true] at this; exact this
theorem qF {c : Cb} (h1 : c.a < 4) (h2 : c.d < 4) (h3 : c.u < 5) (h4 : c.u = 4 -> c.sh = true) : c ∈ ny := by
 obtain ⟨a,d,u,pr,sh,m⟩ := c
 simp only [ny,List.mem_flatMap,List.mem_range]
 refine ⟨a,h1,d,h2,u,h3,pr,by cases pr <;> simp,m,by cases m <;> simp,?_⟩
 cases sh with
 | true => exact List.mem_cons_self
 | false =>
  refine List.mem_cons_of_mem _ ?_
  rw [if_neg fun h => by cases h4 h]
  exact List.mem_singleton.mpr rfl
theorem HB (Z : JL n c t v) : JZ (go (gU c v) 200 60 (ms1 0 [] 0)) = vL c v := by
 refine List.map_inj_left.mp (runs v) c (qF Z.ha Z.hd Z.hu fun h => ?_)
 have := Z.sh
 rw [h] at this
 rw [<- this]; simp
end
end bR
end
section
set_option autoImplicit false
namespace bR
open Fg PySem
section
variable {M : MH} {k : Nat} {n t v : Int} {c : Cb}
theorem pM {Φ : aQ} {σ : Sg} {e : E} {rs : List Rw} {b o : Nat} (h : ev Φ e σ M = .ok (dR rs) M) : ev Φ (.call 23 (.cons (.tup (.cons e (.cons (.k (.int b)) (.cons (.k (.int o)) .nil)))) .nil)) σ M = Φ.call 23 [.tup [.lst (rs.map Rw.d),.int b,.int o]] M := by
 refine aT (d := .tup [.lst (rs.map Rw.d),.int b,.int o]) ?_
 rw [gG,au,h]; rfl
theorem iO {x : Mx} : (x.h M).take M.length = M := by simp [Mx.h]
theorem BL (Z : JL n c t v) : (aa ah (k + 9)).call 31 [.int n] M = .ok (.bl true) M := by
 have rc := HB Z
 have eo : ∀ x y z u q,ev (aa ah (k + 8)) (.call 27 (.cons (.v 0) .nil)) [some (.int n),x,y,z,u,q] M = .ok (dR (gU c v)) M := fun x y z u q => (aT rfl).trans (JE (k := k + 6) Z)
 have ed : ∀ (M1 : MH) x y z u q,ev (aa ah (k + 8)) (.call 28 (.cons (.v 0) .nil)) [some (.int n),x,y,z,u,q] M1 = .ok (uU c t v) M1 := fun M1 x y z u q => (aT rfl).trans (JF (k := k + 7) Z)
 have sh := Z.sh
 by_cases hg : c.u = 4 \/ (0 < t /\ c.u < 2)
 ·have hx : (aa ah (k + 7)).call 7 [.tup [.lst ((gU c v).map Rw.d),.int (0 : Nat),.int (0 : Nat)],.lst [],.int 200] M = .exc 5 M := by
   by_cases h4 : c.u = 4
   ·rw [vL,if_pos h4] at rc
    obtain ⟨s,e1,e2,e3,e4,_⟩ := vK rc (by simp)
    exact vX (k := k) (N := 60) (p := []) (by decide) (fun v h => by cases h) e1 (by decide) e2 (CZ e3) (by decide) (Nat.lt_trans e4 (by decide))
   ·have h2 := hg.resolve_left h4
    have hs : c.sh = true := by rw [<- sh,decide_eq_true h2.1]; rfl
    rw [vL,if_neg h4,if_pos ⟨hs,h2.2⟩] at rc
    exact vW (k := k) (N := 60) (by decide) (fun v h => by cases h) (Hq rc (by decide) (by decide)) (by decide)
  have e1 := (pM (Φ := aa ah (k + 8)) (M := M) (b := 0) (o := 0) (eo none none none none none)).trans (sA (.inl rfl) hx)
  have hd : uU c t v = .str (w "gone") := if_pos hg
  have e2 := ed M (some (.tup [.str (rW 5),.ak])) none none none none
  rw [hd] at e2
  have e3 : ev (aa ah (k + 8)) (.cmp .eq (.v 2) (.k (.str (w "gone")))) [some (.int n), some (.tup [.str (rW 5), .ak]), some (.str (w "gone")), none, none, none] M = .ok (.bl true) M := bA rfl (by decide +kernel)
  have e4 : ev (aa ah (k + 8)) (.cmp .eq (.v 1) (.tup (.cons (.k (.str (w "gone"))) (.cons (.k .ak) .nil)))) [some (.int n), some (.tup [.str (rW 5), .ak]), some (.str (w "gone")), none, none, none] M = .ok (.bl true) M := pG (x := .tup [.str (rW 5), .ak]) (y := .tup [.str (w "gone"), .ak]) rfl rfl rfl rfl (by decide +kernel) (by decide +kernel)
  exact aO IX rfl ((ao e1).trans ((ao e2).trans (ja e3 (aR e4)))) (ay (by simp [nr]) rfl)
 ·have h4 : ¬ c.u = 4 := fun h => hg (.inl h)
  have hs : ¬ (c.sh = true /\ c.u < 2) := fun ⟨h1,h2⟩ => by
   rw [<- sh,decide_eq_false (by omega : ¬ (c.u : Int) = 4),Bool.or_false] at h1
   exact hg (.inr ⟨of_decide_eq_true h1,h2⟩)
  rw [vL,if_neg h4,if_neg hs] at rc
  obtain ⟨s,e1,e2,e3,e4,e5,e6,e7,e8⟩ := vK rc (by simp)
  obtain ⟨x,r1,r2⟩ := qm (M0 := M) (k := k) (N := 60) (p := []) (o := 0) (b := 0) (y := .int (iN c.u c.pr v)) (by decide) (fun v h => by cases h) e1 (by decide) e2 Df (by decide) (Nat.lt_trans e4 (by decide)) (Nat.zero_le _) (Nat.lt_trans e5 (by decide)) (fun M => jU) fun m => by simp [nr]
  have IQ : x.log = s.log := by rw [r2]; simp [Cm]
  have f1 := (pM (Φ := aa ah (k + 8)) (M := M) (b := 0) (o := 0) (eo none none none none none)).trans (qp r1 iO (Nat.le_add_right _ _))
  have hd : uU c t v = .int (iN c.u c.pr v) := if_neg hg
  let fd : D := .tup [.str (w ""), .tup [.int (iN c.u c.pr v), .ref (M.length + 4)]]
  have f2 := ed (x.h M) (some fd) none none none none
  rw [hd] at f2
  let σ : Option D -> Option D -> Option D -> Sg := fun a b d => [some (.int n),some fd,some (.int (iN c.u c.pr v)),a,b,d]
  have f3 : ev (aa ah (k + 8)) (.cmp .eq (.v 2) (.k (.str (w "gone")))) (σ none none none) (x.h M) = .ok (.bl false) (x.h M) := pG (x := .int (iN c.u c.pr v)) rfl rfl rfl rfl (by simp [cS, Fg.plain, dep]) rfl
  have f4 : ev (aa ah (k + 8)) (.or (.cmp .ne (.idx (.v 1) (.k (.int 0))) (.k (.str (w "")))) (.cmp .ne (.idx (.idx (.v 1) (.k (.int 1))) (.k (.int 0))) (.v 2))) (σ none none none) (x.h M) = .ok (.bl false) (x.h M) := by
   have q1 : ev (aa ah (k + 8)) (.cmp .ne (.idx (.v 1) (.k (.int 0))) (.k (.str (w "")))) (σ none none none) (x.h M) = .ok (.bl false) (x.h M) := CW (x := .str (w "")) (y := .str (w "")) (q := true) (aK rfl rfl bB) rfl rfl rfl (by decide +kernel) (by decide +kernel)
   have q2 : ev (aa ah (k + 8)) (.cmp .ne (.idx (.idx (.v 1) (.k (.int 1))) (.k (.int 0))) (.v 2)) (σ none none none) (x.h M) = .ok (.bl false) (x.h M) := CW (x := .int (iN c.u c.pr v)) (y := .int (iN c.u c.pr v)) (q := true) (aK (aK rfl rfl gq) rfl bB) rfl rfl rfl (by simp [cS,Fg.plain,dep]) (by simp)
   rw [sY,q1]; exact q2
  have g : (x.h M)[M.length + 4]? = some (.lst s.log) := g4.trans (by rw [IQ])
  have f5 : ev (aa ah (k + 8)) (.idx (.idx (.v 1) (.k (.int 1))) (.k (.int 1))) (σ none none none) (x.h M) = .ok (.ref (M.length + 4)) (x.h M) := aK (aK rfl rfl gq) rfl gq
  have f6 : ev (aa ah (k + 8)) (.blt .len true (.cons (.comp true [] [0] (.v 0) (.e (.v 3)) (.some (.cmp .eq (.idx (.v 0) (.k (.int 0))) (.k (.str (w "look")))))) .nil)) (σ (some (.ref (M.length + 4))) none none) (x.h M) = .ok (.int (if c.u < 2 then 1 else 0)) (x.h M) := by
   rw [ym,au,yq (m := M.length + 4) rfl g e6 (Nat.lt_trans e5 (by decide)),R.af]
   show R.ok (D.int ((s.log.filter (FA (w "look"))).length : Nat)) _ = _
   rw [e7]
   by_cases h : c.u < 2
   ·rw [if_pos h,if_pos h]; rfl
   ·rw [if_neg h,if_neg h]; rfl
  have f7 : ∀ a, ev (aa ah (k + 8)) (.comp true [] [0] (.v 0) (.e (.v 3)) (.some (.cmp .eq (.idx (.v 0) (.k (.int 0))) (.k (.str (w "lay")))))) (σ (some (.ref (M.length + 4))) a none) (x.h M) = .ok (.lst [lay0]) (x.h M) := fun a => by
   rw [yq (m := M.length + 4) rfl g e6 (Nat.lt_trans e5 (by decide)),e8]
  have f8 : ev (aa ah (k + 8)) (.and (.cmp .eq (.v 4) (.call 29 (.cons (.v 0) .nil))) (.cmp .eq (.v 5) (.lst true (.cons (.tup (.cons (.k (.str (w "lay"))) (.cons (.k (.int 0)) .nil))) .nil)))) (σ (some (.ref (M.length + 4))) (some (.int (if c.u < 2 then 1 else 0))) (some (.lst [lay0]))) (x.h M) = .ok (.bl true) (x.h M) := by
   have q1 : ev (aa ah (k + 8)) (.cmp .eq (.v 4) (.call 29 (.cons (.v 0) .nil))) (σ (some (.ref (M.length + 4))) (some (.int (if c.u < 2 then 1 else 0))) (some (.lst [lay0]))) (x.h M) = .ok (.bl true) (x.h M) := iF (a := if c.u < 2 then 1 else 0) (b := if c.u < 2 then 1 else 0) rfl ((aT rfl).trans (BJ (k := k + 7) Z)) (decide_eq_true rfl)
   have q2 : ev (aa ah (k + 8)) (.cmp .eq (.v 5) (.lst true (.cons (.tup (.cons (.k (.str (w "lay"))) (.cons (.k (.int 0)) .nil))) .nil))) (σ (some (.ref (M.length + 4))) (some (.int (if c.u < 2 then 1 else 0))) (some (.lst [lay0]))) (x.h M) = .ok (.bl true) (x.h M) := pG (x := .lst [lay0]) (y := .lst [.tup [.str (w "lay"), .int 0]]) rfl rfl rfl rfl (by decide +kernel) (by decide +kernel)
   rw [iZ,q1]; exact q2
  exact aO IX rfl ((ao f1).trans ((ao f2).trans ((bG f3).trans ((bG f4).trans ((ao f5).trans ((ao f6).trans ((ao (f7 _)).trans (aR f8)))))))) (cJ (by simp [nr]) iO)
end
end bR
end
section
set_option autoImplicit false
namespace bR
open Fg PySem
section
variable {M : MH} {k : Nat} {n v : Int} {Φ : aQ} {σ : Sg}
theorem rq {M1 : MH} {e e' : E} {m : Nat} {xs ys : List Rw} (h : ev Φ e σ M1 = .ok (.ref m) M1) (hm : M1[m]? = some (.lst (xs.map Rw.d))) (h' : ev Φ e' σ M1 = .ok (dR ys) M1) (hl : xs.length + ys.length <= 1000) : ev Φ (.op .add true e e') σ M1 = .ok (dR (xs ++ ys)) M1 := by
 rw [jo,h,R.af,h',R.af]
 have : uE .add true M1 (.ref m) (dR ys) = (if decide ((xs.map Rw.d).length + (ys.map Rw.d).length <= line) then cK true (xs.map Rw.d ++ ys.map Rw.d) M1 else .bad) := by
  simp only [uE,dR,vw,hm]
 rw [this,if_pos (decide_eq_true (by rw [List.length_map,List.length_map]; exact Nat.le_trans hl (by decide))),<- List.map_append]; rfl
theorem nu {M1 : MH} {e e' : E} {x : D} {xs ys : List Rw} (h : ev Φ e σ M1 = .ok x M1) (hx : vw M1 x = .lst (xs.map Rw.d)) (h' : ev Φ e' σ M1 = .ok (dR ys) M1) (hl : xs.length + ys.length <= 1000) : ev Φ (.op .add false e e') σ M1 = .ok (.ref M1.length) (M1 ++ [.lst ((xs ++ ys).map Rw.d)]) := by
 rw [jo,h,R.af,h',R.af]
 have : uE .add false M1 x (dR ys) = (if decide ((xs.map Rw.d).length + (ys.map Rw.d).length <= line) then cK false (xs.map Rw.d ++ ys.map Rw.d) M1 else .bad) := by
  have hy : vw M1 (dR ys) = .lst (ys.map Rw.d) := rfl
  cases x with
  | lst ds => cases hx; rfl
  | ref q => simp only [uE,dR,hx]; rfl
  | _ => cases hx
 rw [this,if_pos (decide_eq_true (by rw [List.length_map,List.length_map]; exact Nat.le_trans hl (by decide))),<- List.map_append]; rfl
structure Rp_ (n : Int) (p : Pb) : Prop where
 x : n % 4 = p.x
 hx : p.x < 4
 m : n / 13 % 2 = if p.m then 1 else 0
 a : n / 4 % 4 = p.a
 ha : p.a < 4
 s : decide (n / 16 % 2 = 1) = p.s
theorem wZ (x : Nat) : (gv x).length <= 4 := by
 match x with
 | 0 => simp [gv]
 | 1 => simp [gv]
 | 2 => simp [gv]
 | x + 3 => simp [gv]
theorem BH {p : Pb} (Z : Rp_ n p) : (aa ah (k + 2)).call 30 [.int n] M = .ok (.tup [dR (j4 p),.int (0 : Nat),.int (0 : Nat)]) M := by
 let m1 : D := .int (if p.m then 1 else 0)
 let DH : List Rw := [.av,.call 0 0 [0]] ++ rp p.m .av
 have l1 : ∀ r,(rp p.m r).length <= 1 := fun r => vY
 have l2 := wZ p.x
 have l3 : (bT p.a).length <= 8 := by rw [iJ]; have := Z.ha; omega
 have lo := l1 .av
 have ls := l1 .gg
 have e1 : ev (aa ah (k + 1)) (.op .mod true (.op .fdiv true (.v 0) (.k (.int 13))) (.k (.int 2))) [some (.int n),none,none,none,none,none] M = .ok m1 M := by
  show _ = R.ok (D.int (if p.m then 1 else 0)) M
  rw [<- Z.m]; rfl
 have rO : ∀ (M1 : MH) b c d e, ev (aa ah (k + 1)) (.op .mul true (.lst true (.cons (.tup (.cons (.k (.str (w "open"))) .nil)) .nil)) (.v 1)) [some (.int n), some m1, b, c, d, e] M1 = .ok (dR (rp p.m .av)) M1 := fun M1 b c d e => tu (xs := [.av]) rfl rfl
 have rS : ∀ (M1 : MH) b c d e, ev (aa ah (k + 1)) (.op .mul true (.lst true (.cons (.tup (.cons (.k (.str (w "shut"))) .nil)) .nil)) (.v 1)) [some (.int n), some m1, b, c, d, e] M1 = .ok (dR (rp p.m .gg)) M1 := fun M1 b c d e => tu (xs := [.gg]) rfl rfl
 have e2 := nu (Φ := aa ah (k + 1)) (M1 := M) (σ := [some (.int n), some m1, none, none, none, none]) (e := .lst true (.cons (.tup (.cons (.k (.str (w "open"))) .nil)) (.cons (.tup (.cons (.k (.str (w "call"))) (.cons (.k (.int 0)) (.cons (.k (.int 0)) (.cons (.tup (.cons (.k (.int 0)) .nil)) .nil))))) .nil))) (x := dR [.av, .call 0 0 [0]]) (xs := [.av, .call 0 0 [0]]) rfl rfl (rO M none none none none) (by simp only [List.length_cons, List.length_nil]; omega)
 let M1 : MH := M ++ [.lst (DH.map Rw.d)]
 have g1' : M1[M.length]? = some (.lst (DH.map Rw.d)) := by simp [M1]
 let KU : D := .lst [dR (gv 0),dR (gv 1)]
 let idl : D := .lst [dR (gv 2),dR (gv 3)]
 have e3 : ev (aa ah (k + 1)) (.lst true (.cons (.lst true (.cons (.tup (.cons (.k (.str (w "number"))) (.cons (.k (.int 1)) .nil))) (.cons (.tup (.cons (.k (.str (w "number"))) (.cons (.k (.int 2)) .nil))) (.cons (.tup (.cons (.k (.str (w "pair"))) (.cons (.k (.int 0)) .nil))) (.cons (.tup (.cons (.k (.str (w "first"))) .nil)) .nil))))) (.cons (.lst true (.cons (.tup (.cons (.k (.str (w "number"))) (.cons (.k (.int 1)) .nil))) (.cons (.tup (.cons (.k (.str (w "nil"))) .nil)) (.cons (.tup (.cons (.k (.str (w "cons"))) (.cons (.k (.int 0)) .nil))) (.cons (.tup (.cons (.k (.str (w "none"))) .nil)) .nil))))) .nil))) [some (.int n), some m1, some (.ref M.length), none, none, none] M1 = .ok KU M1 := rfl
 have e4 : ev (aa ah (k + 1)) (.lst true (.cons (.lst true (.cons (.tup (.cons (.k (.str (w "number"))) (.cons (.k (.int 3)) .nil))) .nil)) (.cons (.lst true (.cons (.tup (.cons (.k (.str (w "nil"))) .nil)) (.cons (.tup (.cons (.k (.str (w "none"))) .nil)) .nil))) .nil))) [some (.int n), some m1, some (.ref M.length), some KU, none, none] M1 = .ok idl M1 := rfl
 let σ5 : Sg := [some (.int n),some m1,some (.ref M.length),some KU,some idl,none]
 have ei : ev (aa ah (k + 1)) (.idx (.op .add true (.v 3) (.v 4)) (.op .mod true (.v 0) (.k (.int 4)))) σ5 M1 = .ok (dR (gv p.x)) M1 := by
  have ea : ev (aa ah (k + 1)) (.op .add true (.v 3) (.v 4)) σ5 M1 = .ok (.lst [dR (gv 0),dR (gv 1),dR (gv 2),dR (gv 3)]) M1 := rfl
  have em : ev (aa ah (k + 1)) (.op .mod true (.v 0) (.k (.int 4))) σ5 M1 = .ok (.int p.x) M1 := by rw [<- Z.x]; rfl
  refine lO ea em (cE ?_)
  match p.x,Z.hx with
  | 0,_ => rfl
  | 1,_ => rfl
  | 2,_ => rfl
  | 3,_ => rfl
 have e5 := nu (Φ := aa ah (k + 1)) (M1 := M1) (σ := σ5) (e' := .lst true (.cons (.tup (.cons (.k (.str (w "back"))) .nil)) .nil)) (ys := [.back]) (bQ (fz := true) (bQ (fz := true) (rq (e := .v 2) (e' := .lst true (.cons (.tup (.cons (.k (.str (w "keep"))) .nil)) .nil)) (ys := [.keep]) rfl g1' rfl (by simp only [DH, List.length_append, List.length_cons, List.length_nil]; omega)) ei (by simp only [DH, List.length_append, List.length_cons, List.length_nil]; omega)) (rS M1 _ _ _ _) (by simp only [DH, List.length_append, List.length_cons, List.length_nil]; omega)) rfl rfl (by simp only [DH, List.length_append, List.length_cons, List.length_nil]; omega)
 let M2 : MH := M1 ++ [.lst ((aM p 0).map Rw.d)]
 have g2' : M2[M1.length]? = some (.lst ((aM p 0).map Rw.d)) := by simp [M2]
 let σ6 : Option D -> Sg := fun q => [some (.int n),some m1,some (.ref M1.length),some KU,some idl,q]
 have ar : ∀ q,ev (aa ah (k + 1)) (.call 25 (.cons (.op .fdiv true (.v 0) (.k (.int 4))) .nil)) (σ6 q) M2 = .ok (dR (bT p.a)) M2 := fun q => (aT (d := .int (n / 4)) rfl).trans (kJ Z.a Z.ha)
 have e6 := bQ (fz := true) (ar none) (e' := .lst true (.cons (.tup (.cons (.k (.str (w "shut"))) .nil)) (.cons (.tup (.cons (.k (.str (w "number"))) (.cons (.k (.int 9)) .nil))) (.cons (.tup (.cons (.k (.str (w "back"))) .nil)) .nil)))) (ys := [.gg, .num 9, .back]) rfl (by simp only [List.length_cons, List.length_nil]; omega)
 have e7 : ev (aa ah (k + 1)) (.cmp .eq (.op .mod true (.op .fdiv true (.v 0) (.k (.int 16))) (.k (.int 2))) (.k (.int 1))) (σ6 (some (dR (bT p.a ++ [.gg,.num 9,.back])))) M2 = .ok (.bl p.s) M2 := iF (a := n / 16 % 2) rfl rfl Z.s
 have e8 := bQ (fz := true) (ar (some (dR (bT p.a ++ [.gg, .num 9, .back])))) (e' := .lst true (.cons (.tup (.cons (.k (.str (w "number"))) (.cons (.k (.int 1)) .nil))) (.cons (.tup (.cons (.k (.str (w "number"))) (.cons (.k (.int 2)) .nil))) (.cons (.tup (.cons (.k (.str (w "pair"))) (.cons (.k (.int 0)) .nil))) (.cons (.tup (.cons (.k (.str (w "shut"))) .nil)) (.cons (.tup (.cons (.k (.str (w "back"))) .nil)) .nil)))))) (ys := [.num 1, .num 2, .lay false 0, .gg, .back]) rfl (by simp only [List.length_cons, List.length_nil]; omega)
 have lf : (aM p 0).length <= 20 := by simp only [aM,List.length_append,List.length_cons,List.length_nil]; omega
 have l0 : 1 < (aM p 0).length := by simp only [aM,List.length_append,List.length_cons,List.length_nil]; omega
 have fin : ∀ q : List Rw, q = uq p -> q.length <= 20 -> exs (aa ah (k + 1)) (.cons (.kP (.v 2) (.k (.int 1)) (.tup (.cons (.k (.str (w "call"))) (.cons (.blt .len true (.cons (.v 2) .nil)) (.cons (.k (.int 0)) (.cons (.tup (.cons (.k (.int 0)) .nil)) .nil)))))) (.cons (.ret (.tup (.cons (.op .add true (.v 2) (.v 5)) (.cons (.k (.int 0)) (.cons (.k (.int 0)) .nil))))) .nil)) (σ6 (some (dR q))) M2 = .ok (.rt (.tup [dR (j4 p), .int (0 : Nat), .int (0 : Nat)])) (M2.set M1.length (.lst ((aM p (aM p 0).length).map Rw.d))) := fun q hq hl => by
  have q1 : ev (aa ah (k + 1)) (.tup (.cons (.k (.str (w "call"))) (.cons (.blt .len true (.cons (.v 2) .nil)) (.cons (.k (.int 0)) (.cons (.tup (.cons (.k (.int 0)) .nil)) .nil))))) (σ6 (some (dR q))) M2 = .ok (Rw.d (.call (aM p 0).length 0 [0])) M2 := by
   have ql : ev (aa ah (k + 1)) (.blt .len true (.cons (.v 2) .nil)) (σ6 (some (dR q))) M2 = .ok (.int (aM p 0).length) M2 := by
    rw [e_len rfl g2',List.length_map]
   rw [gG,au,yj,R.af,au,ql]; rfl
  have q2 := qj (Φ := aa ah (k + 1)) (a := .v 2) (b := .k (.int 1)) (j := 1) (ss := .cons (.ret (.tup (.cons (.op .add true (.v 2) (.v 5)) (.cons (.k (.int 0)) (.cons (.k (.int 0)) .nil))))) .nil) q1 rfl rfl g2' (by rw [List.length_map]; exact l0)
  have qs : ((aM p 0).map Rw.d).set 1 (Rw.d (.call (aM p 0).length 0 [0])) = (aM p (aM p 0).length).map Rw.d := rfl
  rw [qs] at q2
  have g3 : (M2.set M1.length (.lst ((aM p (aM p 0).length).map Rw.d)))[M1.length]? = some (.lst ((aM p (aM p 0).length).map Rw.d)) := fQ g2'
  have l5 : (aM p (aM p 0).length).length = (aM p 0).length := rfl
  have q3 := rq (Φ := aa ah (k + 1)) (σ := σ6 (some (dR q))) (e := .v 2) (e' := .v 5) (ys := q) rfl g3 rfl (by rw [l5]; omega)
  rw [q2]
  refine aR ?_
  rw [gG,au,q3,hq]; rfl
 have tk : ∀ o : MO,(M2.set M1.length o).take M.length = M := fun o => by
  have : M2.set M1.length o = M ++ [.lst (DH.map Rw.d),o] := by
   show (M1 ++ [_]).set M1.length o = _
   rw [List.set_append_right _ _ (Nat.le_refl _),Nat.sub_self]
   simp [M1]
  rw [this]; simp
 have nn : nr M.length (.tup [dR (j4 p),.int (0 : Nat),.int (0 : Nat)]) = true := by
  have := mz (rs := j4 p) (m := M.length)
  simp [nr,fc,this]
 cases hs : p.s with
 | true =>
  rw [hs] at e7
  have hq : bT p.a ++ [.num 1,.num 2,.lay false 0,.gg,.back] = uq p := by rw [uq,hs]; rfl
  exact aO IY rfl ((ao e1).trans ((ao e2).trans ((ao e3).trans ((ao e4).trans ((ao e5).trans ((ao e6).trans ((gS e7 ((ao e8).trans rfl)).trans (fin _ hq (by simp only [List.length_append,List.length_cons,List.length_nil]; omega)))))))))  (cJ nn (tk _))
 | false =>
  rw [hs] at e7
  have hq : bT p.a ++ [.gg,.num 9,.back] = uq p := by rw [uq,hs]; rfl
  exact aO IY rfl ((ao e1).trans ((ao e2).trans ((ao e3).trans ((ao e4).trans ((ao e5).trans ((ao e6).trans ((bG e7).trans (fin _ hq (by simp only [List.length_append,List.length_cons,List.length_nil]; omega))))))))) (cJ nn (tk _))
theorem yI {p : Pb} (Z : Rp_ n p) : (aa ah (k + 9)).call 32 [.int n] M = .ok (.bl true) M := by
 have rc : uh (go (j4 p) 200 60 (ms1 0 [] 0)) = zL p := by
  refine List.map_inj_left.mp Hz p ?_
  obtain ⟨x,m,a,s⟩ := p
  simp only [yx,List.mem_flatMap,List.mem_range]
  exact ⟨x,Z.hx,m,by cases m <;> simp,a,Z.ha,s,by cases s <;> simp,List.mem_singleton.mpr rfl⟩
 have eo : ev (aa ah (k + 8)) (.call 23 (.cons (.call 30 (.cons (.v 0) .nil)) .nil)) [some (.int n),none] M = (aa ah (k + 8)).call 23 [.tup [.lst ((j4 p).map Rw.d),.int (0 : Nat),.int (0 : Nat)]] M := aT ((aT rfl).trans (BH (k := k + 6) Z))
 have em : ∀ (M1 : MH) (f : Option D),ev (aa ah (k + 8)) (.op .mod true (.v 0) (.k (.int 4))) [some (.int n),f] M1 = .ok (.int p.x) M1 := fun M1 f => by rw [<- Z.x]; rfl
 by_cases h2 : p.x < 2
 ·rw [zL,if_pos h2] at rc
  have hx := vW (M0 := M) (most := 200) (k := k) (N := 60) (o := 0) (b := 0) (kn := []) (by decide) (fun v h => by cases h) (Cj rc (by decide) (by decide) (by decide)) (by decide)
  have e1 := eo.trans (sA (.inl rfl) hx)
  have e2 : ev (aa ah (k + 8)) (.cmp .lt (.op .mod true (.v 0) (.k (.int 4))) (.k (.int 2))) [some (.int n),some (.tup [.str (rW 5),.ak])] M = .ok (.bl true) M := pD (em _ _) rfl (decide_eq_true (by omega))
  have e4 : ev (aa ah (k + 8)) (.cmp .eq (.v 1) (.tup (.cons (.k (.str (w "gone"))) (.cons (.k .ak) .nil)))) [some (.int n), some (.tup [.str (rW 5), .ak])] M = .ok (.bl true) M := pG (x := .tup [.str (rW 5), .ak]) (y := .tup [.str (w "gone"), .ak]) rfl rfl rfl rfl (by decide +kernel) (by decide +kernel)
  exact aO IW rfl ((ao e1).trans (ja e2 (aR e4))) (ay (by simp [nr]) rfl)
 ·rw [zL,if_neg h2] at rc
  obtain ⟨s,e1,e2,e3,e4,_⟩ := qc rc (by simp)
  let vl : Int := if p.x = 2 then 3 else 1
  obtain ⟨x,r1,r2⟩ := qm (M0 := M) (most := 200) (k := k) (N := 60) (p := []) (o := 0) (b := 0) (y := .int vl) (by decide) (fun v h => by cases h) e1 (by decide) e2 Df (by decide) (Nat.lt_trans e3 (by decide)) (Nat.zero_le _) (Nat.lt_trans e4 (by decide)) (fun M => jU) fun m => by simp [nr]
  have f1 := eo.trans (qp r1 iO (Nat.le_add_right _ _))
  let fd : D := .tup [.str (w ""), .tup [.int vl, .ref (M.length + 4)]]
  have f2 : ev (aa ah (k + 8)) (.cmp .lt (.op .mod true (.v 0) (.k (.int 4))) (.k (.int 2))) [some (.int n),some fd] (x.h M) = .ok (.bl false) (x.h M) := pD (em _ _) rfl (decide_eq_false (by omega))
  have q1 : ev (aa ah (k + 8)) (.cmp .eq (.idx (.v 1) (.k (.int 0))) (.k (.str (w "")))) [some (.int n), some fd] (x.h M) = .ok (.bl true) (x.h M) := bA (aK rfl rfl bB) (by decide +kernel)
  have q2 : ev (aa ah (k + 8)) (.idx (.lst true (.cons (.k (.int 3)) (.cons (.k (.int 1)) .nil))) (.op .sub true (.op .mod true (.v 0) (.k (.int 4))) (.k (.int 2)))) [some (.int n),some fd] (x.h M) = .ok (.int vl) (x.h M) := by
   have hs := yp (fz := true) (em (x.h M) (some fd)) (e' := .k (.int 2)) (b := 2) rfl
   obtain ⟨j,hj⟩ : ∃ j,p.x = j + 2 := ⟨p.x - 2,by omega⟩
   have hj2 : j < 2 := by have := Z.hx; omega
   rw [hj,show ((j + 2 : Nat) : Int) - 2 = (j : Int) by omega] at hs
   refine lO (xs := [.int 3,.int 1]) rfl hs (cE ?_)
   show _ = some (D.int (if p.x = 2 then 3 else 1))
   rw [hj]
   match j,hj2 with
   | 0,_ => rfl
   | 1,_ => rfl
  have q3 : ev (aa ah (k + 8)) (.cmp .eq (.idx (.idx (.v 1) (.k (.int 1))) (.k (.int 0))) (.idx (.lst true (.cons (.k (.int 3)) (.cons (.k (.int 1)) .nil))) (.op .sub true (.op .mod true (.v 0) (.k (.int 4))) (.k (.int 2))))) [some (.int n),some fd] (x.h M) = .ok (.bl true) (x.h M) := iF (a := vl) (b := vl) (aK (aK rfl rfl gq) rfl bB) q2 (decide_eq_true rfl)
  have f3 : ev (aa ah (k + 8)) (.and (.cmp .eq (.idx (.v 1) (.k (.int 0))) (.k (.str (w "")))) (.cmp .eq (.idx (.idx (.v 1) (.k (.int 1))) (.k (.int 0))) (.idx (.lst true (.cons (.k (.int 3)) (.cons (.k (.int 1)) .nil))) (.op .sub true (.op .mod true (.v 0) (.k (.int 4))) (.k (.int 2)))))) [some (.int n), some fd] (x.h M) = .ok (.bl true) (x.h M) := by
   rw [iZ,q1]; exact q3
  exact aO IW rfl ((ao f1).trans ((bG f2).trans (aR f3))) (cJ (by simp [nr]) iO)
end
end bR
end
section
set_option autoImplicit false
namespace bR
open Fg PySem
section
variable {M : MH} {k : Nat} {n v : Int} {Φ : aQ} {σ : Sg}
theorem yH {pr : Bool} (hp : decide (n % 2 = 0) = pr) (hv : n / 2 % 90 = v) : (aa ah (k + 9)).call 33 [.int n] M = .ok (.bl true) M := by
 have hb : pr ∈ [true,false] := by cases pr <;> simp
 have rw1 := List.map_inj_left.mp (Hy v) pr hb
 have rw2 := List.map_inj_left.mp (DG v) pr hb
 simp only [Prod.mk.injEq] at rw1
 let σ : Option D -> Option D -> Option D -> Option D -> Option D -> Sg := fun a b c d e => [some (.int n),a,b,c,d,e]
 have e1 : ev (aa ah (k + 8)) (.call 24 (.cons (.v 0) (.cons (.k (.int 1)) .nil))) (σ none none none none none) M = .ok (dR (fL pr v 1)) M := by
  rw [fT,ng (x := .int n) rfl rfl]
  exact tR (i := 1) hp hv
 have e2 := bQ (fz := true) (bQ (fz := true) (Φ := aa ah (k + 8)) (M := M) (σ := σ (some (dR (fL pr v 1))) none none none none) (e := .lst true (.cons (.tup (.cons (.k (.str (w "open"))) .nil)) .nil)) (e' := .v 1) (xs := [.av]) (ys := fL pr v 1) rfl rfl (by rw [dM]; decide)) (e' := .lst true (.cons (.tup (.cons (.k (.str (w "number"))) (.cons (.k (.int 5)) .nil))) (.cons (.tup (.cons (.k (.str (w "pair"))) (.cons (.k (.int 0)) .nil))) (.cons (.tup (.cons (.k (.str (w "shut"))) .nil)) .nil)))) (ys := [.num 5, .lay false 0, .gg]) rfl (by rw [List.length_append, dM]; decide)
 have lW : (jb pr v).length = 7 := by cases pr <;> rfl
 let σ2 : Option D -> Option D -> Option D -> Sg := fun c d e => σ (some (dR (fL pr v 1))) (some (dR (jb pr v))) c d e
 have b1 : ev (aa ah (k + 8)) (.op .add true (.v 2) (.lst true (.cons (.tup (.cons (.k (.str (w "back"))) .nil)) .nil))) (σ2 none none none) M = .ok (dR (jb pr v ++ [Rw.back])) M := bQ (fz := true) rfl rfl (by rw [lW]; decide)
 have hx : (aa ah (k + 7)).call 7 [.tup [.lst ((jb pr v ++ [Rw.back]).map Rw.d),.int (0 : Nat),.int (1 : Nat)],.lst [],.int 200] M = .exc 5 M := by
  obtain ⟨s,g1,g2,g3,g4,_⟩ := qc rw1.1 (by simp)
  have ho : s.av = [true,false] := by have := rw1.2; rw [g1] at this; exact this
  have wa : Wa s.av (outD pr v) 5 false := by
   rw [ho]
   exact Wa.cell (o := true) (b1 := false) (b2 := true) (n1 := 3) (n2 := 1) rfl (CZ rfl) (.int 5)
  exact vX (k := k) (N := 60) (p := []) (by decide) (fun v h => by cases h) g1 (by decide) g2 wa (by decide) (Nat.lt_trans g3 (by decide))
 have f1 := (pM (Φ := aa ah (k + 8)) (M := M) (b := 0) (o := 1) b1).trans (sA (.inl rfl) hx)
 have e3 : ex (aa ah (k + 8)) (.Dh [3, 4] (.call 23 (.cons (.tup (.cons (.op .add true (.v 2) (.lst true (.cons (.tup (.cons (.k (.str (w "back"))) .nil)) .nil))) (.cons (.k (.int 0)) (.cons (.k (.int 1)) .nil)))) .nil))) (σ2 none none none) M = .ok (.nx (σ2 (some (.str (rW 5))) (some .ak) none)) M := by
  have f1' : ev (aa ah (k + 8)) (.call 23 (.cons (.tup (.cons (.op .add true (.v 2) (.lst true (.cons (.tup (.cons (.k (.str (w "back"))) .nil)) .nil))) (.cons (.k (.int 0)) (.cons (.k (.int 1)) .nil)))) .nil)) (σ2 none none none) M = .ok (.tup [.str (rW 5), .ak]) M := f1
  rw [FU,f1']; rfl
 have b2 : ev (aa ah (k + 8)) (.op .add true (.v 2) (.lst true (.cons (.tup (.cons (.k (.str (w "second"))) .nil)) (.cons (.tup (.cons (.k (.str (w "back"))) .nil)) .nil)))) (σ2 (some (.str (rW 5))) (some .ak) none) M = .ok (dR (jb pr v ++ [Rw.look false true, .back])) M := bQ (fz := true) rfl rfl (by rw [lW]; decide)
 obtain ⟨s,g1,g2,g3,g4,g5⟩ := qc rw2 (by simp)
 have hoo : 1 <= s.av.length := by
  cases ho : s.av with
  | nil => rw [ho] at g5; cases g5
  | cons _ _ => simp
 obtain ⟨x,r1,r2⟩ := qm (M0 := M) (most := 200) (k := k) (N := 60) (p := []) (o := 1) (b := 0) (y := .int 5) (by decide) (fun v h => by cases h) g1 (by decide) g2 Df (by decide) (Nat.lt_trans g3 (by decide)) hoo (Nat.lt_trans g4 (by decide)) (fun M => jU) fun m => by simp [nr]
 have f2 := (pM (Φ := aa ah (k + 8)) (M := M) (b := 0) (o := 1) b2).trans (qp r1 iO (Nat.le_add_right _ _))
 let fd : D := .tup [.str (w ""), .tup [.int 5, .ref (M.length + 4)]]
 have q1 : ev (aa ah (k + 8)) (.cmp .eq (.v 3) (.k (.str (w "gone")))) (σ2 (some (.str (rW 5))) (some .ak) (some fd)) (x.h M) = .ok (.bl true) (x.h M) := bA rfl (by decide +kernel)
 have q2 : ev (aa ah (k + 8)) (.cmp .eq (.idx (.v 5) (.k (.int 0))) (.k (.str (w "")))) (σ2 (some (.str (rW 5))) (some .ak) (some fd)) (x.h M) = .ok (.bl true) (x.h M) := bA (aK rfl rfl bB) (by decide +kernel)
 have q3 : ev (aa ah (k + 8)) (.cmp .eq (.idx (.idx (.v 5) (.k (.int 1))) (.k (.int 0))) (.k (.int 5))) (σ2 (some (.str (rW 5))) (some .ak) (some fd)) (x.h M) = .ok (.bl true) (x.h M) := iF (a := 5) (aK (aK rfl rfl gq) rfl bB) rfl rfl
 have f3 : ev (aa ah (k + 8)) (.and (.cmp .eq (.v 3) (.k (.str (w "gone")))) (.and (.cmp .eq (.idx (.v 5) (.k (.int 0))) (.k (.str (w "")))) (.cmp .eq (.idx (.idx (.v 5) (.k (.int 1))) (.k (.int 0))) (.k (.int 5))))) (σ2 (some (.str (rW 5))) (some .ak) (some fd)) (x.h M) = .ok (.bl true) (x.h M) := by
  rw [iZ,q1,R.af]
  show ev (aa ah (k + 8)) (.and _ _) _ _ = _
  rw [iZ,q2]; exact q3
 exact aO fn33 rfl ((ao e1).trans ((ao e2).trans ((bY e3).trans ((ao f2).trans (aR f3))))) (cJ (by simp [nr]) iO)
noncomputable def gB : Ss := .cons (.set 2 (.op .add false (.v 2) (.lst true (.cons (.tup (.cons (.k (.str (w "keep"))) .nil)) (.cons (.tup (.cons (.k (.str (w "local"))) (.cons (.v 3) .nil))) (.cons (.tup (.cons (.k (.str (w "local"))) (.cons (.v 3) .nil))) (.cons (.tup (.cons (.k (.str (w "pair"))) (.cons (.k (.int 0)) .nil))) .nil))))))) .nil
theorem gr : ∀ j,(bu j).length = 4 * j
 | 0 => rfl
 | j + 1 => by rw [bu,List.length_append,gr j]; simp; omega
theorem xY {a b : Option D} {ch : MH -> Bool} (hch : ∀ M,ch M = true) : ∀ (c j : Nat) (M1 : MH) (r : Nat) (y : Option D),c + j <= 100 -> M.length <= r -> r < M1.length -> M1[r]? = some (.lst (([Rw.av,Rw.nil] ++ bu j).map Rw.d)) -> M1.take M.length = M ->
  ∃ (M2 : MH) (r' : Nat) (y' : Option D),b6 (exs Φ gB) [3] ch ((List.range' j c).map fun (i : Nat) => D.int i) [a,b,some (.ref r),y] M1 = .ok (.nx [a,b,some (.ref r'),y']) M2 /\ M.length <= r' /\ r' < M2.length /\ M2[r']? = some (.lst (([Rw.av,Rw.nil] ++ bu (j + c)).map Rw.d)) /\ M2.take M.length = M
 | 0,j,M1,r,y,_,h1,h2,h3,h4 => ⟨M1,r,y,rfl,h1,h2,h3,h4⟩
 | c + 1,j,M1,r,y,hc,h1,h2,h3,h4 => by
  have e := nu (Φ := Φ) (M1 := M1) (σ := [a, b, some (.ref r), some (.int j)]) (e := .v 2) (e' := .lst true (.cons (.tup (.cons (.k (.str (w "keep"))) .nil)) (.cons (.tup (.cons (.k (.str (w "local"))) (.cons (.v 3) .nil))) (.cons (.tup (.cons (.k (.str (w "local"))) (.cons (.v 3) .nil))) (.cons (.tup (.cons (.k (.str (w "pair"))) (.cons (.k (.int 0)) .nil))) .nil))))) (x := .ref r) (xs := [Rw.av, Rw.nil] ++ bu j) (ys := [.keep, .loc j, .loc j, .lay false 0]) rfl (by simp only [vw, h3]) rfl (by rw [List.length_append, gr]; simp only [List.length_cons, List.length_nil]; omega)
  have eb : exs Φ gB [a,b,some (.ref r),some (.int j)] M1 = .ok (.nx [a,b,some (.ref M1.length),some (.int j)]) (M1 ++ [.lst (([Rw.av,Rw.nil] ++ bu (j + 1)).map Rw.d)]) := by
   have eq : [Rw.av,.nil] ++ bu j ++ [.keep,.loc j,.loc j,.lay false 0] = [Rw.av,Rw.nil] ++ bu (j + 1) := by rw [bu,List.append_assoc]
   rw [eq] at e
   exact (ao e).trans rfl
  have hM : M.length <= M1.length := Nat.le_trans h1 (Nat.le_of_lt h2)
  obtain ⟨M2,r',y',q1,q2,q3,q4,q5⟩ := xY hch c (j + 1) (M1 ++ [.lst (([Rw.av,Rw.nil] ++ bu (j + 1)).map Rw.d)]) M1.length (some (.int j)) (by omega) hM (by simp) (by simp) (by rw [List.take_append_of_le_length hM]; exact h4)
  refine ⟨M2,r',y',?_,q2,q3,by rw [show j + (c + 1) = j + 1 + c by omega]; exact q4,q5⟩
  rw [List.range'_succ,List.map_cons,b6]
  show (exs Φ gB [a,b,some (.ref r),some (.int j)] M1).bind _ = _
  rw [eb]
  simp only [R.af,hch,if_true]
  exact q1
theorem BN {q : Nat} (hq : n % 2 = q) (h2 : q < 2) : (aa ah (k + 9)).call 34 [.int n] M = .ok (.bl true) M := by
 have rg := List.map_inj_left.mp HA q (by match q,h2 with | 0,_ => simp | 1,_ => simp)
 let m : Nat := 7 + q
 have em : ∀ (M1 : MH) x y z,ev (aa ah (k + 8)) (.op .mod true (.v 0) (.k (.int 2))) [some (.int n),x,y,z] M1 = .ok (.int q) M1 := fun M1 x y z => by rw [<- hq]; rfl
 have e1 : ev (aa ah (k + 8)) (.op .add true (.k (.int 7)) (.op .mod true (.v 0) (.k (.int 2)))) [some (.int n),none,none,none] M = .ok (.int m) M := by
  rw [kH (a := 7) (b := q) rfl (em _ _ _ _)]
  show R.ok (D.int (7 + (q : Int))) M = R.ok (D.int ((7 + q : Nat) : Int)) M
  rw [Int.natCast_add]; rfl
 have e2 : ev (aa ah (k + 8)) (.lst false (.cons (.tup (.cons (.k (.str (w "open"))) .nil)) (.cons (.tup (.cons (.k (.str (w "nil"))) .nil)) .nil))) [some (.int n), some (.int m), none, none] M = .ok (.ref M.length) (M ++ [.lst (([Rw.av, Rw.nil] ++ bu 0).map Rw.d)]) := rfl
 obtain ⟨M2,r,y,g1,g2,g3,g4,g5⟩ := xY (Φ := aa ah (k + 8)) (M := M) (a := some (.int n)) (b := some (.int m)) (ch := aP (M ++ [.lst (([Rw.av,Rw.nil] ++ bu 0).map Rw.d)]) .ak) (fun _ => rfl) m 0 (M ++ [.lst (([Rw.av,Rw.nil] ++ bu 0).map Rw.d)]) M.length none (by omega) (Nat.le_refl _) (by simp) (by simp) (by simp)
 rw [Nat.zero_add] at g4
 have e3 : ex (aa ah (k + 8)) (.for [3] (.gK (.v 1)) gB) [some (.int n),some (.int m),some (.ref M.length),none] (M ++ [.lst (([Rw.av,Rw.nil] ++ bu 0).map Rw.d)]) = .ok (.nx [some (.int n),some (.int m),some (.ref r),y]) M2 := by
  rw [qY,yr (n := m) rfl (by omega)]
  show (b6 _ _ _ (eS 0 (m : Int)) _ _).fin (c6 false .ak) = _
  have er : eS 0 (m : Int) = (List.range' 0 m).map fun (i : Nat) => D.int i := by
   simp [eS,List.range_eq_range']
  rw [lI,er]; exact g1
 have lp := gr m
 let qo : List Rw := jE m 0
 have e4 := nu (Φ := aa ah (k + 8)) (M1 := M2) (σ := [some (.int n), some (.int m), some (.ref r), y]) (e := .v 2) (e' := .lst true (.cons (.tup (.cons (.k (.str (w "keep"))) .nil)) (.cons (.tup (.cons (.k (.str (w "call"))) (.cons (.k (.int 0)) (.cons (.k (.int 0)) (.cons (.tup (.cons (.k (.int 1)) .nil)) .nil))))) (.cons (.tup (.cons (.k (.str (w "keep"))) .nil)) (.cons (.tup (.cons (.k (.str (w "local"))) (.cons (.v 1) .nil))) (.cons (.tup (.cons (.k (.str (w "local"))) (.cons (.v 1) .nil))) (.cons (.tup (.cons (.k (.str (w "pair"))) (.cons (.k (.int 1)) .nil))) (.cons (.tup (.cons (.k (.str (w "back"))) .nil)) .nil)))))))) (x := .ref r) (xs := [Rw.av, Rw.nil] ++ bu m) (ys := [.keep, .call 0 0 [1], .keep, .loc m, .loc m, .lay false 1, .back]) rfl (by simp only [vw, g4]) rfl (by rw [List.length_append, lp]; simp only [List.length_cons, List.length_nil]; omega)
 let M3 : MH := M2 ++ [.lst (qo.map Rw.d)]
 have g6 : M3[M2.length]? = some (.lst (qo.map Rw.d)) := by simp [M3]
 have l2 : qo.length = 4 * m + 9 := by simp only [qo,jE,List.length_append,lp,List.length_cons,List.length_nil]; omega
 have tM : M.length <= M2.length := Nat.le_trans g2 (Nat.le_of_lt g3)
 let σ3 : Sg := [some (.int n),some (.int m),some (.ref M2.length),y]
 have q1 : ev (aa ah (k + 8)) (.tup (.cons (.k (.str (w "call"))) (.cons (.blt .len true (.cons (.v 2) .nil)) (.cons (.k (.int 0)) (.cons (.tup (.cons (.k (.int 1)) .nil)) .nil))))) σ3 M3 = .ok (Rw.d (.call qo.length 0 [1])) M3 := by
  have ql : ev (aa ah (k + 8)) (.blt .len true (.cons (.v 2) .nil)) σ3 M3 = .ok (.int qo.length) M3 := by
   rw [e_len rfl g6,List.length_map]
  rw [gG,au,yj,R.af,au,ql]; rfl
 have qi : ev (aa ah (k + 8)) (.op .add true (.op .add true (.k (.int 2)) (.op .mul true (.k (.int 4)) (.v 1))) (.k (.int 1))) σ3 M3 = .ok (.int ((4 * m + 3 : Nat) : Int)) M3 := by
  have e : ev (aa ah (k + 8)) (.op .mul true (.k (.int 4)) (.v 1)) σ3 M3 = .ok (.int (4 * (m : Int))) M3 := rfl
  rw [kH (kH rfl e) rfl]
  congr 2
  omega
 have q2 := qj (Φ := aa ah (k + 8)) (a := .v 2) (b := .op .add true (.op .add true (.k (.int 2)) (.op .mul true (.k (.int 4)) (.v 1))) (.k (.int 1))) (j := 4 * m + 3) (ss := .cons (.ret (.cmp .eq (.call 23 (.cons (.tup (.cons (.op .add true (.v 2) (.lst true (.cons (.tup (.cons (.k (.str (w "shut"))) .nil)) (.cons (.tup (.cons (.k (.str (w "number"))) (.cons (.k (.int 9)) .nil))) (.cons (.tup (.cons (.k (.str (w "back"))) .nil)) .nil))))) (.cons (.k (.int 0)) (.cons (.k (.int 1)) .nil)))) .nil)) (.tup (.cons (.idx (.lst true (.cons (.k (.str (w "gone"))) (.cons (.k (.str (w "great"))) .nil))) (.op .mod true (.v 0) (.k (.int 2)))) (.cons (.k .ak) .nil))))) .nil) q1 rfl qi g6 (by rw [List.length_map, l2]; omega)
 have qs : (qo.map Rw.d).set (4 * m + 3) (Rw.d (.call qo.length 0 [1])) = (jE m qo.length).map Rw.d := by
  rw [<- List.map_set]
  congr 1
  simp only [qo,jE,List.append_assoc]
  rw [List.set_append_right _ _ (by simp only [List.length_cons,List.length_nil]; omega),List.set_append_right _ _ (by rw [lp]; simp only [List.length_cons,List.length_nil]; omega)]
  rw [lp,show 4 * m + 3 - [Rw.av,Rw.nil].length - 4 * m = 1 by simp only [List.length_cons,List.length_nil]; omega]
  rfl
 rw [qs] at q2
 let M4 : MH := M3.set M2.length (.lst ((jE m qo.length).map Rw.d))
 have g7 : M4[M2.length]? = some (.lst ((jE m qo.length).map Rw.d)) := fQ g6
 have tk : M4.take M.length = M := by
  have : M4 = M2 ++ [.lst ((jE m qo.length).map Rw.d)] := by
   show (M2 ++ [_]).set M2.length _ = _
   rw [List.set_append_right _ _ (Nat.le_refl _),Nat.sub_self]; rfl
  rw [this,List.take_append_of_le_length tM]; exact g5
 have l3 : (jE m qo.length).length = 4 * m + 9 := by simp only [jE,List.length_append,lp,List.length_cons,List.length_nil]; omega
 have q3 := rq (Φ := aa ah (k + 8)) (M1 := M4) (σ := σ3) (e := .v 2) (e' := .lst true (.cons (.tup (.cons (.k (.str (w "shut"))) .nil)) (.cons (.tup (.cons (.k (.str (w "number"))) (.cons (.k (.int 9)) .nil))) (.cons (.tup (.cons (.k (.str (w "back"))) .nil)) .nil)))) (ys := [.gg, .num 9, .back]) rfl g7 rfl (by rw [l3]; simp only [List.length_cons, List.length_nil]; omega)
 have hG : jE m qo.length ++ [.gg,.num 9,.back] = vZ (7 + q) := rfl
 rw [hG] at q3
 have hx : (aa ah (k + 7)).call 7 [.tup [.lst ((vZ (7 + q)).map Rw.d),.int (0 : Nat),.int (1 : Nat)],.lst [],.int 200] M4 = .exc (if q = 0 then 5 else 1) M4 := vW (k := k) (N := 90) (by decide) (fun v h => by cases h) (Cj rg (by split <;> decide) (by split <;> decide) (by split <;> decide)) (by decide)
 have f1 := (pM (Φ := aa ah (k + 8)) (M := M4) (b := 0) (o := 1) q3).trans (sA (by split <;> simp) hx)
 have f2 : ev (aa ah (k + 8)) (.tup (.cons (.idx (.lst true (.cons (.k (.str (w "gone"))) (.cons (.k (.str (w "great"))) .nil))) (.op .mod true (.v 0) (.k (.int 2)))) (.cons (.k .ak) .nil))) σ3 M4 = .ok (.tup [.str (rW (if q = 0 then 5 else 1)), .ak]) M4 := by
  have ei : ev (aa ah (k + 8)) (.idx (.lst true (.cons (.k (.str (w "gone"))) (.cons (.k (.str (w "great"))) .nil))) (.op .mod true (.v 0) (.k (.int 2)))) σ3 M4 = .ok (.str (rW (if q = 0 then 5 else 1))) M4 := by
   refine lO (xs := [.str (w "gone"), .str (w "great")]) rfl (em _ _ _ _) (cE ?_)
   match q,h2 with
   | 0,_ => rfl
   | 1,_ => rfl
  rw [gG,ng ei rfl]; rfl
 have f3 : ev (aa ah (k + 8)) (.cmp .eq (.call 23 (.cons (.tup (.cons (.op .add true (.v 2) (.lst true (.cons (.tup (.cons (.k (.str (w "shut"))) .nil)) (.cons (.tup (.cons (.k (.str (w "number"))) (.cons (.k (.int 9)) .nil))) (.cons (.tup (.cons (.k (.str (w "back"))) .nil)) .nil))))) (.cons (.k (.int 0)) (.cons (.k (.int 1)) .nil)))) .nil)) (.tup (.cons (.idx (.lst true (.cons (.k (.str (w "gone"))) (.cons (.k (.str (w "great"))) .nil))) (.op .mod true (.v 0) (.k (.int 2)))) (.cons (.k .ak) .nil)))) σ3 M4 = .ok (.bl true) M4 := pG f1 f2 rfl rfl (by simp [cS, Fg.plain, bD, dep, deps]) (by simp)
 exact aO fn34 rfl ((ao e1).trans ((ao e2).trans ((bY e3).trans ((ao e4).trans (q2.trans (aR f3)))))) (cJ (by simp [nr]) tk)
end
end bR
end
section
set_option autoImplicit false
namespace bR
open Fg PySem
noncomputable def mixed (c : Int) : Int := (c % 2147483647 + 11) * 48271 * 69621 % 2147483629
theorem wY (c : Int) : 0 <= mixed c := by unfold mixed; omega
section
variable {M : MH} {k : Nat} {n : Int}
theorem BI {c : Int} : (aa ah (k + 1)).call 22 [.int c] M = .ok (.int (mixed c)) M := by
 have e : ev (aa ah k) (.op .mod true (.op .mul true (.op .mul true (.op .add true (.op .mod true (.v 0) (.k (.int 2147483647))) (.k (.int 11))) (.k (.int 48271))) (.k (.int 69621))) (.k (.int 2147483629))) [some (.int c)] M = .ok (.int (mixed c)) M := by
  simp [uE,jx,small,mixed]
 exact aO fn22 rfl (aR e) (ay (by simp [nr]) rfl)
theorem qQ (h : 0 <= n) : (aa ah (k + 9)).call 31 [.int n] M = .ok (.bl true) M := by
 let c : Cb := ⟨(n / 5 % 4).toNat,(n / 7 % 4).toNat,(n / 11 % 5).toNat,decide (n / 20 % 2 = 0),decide (0 < n % 3) || decide (((n / 11 % 5).toNat : Int) = 4),decide (n / 13 % 2 = 1)⟩
 refine BL (c := c) (t := n % 3) (v := n / 20 / 2 % 90) ⟨?_,?_,rfl,rfl,?_,?_,?_,?_,rfl,rfl,?_⟩
 ·show n / 5 % 4 = ((n / 5 % 4).toNat : Int); omega
 ·show (n / 5 % 4).toNat < 4; omega
 ·show n / 7 % 4 = ((n / 7 % 4).toNat : Int); omega
 ·show (n / 7 % 4).toNat < 4; omega
 ·show n / 11 % 5 = ((n / 11 % 5).toNat : Int); omega
 ·show (n / 11 % 5).toNat < 5; omega
 ·show n / 13 % 2 = if decide (n / 13 % 2 = 1) = true then 1 else 0
  by_cases h1 : n / 13 % 2 = 1
  ·rw [if_pos (decide_eq_true h1)]; exact h1
  ·rw [if_neg (by simpa using h1)]; omega
theorem oO (h : 0 <= n) : (aa ah (k + 9)).call 32 [.int n] M = .ok (.bl true) M := by
 let p : Pb := ⟨(n % 4).toNat,decide (n / 13 % 2 = 1),(n / 4 % 4).toNat,decide (n / 16 % 2 = 1)⟩
 refine yI (p := p) ⟨?_,?_,?_,?_,?_,rfl⟩
 ·show n % 4 = ((n % 4).toNat : Int); omega
 ·show (n % 4).toNat < 4; omega
 ·show n / 13 % 2 = if decide (n / 13 % 2 = 1) = true then 1 else 0
  by_cases h1 : n / 13 % 2 = 1
  ·rw [if_pos (decide_eq_true h1)]; exact h1
  ·rw [if_neg (by simpa using h1)]; omega
 ·show n / 4 % 4 = ((n / 4 % 4).toNat : Int); omega
 ·show (n / 4 % 4).toNat < 4; omega
theorem nS : (aa ah (k + 9)).call 33 [.int n] M = .ok (.bl true) M := yH rfl rfl
theorem qS : (aa ah (k + 9)).call 34 [.int n] M = .ok (.bl true) M := BN (q := (n % 2).toNat) (by omega) (by omega)
noncomputable def A0 : Ss := .cons (.set 2 (.call 22 (.cons (.v 1) .nil))) (.cons (.ifs (.or (.not (.call 31 (.cons (.v 2) .nil))) (.or (.not (.call 32 (.cons (.op .fdiv true (.v 2) (.k (.int 3))) .nil))) (.not (.call 33 (.cons (.op .fdiv true (.v 2) (.k (.int 5))) .nil))))) (.cons (.ret (.k (.bl false))) .nil) .nil) (.cons (.ifs (.not (.call 34 (.cons (.op .fdiv true (.v 2) (.k (.int 7))) .nil))) (.cons (.ret (.k (.bl false))) .nil) .nil) .nil))
theorem AZ {a b : Option D} {c : Int} : exs (aa ah (k + 9)) A0 [a,some (.int c),b] M = .ok (.nx [a,some (.int c),some (.int (mixed c))]) M := by
 have m0 := wY c
 have e1 : ev (aa ah (k + 9)) (.call 22 (.cons (.v 1) .nil)) [a,some (.int c),b] M = .ok (.int (mixed c)) M := (aT rfl).trans (BI (k := k + 8))
 have n1 : ∀ {e : E} {σ : Sg},ev (aa ah (k + 9)) e σ M = .ok (.bl true) M -> ev (aa ah (k + 9)) (.not e) σ M = .ok (.bl false) M := fun {e σ} h => by rw [yh,h]; rfl
 have q1 : ev (aa ah (k + 9)) (.not (.call 31 (.cons (.v 2) .nil))) [a,some (.int c),some (.int (mixed c))] M = .ok (.bl false) M := n1 ((aT rfl).trans (qQ m0))
 have q2 : ev (aa ah (k + 9)) (.not (.call 32 (.cons (.op .fdiv true (.v 2) (.k (.int 3))) .nil))) [a,some (.int c),some (.int (mixed c))] M = .ok (.bl false) M := n1 ((aT (d := .int (mixed c / 3)) rfl).trans (oO (by omega)))
 have q3 : ev (aa ah (k + 9)) (.not (.call 33 (.cons (.op .fdiv true (.v 2) (.k (.int 5))) .nil))) [a,some (.int c),some (.int (mixed c))] M = .ok (.bl false) M := n1 ((aT (d := .int (mixed c / 5)) rfl).trans nS)
 have q4 : ev (aa ah (k + 9)) (.not (.call 34 (.cons (.op .fdiv true (.v 2) (.k (.int 7))) .nil))) [a,some (.int c),some (.int (mixed c))] M = .ok (.bl false) M := n1 ((aT (d := .int (mixed c / 7)) rfl).trans qS)
 have o : ∀ {e e' : E} {σ : Sg},ev (aa ah (k + 9)) e σ M = .ok (.bl false) M -> ev (aa ah (k + 9)) e' σ M = .ok (.bl false) M -> ev (aa ah (k + 9)) (.or e e') σ M = .ok (.bl false) M := fun {e e' σ} h h' => by rw [sY,h]; exact h'
 exact (ao e1).trans ((bG (o q1 (o q2 q3))).trans ((bG q4).trans rfl))
theorem oW {a : Option D} {ch : MH -> Bool} (hch : ∀ M,ch M = true) : ∀ (cs : List Int) (b e : Option D),∃ b' e',b6 (exs (aa ah (k + 9)) A0) [1] ch (cs.map D.int) [a,b,e] M = .ok (.nx [a,b',e']) M
 | [],b,e => ⟨b,e,rfl⟩
 | c :: cs,b,e => by
  obtain ⟨b',e',h⟩ := oW hch cs (some (.int c)) (some (.int (mixed c)))
  refine ⟨b',e',?_⟩
  rw [List.map_cons,b6]
  show (exs (aa ah (k + 9)) A0 [a,some (.int c),e] M).bind _ = _
  rw [AZ]
  simp only [R.af,hch,if_true]
  exact h
theorem xw (ns : List Int) (hl : ns.length <= 63) : ∃ M',(aa ah (k + 10)).call 35 [.lst (ns.map .int)] [] = .ok (.bl true) M' := by
 let cs : List Int := fY ns none (some 13) ++ [0]
 have ec : ev (aa ah (k + 9)) (.op .add true (.sl true (.v 0) .none (.some (.k (.int 13)))) (.lst true (.cons (.k (.int 0)) .nil))) [some (.lst (ns.map .int)),none,none] [] = .ok (.lst (cs.map D.int)) [] := by
  have e1 : ev (aa ah (k + 9)) (.sl true (.v 0) .none (.some (.k (.int 13)))) [some (.lst (ns.map .int)),none,none] [] = .ok (.lst ((fY ns none (some 13)).map D.int)) [] := by
   show R.ok (D.lst (fY (ns.map D.int) none (some 13))) [] = _
   congr 2
   simp only [fY,List.length_map,List.map_take,List.map_drop]
  have hlen : (fY ns none (some 13)).length <= 63 := by
   simp only [fY,List.length_take,List.length_drop]; omega
  rw [jo,e1,R.af]
  show (if decide (((fY ns none (some 13)).map D.int).length + [D.int 0].length <= line) then cK true ((fY ns none (some 13)).map D.int ++ [D.int 0]) [] else .bad) = _
  rw [if_pos (decide_eq_true (by rw [List.length_map]; exact Nat.le_trans (Nat.add_le_add_right hlen 1) (by decide)))]
  simp only [cs,List.map_append]; rfl
 obtain ⟨b,e,h⟩ := oW (k := k) (M := []) (a := some (.lst (ns.map .int))) (ch := aP [] (.lst (cs.map D.int))) (fun _ => rfl) cs none none
 have ef : ex (aa ah (k + 9)) (.for [1] (.e (.op .add true (.sl true (.v 0) .none (.some (.k (.int 13)))) (.lst true (.cons (.k (.int 0)) .nil)))) A0) [some (.lst (ns.map .int)),none,none] [] = .ok (.nx [some (.lst (ns.map .int)),b,e]) [] := by
  rw [qY,CP,ec]
  show (b6 _ _ _ (cs.map D.int) _ []).fin (c6 false _) = _
  rw [lI]; exact h
 exact ⟨[],aO fn35 rfl ((bY ef).trans (aR rfl)) (ay (by simp [nr]) rfl)⟩
end
end bR
end
section
set_option autoImplicit false
set_option maxHeartbeats 0
namespace bR
open Fg PySem PySem.Spec L2
theorem GV : tb.ok tb.gm ah = true := by decide +kernel
theorem JD {d : DefRec} (hd : d.params.defaults = []) (hx : d.name = ("law" : Str)) {XP : (Str -> Option Value) -> Heap -> Prop} : W.WalkO Kp hdL XP (tb.hook ah).says PySem.Challenge.rw_fieldgate_k44_gone.row.toRowW d [] (fun f vs => PySem.call f vs) :=
 tb.walk ah (l := PySem.Challenge.rw_fieldgate_k44_gone) (r := tb.fn[21]'(by decide)) (x := "_law_script") 9 rfl hd ⟨rfl, by decide, by decide⟩ GV (List.getElem_mem _) hx rfl rfl fun ns h => xw (k := 0) ns h
end bR
end
section
open PySem PySem.W PyProof.Rows
set_option maxRecDepth 100000 in
set_option maxHeartbeats 0 in
theorem PySem.Challenge.cw_fieldgate_k44_gone_holds : PySem.Challenge.rw_fieldgate_k44_gone.Holds := by
 w_on
 refine holds_law (by decide +kernel) fun said => ?_
 refine holds_open (XP := XL bR.Kp []) bR.lft (bR.tb.hook bR.ah).of (bR.tb.hook bR.ah).keeps
  (fun s e => xl_of s (Bool.and_eq_true_iff.mp e).1) XL.keeps (by rfl) (by rfl) (by rfl)
  (fun s e => recFacts_of (Bool.and_eq_true_iff.mp e).2) (by rfl) said (by decide +kernel)
  ⟨rfl,rfl,rfl,rfl,rfl,by decide +kernel⟩ ?hw (bR.JD rfl rfl)
 w_witness2
end
