import PyProof.Rows.All
import Wide.All
import OpenK.AllK
import Wide.FinOn
import Lean
import PyProof.EqAt
import PyProof.EqKinds
import PyProof.TupleCall
import PyProof.NeKinds
import PyProof.CompFree
import PyProof.ListRange
import PyProof.Rows.FStr
import PyProof.ConsumeWalk
import PyProof.ZipIter
import PyProof.TableCode
import PySem.Challenge.RW_fieldgate_k12_plain_pairs_and_lists
set_option maxRecDepth 100000
set_option linter.all false
set_option Elab.async false
section
namespace L2
open PySem
noncomputable def inClass (s:Stmt) (j:Nat):Stmt:=match s with
 | .ClassDef _ _ _ body _ _ _ _ _ _ _=>body.getD j (.Pass ⟨0,0,0,0⟩)
 | _=>.Pass ⟨0,0,0,0⟩
noncomputable def iP (s:Stmt):Arguments:=match s with
 | .FunctionDef _ a _ _ _ _ _ _ _ _=>a
 | _=>{ posonlyargs:=[],args:=[],vararg:=none,kwonlyargs:=[],kw_defaults:=[],kwarg:=none,defaults:=[] }
noncomputable def cg (s:Stmt):List Stmt:=match s with
 | .FunctionDef _ _ b _ _ _ _ _ _ _=>b
 | _=>[]
noncomputable def aD (s:Stmt):Scope:=match s with
 | .FunctionDef _ _ _ _ _ _ sc _ _ _=>sc
 | _=>{ kind:=.function,names:=[],isGenerator:=false,isCoroutine:=false }
end L2
end
section
namespace Fg
open PySem
abbrev Ky:=Sum Int Str
inductive D where
 | ao
 | bl (b:Bool)
 | int (i:Int)
 | str (x:Str)
 | tup (ds:List D)
 | lst (ds:List D)
 | dct (ks:List Ky) (ds:List D)
 | ref (n:Nat)
mutual
def same (a b:D):Bool:=match a with
 | .ao=>match b with | .ao=>true | _=>false
 | .bl x=>match b with | .bl y=>decide (x=y) | _=>false
 | .int x=>match b with | .int y=>decide (x=y) | _=>false
 | .str x=>match b with | .str y=>decide (x=y) | _=>false
 | .tup x=>match b with | .tup y=>fM x y | _=>false
 | .lst x=>match b with | .lst y=>fM x y | _=>false
 | .dct k x=>match b with | .dct l y=>decide (k=l)&&fM x y | _=>false
 | .ref x=>match b with | .ref y=>decide (x=y) | _=>false
def fM (a b:List D):Bool:=match a with
 | []=>match b with | []=>true | _=>false
 | x::xs=>match b with | y::ys=>same x y&&fM xs ys | _=>false
end
mutual
theorem tZ:∀ (a b:D),same a b=true->a=b
 | .ao,b,h=>by cases b <;> simp [same] at h ⊢
 | .bl x,b,h=>by cases b <;> simp [same] at h ⊢;exact h
 | .int x,b,h=>by cases b <;> simp [same] at h ⊢;exact h
 | .str x,b,h=>by cases b <;> simp [same] at h ⊢;exact h
 | .tup x,b,h=>by cases b <;> simp [same] at h ⊢;exact ir _ _ h
 | .lst x,b,h=>by cases b <;> simp [same] at h ⊢;exact ir _ _ h
 | .dct k x,b,h=>by cases b <;> simp [same] at h ⊢;exact ⟨h.1,ir _ _ h.2⟩
 | .ref x,b,h=>by cases b <;> simp [same] at h ⊢;exact h
theorem ir:∀ (a b:List D),fM a b=true->a=b
 | [],b,h=>by cases b <;> simp [fM] at h ⊢
 | x::xs,b,h=>by
  cases b with
  | nil=>simp [fM] at h
  | cons y ys=>simp only [fM,Bool.and_eq_true] at h;rw [tZ x y h.1,ir xs ys h.2]
end
mutual
theorem same_refl:∀ (a:D),same a a=true
 | .ao=>by simp [same]
 | .bl x=>by simp [same]
 | .int x=>by simp [same]
 | .str x=>by simp [same]
 | .tup x=>by simp only [same];exact eG x
 | .lst x=>by simp only [same];exact eG x
 | .dct k x=>by simp only [same,eG x];simp
 | .ref x=>by simp [same]
theorem eG:∀ (a:List D),fM a a=true
 | []=>by simp [fM]
 | x::xs=>by simp only [fM,same_refl x,eG xs,Bool.and_self]
end
instance:DecidableEq D:=fun a b=>decidable_of_iff (same a b=true) ⟨tZ a b,fun h=>h ▸ same_refl a⟩
inductive MO where
 | lst (ds:List D)
 | dct (kvs:List (Ky×D))
 | oX (kvs:List (Ky×D))
 | ins (c:Nat) (fs:List (Str×D))
 deriving DecidableEq
noncomputable abbrev MH:=List MO
noncomputable abbrev Sg:=List (Option D)
inductive R (α:Type) where
 | ok (a:α) (M:MH)
 | exc (c:Nat) (M:MH)
 | bad
noncomputable def R.bind {α β:Type} (x:R α) (f:α->MH->R β):R β :=
 match x with
 | .ok a M=>f a M
 | .exc c M=>.exc c M
 | .bad=>.bad
@[simp] theorem R.af {α β:Type} (a:α) (M:MH) (f:α->MH->R β):(R.ok a M).bind f=f a M:=rfl
@[simp] theorem R.ek {α β:Type} (c:Nat) (M:MH) (f:α->MH->R β):(R.exc c M:R α).bind f=.exc c M:=rfl
@[simp] theorem R.ez {α β:Type} (f:α->MH->R β):(R.bad:R α).bind f=.bad:=rfl
inductive Dv where
 | add | sub | mul | fdiv | mod | pow
inductive AS where
 | eq | ne | lt | le | gt | ge | isin | p6 | wo | gQ
inductive Ty where
 | int | str | bool | list | tuple | dict
inductive Bl where
 | len | sum | tuple | list | dict | str | int | abs | max | min | sorted | all | any | repr
inductive Mt where
 | append | extend | pop | reverse | clear | get | join | startswith | replace | split | index | count
inductive F1 where
 | abs | int
mutual
inductive E where
 | v (i:Nat)
 | k (d:D)
 | g (i:Nat)
 | tup (es:Es)
 | lst (fz:Bool) (es:Es)
 | Df
 | op (o:Dv) (fz:Bool) (a b:E)
 | neg (a:E)
 | cmp (o:AS) (a b:E)
 | chain (o o':AS) (a b c:E)
 | and (a b:E)
 | or (a b:E)
 | not (a:E)
 | tru (a:E)
 | AZ (c a b:E)
 | idx (a b:E)
 | sl (fz:Bool) (a:E) (lo hi:O)
 | call (f:Nat) (es:Es)
 | r9 (a:E) (t:Ty)
 | blt (b:Bl) (fz:Bool) (es:Es)
 | dH (m:Mt) (fz:Bool) (a:E) (es:Es)
 | comp (fz:Bool) (caps:List Nat) (tg:List Nat) (elt:E) (it:Src) (cond:O)
 | fld (a:E) (f:Str)
 | dc (c m:Nat) (nm:Str) (a:E) (es:Es)
 | new (c i:Nat) (es:Es)
 | mx (hi:Bool) (a b:E)
 | Mn (fz:Bool) (a b:E)
 | Mp (fz:Bool) (a:E)
 | rv (fz:Bool) (a:E)
 | all1 (a:E)
 | iT (f:F1) (a:E)
 | gM (f:Nat) (es:Es) (d:Int)
 | dz (a b:E)
 | bad
inductive Es where
 | nil
 | cons (e:E) (es:Es)
inductive O where
 | none
 | some (e:E)
inductive Src where
 | e (a:E)
 | g8 (a:E)
 | FE (a b:E)
 | enum (a:E)
 | items (a:E)
 | rev (a:E)
 | zip (a b:E)
 | fE (a b:E)
end
mutual
inductive S where
 | set (i:Nat) (e:E)
 | rA (a b e:E)
 | eF (a:E) (f:Str) (e:E)
 | unp (tg:List Nat) (e:E)
 | ex (e:E)
 | ret (e:E)
 | FG
 | ifs (c:E) (a b:Ss)
 | for (tg:List Nat) (it:Src) (b:Ss)
 | while (c:E) (b:Ss)
 | brk
 | cont
 | pass
 | raise (c:Nat) (es:Es)
 | try (b:Ss) (hs:Hs) (els:Ss)
 | bad
inductive Ss where
 | nil
 | cons (s:S) (ss:Ss)
inductive Hs where
 | nil
 | cons (cs:List Nat) (b:Ss) (hs:Hs)
end
inductive Out where
 | nx (σ:Sg)
 | rt (d:D)
 | bk (σ:Sg)
 | ct (σ:Sg)
 | xc (c:Nat) (σ:Sg)
noncomputable def R.use {α:Type} (x:R α) (σ:Sg) (f:α->MH->R Out):R Out :=
 match x with
 | .ok a M=>f a M
 | .exc c M=>.ok (.xc c σ) M
 | .bad=>.bad
@[simp] theorem R.gP {α:Type} (a:α) (M:MH) (σ:Sg) (f:α->MH->R Out):(R.ok a M).use σ f=f a M:=rfl
@[simp] theorem R.nc {α:Type} (c:Nat) (M:MH) (σ:Sg) (f:α->MH->R Out):(R.exc c M:R α).use σ f=.ok (.xc c σ) M:=rfl
@[simp] theorem R.L5 {α:Type} (σ:Sg) (f:α->MH->R Out):(R.bad:R α).use σ f=.bad:=rfl
inductive Vw where
 | tup (ds:List D)
 | lst (ds:List D)
 | dct (kvs:List (Ky×D))
 | none
noncomputable def vw (M:MH):D->Vw
 | .tup ds=>.tup ds
 | .lst ds=>.lst ds
 | .dct ks ds=>.dct (ks.zip ds)
 | .ref n=>match M[n]? with
  | some (.lst ds)=>.lst ds
  | some (.dct kvs)=>.dct kvs
  | some (.oX kvs)=>.dct kvs
  | _=>.none
 | _=>.none
noncomputable def line:Nat:=1000000
noncomputable def small (i:Int):Bool:=decide (i.natAbs<18446744073709551616)
noncomputable def mid (i:Int):Bool:=decide (i.natAbs<10 ^ 200)
noncomputable def eN:Dv->Int->Int->Option Int
 | .add,i,j=>some (i+j)
 | .sub,i,j=>some (i-j)
 | .mul,i,j=>if small i||small j then some (i*j) else if mid i&&mid j then some (i*j) else none
 | .fdiv,i,j=>if decide (0<j)&&decide (j.natAbs<1073741824) then some (i / j) else none
 | .mod,i,j=>if decide (0<j) then some (i % j) else none
 | .pow,i,j=>if decide (0<=j)&&(decide (j<=1000000)&&decide (i.natAbs<18446744073709551616)) then some (i ^ j.toNat) else none
noncomputable def cU (fz:Bool) (ds:List D) (M:MH):R D:=if fz then .ok (.lst ds) M else .ok (.ref M.length) (M++[.lst ds])
noncomputable def lD (o:Dv) (fz:Bool) (M:MH):D->D->R D
 | .int i,.int j=>match eN o i j with
  | some k=>.ok (.int k) M
  | none=>.bad
 | .str x,.str y=>match o with
  | .add=>if decide (x.length+y.length<=line) then .ok (.str (x++y)) M else .bad
  | _=>.bad
 | a, b=>match o with
  | .add=>match vw M a,vw M b with
   | .lst xs,.lst ys=>if decide (xs.length+ys.length<=line) then cU fz (xs++ys) M else .bad
   | .tup xs,.tup ys=>if !xs.isEmpty&&decide (xs.length+ys.length<=line) then .ok (.tup (xs++ys)) M else .bad
   | _,_=>.bad
  | .mul=>match vw M a,b with
   | .lst xs,.int k=>if decide (xs.length*k.toNat<=line)&&decide (k.natAbs<=1000000) then cU fz (List.replicate k.toNat xs).flatten M else .bad
   | _,_=>.bad
  | _=>.bad
mutual
noncomputable def plain:D->Bool
 | .ao=>true
 | .bl _=>false
 | .int _=>true
 | .str _=>true
 | .tup ds=>az ds
 | .lst ds=>az ds
 | .dct _ _=>false
 | .ref _=>false
noncomputable def az:List D->Bool
 | []=>true
 | d::ds=>plain d&&az ds
end
mutual
noncomputable def dep:D->Nat
 | .tup ds=>deps ds+1
 | .lst ds=>deps ds+1
 | .dct _ ds=>deps ds+1
 | .ao=>0
 | .bl _=>0
 | .int _=>0
 | .str _=>0
 | .ref _=>0
noncomputable def deps:List D->Nat
 | []=>0
 | d::ds=>max (dep d) (deps ds)
end
mutual
noncomputable def aJ:D->D->Bool
 | .ao,.ao=>true
 | .bl a,.bl b=>a == b
 | .int a,.int b=>decide (a=b)
 | .str a,.str b=>decide (a=b)
 | .tup a,.tup b=>dO a b
 | .lst a,.lst b=>dO a b
 | _,_=>false
noncomputable def dO:List D->List D->Bool
 | [],[]=>true
 | a::as,b::bs=>aJ a b&&dO as bs
 | _,_=>false
end
noncomputable def keyOf:D->Option Ky
 | .int i=>some (.inl i)
 | .str x=>some (.inr x)
 | _=>none
noncomputable def Mr:Ky->D
 | .inl i=>.int i
 | .inr x=>.str x
noncomputable def look (kvs:List (Ky×D)) (k:Ky):Option D:=(kvs.find? fun kv=>decide (kv.1=k)).map (·.2)
noncomputable def put (kvs:List (Ky×D)) (k:Ky) (v:D):List (Ky×D) :=
 if kvs.any (fun kv=>decide (kv.1=k)) then kvs.map fun kv=>if kv.1=k then (kv.1,v) else kv else kvs++[(k,v)]
noncomputable def top (M:MH):D->D
 | .ref n=>match M[n]? with
  | some (.lst ds)=>.lst ds
  | _=>.ref n
 | d=>d
noncomputable def flat:D->Bool
 | .ao=>true
 | .int _=>true
 | .str _=>true
 | _=>false
noncomputable def aZ (a b:D):Bool:=(plain a&&plain b)&&(decide (dep a<=100)||decide (dep b<=100))
noncomputable def qa (M:MH) (a b:D):Option Bool:=match vw M a,vw M b with
 | .lst xs,.lst ys=>if ys.isEmpty then some xs.isEmpty else none
 | _,_=>none
noncomputable def deep:Nat->MH->D->D
 | 0,_,d=>d
 | n+1,M,d=>match d with
  | .ref r=>(match M[r]? with
   | some (.lst ds)=>.lst (ds.map (deep n M))
   | _=>.ref r)
  | .tup ds=>.tup (ds.map (deep n M))
  | .lst ds=>.lst (ds.map (deep n M))
  | d=>d
noncomputable def Eu (M:MH) (neg:Bool) (a b:D):R D:=if aZ (deep 120 M a) (deep 120 M b) then .ok (.bl (if neg then !aJ (deep 120 M a) (deep 120 M b) else aJ (deep 120 M a) (deep 120 M b))) M else .bad
noncomputable def sQ (M:MH) (f:Int->Int->Bool) (a b:D):R D:=match a with
 | .int i=>(match b with | .int j=>.ok (.bl (f i j)) M | _=>.bad)
 | _=>.bad
noncomputable def Lg (M:MH) (a b:D):R D:=if aZ (top M a) (top M b) then .ok (.bl (aJ (top M a) (top M b))) M else (match qa M a b with | some t=>.ok (.bl t) M | none=>Eu M false a b)
noncomputable def v7 (M:MH) (a b:D):R D:=if aZ (top M a) (top M b) then .ok (.bl (!aJ (top M a) (top M b))) M else (match qa M a b with | some t=>.ok (.bl (!t)) M | none=>Eu M true a b)
noncomputable def bJ:D->Bool
 | .ao=>true
 | _=>false
noncomputable def vj (a b:D):Option (Bool×Bool):=match a with
 | .bl x=>(match b with | .bl y=>some (x,y) | _=>none)
 | _=>none
noncomputable def zI (M:MH) (a b:D):Option Bool:=match vw M b with
 | .dct kvs=>(match keyOf a with | some k=>some (look kvs k).isSome | none=>none)
 | .lst ds=>if flat a&&ds.all flat then some (ds.any fun d=>aJ d a) else none
 | .tup ds=>if flat a&&ds.all flat then some (ds.any fun d=>aJ d a) else none
 | .none=>none
noncomputable def bf (o:AS) (M:MH) (a b:D):R D :=
 match o with
 | .lt=>sQ M (fun i j=>decide (i<j)) a b
 | .le=>sQ M (fun i j=>decide (i<=j)) a b
 | .gt=>sQ M (fun i j=>decide (j<i)) a b
 | .ge=>sQ M (fun i j=>decide (j<=i)) a b
 | .eq=>(match vj a b with | some p=>.ok (.bl (p.1 == p.2)) M | none=>Lg M a b)
 | .ne=>(match vj a b with | some p=>.ok (.bl (!(p.1 == p.2))) M | none=>v7 M a b)
 | .wo=>if bJ b then .ok (.bl (bJ a)) M else .bad
 | .gQ=>if bJ b then .ok (.bl (!bJ a)) M else .bad
 | .isin=>(match zI M a b with | some t=>.ok (.bl t) M | none=>.bad)
 | .p6=>(match zI M a b with | some t=>.ok (.bl (!t)) M | none=>.bad)
noncomputable def AX (n:Nat) (i:Int):Option Nat:=if 0<=i then (if i<n then some i.toNat else none) else if -(n:Int)<=i then some (i+n).toNat else none
noncomputable def lN {α:Type} (xs:List α) (i:Int):Option α:=(AX xs.length i).bind fun j=>xs[j]?
noncomputable def six (n d:Nat):Option Int->Nat
 | none=>d
 | some v=>if v<0 then (v+(n:Int)).toNat else min v.toNat n
noncomputable def c7 {α:Type} (xs:List α) (lo hi:Option Int):List α:=(xs.drop (six xs.length 0 lo)).take (six xs.length xs.length hi-six xs.length 0 lo)
noncomputable def cuts (x:Str) (lo hi:Option Int):Str:=⟨(c7 x.cps.toList lo hi).toArray⟩
noncomputable def nU (M:MH) (a b:D):R D :=
 match a,b with
 | .str x,.int i=>if decide (x.length<=line) then (match lN x.cps.toList i with
  | some c=>.ok (.str ⟨#[c]⟩) M
  | none=>.bad) else .bad
 | a, b=>match vw M a, b with
  | .tup ds,.int i=>match lN ds i with
   | some d=>.ok d M
   | none=>.bad
  | .lst ds,.int i=>match lN ds i with
   | some d=>.ok d M
   | none=>.bad
  | .dct kvs,b=>match keyOf b with
   | some k=>match look kvs k with
    | some d=>.ok d M
    | none=>.bad
   | none=>.bad
  | _,_=>.bad
noncomputable def jA (n:Nat) (lo hi:Option Int):Bool:=decide (six n 0 lo=0)&&decide (six n n hi=n)
noncomputable def sl2 (fz:Bool) (M:MH) (a:D) (lo hi:Option Int):R D :=
 match a with
 | .str x=>if decide (x.length<=line) then .ok (.str (cuts x lo hi)) M else .bad
 | a=>match vw M a with
  | .tup ds=>if jA ds.length lo hi then .bad else .ok (.tup (c7 ds lo hi)) M
  | .lst ds=>cU fz (c7 ds lo hi) M
  | _=>.bad
noncomputable def Hz (M:MH) (t:Ty):D->Bool
 | .int _=>match t with | .int=>true | _=>false
 | .bl _=>match t with | .int=>true | .bool=>true | _=>false
 | .str _=>match t with | .str=>true | _=>false
 | .tup _=>match t with | .tuple=>true | _=>false
 | .lst _=>match t with | .list=>true | _=>false
 | .dct _ _=>match t with | .dict=>true | _=>false
 | .ao=>false
 | .ref n=>match M[n]? with
  | some (.lst _)=>(match t with | .list=>true | _=>false)
  | some (.dct _)=>(match t with | .dict=>true | _=>false)
  | some (.oX _)=>(match t with | .dict=>true | _=>false)
  | _=>false
noncomputable def yK (M:MH):D->Bool
 | .ref n=>match M[n]? with
  | some (.lst _)=>true
  | some (.dct _)=>true
  | some (.oX _)=>true
  | _=>false
 | _=>true
noncomputable def intsOf:List D->Option (List Int)
 | []=>some []
 | .int i::ds=>(intsOf ds).map (i::·)
 | _=>none
noncomputable def boolsOf:List D->Option (List Bool)
 | []=>some []
 | .bl b::ds=>(boolsOf ds).map (b::·)
 | _=>none
noncomputable def wF:F1->D->Option D
 | .abs,.int i=>some (.int (if i<0 then -i else i))
 | .int,.bl b=>some (.int (if b then 1 else 0))
 | .int,.int i=>some (.int i)
 | _,_=>none
noncomputable def itemsOf (M:MH) (d:D):Option (List D) :=
 match d with
 | .str _=>none
 | .dct _ _=>none
 | d=>match vw M d with
  | .tup ds=>some ds
  | .lst ds=>some ds
  | .dct kvs=>some (kvs.map fun kv=>Mr kv.1)
  | .none=>none
noncomputable def wk (M:MH):D->Bool
 | .ref n=>match M[n]? with
  | some (.dct _)=>true
  | _=>false
 | _=>false
noncomputable def walk (M:MH):D->MH
 | .ref n=>match M[n]? with
  | some (.dct kvs)=>M.set n (.oX kvs)
  | _=>M
 | _=>M
noncomputable def fL (b:Bool) (d:D) (M:MH):MH:=match b,d with
 | true,.ref n=>match M[n]? with
  | some (.oX kvs)=>M.set n (.dct kvs)
  | _=>M
 | _,_=>M
noncomputable def R.fin {α:Type} (x:R α) (f:MH->MH):R α:=match x with
 | .ok a M=>.ok a (f M)
 | .exc c M=>.exc c (f M)
 | .bad=>.bad
noncomputable def AK (b:Bl) (fz:Bool) (M:MH):List D->R D
 | [.str x]=>match b with
  | .len=>if decide (x.length<=line) then .ok (.int x.length) M else .bad
  | _=>.bad
 | [d]=>match b,vw M d with
  | .len,.tup ds=>.ok (.int ds.length) M
  | .len,.lst ds=>.ok (.int ds.length) M
  | .len,.dct kvs=>.ok (.int kvs.length) M
  | .sum,.lst ds=>match intsOf ds with
   | some ns=>.ok (.int ns.sum) M
   | none=>.bad
  | .tuple,.lst ds=>.ok (.tup ds) M
  | .tuple,.tup ds=>.ok (.tup ds) M
  | .list,.lst ds=>cU fz ds M
  | .list,.tup ds=>cU fz ds M
  | .dict,.dct kvs=>.ok (.ref M.length) (M++[.dct kvs])
  | _,_=>.bad
 | _=>.bad
noncomputable def qg:D->Option (List D)
 | .tup ds=>some ds
 | .lst ds=>some ds
 | _=>none
noncomputable def DG:D->Option (List D)
 | .tup ds=>some ds
 | _=>none
theorem Bb {d:D} {ds:List D} (h:DG d=some ds):d=.tup ds:=by
 cases d <;> first | (cases h;rfl) | cases h
noncomputable def gF (M:MH) (a:D):Option (Nat×List D):=match a with
 | .ref n=>(match M[n]? with | some (.lst xs)=>some (n,xs) | _=>none)
 | _=>none
theorem ck {M:MH} {n:Nat} {xs:List D} (h:M[n]? = some (.lst xs)):gF M (.ref n)=some (n,xs):=by simp only [gF,h]
theorem jX {M:MH} {a:D} {p:Nat×List D} (h:gF M a=some p):a=.ref p.1/\M[p.1]? = some (.lst p.2):=by
 cases a with
 | ref n =>
  simp only [gF] at h
  split at h
  ·rename_i xs hx;cases h;exact ⟨rfl,hx⟩
  ·cases h
 | _=>cases h
noncomputable def yI (ds:List D) (k:D->R D):R D:=match ds with
 | d::r=>(match r with | []=>k d | _::_=>.bad)
 | []=>.bad
noncomputable def qb (m:Mt) (M:MH) (n:Nat) (xs ds:List D):R D:=match m with
 | .append=>yI ds fun d=>if decide (xs.length<line) then .ok .ao (M.set n (.lst (xs++[d]))) else .bad
 | .extend=>yI ds fun d=>(match DG d with
  | some ys=>if decide (xs.length+ys.length<=line) then .ok .ao (M.set n (.lst (xs++ys))) else .bad
  | none=>.bad)
 | .pop=>if ds.isEmpty then (match xs[xs.length-1]? with
  | some d=>.ok d (M.set n (.lst xs.dropLast))
  | none=>.bad) else .bad
 | .reverse=>if ds.isEmpty then .ok .ao (M.set n (.lst xs.reverse)) else .bad
 | .clear=>if ds.isEmpty then .ok .ao (M.set n (.lst [])) else .bad
 | _=>.bad
noncomputable def gR (m:Mt) (fz:Bool) (M:MH) (a:D) (ds:List D):R D:=match gF M a with
 | some p=>qb m M p.1 p.2 ds
 | none=>.bad
noncomputable def nL (m:Mt) (M:MH) (a:D):Bool:=(gF M a).isSome&&(match m with | .append=>true | .extend=>true | .pop=>true | .reverse=>true | .clear=>true | _=>false)
noncomputable def nv (M:MH) (a b d:D):R Unit :=
 match a with
 | .ref n=>match M[n]?,b with
  | some (.lst xs),.int i=>match AX xs.length i with
   | some j=>.ok () (M.set n (.lst (xs.set j d)))
   | none=>.bad
  | some (.dct kvs),b=>match keyOf b with
   | some k=>if decide (kvs.length<line) then .ok () (M.set n (.dct (put kvs k d))) else .bad
   | none=>.bad
  | _,_=>.bad
 | _=>.bad
noncomputable def i0 {α:Type}:List Nat->List α->List (Option α)->List (Option α)
 | i::tg,x::xs,σ=>i0 tg xs (σ.set i (some x))
 | _,_,σ=>σ
noncomputable def sets (tg:List Nat) (M:MH) (d:D) (σ:Sg):Option Sg :=
 match tg with
 | [i]=>some (σ.set i (some d))
 | [i,j]=>match d with
  | .tup [x,y]=>some ((σ.set i (some x)).set j (some y))
  | _=>none
 | []=>none
 | tg=>match d with
  | .tup xs=>if xs.length=tg.length then some (i0 tg xs σ) else none
  | _=>none
noncomputable def aP (M:MH) (d:D) (M':MH):Bool:=match d with
 | .ref n=>decide (M'[n]? = M[n]?)
 | _=>true
noncomputable def aS (body:Sg->MH->R Out) (tg:List Nat) (gY:MH->Bool):List D->Sg->MH->R Out
 | [],σ,M=>.ok (.nx σ) M
 | d::ds,σ,M=>match sets tg M d σ with
  | none=>.bad
  | some σ1=>(body σ1 M).bind fun o M1=>match o with
   | .nx σ2=>if gY M1 then aS body tg gY ds σ2 M1 else .bad
   | .ct σ2=>if gY M1 then aS body tg gY ds σ2 M1 else .bad
   | .bk σ2=>.ok (.nx σ2) M1
   | .rt r=>.ok (.rt r) M1
   | .xc c σ2=>.ok (.xc c σ2) M1
noncomputable def bX (c:Sg->MH->R D) (body:Sg->MH->R Out):Nat->Sg->MH->R Out
 | 0,_,_=>.bad
 | n+1,σ,M=>(c σ M).use σ fun t M0=>match t with
  | .bl false=>.ok (.nx σ) M0
  | .bl true=>(body σ M0).bind fun o M1=>match o with
   | .nx σ2=>bX c body n σ2 M1
   | .ct σ2=>bX c body n σ2 M1
   | .bk σ2=>.ok (.nx σ2) M1
   | .rt r=>.ok (.rt r) M1
   | .xc c σ2=>.ok (.xc c σ2) M1
  | _=>.bad
noncomputable def bG (cond:Sg->MH->R D) (elt:Sg->MH->R D) (tg:List Nat) (gY:MH->Bool):List D->Sg->MH->List D->R (List D)
 | [],_,M,acc=>.ok acc M
 | d::ds,σ,M,acc=>match sets tg M d σ with
  | none=>.bad
  | some σ1=>(cond σ1 M).bind fun t M1=>match t with
   | .bl true=>(elt σ1 M1).bind fun x M2=>if gY M2 then (if decide (acc.length<line) then bG cond elt tg gY ds σ1 M2 (acc++[x]) else .bad) else .bad
   | .bl false=>if gY M1 then bG cond elt tg gY ds σ1 M1 acc else .bad
   | _=>.bad
noncomputable def eK (f:Str) (v:D):List (Str×D)->List (Str×D)
 | []=>[(f,v)]
 | (g,x)::r=>if g=f then (g,v)::r else (g,x)::eK f v r
structure bF where
 call:Nat->List D->MH->R D
 ini:Nat->List D->MH->R D
 glob:Nat->Option D
 turns:Nat
 sub:Nat->Nat->Bool
noncomputable def oB (σ:Sg) (caps:List Nat):Sg:=caps.map fun i=>(σ[i]?).join
noncomputable def fB:D->Option Int
 | .int i=>some i
 | _=>none
theorem vn {d:D} {i:Int} (h:fB d=some i):d=.int i:=by
 cases d <;> first | (cases h;rfl) | cases h
noncomputable def i9 (j:Int):Bool:=decide (j.natAbs<=1000000)
noncomputable def i7 (a b:Int):List D:=(List.range (b-a).toNat).map fun (i:Nat)=>D.int (a+(i:Int))
noncomputable def Je (ds es:List D):List D:=(ds.zip es).map fun p=>.tup [p.1,p.2]
noncomputable def jt (a b:Int):List D:=(List.range (a-b).toNat).map fun (i:Nat)=>D.int (a-(i:Int))
noncomputable def AW (M:MH) (d:D):Option (List D):=match vw M d with
 | .lst ds=>some ds
 | .tup ds=>some ds
 | _=>none
noncomputable def xg:List (Ky×D)->List D->List D->Option (List (Ky×D))
 | kvs,d::ds,e::es=>match keyOf d with
  | some k=>xg (put kvs k e) ds es
  | none=>none
 | kvs,_,_=>some kvs
mutual
noncomputable def ev (Φ:bF):E->Sg->MH->R D
 | .v i,σ,M=>match σ[i]? with
  | some (some d)=>.ok d M
  | _=>.bad
 | .k d,_,M=>.ok d M
 | .g i,_,M=>match Φ.glob i with
  | some d=>.ok d M
  | none=>.bad
 | .tup es,σ,M=>(cM Φ es σ M).bind fun ds M1=>.ok (.tup ds) M1
 | .lst fz es,σ,M=>(cM Φ es σ M).bind fun ds M1=>cU fz ds M1
 | .Df,_,M=>.ok (.ref M.length) (M++[.dct []])
 | .op o fz a b,σ,M=>(ev Φ a σ M).bind fun x M1=>(ev Φ b σ M1).bind fun y M2=>lD o fz M2 x y
 | .neg a,σ,M=>(ev Φ a σ M).bind fun x M1=>match x with
  | .int i=>.ok (.int (-i)) M1
  | _=>.bad
 | .cmp o a b,σ,M=>(ev Φ a σ M).bind fun x M1=>(ev Φ b σ M1).bind fun y M2=>bf o M2 x y
 | .chain o o' a b c,σ,M=>(ev Φ a σ M).bind fun x M1=>(ev Φ b σ M1).bind fun y M2=>(bf o M2 x y).bind fun t M3=>match t with
  | .bl true=>(ev Φ c σ M3).bind fun z M4=>bf o' M4 y z
  | .bl false=>.ok (.bl false) M3
  | _=>.bad
 | .and a b,σ,M=>(ev Φ a σ M).bind fun x M1=>match x with
  | .bl true=>(ev Φ b σ M1)
  | .bl false=>.ok (.bl false) M1
  | _=>.bad
 | .or a b,σ,M=>(ev Φ a σ M).bind fun x M1=>match x with
  | .bl true=>.ok (.bl true) M1
  | .bl false=>(ev Φ b σ M1)
  | _=>.bad
 | .not a,σ,M=>(ev Φ a σ M).bind fun x M1=>match x with
  | .bl b=>.ok (.bl (!b)) M1
  | _=>.bad
 | .tru a,σ,M=>.bad
 | .AZ c a b,σ,M=>(ev Φ c σ M).bind fun x M1=>match x with
  | .bl true=>ev Φ a σ M1
  | .bl false=>ev Φ b σ M1
  | _=>.bad
 | .idx a b,σ,M=>(ev Φ a σ M).bind fun x M1=>(ev Φ b σ M1).bind fun y M2=>nU M2 x y
 | .sl fz a lo hi,σ,M=>(ev Φ a σ M).bind fun x M1=>(CS Φ lo σ M1).bind fun l M2=>(CS Φ hi σ M2).bind fun h M3=>sl2 fz M3 x l h
 | .call f es,σ,M=>(cM Φ es σ M).bind fun ds M1=>Φ.call f ds M1
 | .r9 a t,σ,M=>(ev Φ a σ M).bind fun x M1=>if yK M1 x then .ok (.bl (Hz M1 t x)) M1 else .bad
 | .blt b fz es,σ,M=>(cM Φ es σ M).bind fun ds M1=>AK b fz M1 ds
 | .dH m fz a es,σ,M=>(ev Φ a σ M).bind fun x M1=>if nL m M1 x then (cM Φ es σ M1).bind fun ds M2=>gR m fz M2 x ds else .bad
 | .comp fz caps tg elt it cond,σ,M=>(aX Φ it σ M).bind fun p M1 =>
   ((bG (oW Φ cond) (ev Φ elt) tg (aP M1 p.1) p.2.1 (oB σ caps++List.replicate tg.length none) M1 []).fin (fL p.2.2 p.1)).bind fun ds M2=>cU fz ds M2
 | .fld a f,σ,M=>(ev Φ a σ M).bind fun x M1=>match x with
  | .ref n=>match M1[n]? with
   | some (.ins _ fs)=>match fs.lookup f with
    | some d=>.ok d M1
    | none=>.bad
   | _=>.bad
  | _=>.bad
 | .dc c m nm a es,σ,M=>(ev Φ a σ M).bind fun x M1=>match x with
  | .ref n=>match M1[n]? with
   | some (.ins c' fs)=>if decide (c'=c)&&(fs.lookup nm).isNone then (cM Φ es σ M1).bind fun ds M2=>Φ.call m (.ref n::ds) M2 else .bad
   | _=>.bad
  | _=>.bad
 | .new c i es,σ,M=>(cM Φ es σ M).bind fun ds M1=>(Φ.ini i (.ref M1.length::ds) (M1++[.ins c []])).bind fun r M2=>match r with
  | .ao=>.ok (.ref M1.length) M2
  | _=>.bad
 | .mx hi a b,σ,M=>(ev Φ a σ M).bind fun x M1=>(ev Φ b σ M1).bind fun y M2=>match x,y with
  | .int i,.int j=>.ok (.int (if hi then (if j > i then j else i) else (if j<i then j else i))) M2
  | _,_=>.bad
 | .Mn fz a b,σ,M=>(ev Φ a σ M).bind fun x M1=>(ev Φ b σ M1).bind fun y M2=>match x,y with
  | .int i,.int j=>if i9 i&&(i9 j&&decide ((j-i).toNat<=line)) then cU fz (i7 i j) M2 else .bad
  | _,_=>.bad
 | .Mp fz a,σ,M=>(ev Φ a σ M).bind fun x M1=>match x with
  | .int j=>if i9 j then cU fz (i7 0 j) M1 else .bad
  | _=>.bad
 | .rv fz a,σ,M=>(ev Φ a σ M).bind fun x M1=>match vw M1 x with
  | .lst ds=>cU fz ds.reverse M1
  | _=>.bad
 | .all1 a,σ,M=>(ev Φ a σ M).bind fun x M1=>match vw M1 x with
  | .lst ds=>match boolsOf ds with
   | some bs=>.ok (.bl (bs.all id)) M1
   | none=>.bad
  | _=>.bad
 | .iT f a,σ,M=>(ev Φ a σ M).bind fun x M1=>match wF f x with
  | some d=>.ok d M1
  | none=>.bad
 | .gM f es d,σ,M=>(cM Φ es σ M).bind fun ds M1=>Φ.call f (ds++[.int d]) M1
 | .dz a b,σ,M=>(ev Φ a σ M).bind fun x M1=>(ev Φ b σ M1).bind fun y M2=>match AW M2 x,AW M2 y with
  | some ds,some es=>if decide (ds.length<=1000) then (match xg [] ds es with
   | some kvs=>.ok (.ref M2.length) (M2++[.dct kvs])
   | none=>.bad) else .bad
  | _,_=>.bad
 | .bad,_,_=>.bad
noncomputable def cM (Φ:bF):Es->Sg->MH->R (List D)
 | .nil,_,M=>.ok [] M
 | .cons e es,σ,M=>(ev Φ e σ M).bind fun x M1=>(cM Φ es σ M1).bind fun xs M2=>.ok (x::xs) M2
noncomputable def CS (Φ:bF):O->Sg->MH->R (Option Int)
 | .none,_,M=>.ok none M
 | .some e,σ,M=>(ev Φ e σ M).bind fun x M1=>match x with
  | .int i=>.ok (some i) M1
  | _=>.bad
noncomputable def oW (Φ:bF):O->Sg->MH->R D
 | .none,_,M=>.ok (.bl true) M
 | .some e,σ,M=>ev Φ e σ M
noncomputable def aX (Φ:bF):Src->Sg->MH->R (D×List D×Bool)
 | .e a,σ,M=>(ev Φ a σ M).bind fun x M1=>match itemsOf M1 x with
  | some ds=>.ok (x,ds,wk M1 x) (walk M1 x)
  | none=>.bad
 | .g8 a,σ,M=>(ev Φ a σ M).bind fun x M1=>match x with
  | .int j=>if i9 j then .ok (.ao,i7 0 j,false) M1 else .bad
  | _=>.bad
 | .FE a b,σ,M=>(ev Φ a σ M).bind fun x M1=>(ev Φ b σ M1).bind fun y M2=>match fB x,fB y with
  | some i,some j=>if i9 i&&i9 j then .ok (.ao,i7 i j,false) M2 else .bad
  | _,_=>.bad
 | .enum a,σ,M=>.bad
 | .items a,σ,M=>.bad
 | .rev a,σ,M=>(ev Φ a σ M).bind fun x M1=>match qg x with
  | some ds=>.ok (.ao,ds.reverse,false) M1
  | none=>.bad
 | .fE a b,σ,M=>(ev Φ a σ M).bind fun x M1=>(ev Φ b σ M1).bind fun y M2=>match fB x,fB y with
  | some i,some j=>if i9 i&&i9 j then .ok (.ao,jt i j,false) M2 else .bad
  | _,_=>.bad
 | .zip a b,σ,M=>(ev Φ a σ M).bind fun x M1=>(ev Φ b σ M1).bind fun y M2=>match qg x,qg y with
  | some ds,some es=>.ok (.ao,Je ds es,false) M2
  | _,_=>.bad
end
noncomputable def bY:D->Bool
 | .str x=>decide (x.length<=100000)
 | .int i=>decide (i.natAbs<18446744073709551616)
 | _=>false
noncomputable def CU (Φ:bF):Es->Sg->MH->R Unit
 | .nil,_,M=>.ok () M
 | .cons e es,σ,M=>(ev Φ e σ M).bind fun x M1=>if bY x then CU Φ es σ M1 else .bad
mutual
noncomputable def ex (Φ:bF):S->Sg->MH->R Out
 | .set i e,σ,M=>(ev Φ e σ M).use σ fun x M1=>.ok (.nx (σ.set i (some x))) M1
 | .rA a b e,σ,M=>(ev Φ e σ M).use σ fun x M1=>(ev Φ a σ M1).use σ fun y M2=>(ev Φ b σ M2).use σ fun z M3=>(nv M3 y z x).use σ fun _ M4=>.ok (.nx σ) M4
 | .eF a f e,σ,M=>(ev Φ e σ M).use σ fun x M1=>(ev Φ a σ M1).use σ fun y M2=>match y with
  | .ref n=>match M2[n]? with
   | some (.ins c fs)=>if decide (fs.length<1000) then .ok (.nx σ) (M2.set n (.ins c (eK f x fs))) else .bad
   | _=>.bad
  | _=>.bad
 | .unp tg e,σ,M=>(ev Φ e σ M).use σ fun x M1=>match sets tg M1 x σ with
  | some σ1=>.ok (.nx σ1) M1
  | none=>.bad
 | .ex e,σ,M=>(ev Φ e σ M).use σ fun _ M1=>.ok (.nx σ) M1
 | .ret e,σ,M=>(ev Φ e σ M).use σ fun x M1=>.ok (.rt x) M1
 | .FG,_,M=>.ok (.rt .ao) M
 | .ifs c a b,σ,M=>(ev Φ c σ M).use σ fun t M1=>match t with
  | .bl true=>exs Φ a σ M1
  | .bl false=>exs Φ b σ M1
  | _=>.bad
 | .for tg it b,σ,M=>(aX Φ it σ M).use σ fun p M1=>(aS (exs Φ b) tg (aP M1 p.1) p.2.1 σ M1).fin (fL p.2.2 p.1)
 | .while c b,σ,M=>bX (ev Φ c) (exs Φ b) Φ.turns σ M
 | .brk,σ,M=>.ok (.bk σ) M
 | .cont,σ,M=>.ok (.ct σ) M
 | .pass,σ,M=>.ok (.nx σ) M
 | .raise c es,σ,M=>(CU Φ es σ M).use σ fun _ M1=>.ok (.xc c σ) M1
 | .try b hs els,σ,M=>(exs Φ b σ M).bind fun o M1=>match o with
  | .nx σ1=>exs Φ els σ1 M1
  | .xc c σ1=>A0 Φ hs c σ1 M1
  | o=>.ok o M1
 | .bad,_,_=>.bad
noncomputable def exs (Φ:bF):Ss->Sg->MH->R Out
 | .nil,σ,M=>.ok (.nx σ) M
 | .cons s ss,σ,M=>(ex Φ s σ M).bind fun o M1=>match o with
  | .nx σ1=>exs Φ ss σ1 M1
  | o=>.ok o M1
noncomputable def A0 (Φ:bF):Hs->Nat->Sg->MH->R Out
 | .nil,_,_,_=>.bad
 | .cons cs b hs,c,σ,M=>if cs.any (fun d=>Φ.sub c d) then exs Φ b σ M else A0 Φ hs c σ M
end
mutual
noncomputable def nr (m:Nat):D->Bool
 | .ref n=>decide (n<m)
 | .tup ds=>dS m ds
 | .lst ds=>dS m ds
 | .dct _ ds=>dS m ds
 | .ao=>true
 | .bl _=>true
 | .int _=>true
 | .str _=>true
noncomputable def dS (m:Nat):List D->Bool
 | []=>true
 | d::ds=>nr m d&&dS m ds
end
structure Fn where
 np:Nat
 ns:Nat
 kZ:List D
 keep:Bool
 body:Ss
noncomputable def cJ (keep:Bool) (M:MH) (d:D) (M':MH):R D :=
 if keep=false/\M'.take M.length=M then
  (if nr M.length d then .ok d M else match d with
   | .ref k=>match M'[k]? with
    | some (.lst ds)=>if dS M.length ds then .ok (.lst ds) M else .ok d M'
    | _=>.ok d M'
   | _=>.ok d M')
 else .ok d M'
noncomputable def pV (M:MH) (c:Nat) (M':MH):R D:=if M'.take M.length=M then .exc c M else .exc c M'
structure lO where
 fn:Nat->Option Fn
 glob:Nat->Option D
 turns:Nat
 sub:Nat->Nat->Bool
noncomputable def ko (Φ:bF) (f:Fn) (ds:List D) (M:MH):R D :=
 if decide (ds.length<=f.np)&&decide (f.np<=ds.length+f.kZ.length) then
  match exs Φ f.body ((ds++f.kZ.drop (ds.length+f.kZ.length-f.np)).map some++List.replicate (f.ns-f.np) none) M with
  | .ok (.rt d) M'=>cJ f.keep M d M'
  | .ok (.nx _) M'=>cJ f.keep M .ao M'
  | .ok (.xc c _) M'=>pV M c M'
  | _=>.bad
 else .bad
noncomputable def aa (P:lO):Nat->bF
 | 0=>⟨fun _ _ _=>.bad,fun _ _ _=>.bad,P.glob,P.turns,P.sub⟩
 | k+1=>⟨fun f ds M=>match P.fn f with
  | some fn=>ko (aa P k) fn ds M
  | none=>.bad,(aa P k).call,P.glob,P.turns,P.sub⟩
end Fg
end
section
set_option autoImplicit false
namespace Fg
open PySem PySem.Spec L2
noncomputable def GG:Nat->List Obj->W.Frag
 | _,[]=>[]
 | n,o::os=>bif o.alive then (n,o)::GG (n+1) os else GG (n+1) os
theorem yM:∀ {os:List Obj} {n a:Nat} {o:Obj},(GG n os).lookup a=some o->n<=a/\os[a-n]? = some o/\o.alive=true
 | [],_,_,_,h=>by cases h
 | x::os,n,a,o,h=>by
  have up:(GG (n+1) os).lookup a=some o->n<=a/\(x::os)[a-n]? = some o/\o.alive=true:=fun h=>by
   obtain ⟨h1,h2,h3⟩:=yM h
   refine ⟨by omega,?_,h3⟩
   rw [show a-n=(a-(n+1))+1 by omega,List.getElem?_cons_succ]
   exact h2
  unfold GG at h
  cases hx:x.alive with
  | false=>rw [hx] at h;exact up h
  | true =>
   rw [hx] at h
   replace h:((n,x)::GG (n+1) os).lookup a=some o:=h
   rw [List.lookup_cons] at h
   cases e:a == n with
   | true =>
    rw [e] at h
    cases h
    have:=beq_iff_eq.mp e
    subst this
    exact ⟨Nat.le_refl _,by simp,hx⟩
   | false =>
    rw [e] at h
    exact up h
noncomputable def allOf (h:Heap):W.Frag:=GG 0 h.objs.toList
theorem AN (h:Heap):(allOf h).In h:=fun a o e=>by
 obtain ⟨_,h1,h2⟩:=yM e
 rw [Nat.sub_zero,Array.getElem?_toList] at h1
 exact (Heap.get?_eq_some h a o).mpr ⟨h1,h2⟩
structure Row where
 x:Str
 ql:Str
 st:Stmt
 ps:List Str
 N:List Str
 i:Nat
 kZ:Option Int:=none
structure Tb where
 fn:List Row
 cl:List Str
 mt:List (Nat×Row)
 xc:List Str
 cs:List (Str×Nat×Int)
 bl:List Str
 fl:List Str
 ct:List (Str×Nat×List Str):=[]
 cd:List (Str×Nat×List (Str×Int)):=[]
noncomputable def adr (K:W.Frag) (x:Str):Option Addr:=match W.nsIn K mainGlobals x with
 | some (some (.ref a))=>some a
 | _=>none
noncomputable def jq (K:W.Frag):Value->Option (Option Int)
 | .none=>some none
 | .ref T=>(match K.lookup T with
  | some ⟨_,_,.seq its _,_⟩=>(match its.toList with
   | [.int d _]=>some (some d)
   | _=>none)
  | _=>none)
 | _=>none
noncomputable abbrev AR:=Str×Str×Arguments×FuncBody×Scope×Addr×List (Str×Addr)×Addr×Option (Option Int)×Bool
noncomputable def qm (K:W.Frag) (f:Addr):Option AR:=match K.lookup f with
 | some ⟨_,_,.func fd,_⟩=>some (fd.name,fd.qualname,fd.params,fd.body,fd.scope,fd.globals,fd.closure,fd.builtins,jq K fd.defaults,W.codeIn K fd.code fd.qualname)
 | _=>none
noncomputable def Row.good (r:Row):AR:=(r.x,r.ql,iP r.st,.stmts (cg r.st),aD r.st,mainGlobals,[],builtinsNs,some r.kZ,true)
noncomputable abbrev IM:=Bool×Bool×Bool×Option (Option Value)×Bool×Bool×List (Option (Option Value))
noncomputable def oz (t:Tb) (K:W.Frag) (C:Addr):IM:=(W.plainGet K C Str.empty, W.hasDictIn K C, W.plainOver K C, W.findIn K (.ref C) "__setattr__", W.makesIn K C, W.keepIn K (.ref C), t.fl.map (W.findIn K (.ref C)))
noncomputable def j5 (t:Tb):IM:=(true, true, true, some (some (.builtin "object.__setattr__")), true, true, t.fl.map fun _=>some none)
noncomputable def yU (t:Tb) (K:W.Frag) (r:Nat×Row):Option (AR×Bool):=((t.cl[r.1]?).bind (adr K)).bind fun C=>match W.findIn K (.ref C) r.2.x with
 | some (some (.ref f))=>(qm K f).map fun z=>(z,W.isFn K (.ref f))
 | _=>none
noncomputable abbrev LP:=Bool×Option Bool×List (Option Bool)
noncomputable def BMV:List Value:=[.type "ValueError", .type "Exception", .type "BaseException", .type "object"]
noncomputable def zT (t:Tb) (K:W.Frag) (X:Addr):LP:=(W.excIn K X BMV "ValueError.__new__", W.mroIn K X (.type "BaseException"), t.xc.map fun y=>(adr K y).bind fun Y=>W.mroIn K X (.ref Y))
noncomputable def Ax (K:W.Frag) (x:Str):Option Int:=match W.nsIn K mainGlobals x with
 | some (some (.int n _))=>some n
 | _=>none
noncomputable def strOf:Value->Option Str
 | .str x _=>some x
 | _=>none
noncomputable def intOf:Value->Option Int
 | .int n _=>some n
 | _=>none
noncomputable abbrev LQ:=Value×List (Option Str)
noncomputable def xB (K:W.Frag) (a:Addr):Option LQ:=match K.lookup a with
 | some ⟨c,_,.seq its _,_⟩=>some (c,its.toList.map strOf)
 | _=>none
noncomputable abbrev IL:=Value×Option Addr×Array (Option Value)×Bool×List (Int×Option Str×Option Int)
noncomputable def Ar (K:W.Frag) (a:Addr):Option IL:=match K.lookup a with
 | some ⟨c,d,.dict es _,sl⟩=>some (c,d,sl,a == sysModules,es.toList.map fun e=>(e.hash,strOf e.key,intOf e.val))
 | _=>none
noncomputable def vd (w:World) (kvs:List (Str×Int)):IL:=(.type "dict", none, #[], false, kvs.map fun z=>(PyData.keyHash w.params z.1, some z.1, some z.2))
noncomputable abbrev IF:=List (Option AR)×List (Option IM)×List (Option (AR×Bool))×List (Option LP)×List (Option Int)×List (Option (Option Value))×List (Option LQ)×List (Option IL)
noncomputable def Tb.tY (t:Tb) (K:W.Frag):IF:=(t.fn.map fun r=>(adr K r.x).bind (qm K),t.cl.map fun x=>(adr K x).map (oz t K),t.mt.map (yU t K),t.xc.zipIdx.map fun x=>(adr K x.1).map (zT t K),t.cs.map fun c=>Ax K c.1,t.bl.map (W.nsIn K mainGlobals),t.ct.map fun c=>(adr K c.1).bind (xB K),t.cd.map fun c=>(adr K c.1).bind (Ar K))
noncomputable def Tb.good (t:Tb) (P:lO) (w:World):IF:=(t.fn.map fun r=>some r.good, t.cl.map fun _=>some (j5 t), t.mt.map fun r=>some (r.2.good, true), t.xc.zipIdx.map fun x=>some (true, some true, t.xc.zipIdx.map fun y=>some (P.sub x.2 y.2)), t.cs.map fun c=>some c.2.2, t.bl.map fun _=>some none, t.ct.map fun c=>some (.type "tuple", c.2.2.map some), t.cd.map fun c=>some (vd w c.2.2))
noncomputable def Tb.hook (t:Tb) (P:lO):W.Hook:=⟨IF,fun s=>t.tY (allOf s.heap),fun w=>t.good P w,fun w h=>∃ K:W.Frag,K.In h/\t.tY K=t.good P w,fun _ s e=>⟨_,AN s.heap,e⟩,fun _ _ _ ⟨K,X,e⟩ k=>⟨K,X.keeps k,e⟩⟩
end Fg
end
section
namespace bM
open Fg
noncomputable def lK:List PySem.Str:=["part", "word"]
noncomputable def uJ:Fn:=⟨1,2,[],false,
 (.cons (.set 1 (.idx (.v 0) (.k (.int 0))))
 (.cons (.ifs (.cmp .isin (.v 1) (.g 0)) (.cons (.ret (.sl true (.v 0) (.some (.k (.int 1))) .none))
 .nil) .nil)
 (.cons (.ifs (.cmp .isin (.v 1) (.tup (.cons (.k (.str "let")) (.cons (.k (.str "call")) .nil)))) (.cons (.ret (.sl true (.v 0) (.some (.k (.int 2))) .none))
 .nil) .nil)
 (.cons (.ret (.tup .nil))
 .nil))))⟩
noncomputable def d8:List PySem.Str:=["program", "name", "function"]
noncomputable def dm:Fn:=⟨2,3,[],false,
 (.cons (.for [2] (.e (.v 0)) (.cons (.ifs (.cmp .eq (.idx (.v 2) (.k (.int 0))) (.v 1)) (.cons (.ret (.v 2))
 .nil) .nil)
 .nil))
 (.cons (.raise 1 (.cons (.v 1) .nil))
 .nil))⟩
noncomputable def jL:List PySem.Str:=["value"]
noncomputable def jh:Fn:=⟨1,1,[],false,
 (.cons (.ifs (.r9 (.v 0) .tuple) (.cons (.ret (.idx (.v 0) (.k (.int 1))))
 .nil) .nil)
 (.cons (.ret (.k (.int 1)))
 .nil))⟩
noncomputable def jO:List PySem.Str:=["word", "first", "second", "size"]
noncomputable def gj:Fn:=⟨3,4,[],false,
 (.cons (.set 3 (.op .add true (.op .add true (.k (.int 1)) (.call 2 (.cons (.v 1) .nil))) (.call 2 (.cons (.v 2) .nil))))
 (.cons (.ifs (.cmp .gt (.v 3) (.g 1)) (.cons (.raise 2 (.cons (.v 0) (.cons (.v 3) .nil)))
 .nil) .nil)
 (.cons (.ret (.tup (.cons (.v 0) (.cons (.v 3) (.cons (.v 1) (.cons (.v 2) .nil))))))
 .nil)))⟩
noncomputable def dJ:List PySem.Str:=["number"]
noncomputable def cZ:Fn:=⟨1,1,[],false,
 (.cons (.ifs (.cmp .ge (.iT .abs (.v 0)) (.op .pow true (.k (.int 10)) (.k (.int 60)))) (.cons (.raise 2 .nil)
 .nil) .nil)
 .nil)⟩
noncomputable def ji:List PySem.Str:=["word", "first", "second", "number"]
noncomputable def gW:Fn:=⟨3,4,[],false,
 (.cons (.ifs (.cmp .eq (.v 0) (.k (.str "less"))) (.cons (.ret (.AZ (.cmp .lt (.v 1) (.v 2)) (.k (.int 1)) (.k (.int 0))))
 .nil) .nil)
 (.cons (.ifs (.cmp .eq (.v 0) (.k (.str "plus"))) (.cons (.set 3 (.op .add true (.v 1) (.v 2)))
 .nil) (.cons (.ifs (.cmp .eq (.v 0) (.k (.str "minus"))) (.cons (.set 3 (.op .sub true (.v 1) (.v 2)))
 .nil) (.cons (.set 3 (.op .mul true (.v 1) (.v 2)))
 .nil))
 .nil))
 (.cons (.ex (.call 4 (.cons (.v 3) .nil)))
 (.cons (.ret (.v 3))
 .nil))))⟩
noncomputable def iE:List PySem.Str:=["word", "value"]
noncomputable def fU:Fn:=⟨2,2,[],false,
 (.cons (.ifs (.cmp .wo (.v 1) (.k .ao)) (.cons (.raise 3 (.cons (.v 0) .nil))
 .nil) .nil)
 (.cons (.ifs (.cmp .isin (.v 0) (.tup (.cons (.k (.str "first")) (.cons (.k (.str "head")) .nil)))) (.cons (.ret (.idx (.v 1) (.k (.int 2))))
 .nil) .nil)
 (.cons (.ret (.idx (.v 1) (.k (.int 3))))
 .nil)))⟩
noncomputable def jN:List PySem.Str:=["word", "given"]
noncomputable def mJ:Fn:=⟨2,2,[],false,
 (.cons (.ifs (.cmp .isin (.v 0) (.tup (.cons (.k (.str "plus")) (.cons (.k (.str "minus")) (.cons (.k (.str "times")) (.cons (.k (.str "less")) .nil)))))) (.cons (.ret (.call 5 (.cons (.v 0) (.cons (.idx (.v 1) (.k (.int 0))) (.cons (.idx (.v 1) (.k (.int 1))) .nil)))))
 .nil) .nil)
 (.cons (.ifs (.cmp .isin (.v 0) (.tup (.cons (.k (.str "pair")) (.cons (.k (.str "cons")) .nil)))) (.cons (.ret (.call 3 (.cons (.v 0) (.cons (.idx (.v 1) (.k (.int 0))) (.cons (.idx (.v 1) (.k (.int 1))) .nil)))))
 .nil) .nil)
 (.cons (.ifs (.cmp .eq (.v 0) (.k (.str "none"))) (.cons (.ret (.AZ (.cmp .wo (.idx (.v 1) (.k (.int 0))) (.k .ao)) (.k (.int 1)) (.k (.int 0))))
 .nil) .nil)
 (.cons (.ret (.call 6 (.cons (.v 0) (.cons (.idx (.v 1) (.k (.int 0))) .nil))))
 .nil))))⟩
noncomputable def n9:List PySem.Str:=["value", "members"]
noncomputable def zS:Fn:=⟨1,2,[],true,
 (.cons (.ifs (.r9 (.v 0) .int) (.cons (.ret (.v 0))
 .nil) .nil)
 (.cons (.ifs (.and (.cmp .gQ (.v 0) (.k .ao)) (.cmp .eq (.idx (.v 0) (.k (.int 0))) (.k (.str "pair")))) (.cons (.ret (.tup (.cons (.call 8 (.cons (.idx (.v 0) (.k (.int 2))) .nil)) (.cons (.call 8 (.cons (.idx (.v 0) (.k (.int 3))) .nil)) .nil))))
 .nil) .nil)
 (.cons (.set 1 (.lst false .nil))
 (.cons (.while (.cmp .gQ (.v 0) (.k .ao)) (.cons (.ex (.dH .append true (.v 1) (.cons (.call 8 (.cons (.idx (.v 0) (.k (.int 2))) .nil)) .nil)))
 (.cons (.set 0 (.idx (.v 0) (.k (.int 3))))
 .nil)))
 (.cons (.ret (.v 1))
 .nil)))))⟩
noncomputable def eW:List PySem.Str:=["begun", "under_way", "most"]
noncomputable def d7:Fn:=⟨3,3,[],false,
 (.cons (.ifs (.cmp .gt (.op .add true (.v 0) (.k (.int 1))) (.v 2)) (.cons (.raise 4 .nil)
 .nil) .nil)
 (.cons (.ifs (.cmp .gt (.op .add true (.v 1) (.k (.int 1))) (.g 2)) (.cons (.raise 5 (.cons (.g 2) .nil))
 .nil) .nil)
 .nil))⟩
noncomputable def iD:List PySem.Str:=["program", "numbers", "most", "run"]
noncomputable def fT:Fn:=⟨3,4,[],false,
 (.cons (.set 3 (.new 0 11 (.cons (.v 0) (.cons (.v 2) .nil))))
 (.cons (.ex (.dc 0 17 "put_off_body" (.v 3) (.cons (.k (.str "main")) (.cons (.v 1) .nil))))
 (.cons (.while (.cmp .ne (.fld (.v 3) "todo") (.lst true .nil)) (.cons (.ex (.dc 0 18 "do_next" (.v 3) .nil))
 .nil))
 (.cons (.ret (.call 8 (.cons (.dH .pop true (.fld (.v 3) "waiting") .nil) .nil)))
 .nil))))⟩
noncomputable def dg:List PySem.Str:=["self", "program", "most"]
noncomputable def cH:Fn:=⟨3,3,[],false,
 (.cons (.eF (.v 0) "program" (.v 1))
 (.cons (.eF (.v 0) "most" (.v 2))
 (.cons (.eF (.v 0) "begun" (.k (.int 0)))
 (.cons (.eF (.v 0) "under_way" (.k (.int 0)))
 (.cons (.eF (.v 0) "todo" (.lst false .nil))
 (.cons (.eF (.v 0) "waiting" (.lst false .nil))
 .nil))))))⟩
noncomputable def dM:List PySem.Str:=["self", "step", "part", "names"]
noncomputable def c6:Fn:=⟨4,4,[],false,
 (.cons (.ex (.dH .append true (.fld (.v 0) "todo") (.cons (.tup (.cons (.v 1) (.cons (.v 2) (.cons (.v 3) .nil)))) .nil)))
 .nil)⟩
noncomputable def e8:List PySem.Str:=["self", "part", "names", "word", "within"]
noncomputable def bC:Fn:=⟨3,5,[],false,
 (.cons (.set 3 (.idx (.v 1) (.k (.int 0))))
 (.cons (.ifs (.cmp .eq (.v 3) (.k (.str "number"))) (.cons (.ex (.dH .append true (.fld (.v 0) "waiting") (.cons (.idx (.v 1) (.k (.int 1))) .nil)))
 .nil) (.cons (.ifs (.cmp .eq (.v 3) (.k (.str "name"))) (.cons (.ex (.dH .append true (.fld (.v 0) "waiting") (.cons (.idx (.v 2) (.idx (.v 1) (.k (.int 1)))) .nil)))
 .nil) (.cons (.ifs (.cmp .eq (.v 3) (.k (.str "nil"))) (.cons (.ex (.dH .append true (.fld (.v 0) "waiting") (.cons (.k .ao) .nil)))
 .nil) (.cons (.ifs (.cmp .isin (.v 3) (.tup (.cons (.k (.str "let")) (.cons (.k (.str "if")) .nil)))) (.cons (.ex (.dc 0 12 "put_off" (.v 0) (.cons (.k (.str "go on")) (.cons (.v 1) (.cons (.v 2) .nil)))))
 (.cons (.ex (.dc 0 12 "put_off" (.v 0) (.cons (.k (.str "begin")) (.cons (.idx (.call 0 (.cons (.v 1) .nil)) (.k (.int 0))) (.cons (.v 2) .nil)))))
 .nil)) (.cons (.ex (.dc 0 12 "put_off" (.v 0) (.cons (.k (.str "end")) (.cons (.v 1) (.cons (.v 2) .nil)))))
 (.cons (.for [4] (.rev (.call 0 (.cons (.v 1) .nil))) (.cons (.ex (.dc 0 12 "put_off" (.v 0) (.cons (.k (.str "begin")) (.cons (.v 4) (.cons (.v 2) .nil)))))
 .nil))
 .nil)))
 .nil))
 .nil))
 .nil))
 .nil))⟩
noncomputable def eZ:List PySem.Str:=["self", "part", "names", "value", "known"]
noncomputable def d9:Fn:=⟨3,5,[],false,
 (.cons (.set 3 (.dH .pop true (.fld (.v 0) "waiting") .nil))
 (.cons (.ifs (.cmp .eq (.idx (.v 1) (.k (.int 0))) (.k (.str "let"))) (.cons (.set 4 (.blt .dict false (.cons (.v 2) .nil)))
 (.cons (.rA (.v 4) (.idx (.v 1) (.k (.int 1))) (.v 3))
 (.cons (.ex (.dc 0 12 "put_off" (.v 0) (.cons (.k (.str "begin")) (.cons (.idx (.v 1) (.k (.int 3))) (.cons (.v 4) .nil)))))
 .nil))) (.cons (.ifs (.cmp .ne (.v 3) (.k (.int 0))) (.cons (.ex (.dc 0 12 "put_off" (.v 0) (.cons (.k (.str "begin")) (.cons (.idx (.v 1) (.k (.int 2))) (.cons (.v 2) .nil)))))
 .nil) (.cons (.ex (.dc 0 12 "put_off" (.v 0) (.cons (.k (.str "begin")) (.cons (.idx (.v 1) (.k (.int 3))) (.cons (.v 2) .nil)))))
 .nil))
 .nil))
 .nil))⟩
noncomputable def fV:List PySem.Str:=["self", "part", "given"]
noncomputable def fW:Fn:=⟨2,3,[],false,
 (.cons (.set 2 (.comp false [0] [1] (.dH .pop true (.fld (.v 0) "waiting") .nil) (.e (.call 0 (.cons (.v 1) .nil))) .none))
 (.cons (.ex (.dH .reverse true (.v 2) .nil))
 (.cons (.ifs (.cmp .eq (.idx (.v 1) (.k (.int 0))) (.k (.str "call"))) (.cons (.ex (.dc 0 16 "call" (.v 0) (.cons (.idx (.v 1) (.k (.int 1))) (.cons (.v 2) .nil))))
 .nil) (.cons (.ex (.dH .append true (.fld (.v 0) "waiting") (.cons (.call 7 (.cons (.idx (.v 1) (.k (.int 0))) (.cons (.v 2) .nil))) .nil)))
 .nil))
 .nil)))⟩
noncomputable def fG:List PySem.Str:=["self", "name", "given"]
noncomputable def fq:Fn:=⟨3,3,[],false,
 (.cons (.ex (.call 9 (.cons (.fld (.v 0) "begun") (.cons (.fld (.v 0) "under_way") (.cons (.fld (.v 0) "most") .nil)))))
 (.cons (.eF (.v 0) "begun" (.op .add false (.fld (.v 0) "begun") (.k (.int 1))))
 (.cons (.eF (.v 0) "under_way" (.op .add false (.fld (.v 0) "under_way") (.k (.int 1))))
 (.cons (.ex (.dc 0 12 "put_off" (.v 0) (.cons (.k (.str "back")) (.cons (.k .ao) (.cons (.k .ao) .nil)))))
 (.cons (.ex (.dc 0 17 "put_off_body" (.v 0) (.cons (.v 1) (.cons (.v 2) .nil))))
 .nil)))))⟩
noncomputable def cy:List PySem.Str:=["self", "name", "given", "function", "takers"]
noncomputable def bK:Fn:=⟨3,5,[],false,
 (.cons (.set 3 (.call 1 (.cons (.fld (.v 0) "program") (.cons (.v 1) .nil))))
 (.cons (.set 4 (.comp true [] [0] (.idx (.v 0) (.k (.int 0))) (.e (.idx (.v 3) (.k (.int 1)))) .none))
 (.cons (.ex (.dc 0 12 "put_off" (.v 0) (.cons (.k (.str "begin")) (.cons (.idx (.v 3) (.k (.int 3))) (.cons (.dz (.v 4) (.v 2)) .nil)))))
 .nil)))⟩
noncomputable def dN:List PySem.Str:=["self", "doing"]
noncomputable def aW:Fn:=⟨1,2,[],false,
 (.cons (.set 1 (.dH .pop true (.fld (.v 0) "todo") .nil))
 (.cons (.ifs (.cmp .eq (.idx (.v 1) (.k (.int 0))) (.k (.str "begin"))) (.cons (.ex (.dc 0 13 "begin" (.v 0) (.cons (.idx (.v 1) (.k (.int 1))) (.cons (.idx (.v 1) (.k (.int 2))) .nil))))
 .nil) (.cons (.ifs (.cmp .eq (.idx (.v 1) (.k (.int 0))) (.k (.str "go on"))) (.cons (.ex (.dc 0 14 "go_on" (.v 0) (.cons (.idx (.v 1) (.k (.int 1))) (.cons (.idx (.v 1) (.k (.int 2))) .nil))))
 .nil) (.cons (.ifs (.cmp .eq (.idx (.v 1) (.k (.int 0))) (.k (.str "end"))) (.cons (.ex (.dc 0 15 "end" (.v 0) (.cons (.idx (.v 1) (.k (.int 1))) .nil)))
 .nil) (.cons (.eF (.v 0) "under_way" (.op .sub false (.fld (.v 0) "under_way") (.k (.int 1))))
 .nil))
 .nil))
 .nil))
 .nil))⟩
noncomputable def iF:List PySem.Str:=["_law_cell"]
noncomputable def jB:Fn:=⟨1,1,[],false,
 (.cons (.ret (.op .mod true (.op .mul true (.op .mul true (.op .add true (.op .mod true (.v 0) (.k (.int 2147483647))) (.k (.int 11))) (.k (.int 48271))) (.k (.int 69621))) (.k (.int 2147483629))))
 .nil)⟩
noncomputable def gr:List PySem.Str:=["_law_script", "_law_k"]
noncomputable def gI:Fn:=⟨2,2,[],false,
 (.cons (.ifs (.cmp .lt (.v 1) (.blt .len true (.cons (.v 0) .nil))) (.cons (.ret (.call 19 (.cons (.idx (.v 0) (.v 1)) .nil)))
 .nil) .nil)
 (.cons (.ret (.call 19 (.cons (.k (.int 0)) .nil)))
 .nil))⟩
noncomputable def gu:List PySem.Str:=["_law_cells", "_law_given", "_law_found", "_law_k", "_law_number"]
noncomputable def b6:Fn:=⟨2,5,[],false,
 (.cons (.set 2 (.lst false .nil))
 (.cons (.for [3] (.g8 (.blt .len true (.cons (.v 0) .nil))) (.cons (.set 4 (.op .mod true (.idx (.v 0) (.v 3)) (.idx (.lst true (.cons (.op .pow true (.k (.int 10)) (.k (.int 30))) (.cons (.op .pow true (.k (.int 10)) (.k (.int 60))) .nil))) (.iT .int (.cmp .lt (.v 3) (.v 1))))))
 (.cons (.ex (.dH .append true (.v 2) (.cons (.op .mul true (.v 4) (.op .sub true (.k (.int 1)) (.op .mul true (.k (.int 2)) (.op .mod true (.call 19 (.cons (.idx (.v 0) (.v 3)) .nil)) (.k (.int 2)))))) .nil)))
 .nil)))
 (.cons (.ret (.v 2))
 .nil)))⟩
noncomputable def jj:List PySem.Str:=["_law_numbers", "_law_given", "_law_part", "_law_k", "_law_member"]
noncomputable def eY:Fn:=⟨2,5,[],false,
 (.cons (.set 2 (.tup (.cons (.k (.str "nil")) (.cons (.tup (.cons (.k (.str "num")) .nil)) .nil))))
 (.cons (.for [3] (.fE (.op .sub true (.blt .len true (.cons (.v 0) .nil)) (.k (.int 1))) (.neg (.k (.int 1)))) (.cons (.set 4 (.tup (.cons (.k (.str "number")) (.cons (.idx (.v 0) (.v 3)) .nil))))
 (.cons (.ifs (.cmp .lt (.v 3) (.v 1)) (.cons (.set 4 (.tup (.cons (.k (.str "name")) (.cons (.idx (.k (.str "uvw")) (.v 3)) .nil))))
 .nil) .nil)
 (.cons (.set 2 (.tup (.cons (.k (.str "cons")) (.cons (.v 4) (.cons (.v 2) .nil)))))
 .nil))))
 (.cons (.ret (.v 2))
 .nil)))⟩
noncomputable def gX:List PySem.Str:=["_law_word", "_law_tails", "_law_part", "_law_k"]
noncomputable def cK:Fn:=⟨2,4,[],false,
 (.cons (.set 2 (.tup (.cons (.k (.str "name")) (.cons (.k (.str "row")) .nil))))
 (.cons (.for [3] (.g8 (.v 1)) (.cons (.set 2 (.tup (.cons (.k (.str "tail")) (.cons (.v 2) .nil))))
 .nil))
 (.cons (.ret (.tup (.cons (.v 0) (.cons (.v 2) .nil))))
 .nil)))⟩
noncomputable def jM:List PySem.Str:=["_law_word", "_law_tails", "_law_numbers"]
noncomputable def mH:Fn:=⟨3,3,[],false,
 (.cons (.ifs (.or (.cmp .gt (.v 1) (.blt .len true (.cons (.v 2) .nil))) (.and (.cmp .eq (.v 1) (.blt .len true (.cons (.v 2) .nil))) (.cmp .ne (.v 0) (.k (.str "none"))))) (.cons (.ret (.k .ao))
 .nil) .nil)
 (.cons (.ifs (.cmp .eq (.v 0) (.k (.str "none"))) (.cons (.ret (.iT .int (.cmp .eq (.v 1) (.blt .len true (.cons (.v 2) .nil)))))
 .nil) .nil)
 (.cons (.ret (.idx (.lst true (.cons (.idx (.v 2) (.v 1)) (.cons (.sl true (.v 2) (.some (.op .add true (.v 1) (.k (.int 1)))) .none) .nil))) (.iT .int (.cmp .eq (.v 0) (.k (.str "tail"))))))
 .nil)))⟩
noncomputable def gw:List PySem.Str:=["_law_many", "_law_part", "_law_k", "_law_deeper"]
noncomputable def b9:Fn:=⟨1,4,[],false,
 (.cons (.set 1 (.tup (.cons (.k (.str "number")) (.cons (.k (.int 7)) .nil))))
 (.cons (.for [2] (.fE (.v 0) (.k (.int 0))) (.cons (.set 3 (.tup (.cons (.k (.str "number")) (.cons (.k (.int 1)) .nil))))
 (.cons (.ifs (.cmp .gt (.v 2) (.k (.int 1))) (.cons (.set 3 (.tup (.cons (.k (.str "name")) (.cons (.idx (.k (.str "abcdefghi")) (.op .sub true (.v 2) (.k (.int 2)))) .nil))))
 .nil) .nil)
 (.cons (.set 1 (.tup (.cons (.k (.str "let")) (.cons (.idx (.k (.str "abcdefghi")) (.op .sub true (.v 2) (.k (.int 1)))) (.cons (.tup (.cons (.k (.str "pair")) (.cons (.v 3) (.cons (.v 3) .nil)))) (.cons (.v 1) .nil))))))
 .nil))))
 (.cons (.ret (.v 1))
 .nil)))⟩
noncomputable def iG:List PySem.Str:=["_law_program", "_law_numbers", "_law_word", "_law_found"]
noncomputable def jC:Fn:=⟨2,4,[],false,
 (.cons (.set 2 (.k (.str "")))
 (.cons (.set 3 (.k .ao))
 (.cons (.try (.cons (.set 3 (.gM 10 (.cons (.v 0) (.cons (.v 1) .nil)) 200))
 .nil) (.cons [3] (.cons (.set 2 (.k (.str "empty")))
 .nil) (.cons [2] (.cons (.set 2 (.k (.str "great")))
 .nil) (.cons [0] (.cons (.set 2 (.k (.str "other")))
 .nil) .nil))) .nil)
 (.cons (.ret (.tup (.cons (.v 2) (.cons (.v 3) .nil))))
 .nil))))⟩
noncomputable def qt:List PySem.Str:=["_law_script", "_law_seed", "_law_given", "_law_numbers", "_law_takers", "_law_kind", "_law_handed", "_law_word", "_law_tails", "_law_body", "_law_gives", "_law_due_here", "_law_found", "_law_twice", "_law_many"]
noncomputable def Ep:Fn:=⟨1,15,[],false,
 (.cons (.set 1 (.call 20 (.cons (.v 0) (.cons (.k (.int 0)) .nil))))
 (.cons (.set 2 (.mx false (.op .mod true (.v 1) (.k (.int 4))) (.blt .len true (.cons (.sl true (.v 0) (.some (.k (.int 2))) (.some (.k (.int 9)))) .nil))))
 (.cons (.set 3 (.call 21 (.cons (.sl true (.v 0) (.some (.k (.int 2))) (.some (.k (.int 9)))) (.cons (.v 2) .nil))))
 (.cons (.set 4 (.comp true [] [0] (.tup (.cons (.idx (.k (.str "uvw")) (.v 0)) (.cons (.tup (.cons (.k (.str "num")) .nil)) .nil))) (.g8 (.v 2)) .none))
 (.cons (.set 5 (.tup (.cons (.k (.str "list")) (.cons (.tup (.cons (.k (.str "num")) .nil)) .nil))))
 (.cons (.set 6 (.blt .list true (.cons (.sl true (.v 3) .none (.some (.v 2))) .nil)))
 (.cons (.ifs (.cmp .ne (.call 26 (.cons (.lst true (.cons (.tup (.cons (.k (.str "main")) (.cons (.v 4) (.cons (.v 5) (.cons (.call 22 (.cons (.v 3) (.cons (.v 2) .nil))) .nil))))) .nil)) (.cons (.v 6) .nil))) (.tup (.cons (.k (.str "")) (.cons (.v 3) .nil)))) (.cons (.ret (.k (.bl false)))
 .nil) .nil)
 (.cons (.set 7 (.idx (.lst true (.cons (.k (.str "head")) (.cons (.k (.str "tail")) (.cons (.k (.str "none")) .nil)))) (.op .mod true (.op .fdiv true (.v 1) (.k (.int 4))) (.k (.int 3)))))
 (.cons (.set 8 (.op .mod true (.op .fdiv true (.v 1) (.k (.int 12))) (.k (.int 8))))
 (.cons (.set 9 (.tup (.cons (.k (.str "let")) (.cons (.k (.str "row")) (.cons (.call 22 (.cons (.v 3) (.cons (.v 2) .nil))) (.cons (.tup (.cons (.k (.str "pair")) (.cons (.tup (.cons (.k (.str "name")) (.cons (.k (.str "row")) .nil))) (.cons (.call 23 (.cons (.v 7) (.cons (.v 8) .nil))) .nil)))) .nil))))))
 (.cons (.set 10 (.tup (.cons (.k (.str "pair")) (.cons (.v 5) (.cons (.idx (.lst true (.cons (.tup (.cons (.k (.str "num")) .nil)) (.cons (.v 5) .nil))) (.iT .int (.cmp .eq (.v 7) (.k (.str "tail"))))) .nil)))))
 (.cons (.set 11 (.call 24 (.cons (.v 7) (.cons (.v 8) (.cons (.v 3) .nil)))))
 (.cons (.set 12 (.call 26 (.cons (.lst true (.cons (.tup (.cons (.k (.str "main")) (.cons (.v 4) (.cons (.v 10) (.cons (.v 9) .nil))))) .nil)) (.cons (.v 6) .nil))))
 (.cons (.ifs (.or (.cmp .ne (.v 6) (.sl true (.v 3) .none (.some (.v 2)))) (.and (.cmp .wo (.v 11) (.k .ao)) (.cmp .ne (.idx (.v 12) (.k (.int 0))) (.k (.str "empty"))))) (.cons (.ret (.k (.bl false)))
 .nil) .nil)
 (.cons (.ifs (.and (.cmp .gQ (.v 11) (.k .ao)) (.or (.cmp .ne (.v 12) (.tup (.cons (.k (.str "")) (.cons (.tup (.cons (.v 3) (.cons (.v 11) .nil))) .nil)))) (.not (.r9 (.idx (.v 12) (.k (.int 1))) .tuple)))) (.cons (.ret (.k (.bl false)))
 .nil) .nil)
 (.cons (.set 13 (.tup (.cons (.k (.str "let")) (.cons (.k (.str "row")) (.cons (.call 22 (.cons (.v 3) (.cons (.v 2) .nil))) (.cons (.tup (.cons (.k (.str "pair")) (.cons (.tup (.cons (.k (.str "name")) (.cons (.k (.str "row")) .nil))) (.cons (.tup (.cons (.k (.str "name")) (.cons (.k (.str "row")) .nil))) .nil)))) .nil))))))
 (.cons (.set 12 (.call 26 (.cons (.lst true (.cons (.tup (.cons (.k (.str "main")) (.cons (.v 4) (.cons (.tup (.cons (.k (.str "pair")) (.cons (.v 5) (.cons (.v 5) .nil)))) (.cons (.v 13) .nil))))) .nil)) (.cons (.v 6) .nil))))
 (.cons (.ifs (.cmp .ne (.v 12) (.tup (.cons (.k (.str "")) (.cons (.tup (.cons (.v 3) (.cons (.v 3) .nil))) .nil)))) (.cons (.ret (.k (.bl false)))
 .nil) .nil)
 (.cons (.ex (.dH .append true (.idx (.idx (.v 12) (.k (.int 1))) (.k (.int 0))) (.cons (.k (.int 7)) .nil)))
 (.cons (.ifs (.cmp .ne (.idx (.idx (.v 12) (.k (.int 1))) (.k (.int 1))) (.v 3)) (.cons (.ret (.k (.bl false)))
 .nil) .nil)
 (.cons (.set 14 (.op .mod true (.op .fdiv true (.v 1) (.k (.int 96))) (.k (.int 10))))
 (.cons (.set 12 (.call 26 (.cons (.lst true (.cons (.tup (.cons (.k (.str "main")) (.cons (.lst true .nil) (.cons (.tup (.cons (.k (.str "num")) .nil)) (.cons (.call 25 (.cons (.v 14) .nil)) .nil))))) .nil)) (.cons (.lst true .nil) .nil))))
 (.cons (.ret (.cmp .eq (.v 12) (.idx (.lst true (.cons (.tup (.cons (.k (.str "")) (.cons (.k (.int 7)) .nil))) (.cons (.tup (.cons (.k (.str "great")) (.cons (.k .ao) .nil))) .nil))) (.iT .int (.cmp .eq (.v 14) (.k (.int 9)))))))
 .nil)))))))))))))))))))))))⟩
noncomputable def fns:List Fn:=[uJ,dm,jh,gj,cZ,gW,fU,mJ,zS,d7,fT,cH,c6,bC,d9,fW,fq,bK,aW,jB,gI,b6,eY,cK,mH,b9,jC,Ep]
noncomputable def cst:List D:=[(.dct [(.inr "plus"), (.inr "minus"), (.inr "times"), (.inr "less"), (.inr "pair"), (.inr "first"), (.inr "second"), (.inr "cons"), (.inr "head"), (.inr "tail"), (.inr "none"), (.inr "if")] [(.int 2), (.int 2), (.int 2), (.int 2), (.int 2), (.int 1), (.int 1), (.int 2), (.int 1), (.int 1), (.int 1), (.int 3)]), (.int 1000), (.int 12)]
noncomputable def subs:List (Nat×Nat):=[(0,0),(1,0),(1,1),(2,0),(2,2),(3,0),(3,3),(4,0),(4,4),(5,0),(5,5)]
noncomputable def aj:lO:=⟨fun i=>fns[i]?,fun i=>cst[i]?,100000,fun a b=>subs.contains (a,b)⟩
end bM
end
section
set_option maxHeartbeats 0
namespace bM
open Fg PySem PySem.Spec L2
noncomputable abbrev IX:Program:=PySem.Challenge.pw_fieldgate_k12_plain_pairs_and_lists
noncomputable def bV (i:Nat):Stmt:=IX.main.body.getD i (.Pass ⟨0,0,0,0⟩)
noncomputable def tb:Tb:=⟨[
 ⟨"inner", "inner", bV 9, ["part"], lK, 0, none⟩,
 ⟨"function_called", "function_called", bV 11, ["program", "name"], d8, 1, none⟩,
 ⟨"size_of", "size_of", bV 15, ["value"], jL, 2, none⟩,
 ⟨"cell_of", "cell_of", bV 16, ["word", "first", "second"], jO, 3, none⟩,
 ⟨"want_few_figures", "want_few_figures", bV 17, ["number"], dJ, 4, none⟩,
 ⟨"reckoned", "reckoned", bV 18, ["word", "first", "second"], ji, 5, none⟩,
 ⟨"looked_up", "looked_up", bV 19, ["word", "value"], iE, 6, none⟩,
 ⟨"come_of", "come_of", bV 20, ["word", "given"], jN, 7, none⟩,
 ⟨"told", "told", bV 21, ["value"], n9, 8, none⟩,
 ⟨"want_few_calls", "want_few_calls", bV 22, ["begun", "under_way", "most"], eW, 9, none⟩,
 ⟨"plain_run", "plain_run", bV 24, ["program", "numbers", "most"], iD, 10, some 200⟩,
 ⟨"_law_mixed", "_law_mixed", bV 26, ["_law_cell"], iF, 19, none⟩,
 ⟨"_law_seed_at", "_law_seed_at", bV 27, ["_law_script", "_law_k"], gr, 20, none⟩,
 ⟨"_law_members", "_law_members", bV 28, ["_law_cells", "_law_given"], gu, 21, none⟩,
 ⟨"_law_list", "_law_list", bV 29, ["_law_numbers", "_law_given"], jj, 22, none⟩,
 ⟨"_law_looked", "_law_looked", bV 30, ["_law_word", "_law_tails"], gX, 23, none⟩,
 ⟨"_law_due", "_law_due", bV 31, ["_law_word", "_law_tails", "_law_numbers"], jM, 24, none⟩,
 ⟨"_law_doubled", "_law_doubled", bV 32, ["_law_many"], gw, 25, none⟩,
 ⟨"_law_asked", "_law_asked", bV 33, ["_law_program", "_law_numbers"], iG, 26, none⟩,
 ⟨"law", "law", bV 34, ["_law_script"], qt, 27, none⟩],
 ["PlainRun"],
 [(0, ⟨"__init__", "PlainRun.__init__", inClass (bV 23) 0, ["self", "program", "most"], dg, 11, none⟩),
 (0, ⟨"put_off", "PlainRun.put_off", inClass (bV 23) 1, ["self", "step", "part", "names"], dM, 12, none⟩),
 (0, ⟨"begin", "PlainRun.begin", inClass (bV 23) 2, ["self", "part", "names"], e8, 13, none⟩),
 (0, ⟨"go_on", "PlainRun.go_on", inClass (bV 23) 3, ["self", "part", "names"], eZ, 14, none⟩),
 (0, ⟨"end", "PlainRun.end", inClass (bV 23) 4, ["self", "part"], fV, 15, none⟩),
 (0, ⟨"call", "PlainRun.call", inClass (bV 23) 5, ["self", "name", "given"], fG, 16, none⟩),
 (0, ⟨"put_off_body", "PlainRun.put_off_body", inClass (bV 23) 6, ["self", "name", "given"], cy, 17, none⟩),
 (0, ⟨"do_next", "PlainRun.do_next", inClass (bV 23) 7, ["self"], dN, 18, none⟩)],
 ["GateError", "NoName", "TooGreat", "Empty", "TooLong", "TooDeep"],
 [("MOST_SIZE", 1, 1000), ("MOST_UNDER_WAY", 2, 12)],
 ["len", "tuple", "list", "dict", "int", "abs", "min", "range", "isinstance", "zip", "reversed"],
 ["program", "most", "begun", "under_way", "todo", "waiting"],
 [],
 [("PARTS_BEHIND", 0, [("plus", 2), ("minus", 2), ("times", 2), ("less", 2), ("pair", 2), ("first", 1), ("second", 1), ("cons", 2), ("head", 1), ("tail", 1), ("none", 1), ("if", 3)])]⟩
noncomputable def HE:Program:=W.view IX [34]
noncomputable def hdL:List Str:=["GateError", "NoName", "TooGreat", "Empty", "TooLong", "TooDeep", "PARTS_BEHIND", "inner", "function_called", "MOST_SIZE", "MOST_UNDER_WAY", "size_of", "cell_of", "want_few_figures", "reckoned", "looked_up", "come_of", "told", "want_few_calls", "PlainRun", "plain_run", "_law_mixed", "_law_seed_at", "_law_members", "_law_list", "_law_looked", "_law_due", "_law_doubled", "_law_asked"]
noncomputable def hdX (s:Shared):Bool:=W.xlAt HE [] s&&W.recOk (W.RowW.records PySem.Challenge.rw_fieldgate_k12_plain_pairs_and_lists.row.toRowW) s
noncomputable def lh (w:World) (b:Bool):=(W.fencedOpening treeTable IX w 20000).map fun s₀=>(W.topFrom treeTable IX (w.withFollow "special-get-raises" b) 20000 s₀).map fun s=>(W.openSeen HE hdL (importedModules IX.main.body) hdX true s, (tb.hook aj).obs s)
theorem lft0 (w:World):lh w false=some (some (W.openGood HE hdL, (tb.hook aj).val (w.withFollow "special-get-raises" false))):=by kernel_rfl
theorem lft1 (w:World):lh w true=some (some (W.openGood HE hdL, (tb.hook aj).val (w.withFollow "special-get-raises" true))):=by kernel_rfl
theorem lft:W.LeftO IX HE hdL hdX (tb.hook aj).obs (tb.hook aj).val 20000:=W.LeftO.of_split "special-get-raises" fun w=>by
 obtain ⟨s₀,a,b⟩:=Option.map_eq_some_iff.mp (lft0 w)
 obtain ⟨s₁,c,d⟩:=Option.map_eq_some_iff.mp (lft1 w)
 rw [a] at c
 cases c
 rw [a,Option.map_some,b,d]
end bM
end
section
namespace L2
open PySem PySem.Spec PyProof.Rows
noncomputable abbrev Key:=Sum Int Str
noncomputable def kH:Key->Value->Bool
 | .inl k,v=>Value.isInt k v
 | .inr x,v=>Value.isStrOf x v
noncomputable def keyH (w:World):Key->Int
 | .inl k=>hashInt k
 | .inr x=>hashStr w x
theorem aK:∀ {k:Key} {v:Value},kH k v=true->(∃ i t,k=Sum.inl i/\v=Value.int i t)\/(∃ x t,k=Sum.inr x/\v=Value.str x t)
 | .inl i,v,h=>by
  obtain ⟨t,e⟩:=Value.isInt_shape (k:=i) (v:=v) h
  exact .inl ⟨i,t,rfl,e⟩
 | .inr x,v,h=>by
  obtain ⟨t,e⟩:=Value.isStrOf_shape (x:=x) (v:=v) h
  exact .inr ⟨x,t,rfl,e⟩
theorem we (i:Int) (t:Tok):kH (.inl i) (.int i t)=true:=by simp [kH,Value.isInt]
theorem jd (x:Str) (t:Tok):kH (.inr x) (.str x t)=true:=by simp [kH,Value.isStrOf]
theorem GU (a b:Int):decide ((Sum.inl a:Key)=Sum.inl b)=(a == b):=by
 by_cases e:a=b
 ·subst e;simp
 ·have h:¬ (Sum.inl a:Key)=Sum.inl b:=fun q=>e (Sum.inl.inj q)
  rw [decide_eq_false h]
  exact (beq_eq_false_iff_ne.mpr e).symm
theorem GQ (a b:Str):decide ((Sum.inr a:Key)=Sum.inr b)=decide (a=b):=by
 by_cases e:a=b
 ·subst e;simp
 ·have h:¬ (Sum.inr a:Key)=Sum.inr b:=fun q=>e (Sum.inr.inj q)
  rw [decide_eq_false h,decide_eq_false e]
theorem GS (a:Int) (b:Str):decide ((Sum.inl a:Key)=Sum.inr b)=false:=decide_eq_false (fun q=>nomatch q)
theorem GR (a:Str) (b:Int):decide ((Sum.inr a:Key)=Sum.inl b)=false:=decide_eq_false (fun q=>nomatch q)
noncomputable def aI (prog:Program) (w:World):PySem.KeyKind prog w Key where
 is:=kH
 hash:=keyH w
 inj:=fun v a b ha hb=>by
  rcases aK ha with ⟨i,t,rfl,rfl⟩ | ⟨x,t,rfl,rfl⟩
  ·rcases aK hb with ⟨j,u,rfl,e⟩ | ⟨y,u,rfl,e⟩
   ·injection e with e1 _;rw [e1]
   ·exact nomatch e
  ·rcases aK hb with ⟨j,u,rfl,e⟩ | ⟨y,u,rfl,e⟩
   ·exact nomatch e
   ·injection e with e1 _;rw [e1]
 byValue:=fun k v h=>by
  rcases aK h with ⟨i,t,rfl,rfl⟩ | ⟨x,t,rfl,rfl⟩ <;> rfl
 pyHash:=fun hv h=>by
  rcases aK hv with ⟨i,t,rfl,rfl⟩ | ⟨x,t,rfl,rfl⟩
  ·exact wpAny_pyHash_int h
  ·exact wpAny_pyHash_str h
 eqBool:=fun hu hv h=>by
  rcases aK hu with ⟨i,t,rfl,rfl⟩ | ⟨x,t,rfl,rfl⟩
  ·rcases aK hv with ⟨j,u,rfl,rfl⟩ | ⟨y,u,rfl,rfl⟩
   ·rw [GU] at h;exact wpAny_eqBool_int h
   ·rw [GS] at h;exact SeqAt.EqAt.int_str i t y u _ _ _ _ h
  ·rcases aK hv with ⟨j,u,rfl,rfl⟩ | ⟨y,u,rfl,rfl⟩
   ·rw [GR] at h;exact SeqAt.EqAt.str_int x t j u _ _ _ _ h
   ·rw [GQ] at h;exact wpAny_eqBool_str h
 «strs»:=fun k x t v h=>by
  rcases aK h with ⟨i,u,rfl,e⟩ | ⟨y,u,rfl,e⟩
  ·exact nomatch e
  ·injection e with e1 _
   subst e1
   cases v <;> rfl
theorem qd (prog:Program) (w:World) (i:Int) (t:Tok):(aI prog w).is (.inl i) (.int i t)=true:=we i t
theorem qc (prog:Program) (w:World) (x:Str) (t:Tok):(aI prog w).is (.inr x) (.str x t)=true:=jd x t
inductive V where
 | ao | bl (b:Bool) | int (i:Int) | str (x:Str) | xh (b:Array UInt8) | MJ (b:UInt64) | ref (a:Addr) | ty (n:String)
 deriving DecidableEq
noncomputable def RelV:V->Value->Prop
 | .ao,u=>u=Value.none
 | .bl b,u=>u=Value.bool b
 | .int i,u=>∃ t,u=Value.int i t
 | .str x,u=>∃ t,u=Value.str x t
 | .xh b,u=>∃ t,u=Value.bytes b t
 | .MJ b,u=>∃ t,u=Value.float b t
 | .ref a,u=>u=Value.ref a
 | .ty n,u=>u=Value.type n
noncomputable abbrev Vals:List V->List Value->Prop:=Paired RelV
theorem Vals.length {xs:List V} {us:List Value} (r:Vals xs us):xs.length=us.length:=Paired.length r
theorem Vals.get:∀ {xs:List V} {us:List Value} {i:Nat} {x:V},Vals xs us->xs[i]? = some x->∃ u,us[i]? = some u/\RelV x u
 | _,_,_,_,.nil,e=>by simp at e
 | _,_,0,_,.cons r _,e=>by simp at e;subst e;exact ⟨_,rfl,r⟩
 | _,_,i+1,x,.cons _ t,e=>by
  obtain ⟨u,h1,h2⟩:=Vals.get (i:=i) (x:=x) t (by simpa using e)
  exact ⟨u,by simpa using h1,h2⟩
theorem Vals.set {x:V} {u:Value} (r:RelV x u):∀ {xs:List V} {us:List Value} (i:Nat),Vals xs us->Vals (xs.set i x) (us.set i u)
 | _,_,_,.nil=>.nil
 | _,_,0,.cons _ t=>.cons r t
 | _,_,i+1,.cons q t=>.cons q (Vals.set r i t)
theorem Vals.append:∀ {xs ys:List V} {us ws:List Value},Vals xs us->Vals ys ws->Vals (xs++ys) (us++ws)
 | _,_,_,_,.nil,s=>s
 | _,_,_,_,.cons r t,s=>.cons r (Vals.append t s)
theorem Vals.take:∀ {xs:List V} {us:List Value} (n:Nat),Vals xs us->Vals (xs.take n) (us.take n)
 | _,_,0,_=>.nil
 | _,_,_+1,.nil=>.nil
 | _,_,n+1,.cons r t=>.cons r (Vals.take n t)
theorem Vals.drop:∀ {xs:List V} {us:List Value} (n:Nat),Vals xs us->Vals (xs.drop n) (us.drop n)
 | _,_,0,r=>r
 | _,_,_+1,.nil=>.nil
 | _,_,n+1,.cons _ t=>Vals.drop n t
noncomputable def gZ:Option V->Option Value->Prop
 | some v,some u=>RelV v u
 | none,none=>True
 | _,_=>False
noncomputable def KV {κ:Type}:List (κ×V)->List (κ×Value)->Prop:=Paired fun (p:κ×V) (q:κ×Value)=>p.1=q.1/\RelV p.2 q.2
noncomputable def kV:Key->V
 | .inl i=>.int i
 | .inr x=>.str x
inductive HO where
 | lst (xs:List V)
 | tup (xs:List V)
 | dK (kvs:List (Key×V)) | dT (kvs:List (List Key×V))
 | set (S:Int->Bool) (n:Nat)
 | ins (C dx:Addr) (fs:List (Str×V))
 | own (x:Addr)
 | xd (fs:List (Str×V))
 | met (f x:Addr)
 | g8 (lo hi:Int)
 | gh (o:Obj) (u:HO)
 | DI (ps:Array Value)
 | ext (φ:Heap->Prop)
noncomputable abbrev Hp:=Addr->Option HO
noncomputable def upd (H:Hp) (a:Addr) (o:HO):Hp:=fun b=>if b=a then some o else H b
theorem ay {H:Hp} {a:Addr} {o:HO}:upd H a o a=some o:=by unfold upd;rw [if_pos rfl]
theorem aq {H:Hp} {a b:Addr} {o:HO} (h:b≠a):upd H a o b=H b:=by unfold upd;rw [if_neg h]
theorem Kl {H:Hp} {a b:Addr} {o u:HO} (h:H a=some o) (h':H b=some u) (d:o≠u):a≠b:=by
 intro e;subst e;rw [h] at h';exact d (Option.some.inj h')
theorem cV {H:Hp} {a b:Addr} {o:HO} (h:H a=some o) (h':H b=none):a≠b:=by
 intro e;subst e;rw [h] at h';cases h'
section
variable (P:Program) (w:World)
noncomputable def bh (H:Hp) (h:Heap) (a:Addr):HO->Prop
 | .lst xs=>xs.length<=sizeLine/\∃ (its:List Value) (n:Nat), Vals xs its/\h.get? a=some { cls:=.type "list", data:=.seq its.toArray n }
 | .tup xs=>xs.length<=sizeLine/\∃ its:List Value,Vals xs its/\IsTup h a its.toArray
 | .dK kvs=>kvs.length<=sizeLine/\(a == sysModules)=false/\∃ vs,KV kvs vs/\h.DictOf (aI P w) a vs
 | .dT kvs=>kvs.length<=sizeLine/\(a == sysModules)=false/\∃ xs:List (List Key×Addr×Value),
   Paired (fun (p:List Key×V) (q:List Key×Addr×Value)=>p.1=q.1/\H q.2.1=some (.tup (p.1.map kV))/\RelV p.2 q.2.2) kvs xs /\
   ∃ o es ep,h.get? a=some o/\o.ExactDict/\o.data=.dict es ep/\es.toList=xs.map (entryOfKey (tupleKind (aI P w)))/\(xs.map (·.1)).Nodup
 | .set S n=>h.SetOf (intKind P w) a S n
 | .ins C dx fs=>H dx=some (.own a)/\fs.length<=1000/\dx≠a/\h.get? a=some (PySem.W.instObj C dx) /\
   ∃ mA,h.Ns1 dx mA/\(∀ f,gZ (fs.lookup f) (mA f))/\PySem.Within mA (fs.map (·.1))
 | .own _=>∃ o,h.get? a=some o
 | .xd fs=>∃ mA,h.Ns1 a mA/\∀ f,gZ (fs.lookup f) (mA f)
 | .g8 lo hi=>∃ t u v, h.get? a=some { cls:=.type "range", data:=.fields #[.int lo t, .int hi u, .int 1 v] }
 | .gh o u=>h.get? a=some o/\bh H h a u
 | .DI ps=>h.get? a=some { cls:=.none,data:=.fields ps }
 | .met f x=>h.get? a=some (PySem.W.methodObj (.ref f) (.ref x))
 | .ext φ=>φ h/\(∃ o,h.get? a=some o)/\∀ h1 h2:Heap,φ h1->(∀ o,h1.get? a=some o->h2.get? a=some o)->φ h2
noncomputable def gC (H:Hp) (h:Heap):Prop:=∀ a o,H a=some o->bh P w H h a o
end
section
variable {P:Program} {w:World} {H H':Hp} {h h':Heap} {a:Addr} {o:HO}
theorem bh.lt (x:bh P w H h a o):a<h.objs.size:=by
 cases o with
 | lst xs=>obtain ⟨_,_,_,_,e⟩:=x;exact Heap.lt_size e
 | tup xs=>obtain ⟨_,_,_,p⟩:=x;exact p.lt
 | dK kvs=>obtain ⟨_,_,_,_,o,_,_,e,_⟩:=x;exact Heap.lt_size e
 | dT kvs=>obtain ⟨_,_,_,_,o,_,_,e,_⟩:=x;exact Heap.lt_size e
 | set S n=>obtain ⟨o,_,_,_,e,_⟩:=x;exact Heap.lt_size e
 | ins C dx fs=>obtain ⟨_,_,_,e,_⟩:=x;exact Heap.lt_size e
 | own y=>obtain ⟨_,e⟩:=x;exact Heap.lt_size e
 | xd fs=>obtain ⟨_,⟨_,_,_,e,_⟩,_⟩:=x;exact Heap.lt_size e
 | g8 lo hi=>obtain ⟨_,_,_,e⟩:=x;exact Heap.lt_size e
 | gh ob u=>obtain ⟨e,_⟩:=x;exact Heap.lt_size e
 | DI ps=>exact Heap.lt_size (show h.get? a=some _ from x)
 | met f y=>exact Heap.lt_size (show h.get? a=some _ from x)
 | ext φ=>obtain ⟨_,⟨_,e⟩,_⟩:=x;exact Heap.lt_size e
theorem Paired.GK {α β:Type} {F G:α->β->Prop}:∀ {l₁:List α} {l₂:List β},Paired F l₁ l₂->(∀ a b,F a b->G a b)->Paired G l₁ l₂
 | _,_,.nil,_=>.nil
 | _,_,.cons r t,f=>.cons (f _ _ r) (Paired.GK t f)
theorem bh.stay (x:bh P w H h a o) (k:∀ b u,(b=a\/H b=some (.own a))->h.get? b=some u->h'.get? b=some u)
  (ho:∀ b,H b=some (.own a)->H' b=some (.own a)) (ht:∀ b xs,H b=some (.tup xs)->H' b=some (.tup xs)):bh P w H' h' a o:=by
 induction o with
 | lst xs=>obtain ⟨z,its,n,r,e⟩:=x;exact ⟨z,its,n,r,k _ _ (.inl rfl) e⟩
 | tup xs=>obtain ⟨z,its,r,ob,e,c⟩:=x;exact ⟨z,its,r,ob,k _ _ (.inl rfl) e,c⟩
 | dK kvs=>obtain ⟨z,y,vs,r,ob,es,ep,e,c⟩:=x;exact ⟨z,y,vs,r,ob,es,ep,k _ _ (.inl rfl) e,c⟩
 | dT kvs =>
  obtain ⟨z,y,xs,r,ob,es,ep,e,c⟩:=x
  exact ⟨z,y,xs,Paired.GK r fun p q z=>⟨z.1,ht _ _ z.2.1,z.2.2⟩,ob,es,ep,k _ _ (.inl rfl) e,c⟩
 | set S n=>obtain ⟨ob,es,ep,t,e,c⟩:=x;exact ⟨ob,es,ep,t,k _ _ (.inl rfl) e,c⟩
 | ins C dx fs =>
  obtain ⟨d,z,ne,e,mA,⟨od,es,ep,e2,c⟩,r⟩:=x
  exact ⟨ho _ d,z,ne,k _ _ (.inl rfl) e,mA,⟨od,es,ep,k _ _ (.inr d) e2,c⟩,r⟩
 | own y=>obtain ⟨ob,e⟩:=x;exact ⟨ob,k _ _ (.inl rfl) e⟩
 | xd fs=>obtain ⟨mA,⟨od,es,ep,e,c⟩,r⟩:=x;exact ⟨mA,⟨od,es,ep,k _ _ (.inl rfl) e,c⟩,r⟩
 | g8 lo hi=>obtain ⟨t,u,v,e⟩:=x;exact ⟨t,u,v,k _ _ (.inl rfl) e⟩
 | gh ob u ih=>obtain ⟨e,q⟩:=x;exact ⟨k _ _ (.inl rfl) e,ih q⟩
 | DI ps =>
  have e:h.get? a=some { cls:=.none,data:=.fields ps }:=x
  show h'.get? a=some { cls:=.none,data:=.fields ps }
  exact k a _ (.inl rfl) e
 | met f y =>
  have e:h.get? a=some (PySem.W.methodObj (.ref f) (.ref y)):=x
  show h'.get? a=some (PySem.W.methodObj (.ref f) (.ref y))
  exact k a _ (.inl rfl) e
 | ext φ=>obtain ⟨p,⟨o,e⟩,st⟩:=x;exact ⟨st _ _ p fun o q=>k _ _ (.inl rfl) q,⟨o,k _ _ (.inl rfl) e⟩,st⟩
theorem gC.lt (x:gC P w H h) (e:H a=some o):a<h.objs.size:=(x a o e).lt
theorem gC.fresh (x:gC P w H h) (e:h.objs.size<=a):H a=none:=by
 cases q:H a with
 | none=>rfl
 | some u=>exact absurd (Nat.lt_of_lt_of_le (x.lt q) e) (Nat.lt_irrefl _)
theorem gC.kept (x:gC P w H h) (k:∀ b u,h.get? b=some u->h'.get? b=some u):gC P w H h':=fun a o e =>
 (x a o e).stay (fun b u _ q=>k b u q) (fun _ q=>q) fun _ _ q=>q
theorem gC.laid (x:gC P w H h) (k:∀ b u,h.get? b=some u->h'.get? b=some u) (hp:h.objs.size<=a) (new:bh P w (upd H a o) h' a o):gC P w (upd H a o) h':=fun b u e=>by
 have hn:=x.fresh hp
 by_cases hb:b=a
 ·subst hb;rw [ay] at e;cases e;exact new
 ·rw [aq hb] at e
  exact (x b u e).stay (fun c v _ q=>k c v q) (fun c q=>by rw [aq (cV q hn)];exact q) fun c xs q=>by rw [aq (cV q hn)];exact q
end
noncomputable def Rd (H:Hp) (a:Addr) (u:HO):Prop:=H a=some u\/∃ o,H a=some (.gh o u)
theorem Rd.ok {P:Program} {w:World} {H:Hp} {h:Heap} {a:Addr} {u:HO} (r:Rd H a u) (x:gC P w H h):bh P w H h a u:=by
 rcases r with r | ⟨o,r⟩
 ·exact x a u r
 ·obtain ⟨_,q⟩:=x a _ r
  exact q
noncomputable def LX:Option HO->Prop
 | some (.lst _)=>True
 | some (.dK _)=>True
 | some (.dT _)=>True
 | some (.set _ _)=>True
 | some (.ins _ _ _)=>True
 | some (.ext _)=>True
 | _=>False
section
variable {P:Program} {w:World} {H:Hp} {h h':Heap} {x e:Addr} {o':HO}
theorem gC.write (ok:gC P w H h) (mu:LX (H x)) (he:e=x\/H e=some (.own x)) (k:∀ b u,b≠e->h.get? b=some u->h'.get? b=some u) (Ej:∃ u,h'.get? e=some u)
  (new:bh P w (upd H x o') h' x o'):gC P w (upd H x o') h':=fun b u q=>by
 have Ke:∀ c y,H c=some (.own y)->c≠x:=fun c y r z=>by subst z;rw [r] at mu;exact mu
 have ntup:∀ c xs,H c=some (.tup xs)->c≠x:=fun c xs r z=>by subst z;rw [r] at mu;exact mu
 by_cases hb:b=x
 ·subst hb;rw [ay] at q;cases q;exact new
 ·rw [aq hb] at q
  by_cases HF:b=e
  ·have q':H b=some (.own x):=by
    rcases he with z | z
    ·exact absurd (HF.trans z) hb
    ·rw [HF];exact z
   rw [q] at q';cases q'
   obtain ⟨v,hv⟩:=Ej
   exact ⟨v,by rw [HF];exact hv⟩
  ·refine (ok b u q).stay (fun c v hc r=>k c v ?_ r) (fun c r=>by rw [aq (Ke c b r)];exact r) fun c xs r=>by rw [aq (ntup c xs r)];exact r
   rcases hc with rfl | hc
   ·exact HF
   ·rintro rfl
    rcases he with z | z
    ·exact Ke c b hc z
    ·rw [hc] at z;cases z;exact hb rfl
end
structure Un (fs ex:List Addr) (H H':Hp) (h h':Heap):Prop where
 keep:∀ b o,h.get? b=some o->H b=none->b∉fs->b∉ex->h'.get? b=some o
 slot:∀ b o,h.get? b=some o->H b=none->b∈fs->b∉ex->∃ sl,h'.get? b=some { o with slots:=sl }
 free:∀ b o,h.get? b=some o->H b=none->b∉ex->H' b=none
 there:∀ b o,h.get? b=some o->b∉ex->∃ o',h'.get? b=some o'
 tups:∀ b xs,H b=some (.tup xs)->H' b=some (.tup xs)
 gq:∀ b o u,H b=some (.gh o u)->H' b=some (.gh o u)
 ic:∀ b ps,H b=some (.DI ps)->∃ more,H' b=some (.DI (ps++more))
section
variable {fs fs' ex ex':List Addr} {H H1 H2:Hp} {h h1 h2 h':Heap} {a x e:Addr} {o:HO}
theorem Un.any (u:Un fs ex H H1 h h1) {b:Addr} {ob:Obj} (q:h.get? b=some ob) (n:H b=none) (hx:b∉ex):∃ sl,h1.get? b=some { ob with slots:=sl }:=by
 by_cases hb:b∈fs
 ·exact u.slot b ob q n hb hx
 ·exact ⟨ob.slots,u.keep b ob q n hb hx⟩
theorem Un.trans (a:Un fs ex H H1 h h1) (b:Un fs ex H1 H2 h1 h2):Un fs ex H H2 h h2 where
 keep:=fun c ob q n hc hx=>b.keep c ob (a.keep c ob q n hc hx) (a.free c ob q n hx) hc hx
 slot:=fun c ob q n hc hx=>by
  obtain ⟨sl,e1⟩:=a.slot c ob q n hc hx
  obtain ⟨DQ,e2⟩:=b.slot c _ e1 (a.free c ob q n hx) hc hx
  exact ⟨DQ,e2⟩
 free:=fun c ob q n hx=>by
  obtain ⟨o',e1⟩:=a.there c ob q hx
  exact b.free c o' e1 (a.free c ob q n hx) hx
 there:=fun c ob q hx=>by
  obtain ⟨o',e1⟩:=a.there c ob q hx
  exact b.there c o' e1 hx
 tups:=fun c xs q=>b.tups c xs (a.tups c xs q)
 gq:=fun c ob xs q=>b.gq c ob xs (a.gq c ob xs q)
 ic:=fun c ps q=>by
  obtain ⟨m1,e1⟩:=a.ic c ps q
  obtain ⟨m2,e2⟩:=b.ic c _ e1
  exact ⟨m1++m2,by rw [e2,Array.append_assoc]⟩
theorem Un.kept (k:∀ b u,h.get? b=some u->h'.get? b=some u):Un fs ex H H h h' :=
 ⟨fun b ob q _ _ _=>k b ob q,fun b ob q _ _ _=>⟨ob.slots,k b ob q⟩,fun _ _ _ n _=>n,fun b ob q _=>⟨ob,k b ob q⟩,fun _ _ q=>q,fun _ _ _ q=>q,fun _ ps q=>⟨#[],by rw [q];simp⟩⟩
theorem Un.refl:Un fs ex H H h h:=Un.kept fun _ _ q=>q
theorem Un.laid (k:∀ b u,h.get? b=some u->h'.get? b=some u) (hp:h.objs.size<=a) (hn:H a=none):Un fs ex H (upd H a o) h h' where
 keep:=fun b u q _ _ _=>k b u q
 slot:=fun b u q _ _ _=>⟨u.slots,k b u q⟩
 free:=fun b u q n _=>by rw [aq (Nat.ne_of_lt (Nat.lt_of_lt_of_le (Heap.lt_size q) hp))];exact n
 there:=fun b u q _=>⟨u,k b u q⟩
 tups:=fun b xs q=>by rw [aq (cV q hn)];exact q
 gq:=fun b u xs q=>by rw [aq (cV q hn)];exact q
 ic:=fun b ps q=>⟨#[],by rw [aq (cV q hn),q];simp⟩
theorem Un.write (mu:LX (H x)) (he:e=x\/H e=some (.own x)) (k:∀ b u,b≠e->h.get? b=some u->h'.get? b=some u) (Ej:∃ u,h'.get? e=some u):Un fs ex H (upd H x o) h h':=by
 have hx:∀ b,H b=none->b≠x:=fun b n z=>by subst z;rw [n] at mu;exact mu
 have hb:∀ b,H b=none->b≠e:=fun b n z=>by
  subst z
  rcases he with r | r
  ·exact hx b n r
  ·rw [n] at r;cases r
 have hm:∀ b u,H b=some u->¬ LX (some u)->b≠x:=fun b u q nm z=>by subst z;rw [q] at mu;exact nm mu
 refine ⟨fun b u q n _ _=>k b u (hb b n) q,fun b u q n _ _=>⟨u.slots,k b u (hb b n) q⟩,fun b u q n _=>by rw [aq (hx b n)];exact n,fun b u q _=>?_,
  fun b xs q=>by rw [aq (hm b _ q fun z=>z)];exact q,fun b u xs q=>by rw [aq (hm b _ q fun z=>z)];exact q,fun b ps q=>⟨#[],by rw [aq (hm b _ q fun z=>z),q];simp⟩⟩
 by_cases HF:b=e
 ·subst HF;exact Ej
 ·exact ⟨u,k b u HF q⟩
end
noncomputable def L7 (h:Heap) (H:Hp):List Addr:=(List.range h.objs.size).filter fun a=>(H a).isSome
noncomputable def nW (h:Heap) (H:Hp):Heap:=PySem.W.hideAll h (L7 h H)
theorem wC (h:Heap) (H:Hp):(nW h H).objs.size=h.objs.size:=PySem.W.hideAll_size _ _
theorem zL {h:Heap} {H:Hp} {b:Addr} {o:Obj} (e:h.get? b=some o) (n:H b=none):(nW h H).get? b=some o :=
 PySem.W.hideAll_get _ e fun hm=>by
  have q:(H b).isSome=true:=(List.mem_filter.mp hm).2
  rw [n] at q;simp at q
theorem Cj {h:Heap} {H:Hp} {b:Addr} {o:Obj} (e:(nW h H).get? b=some o):h.get? b=some o/\H b=none:=by
 have e':h.get? b=some o:=PySem.W.of_hideAll (L7 h H) e
 refine ⟨e',?_⟩
 cases q:H b with
 | none=>rfl
 | some x =>
  have hm:b∈L7 h H:=List.mem_filter.mpr ⟨List.mem_range.mpr (Heap.lt_size e'),by simp [q]⟩
  have z:(nW h H).get? b=none:=PySem.W.hideAll_none (L7 h H) hm
  rw [z] at e;cases e
noncomputable def Dr (g h:Heap) (L:Addr):List (Addr×Obj):=(List.range h.objs.size).filterMap fun a=>if a=L\/(g.get? a).isSome=true then none else (h.get? a).map fun o=>(a,o)
noncomputable def rest (g h:Heap) (L d:Addr):List (Addr×Obj):=(Dr g h L).filter fun p=>decide (p.1≠d)
structure Mod (K:PySem.W.Frag) (mg:Str->Option Value) (base:Heap):Prop where
 Cu:K.In base
 glob:base.Ns mainGlobals mg
 blt:∃ mb, base.Ns builtinsNs mb/\∀ x:Str, x≠"__name__"->mb x=bootBuiltins x
 nolimit:base.NoLimit
structure Cx where
 prog:Program
 w:World
 K:PySem.W.Frag
 mg:Str->Option Value
 base:Heap
 A:Around
 N:List Str
 s₀:Shared
 H₀:Hp
 env:Env
 outer:List Env
 stack:List Env
 ex:List Addr
 fn:Str->Bool
 calm:Bool
 pn:List (Addr×Obj)
 xe:Value->Shared->Prop
noncomputable def frs (l:List Env):List Addr:=l.filterMap (·.frame)
noncomputable abbrev Cx.fs (X:Cx):List Addr:=frs X.outer
noncomputable def M5 (sc:Scope) (x:Str):Prop:=sc.names.lookup x=some .local\/sc.names.lookup x=some .cell\/sc.names.lookup x=some .free
noncomputable def Loc (sc:Scope) (x:Str):Prop:=sc.names.lookup x=some .local\/sc.names.lookup x=some .cell
noncomputable def Look (env:Env) (h:Heap) (m:Str->Option Value) (x:Str) (u:Value):Prop :=
 (env.kindOf x=some .local/\m x=some u)\/((env.kindOf x=some .cell\/env.kindOf x=some .free)/\∃ c,env.cells.lookup x=some c/\h.IsCell c (some u))
structure Cx.Ok (X:Cx):Prop where
 mod:Mod X.K X.mg X.base
 kind:X.env.scope.kind=.function
 glob:X.env.globals=mainGlobals
 blt:X.env.builtins=builtinsNs
 above:X.s₀.heap.objs.size<=X.env.locals
 inj:∀ x y c,X.env.cells.lookup x=some c->X.env.cells.lookup y=some c->x=y
 has:∀ x,(X.env.kindOf x=some .cell\/X.env.kindOf x=some .free)->∃ c,X.env.cells.lookup x=some c
 EN:∀ x c,X.fn x=true->X.env.cells.lookup x=some c->X.s₀.heap.objs.size<=c
 hd:X.calm=true->X.A.handled=none
 frames:X.A.frames=some X.stack
 stk:X.stack=X.outer\/(X.stack=X.env::X.outer/\X.env.frame=some X.env.locals)
 K7:∀ b∈X.ex,b≠X.env.locals/\∀ x c,X.env.cells.lookup x=some c->c≠b
 bs:∀ b o,X.base.get? b=some o->X.s₀.heap.get? b=some o/\X.H₀ b=none
 wX:X.base.objs.size<=X.s₀.heap.objs.size
 p7:∀ b o,X.base.get? b=some o->b∉X.ex
 sA:∀ b∈X.ex,b∉X.fs
 gp:X.s₀.heap.FunFrames X.base X.outer
 zO:∀ b∈X.fs,X.H₀ b=none
structure Inv (X:Cx) (pins:List (Addr×Obj)) (σ:List (Option V)) (H:Hp) (s:Shared):Prop where
 ok:X.Ok
 os:s.os=X.s₀.os
 bare:AllBare s.gens
 base:Un X.fs X.ex X.H₀ H X.s₀.heap s.heap
 loc:∃ m,s.heap.Ns X.env.locals m/\∀ (i:Nat) (x:Str) (v:V),X.N[i]? = some x->σ[i]? = some (some v)->M5 X.env.scope x->∃ u,RelV v u/\Look X.env s.heap m x u
 cell:∀ x c,X.env.cells.lookup x=some c->∃ v,s.heap.IsCell c v
 free:H X.env.locals=none
 cu:∀ x c,X.env.cells.lookup x=some c->H c=none
 pin:∀ p∈X.pn++pins,s.heap.get? p.1=some p.2/\H p.1=none/\p.1≠X.env.locals/\p.1∉X.fs/\∀ v,p.2.data≠.cell v
 hok:gC X.prog X.w H s.heap
 len:σ.length=X.N.length
section
variable {X:Cx} {pins:List (Addr×Obj)} {σ:List (Option V)} {H H':Hp} {s:Shared} {h':Heap}
theorem Cx.Ok.nofr (ok:X.Ok) {b:Addr} {o:Obj} (e:X.base.get? b=some o):b∉X.fs:=fun hb=>by
 have:=(ok.gp.mem hb).1
 rw [e] at this;cases this
theorem Inv.bs (I:Inv X pins σ H s):∀ b o,X.base.get? b=some o->s.heap.get? b=some o/\H b=none:=fun b o e =>
 ⟨I.base.keep b o (I.ok.bs b o e).1 (I.ok.bs b o e).2 (I.ok.nofr e) (I.ok.p7 b o e),I.base.free b o (I.ok.bs b o e).1 (I.ok.bs b o e).2 (I.ok.p7 b o e)⟩
theorem Inv.bk (I:Inv X pins σ H s):∀ b o,X.base.get? b=some o->s.heap.get? b=some o:=fun b o e=>(I.bs b o e).1
theorem Inv.mod (I:Inv X pins σ H s):Mod X.K X.mg X.base:=I.ok.mod
theorem Inv.gS (I:Inv X pins σ H s):X.K.In s.heap:=I.ok.mod.Cu.keeps I.bk
theorem Inv.lt (I:Inv X pins σ H s):X.env.locals<s.heap.objs.size:=let ⟨_,hn,_⟩:=I.loc;hn.lt
theorem Inv.sz (I:Inv X pins σ H s):X.s₀.heap.objs.size<=s.heap.objs.size:=Nat.le_trans I.ok.above (Nat.le_of_lt I.lt)
theorem Inv.Kf (I:Inv X pins σ H s) {a:Addr} (h:s.heap.objs.size<=a):a∉X.fs:=fun hb=>by
 obtain ⟨_,o,ho,_⟩:=I.ok.gp.mem hb
 exact absurd (Nat.lt_of_lt_of_le (Heap.lt_size ho) (Nat.le_trans I.sz h)) (Nat.lt_irrefl _)
theorem Inv.Il (I:Inv X pins σ H s):∀ x c,X.env.cells.lookup x=some c->c≠X.env.locals:=fun x c e z=>by
 obtain ⟨v,o,ho,hd⟩:=I.cell x c e
 obtain ⟨m,⟨o',es,ep,ho',hd',_⟩,_⟩:=I.loc
 rw [z,ho'] at ho;cases ho;rw [hd'] at hd;cases hd
theorem Inv.gp (I:Inv X pins σ H s):s.heap.FunFrames X.base X.outer:=by
 have all:∀ (l:List Env),(∀ b∈frs l,b∈X.fs)->X.s₀.heap.FunFrames X.base l->s.heap.FunFrames X.base l:=by
  intro l
  induction l with
  | nil=>intro _ _;trivial
  | cons env r ih =>
   intro hs hl
   obtain ⟨hk,⟨L,o,hf,hn,ho,hd⟩,hr⟩:=hl
   have hL:L∈X.fs:=hs L (by unfold frs;rw [List.filterMap_cons,hf];exact List.mem_cons_self)
   obtain ⟨sl,e⟩:=I.base.slot L o ho (I.ok.zO L hL) hL fun z=>I.ok.sA L z hL
   exact ⟨hk,⟨L,_,hf,hn,e,hd⟩,ih (fun b hb=>hs b (by unfold frs;rw [List.filterMap_cons,hf];exact List.mem_cons_of_mem _ hb)) hr⟩
 exact all X.outer (fun _ hb=>hb) I.ok.gp
theorem Inv.stack (I:Inv X pins σ H s):s.heap.FunFrames X.base X.stack:=by
 rcases I.ok.stk with e | ⟨e,hf⟩
 ·rw [e];exact I.gp
 ·rw [e]
  obtain ⟨m,hn,_⟩:=I.loc
  refine .cons (by rw [I.ok.kind];decide) hf hn ?_ I.gp
  exact Heap.get?_none_of_le (Nat.le_trans I.ok.wX I.ok.above)
theorem Inv.eE (I:Inv X pins σ H s):∀ b∈frs X.stack,b∈X.env.locals::X.fs:=fun b hb=>by
 rcases I.ok.stk with e | ⟨e,hf⟩
 ·rw [e] at hb;exact List.mem_cons_of_mem _ hb
 ·rw [e] at hb
  unfold frs at hb
  rw [List.filterMap_cons,hf] at hb
  exact hb
theorem Inv.gb (I:Inv X pins σ H s):∀ b∈frs X.stack,H b=none:=fun b hb=>by
 rcases List.mem_cons.mp (I.eE b hb) with e | hb
 ·rw [e];exact I.free
 ·obtain ⟨_,o,ho,_⟩:=I.ok.gp.mem hb
  exact I.base.free b o ho (I.ok.zO b hb) fun z=>I.ok.sA b z hb
theorem Inv.step {g':Array GenState} {t':Nat} {d':Drawn} {ch:List Addr} (I:Inv X pins σ H s)
  (hch:∀ b∈ch,(b∈X.ex\/X.s₀.heap.objs.size<=b)/\b≠X.env.locals/\(∀ x c,X.env.cells.lookup x=some c->c≠b)/\∀ p∈X.pn++pins,p.1≠b)
  (keep:∀ b o,b≠X.env.locals->b∉X.fs->b∉ch->s.heap.get? b=some o->H b=none->h'.get? b=some o)
  (slot:∀ b o,b≠X.env.locals->b∈X.fs->b∉ch->s.heap.get? b=some o->H b=none->∃ sl,h'.get? b=some { o with slots:=sl }) (free:∀ b o,b∉ch->s.heap.get? b=some o->H b=none->H' b=none)
  (there:∀ b o,b∉ch->s.heap.get? b=some o->∃ o',h'.get? b=some o')
  (tups:∀ b xs,H b=some (.tup xs)->H' b=some (.tup xs)) (gq:∀ b o u,H b=some (.gh o u)->H' b=some (.gh o u)) (ic:∀ b ps,H b=some (.DI ps)->∃ more,H' b=some (.DI (ps++more)))
  (ns:∀ m,s.heap.Ns X.env.locals m->h'.Ns X.env.locals m) (hok:gC X.prog X.w H' h') (hg:AllBare g') :
  Inv X pins σ H' { s with heap:=h',gens:=g',drawn:=d',toks:=t' }:=by
 have neL:∀ b o,X.s₀.heap.get? b=some o->b≠X.env.locals:=fun b o e=>Nat.ne_of_lt (Nat.lt_of_lt_of_le (Heap.lt_size e) I.ok.above)
 have v7:∀ b o,X.s₀.heap.get? b=some o->b∉X.ex->b∉ch:=fun b o e hx hb=>by
  rcases (hch b hb).1 with z | z
  ·exact hx z
  ·exact absurd (Nat.lt_of_lt_of_le (Heap.lt_size e) z) (Nat.lt_irrefl _)
 have cellK:∀ x c,X.env.cells.lookup x=some c->∀ v,s.heap.IsCell c v->h'.IsCell c v:=fun x c e v ⟨o,ho,hd⟩=>by
  have Km:c∉ch:=fun z=>(hch c z).2.2.1 x c e rfl
  by_cases hc:c∈X.fs
  ·obtain ⟨sl,q⟩:=slot c o (I.Il x c e) hc Km ho (I.cu x c e)
   exact ⟨_,q,hd⟩
  ·exact ⟨o,keep c o (I.Il x c e) hc Km ho (I.cu x c e),hd⟩
 refine ⟨I.ok,I.os,hg,⟨fun b o e n hb hx=>?_,fun b o e n hb hx=>?_,fun b o e n hx=>?_,fun b o e hx=>?_,fun b xs e=>tups b xs (I.base.tups b xs e),fun b o xs e=>gq b o xs (I.base.gq b o xs e),fun b ps e=>?_⟩,?_,fun x c e=>?_,?_,fun x c e=>?_,fun p hp=>?_,hok,I.len⟩
 ·exact keep b o (neL b o e) hb (v7 b o e hx) (I.base.keep b o e n hb hx) (I.base.free b o e n hx)
 ·obtain ⟨sl,e1⟩:=I.base.slot b o e n hb hx
  obtain ⟨DQ,e2⟩:=slot b _ (neL b o e) hb (v7 b o e hx) e1 (I.base.free b o e n hx)
  exact ⟨DQ,e2⟩
 ·obtain ⟨o',e1⟩:=I.base.there b o e hx
  exact free b o' (v7 b o e hx) e1 (I.base.free b o e n hx)
 ·obtain ⟨o',e1⟩:=I.base.there b o e hx
  exact there b o' (v7 b o e hx) e1
 ·obtain ⟨m1,e1⟩:=I.base.ic b ps e
  obtain ⟨m2,e2⟩:=ic b _ e1
  exact ⟨m1++m2,by rw [e2,Array.append_assoc]⟩
 ·obtain ⟨m,hn,hl⟩:=I.loc
  refine ⟨m,ns m hn,fun i x v e1 e2 e3=>?_⟩
  obtain ⟨u,r,l⟩:=hl i x v e1 e2 e3
  refine ⟨u,r,?_⟩
  rcases l with l | ⟨k,c,e,z⟩
  ·exact .inl l
  ·exact .inr ⟨k,c,e,cellK x c e _ z⟩
 ·obtain ⟨v,z⟩:=I.cell x c e
  exact ⟨v,cellK x c e v z⟩
 ·obtain ⟨m,⟨o,_,_,ho,_⟩,_⟩:=I.loc
  exact free _ o (fun z=>(hch _ z).2.1 rfl) ho I.free
 ·obtain ⟨v,o,ho,hd⟩:=I.cell x c e
  exact free c o (fun z=>(hch c z).2.2.1 x c e rfl) ho (I.cu x c e)
 ·obtain ⟨e,n,ne,nf,d⟩:=I.pin p hp
  have Km:p.1∉ch:=fun z=>(hch p.1 z).2.2.2 p hp rfl
  exact ⟨keep p.1 p.2 ne nf Km e n,free p.1 p.2 Km e n,ne,nf,d⟩
theorem Inv.un {t':Nat} (I:Inv X pins σ H s) (u:Un X.fs [] H H' s.heap h') (hok:gC X.prog X.w H' h'):Inv X pins σ H' { s with heap:=h',toks:=t' }:=by
 obtain ⟨m,⟨o,es,ep,ho,r⟩,_⟩:=id I.loc
 obtain ⟨sl,hL⟩:=u.any ho I.free (by simp)
 exact I.step (g':=s.gens) (d':=s.drawn) (ch:=[]) (fun _ z=>nomatch z) (fun b o _ hb _ e n=>u.keep b o e n hb (by simp)) (fun b o _ hb _ e n=>u.slot b o e n hb (by simp)) (fun b o _ e n=>u.free b o e n (by simp)) (fun b o _ e=>u.there b o e (by simp)) u.tups u.gq u.ic (fun m' hm=>by
  obtain ⟨o',es',Lh,ho',r'⟩:=hm
  rw [ho] at ho';cases ho'
  exact ⟨_,es',Lh,hL,r'⟩) hok I.bare
theorem Inv.call {g':Array GenState} {t':Nat} {d':Drawn} {ch:List Addr} (I:Inv X pins σ H s) (u:Un (frs X.stack) ch H H' s.heap h') (hok:gC X.prog X.w H' h') (hg:AllBare g')
  (hch:∀ b∈ch,(b∈X.ex\/X.s₀.heap.objs.size<=b)/\b≠X.env.locals/\(∀ x c,X.env.cells.lookup x=some c->c≠b)/\∀ p∈X.pn++pins,p.1≠b) :
  Inv X pins σ H' { s with heap:=h',gens:=g',drawn:=d',toks:=t' }:=by
 obtain ⟨m,⟨o,es,ep,ho,r⟩,_⟩:=id I.loc
 obtain ⟨sl,hL⟩:=u.any ho I.free fun z=>(hch _ z).2.1 rfl
 exact I.step (ch:=ch) hch (fun b o hL hb hc e n=>u.keep b o e n (fun z=>(List.mem_cons.mp (I.eE b z)).elim hL hb) hc) (fun b o _ _ hc e n=>u.any e n hc) (fun b o hc e n=>u.free b o e n hc) (fun b o hc e=>u.there b o e hc) u.tups u.gq u.ic (fun m' hm=>by
  obtain ⟨o',es',Lh,ho',r'⟩:=hm
  rw [ho] at ho';cases ho'
  exact ⟨_,es',Lh,hL,r'⟩) hok hg
theorem Inv.turned {t':Nat} {it:Addr} (I:Inv X pins σ H s) (k:∀ b o,b≠it->s.heap.get? b=some o->h'.get? b=some o) (hn:H it=none) (hL:it≠X.env.locals)
  (h1:it∈X.ex\/X.s₀.heap.objs.size<=it) (h2:∀ x c,X.env.cells.lookup x=some c->c≠it) (h3:∀ p∈X.pn++pins,p.1≠it):Inv X pins σ H { s with heap:=h',toks:=t' }:=by
 have nit:∀ b u,H b=some u->b≠it:=fun b u e z=>by rw [z,hn] at e;cases e
 refine I.step (g':=s.gens) (d':=s.drawn) (ch:=[it]) (fun b hb=>?_) (fun b o _ _ hc e _=>k b o (fun z=>hc (by simp [z])) e) (fun b o _ _ hc e _=>⟨o.slots,k b o (fun z=>hc (by simp [z])) e⟩) (fun _ _ _ _ n=>n)
  (fun b o hc e=>⟨o,k b o (fun z=>hc (by simp [z])) e⟩) (fun _ _ e=>e) (fun _ _ _ e=>e) (fun b ps e=>⟨#[],by rw [e];simp⟩) (fun m hm=>?_) (fun b u e=>?_) I.bare
 ·have e:b=it:=by simpa using hb
  subst e
  exact ⟨h1,hL,h2,h3⟩
 ·obtain ⟨o,es,ep,ho,r⟩:=hm
  exact ⟨o,es,ep,k _ o (Ne.symm hL) ho,r⟩
 ·refine (I.hok b u e).stay (fun c v hc q=>k c v ?_ q) (fun _ q=>q) fun _ _ q=>q
  rcases hc with z | z
  ·rw [z];exact nit b u e
  ·exact nit c _ z
theorem Inv.tok (I:Inv X pins σ H s) (t:Nat):Inv X pins σ H { s with toks:=t }:=I.un (h':=s.heap) (t':=t) Un.refl I.hok
theorem Inv.kept {t':Nat} (I:Inv X pins σ H s) (k:∀ b u,s.heap.get? b=some u->h'.get? b=some u):Inv X pins σ H { s with heap:=h',toks:=t' }:=I.un (Un.kept k) (I.hok.kept k)
theorem Inv.laid {a:Addr} {o:HO} {t':Nat} (I:Inv X pins σ H s) (k:∀ b u,s.heap.get? b=some u->h'.get? b=some u) (hp:s.heap.objs.size<=a) (new:bh X.prog X.w (upd H a o) h' a o) :
  Inv X pins σ (upd H a o) { s with heap:=h',toks:=t' }:=I.un (Un.laid k hp (I.hok.fresh hp)) (I.hok.laid k hp new)
theorem Inv.write {x e:Addr} {o:HO} {t':Nat} (I:Inv X pins σ H s) (mu:LX (H x)) (he:e=x\/H e=some (.own x)) (k:∀ b u,b≠e->s.heap.get? b=some u->h'.get? b=some u) (Ej:∃ u,h'.get? e=some u)
  (new:bh X.prog X.w (upd H x o) h' x o):Inv X pins σ (upd H x o) { s with heap:=h',toks:=t' }:=I.un (Un.write mu he k Ej) (I.hok.write mu he k Ej new)
theorem Inv.ue {kC:List (Addr×Obj)} (I:Inv X pins σ H s) (h:∀ p∈kC,s.heap.get? p.1=some p.2/\H p.1=none/\p.1≠X.env.locals/\p.1∉X.fs/\∀ v,p.2.data≠.cell v):Inv X kC σ H s :=
 ⟨I.ok,I.os,I.bare,I.base,I.loc,I.cell,I.free,I.cu,fun p hp=>(List.mem_append.mp hp).elim (fun z=>I.pin p (List.mem_append_left _ z)) (h p),I.hok,I.len⟩
theorem p9 {N:List Str} (hN:N.Nodup) {i j:Nat} {x:Str} (a:N[i]? = some x) (b:N[j]? = some x):i=j:=by
 obtain ⟨h1,e1⟩:=List.getElem?_eq_some_iff.mp a
 obtain ⟨h2,e2⟩:=List.getElem?_eq_some_iff.mp b
 exact (List.getElem_inj hN).mp (e1.trans e2.symm)
theorem lY {M:Model} {A:Around} {E:Value->Shared->Prop} {i:Nat} {x:Str} {v:V} {u:Value} {Q:Unit->Shared->Prop} (I:Inv X pins σ H s) (hN:X.N.Nodup) (hi:X.N[i]? = some x) (hx:Loc X.env.scope x) (r:RelV v u)
  (h:∀ s',Inv X pins (σ.set i (some v)) H s'->(∃ a,Heap.SameBut a s.heap s'.heap/\(a=X.env.locals\/X.env.cells.lookup x=some a))->Q () s') (hf:X.fn x=true\/X.env.scope.names.lookup x=some .local:=by first | exact .inl rfl | exact .inr rfl | assumption):wpAny M A (storeName X.env x u) Q E s:=by
 obtain ⟨m,hn,hl⟩:=id I.loc
 have hcls:(X.env.scope.kind == .class||(X.env.scope.kind == .module&&X.env.locals != X.env.globals))=false:=by rw [I.ok.kind];rfl
 have KO:i<σ.length:=by rw [I.len];exact (List.getElem?_eq_some_iff.mp hi).1
 have Il:=I.Il
 have tracked:∀ {a:Addr} {h':Heap},(∃ o,s.heap.get? a=some o/\H a=none)->Heap.SameBut a s.heap h'->gC X.prog X.w H h':=fun {a h'} ha hs b ob e=>by
  obtain ⟨_,_,hfree⟩:=ha
  refine (I.hok b ob e).stay (fun c w' hc q=>(hs.2 c ?_).trans q) (fun _ q=>q) fun _ _ q=>q
  rintro rfl
  rcases hc with rfl | hc
  ·rw [hfree] at e;cases e
  ·rw [hfree] at hc;cases hc
 rcases hx with hk | hk
 ·refine wpAny_storeName_local hk hn (fun h' hn' hs=>?_) hcls
  obtain ⟨oL,_,_,hoL,_⟩:=id hn
  refine h _ ⟨I.ok,I.os,I.bare,⟨fun b o e n hb hx=>?_,fun b o e n hb hx=>?_,I.base.free,fun b o e hx=>?_,I.base.tups,I.base.gq,I.base.ic⟩,⟨_,hn',fun j y v' e1 e2 e3=>?_⟩,fun y c e=>?_,I.free,I.cu,fun p hp=>?_,tracked ⟨oL,hoL,I.free⟩ hs,by simpa using I.len⟩ ⟨_,hs,.inl rfl⟩
  ·exact (hs.2 b (Nat.ne_of_lt (Nat.lt_of_lt_of_le (Heap.lt_size e) I.ok.above))).trans (I.base.keep b o e n hb hx)
  ·obtain ⟨sl,e1⟩:=I.base.slot b o e n hb hx
   exact ⟨sl,(hs.2 b (Nat.ne_of_lt (Nat.lt_of_lt_of_le (Heap.lt_size e) I.ok.above))).trans e1⟩
  ·obtain ⟨o',e1⟩:=I.base.there b o e hx
   exact ⟨o',(hs.2 b (Nat.ne_of_lt (Nat.lt_of_lt_of_le (Heap.lt_size e) I.ok.above))).trans e1⟩
  ·by_cases hj:j=i
   ·subst hj
    rw [hi] at e1;cases e1
    rw [List.getElem?_set_self KO] at e2
    cases e2
    exact ⟨u,r,.inl ⟨hk,by simp⟩⟩
   ·rw [List.getElem?_set_ne (Ne.symm hj)] at e2
    obtain ⟨u',r',q⟩:=hl j y v' e1 e2 e3
    refine ⟨u',r',?_⟩
    rcases q with ⟨k,e⟩ | ⟨k,c,e,z⟩
    ·refine .inl ⟨k,?_⟩
     have:y≠x:=fun e=>hj (p9 hN e1 (e ▸ hi))
     simp [this,e]
    ·exact .inr ⟨k,c,e,z.sameBut hs (Il y c e)⟩
  ·obtain ⟨w',z⟩:=I.cell y c e
   exact ⟨w',z.sameBut hs (Il y c e)⟩
  ·obtain ⟨e,n,ne,nf,d⟩:=I.pin p hp
   exact ⟨(hs.2 p.1 ne).trans e,n,ne,nf,d⟩
 ·have hfn:X.fn x=true:=by
   rcases hf with z | z
   ·exact z
   ·rw [z] at hk;cases hk
  obtain ⟨c,hc⟩:=I.ok.has x (.inl hk)
  obtain ⟨w',z⟩:=I.cell x c hc
  refine wpAny_storeName_cell I.ok.kind hk hc z (fun h' hc' hs=>?_)
  obtain ⟨oc,hoc,hocd⟩:=id z
  refine h { s with heap:=h' } ⟨I.ok,I.os,I.bare,⟨fun b o e n hb hx=>?_,fun b o e n hb hx=>?_,I.base.free,fun b o e hx=>?_,I.base.tups,I.base.gq,I.base.ic⟩,⟨m,hn.sameBut hs (Ne.symm (Il x c hc)),fun j y v' e1 e2 e3=>?_⟩,fun y c' e=>?_,I.free,I.cu,fun p hp=>?_,tracked ⟨oc,hoc,I.cu x c hc⟩ hs,by simpa using I.len⟩ ⟨c,hs,.inr hc⟩
  ·exact (hs.2 b (Nat.ne_of_lt (Nat.lt_of_lt_of_le (Heap.lt_size e) (I.ok.EN x c hfn hc)))).trans (I.base.keep b o e n hb hx)
  ·obtain ⟨sl,e1⟩:=I.base.slot b o e n hb hx
   exact ⟨sl,(hs.2 b (Nat.ne_of_lt (Nat.lt_of_lt_of_le (Heap.lt_size e) (I.ok.EN x c hfn hc)))).trans e1⟩
  ·obtain ⟨o',e1⟩:=I.base.there b o e hx
   exact ⟨o',(hs.2 b (Nat.ne_of_lt (Nat.lt_of_lt_of_le (Heap.lt_size e) (I.ok.EN x c hfn hc)))).trans e1⟩
  ·by_cases hj:j=i
   ·subst hj
    rw [hi] at e1;cases e1
    rw [List.getElem?_set_self KO] at e2
    cases e2
    exact ⟨u,r,.inr ⟨.inl hk,c,hc,hc'⟩⟩
   ·rw [List.getElem?_set_ne (Ne.symm hj)] at e2
    obtain ⟨u',r',q⟩:=hl j y v' e1 e2 e3
    refine ⟨u',r',?_⟩
    rcases q with q | ⟨k,c',e,z'⟩
    ·exact .inl q
    ·refine .inr ⟨k,c',e,z'.sameBut hs ?_⟩
     rintro rfl
     exact hj (p9 hN e1 (I.ok.inj _ _ _ e hc ▸ hi))
  ·by_cases hcc:c'=c
   ·subst hcc;exact ⟨_,hc'⟩
   ·obtain ⟨w2,z2⟩:=I.cell y c' e
    exact ⟨w2,z2.sameBut hs hcc⟩
  ·obtain ⟨e,n,ne,nf,d⟩:=I.pin p hp
   refine ⟨(hs.2 p.1 ?_).trans e,n,ne,nf,d⟩
   intro q
   rw [q,hoc] at e
   have q':oc=p.2:=Option.some.inj e
   exact d w' (by rw [<- q'];exact hocd)
theorem o8 {M:Model} {A:Around} {E:Value->Shared->Prop} {i:Nat} {x:Str} {v:V} {u:Value} {Q:Unit->Shared->Prop} (I:Inv X pins σ H s) (hN:X.N.Nodup) (hi:X.N[i]? = some x) (hx:Loc X.env.scope x) (r:RelV v u)
  (h:∀ s',Inv X pins (σ.set i (some v)) H s'->Q () s') (hf:X.fn x=true\/X.env.scope.names.lookup x=some .local:=by first | exact .inl rfl | exact .inr rfl | assumption):wpAny M A (storeName X.env x u) Q E s :=
 lY I hN hi hx r (fun s' I' _=>h s' I') hf
theorem Inv.AE {s':Shared} {ch:List Addr} (I:Inv X pins σ H s) (ho:s'.os=s.os) (u:Un (frs X.stack) ch H H' s.heap s'.heap) (hok:gC X.prog X.w H' s'.heap) (hg:AllBare s'.gens)
  (hch:∀ b∈ch,(b∈X.ex\/X.s₀.heap.objs.size<=b)/\b≠X.env.locals/\(∀ x c,X.env.cells.lookup x=some c->c≠b)/\∀ p∈X.pn++pins,p.1≠b):Inv X pins σ H' s':=by
 obtain ⟨h',g',d',t',o'⟩:=s'
 have e:o'=s.os:=ho
 subst e
 exact I.call (g':=g') (t':=t') (d':=d') u hok hg hch
end
noncomputable abbrev XK:=Value->Option Addr->Hp->Prop
noncomputable abbrev St:=List (Option V)
noncomputable abbrev VK:=V->Hp->Prop
noncomputable abbrev TE:=St->Hp->VK->Prop
noncomputable abbrev TT:=St->Hp->(Bool->Hp->Prop)->Prop
noncomputable abbrev TA:=St->Hp->(List V->Hp->Prop)->Prop
structure Ends where
 nx:St->Hp->Prop
 rt:VK
 bk:St->Hp->Prop:=fun _ _=>False
 ct:St->Hp->Prop:=fun _ _=>False
noncomputable abbrev TS:=Ends->St->Hp->Prop
noncomputable def EP (X:Cx) (pins:List (Addr×Obj)) (σ:St) (Q:VK) (u:Value) (s':Shared):Prop:=∃ v H',Inv X pins σ H' s'/\RelV v u/\Q v H'
noncomputable def TP (X:Cx) (pins:List (Addr×Obj)) (σ:St) (Q:Bool->Hp->Prop) (b:Bool) (s':Shared):Prop:=∃ H',Inv X pins σ H' s'/\Q b H'
noncomputable def AP (X:Cx) (pins:List (Addr×Obj)) (σ:St) (Q:List V->Hp->Prop) (us:List Value) (s':Shared):Prop:=∃ vs H',Inv X pins σ H' s'/\Vals vs us/\Q vs H'
noncomputable def SP (X:Cx) (pins:List (Addr×Obj)) (D:Ends) (f:Flow) (s':Shared):Prop :=
 match f with
 | .next=>∃ σ' H',Inv X pins σ' H' s'/\D.nx σ' H'
 | .brk=>∃ σ' H',Inv X pins σ' H' s'/\D.bk σ' H'
 | .cont=>∃ σ' H',Inv X pins σ' H' s'/\D.ct σ' H'
 | .ret u=>∃ v σ' H',Inv X pins σ' H' s'/\RelV v u/\D.rt v H'
noncomputable def PE (X:Cx) (e:Expr) (t:TE):Prop :=
 ∀ (pins:List (Addr×Obj)) (s:Shared) (σ:St) (H:Hp) (Q:VK),Inv X pins σ H s->t σ H Q->wpAny (model X.prog X.w) X.A (eval e X.env) (EP X pins σ Q) X.xe s
noncomputable def PT (X:Cx) (e:Expr) (t:TT):Prop :=
 ∀ (pins:List (Addr×Obj)) (s:Shared) (σ:St) (H:Hp) (Q:Bool->Hp->Prop),Inv X pins σ H s->t σ H Q->wpAny (model X.prog X.w) X.A (isTrue e X.env (eval e X.env)) (TP X pins σ Q) X.xe s
noncomputable def PW (X:Cx) (e:Expr) (t:TT):Prop :=
 ∀ (whole:Sem Value) (pins:List (Addr×Obj)) (s:Shared) (σ:St) (H:Hp) (Q:Bool->Hp->Prop),Inv X pins σ H s->t σ H Q->wpAny (model X.prog X.w) X.A (isTrue e X.env whole) (TP X pins σ Q) X.xe s
theorem PW.pt {X:Cx} {e:Expr} {t:TT} (h:PW X e t):PT X e t:=h _
noncomputable def PA (X:Cx) (es:List Expr) (t:TA):Prop :=
 ∀ (pos:Pos) (pins:List (Addr×Obj)) (s:Shared) (σ:St) (H:Hp) (Q:List V->Hp->Prop),Inv X pins σ H s->t σ H Q->wpAny (model X.prog X.w) X.A (spliced (backTo pos (starEach es X.env))) (AP X pins σ Q) X.xe s
noncomputable def PS (X:Cx) (st:Stmt) (t:TS):Prop :=
 ∀ (pins:List (Addr×Obj)) (s:Shared) (σ:St) (H:Hp) (D:Ends),Inv X pins σ H s->t D σ H->wpAny (model X.prog X.w) X.A (exec st X.env) (SP X pins D) X.xe s
noncomputable def j8 (X:Cx) (st:List Stmt) (t:TS):Prop :=
 ∀ (pins:List (Addr×Obj)) (s:Shared) (σ:St) (H:Hp) (D:Ends),Inv X pins σ H s->t D σ H->wpAny (model X.prog X.w) X.A (execs st X.env) (SP X pins D) X.xe s
theorem bq {α:Type} {t:Sem α} {Q Q':α->Shared->Prop} {M:Model} {A:Around} {E:Value->Shared->Prop} {s:Shared} (h:wpAny M A t Q E s) (hQ:∀ a s,Q a s->Q' a s):wpAny M A t Q' E s:=wpAny_mono h hQ fun _ _ x=>x
section
variable {X:Cx}
noncomputable def Jo (i:Nat):TE:=fun σ H Q=>∃ v,σ[i]? = some (some v)/\Q v H
noncomputable def tC (v:V):TE:=fun _ H Q=>Q v H
theorem F6 {i:Nat} {x:Str} {pos:Pos} (hN:X.N[i]? = some x) (hv:M5 X.env.scope x) (hd:(x == ("__debug__" : Str))=false:=by decide) (hcd:(x == ("__classdict__" : Str))=false:=by decide):PE X (.Name x pos) (Jo i):=by
 intro pins s σ H Q I h
 obtain ⟨v,e,h⟩:=h
 obtain ⟨m,hn,hl⟩:=I.loc
 obtain ⟨u,r,l⟩:=hl i x v hN e hv
 have fin:EP X pins σ Q u s:=⟨v,H,I,r,h⟩
 rcases l with ⟨hk,hm⟩ | ⟨hk,c,hc,hcell⟩
 ·exact wpAny_Name (wpAny_loadName_local I.ok.kind hk hn hm fin) hd
 ·rcases hk with hk | hk
  ·exact wpAny_Name (wpAny_loadName_cell I.ok.kind hk hc hcell fin) hd
  ·exact wpAny_Name (wpAny_loadName_free I.ok.kind hk hc hcell fin hcd) hd
theorem Ge {i j pos}:PE X (.Constant (.int i) j pos) (tC (.int i)):=fun _ _ _ H _ I h=>wpAny_Constant_int ⟨.int i,H,I.tok _,⟨_,rfl⟩,h⟩
theorem J3 {b j pos}:PE X (.Constant (.bool b) j pos) (tC (.bl b)):=fun _ _ _ H _ I h=>Constant_bool ⟨.bl b,H,I,rfl,h⟩
theorem Ga {j pos}:PE X (.Constant .none j pos) (tC .ao):=fun _ _ _ H _ I h=>Constant_none ⟨.ao,H,I,rfl,h⟩
theorem rK {x j pos}:PE X (.Constant (.str x) j pos) (tC (.str x)):=fun _ _ _ H _ I h=>Calls.Constant_str ⟨.str x,H,I.tok _,⟨_,rfl⟩,h⟩
noncomputable def Gl (X:Cx) (x:Str):Prop:=X.env.kindOf x=some .globalImplicit
theorem eU {E:Value->Shared->Prop} {pins:List (Addr×Obj)} {s:Shared} {σ:St} {H:Hp} {x:Str} {u:Value} {pos:Pos} {Q:Value->Shared->Prop} (I:Inv X pins σ H s) (hg:Gl X x) (hm:X.mg x=some u) (h:Q u s)
  (hd:(x == ("__debug__" : Str))=false:=by decide):wpAny (model X.prog X.w) X.A (eval (.Name x pos) X.env) Q E s :=
 Calls.Name_function_global I.ok.kind hg (Calls.loadGlobal_global (by rw [I.ok.glob];exact I.mod.glob.keeps I.bk) hm h) hd
theorem fS {E:Value->Shared->Prop} {pins:List (Addr×Obj)} {s:Shared} {σ:St} {H:Hp} {x:Str} {u:Value} {pos:Pos} {Q:Value->Shared->Prop} (I:Inv X pins σ H s) (hg:Gl X x) (hm:X.mg x=none) (hv:bootBuiltins x=some u) (h:Q u s)
  (hn:x≠"__name__":=by decide) (hd:(x == ("__debug__" : Str))=false:=by decide):wpAny (model X.prog X.w) X.A (eval (.Name x pos) X.env) Q E s:=by
 obtain ⟨mb,h1,h2⟩:=I.mod.blt
 exact Calls.Name_function_global I.ok.kind hg (Calls.loadGlobal_builtin (by rw [I.ok.glob];exact I.mod.glob.keeps I.bk) hm (by rw [I.ok.blt];exact h1.keeps I.bk) ((h2 x hn).trans hv) h) hd
theorem B3 {x:Str} {v:V} {u:Value} {pos:Pos} (hg:Gl X x) (hm:X.mg x=some u) (r:RelV v u) (hd:(x == ("__debug__" : Str))=false:=by decide):PE X (.Name x pos) (tC v) :=
 fun _ _ _ H _ I h=>eU I hg hm ⟨v,H,I,r,h⟩ hd
theorem B6 {x:Str} {v:V} {u:Value} {pos:Pos} (hg:Gl X x) (hm:X.mg x=none) (hv:bootBuiltins x=some u) (r:RelV v u) (hn:x≠"__name__":=by decide) (hd:(x == ("__debug__" : Str))=false:=by decide):PE X (.Name x pos) (tC v) :=
 fun _ _ _ H _ I h=>fS I hg hm hv ⟨v,H,I,r,h⟩ hn hd
variable {a b:Expr} {ta tb:TE} {pos:Pos}
noncomputable def tB (t:TE):TT:=fun σ H Q=>t σ H fun x H1=>∃ c,x=.bl c/\Q c H1
theorem FO {e:Expr} {t:TE} (h:PE X e t) (he:∀ whole,isTrue e X.env whole=(do let v <- whole;standAt e.pos;holding [v] (truthy v)):=by intro _;rfl):PT X e (tB t):=by
 intro pins s σ H Q I hw
 refine isTrue_plain (bq (h pins s σ H _ I hw) fun v s1 ⟨x,H1,I1,r1,q1⟩=>?_) (he _)
 obtain ⟨d,rfl,q⟩:=q1
 cases r1
 exact wpAny_truthy_bool ⟨H1,I1,q⟩
variable {tA Ma:TT} {rest:List Expr}
noncomputable def Jz (t u:TT):TT:=fun σ H Q=>t σ H fun c H1=>if c=true then u σ H1 Q else Q false H1
noncomputable def tOr (t u:TT):TT:=fun σ H Q=>t σ H fun c H1=>if c=true then Q true H1 else u σ H1 Q
noncomputable def Ju (t:TT):TT:=fun σ H Q=>t σ H fun c H1=>Q (!c) H1
theorem pw_and1 (ha:PT X a tA):PW X (.BoolOp .And [a] pos) tA:=by
 intro wh pins s σ H Q I h
 refine isTrue_and (bq (ha pins s σ H Q I h) fun c s1 e=>?_)
 cases c with
 | true=>exact isTrue_and_nil e
 | false=>exact e
theorem pw_or1 (ha:PT X a tA):PW X (.BoolOp .Or [a] pos) tA:=by
 intro wh pins s σ H Q I h
 refine isTrue_or (bq (ha pins s σ H Q I h) fun c s1 e=>?_)
 cases c with
 | false=>exact isTrue_or_nil e
 | true=>exact e
theorem pw_and (ha:PT X a tA) (hb:PW X (.BoolOp .And (b::rest) pos) Ma):PW X (.BoolOp .And (a::b::rest) pos) (Jz tA Ma):=by
 intro wh pins s σ H Q I h
 refine isTrue_and (bq (ha pins s σ H _ I h) fun c s1 ⟨H1,I1,q1⟩=>?_)
 cases c with
 | true=>exact hb wh pins s1 σ H1 Q I1 q1
 | false=>exact ⟨H1,I1,q1⟩
theorem pw_or (ha:PT X a tA) (hb:PW X (.BoolOp .Or (b::rest) pos) Ma):PW X (.BoolOp .Or (a::b::rest) pos) (tOr tA Ma):=by
 intro wh pins s σ H Q I h
 refine isTrue_or (bq (ha pins s σ H _ I h) fun c s1 ⟨H1,I1,q1⟩=>?_)
 cases c with
 | true=>exact ⟨H1,I1,q1⟩
 | false=>exact hb wh pins s1 σ H1 Q I1 q1
theorem FP (ha:PT X a tA):PT X (.UnaryOp .Not a pos) (Ju tA):=by
 intro pins s σ H Q I h
 exact isTrue_not (ha pins s σ H (fun c H1=>Q (!c) H1) I h)
noncomputable def DN (ta tb:TE):TE:=fun σ H Q=>ta σ H fun x H1=>∃ c,x=.bl c/\if c=true then tb σ H1 Q else Q (.bl false) H1
noncomputable def Jt (ta tb:TE):TE:=fun σ H Q=>ta σ H fun x H1=>∃ c,x=.bl c/\if c=true then Q (.bl true) H1 else tb σ H1 Q
noncomputable def DK (ta:TE):TE:=fun σ H Q=>ta σ H fun x H1=>∃ c,x=.bl c/\Q (.bl (!c)) H1
theorem F8 {op} {t:TE} (h:PE X a t):PE X (.BoolOp op [a] pos) t:=fun pins s σ H Q I hw=>BoolOp_one (h pins s σ H Q I hw)
theorem Gg (ha:PE X a ta) (hb:PE X (.BoolOp .And (b::rest) pos) tb):PE X (.BoolOp .And (a::b::rest) pos) (DN ta tb):=by
 intro pins s σ H Q I h
 refine BoolOp_and (bq (ha pins s σ H _ I h) fun v s1 ⟨x,H1,I1,r1,q1⟩=>?_)
 obtain ⟨c,rfl,q1⟩:=q1
 cases r1
 refine wpAny_truthy_bool ?_
 cases c with
 | true=>exact hb pins s1 σ H1 Q I1 q1
 | false=>exact ⟨.bl false,H1,I1,rfl,q1⟩
theorem JZ (ha:PE X a ta) (hb:PE X (.BoolOp .Or (b::rest) pos) tb):PE X (.BoolOp .Or (a::b::rest) pos) (Jt ta tb):=by
 intro pins s σ H Q I h
 refine BoolOp_or (bq (ha pins s σ H _ I h) fun v s1 ⟨x,H1,I1,r1,q1⟩=>?_)
 obtain ⟨c,rfl,q1⟩:=q1
 cases r1
 refine wpAny_truthy_bool ?_
 cases c with
 | false=>exact hb pins s1 σ H1 Q I1 q1
 | true=>exact ⟨.bl true,H1,I1,rfl,q1⟩
theorem F9 (ha:PE X a ta):PE X (.UnaryOp .Not a pos) (DK ta):=by
 intro pins s σ H Q I h
 refine UnaryOp_ (bq (ha pins s σ H _ I h) fun v s1 ⟨x,H1,I1,r1,q1⟩=>?_)
 obtain ⟨c,rfl,q1⟩:=q1
 cases r1
 exact not_of (wpAny_truthy_bool ⟨.bl (!c),H1,I1,rfl,q1⟩)
noncomputable def tIf (t:TT) (ta tb:TE):TE:=fun σ H Q=>t σ H fun c H1=>if c=true then ta σ H1 Q else tb σ H1 Q
theorem yD {c:Expr} (hc:PT X c tA) (ha:PE X a ta) (hb:PE X b tb):PE X (.IfExp c a b pos) (tIf tA ta tb):=by
 intro pins s σ H Q I h
 refine wpAny_IfExp (bq (hc pins s σ H _ I h) fun d s1 ⟨H1,I1,q1⟩=>?_)
 cases d with
 | true=>exact ha pins s1 σ H1 Q I1 q1
 | false=>exact hb pins s1 σ H1 Q I1 q1
end
noncomputable def fK (K:PySem.W.Frag) (H:Hp) (a:Addr) (xs:List V):Prop :=
 Rd H a (.lst xs) \/
  ∃ (o:Obj) (its:Array Value) (n:Nat), K.lookup a=some o/\o.cls=.type "list"/\o.dict=none/\o.data=.seq its n/\its.size<=sizeLine/\Vals xs its.toList
noncomputable def gO (K:PySem.W.Frag) (H:Hp) (a:Addr) (xs:List V):Prop :=
 Rd H a (.tup xs) \/
  ∃ (o:Obj) (its:Array Value) (n:Nat), K.lookup a=some o/\o.cls=.type "tuple"/\o.data=.seq its n/\its.size<=sizeLine/\Vals xs its.toList
noncomputable def absV:Value->Option V
 | .none=>some .ao
 | .bool b=>some (.bl b)
 | .int i _=>some (.int i)
 | .str x _=>some (.str x)
 | .bytes b _=>some (.xh b)
 | .float b _=>some (.MJ b)
 | .ref a=>some (.ref a)
 | .type n=>some (.ty n)
 | _=>none
theorem RelV.abs {x:V} {u:Value} (r:RelV x u):absV u=some x:=by
 cases x with
 | ao=>cases r;rfl
 | bl _=>cases r;rfl
 | int _=>obtain ⟨t,rfl⟩:=r;rfl
 | str _=>obtain ⟨t,rfl⟩:=r;rfl
 | xh _=>obtain ⟨t,rfl⟩:=r;rfl
 | MJ _=>obtain ⟨t,rfl⟩:=r;rfl
 | ref _=>cases r;rfl
 | ty _=>cases r;rfl
theorem RelV.inj {x y:V} {u:Value} (r:RelV x u) (q:RelV y u):x=y:=Option.some.inj (r.abs.symm.trans q.abs)
theorem Vals.inj:∀ {xs ys:List V} {us:List Value},Vals xs us->Vals ys us->xs=ys
 | _,_,_,.nil,.nil=>rfl
 | _,_,_,.cons r t,.cons r' t'=>by rw [r.inj r',Vals.inj t t']
section
variable {X:Cx} {pins:List (Addr×Obj)} {σ:St} {H:Hp} {s:Shared} {a:Addr} {xs ys:List V}
theorem Inv.list (I:Inv X pins σ H s) (h:fK X.K H a xs):∃ its:List Value,Vals xs its/\PlainL s.heap a its.toArray/\xs.length<=sizeLine:=by
 rcases h with h | ⟨o,its,n,hk,hc,hd,hs,hz,r⟩
 ·obtain ⟨z,its,n,r,e⟩:=h.ok I.hok
  exact ⟨its,r,⟨_,n,e,rfl,rfl,rfl⟩,z⟩
 ·refine ⟨its.toList,r,⟨o,n,I.gS a o hk,hc,hd,by simpa using hs⟩,?_⟩
  have e:=r.length
  simp only [Array.length_toList] at e
  omega
theorem Inv.tuple (I:Inv X pins σ H s) (h:gO X.K H a xs):∃ its:List Value,Vals xs its/\IsTup s.heap a its.toArray/\xs.length<=sizeLine:=by
 rcases h with h | ⟨o,its,n,hk,hc,hs,hz,r⟩
 ·obtain ⟨z,its,r,p⟩:=h.ok I.hok
  exact ⟨its,r,p,z⟩
 ·refine ⟨its.toList,r,⟨o,I.gS a o hk,hc,n,by simpa using hs⟩,?_⟩
  have e:=r.length
  simp only [Array.length_toList] at e
  omega
theorem Inv.kG (I:Inv X pins σ H s) (h:fK X.K H a xs) (h':fK X.K H a ys):xs=ys:=by
 obtain ⟨its,r,⟨o,n,e,_,_,d⟩,_⟩:=I.list h
 obtain ⟨its',r',⟨o',n',e',_,_,d'⟩,_⟩:=I.list h'
 rw [e] at e';cases e'
 rw [d] at d'
 injection d' with d1 _
 have:its=its':=by simpa using congrArg Array.toList d1
 subst this
 exact r.inj r'
theorem Inv.iW (I:Inv X pins σ H s) (h:gO X.K H a xs) (h':gO X.K H a ys):xs=ys:=by
 obtain ⟨its,r,⟨o,e,_,n,d⟩,_⟩:=I.tuple h
 obtain ⟨its',r',⟨o',e',_,n',d'⟩,_⟩:=I.tuple h'
 rw [e] at e';cases e'
 rw [d] at d'
 injection d' with d1 _
 have:its=its':=by simpa using congrArg Array.toList d1
 subst this
 exact r.inj r'
end
noncomputable abbrev Cx.bL (X:Cx) (E:Value->Shared->Prop):Cx:={ X with xe:=E }
noncomputable abbrev Cx.D6 (X:Cx):Cx:=X.bL fun _ _=>False
theorem Cx.Ok.bL {X:Cx} (ok:X.Ok) (E:Value->Shared->Prop):(X.bL E).Ok :=
 ⟨ok.mod,ok.kind,ok.glob,ok.blt,ok.above,ok.inj,ok.has,ok.EN,ok.hd,ok.frames,ok.stk,ok.K7,ok.bs,ok.wX,ok.p7,ok.sA,ok.gp,ok.zO⟩
theorem Cx.Ok.bw {X:Cx} {E:Value->Shared->Prop} (ok:(X.bL E).Ok):X.Ok :=
 ⟨ok.mod,ok.kind,ok.glob,ok.blt,ok.above,ok.inj,ok.has,ok.EN,ok.hd,ok.frames,ok.stk,ok.K7,ok.bs,ok.wX,ok.p7,ok.sA,ok.gp,ok.zO⟩
section
variable {X:Cx} {pins:List (Addr×Obj)} {σ:St} {H:Hp} {s:Shared} {E:Value->Shared->Prop}
theorem Inv.bL (I:Inv X pins σ H s) (E:Value->Shared->Prop):Inv (X.bL E) pins σ H s:=⟨I.ok.bL E,I.os,I.bare,I.base,I.loc,I.cell,I.free,I.cu,I.pin,I.hok,I.len⟩
theorem Inv.bw (I:Inv (X.bL E) pins σ H s):Inv X pins σ H s:=⟨I.ok.bw,I.os,I.bare,I.base,I.loc,I.cell,I.free,I.cu,I.pin,I.hok,I.len⟩
theorem SP.bw {D:Ends} {f:Flow} {s':Shared} (h:SP (X.bL E) pins D f s'):SP X pins D f s':=by
 cases f with
 | next=>obtain ⟨σ',H',I,q⟩:=h;exact ⟨σ',H',I.bw,q⟩
 | brk=>obtain ⟨σ',H',I,q⟩:=h;exact ⟨σ',H',I.bw,q⟩
 | cont=>obtain ⟨σ',H',I,q⟩:=h;exact ⟨σ',H',I.bw,q⟩
 | ret u=>obtain ⟨v,σ',H',I,r,q⟩:=h;exact ⟨v,σ',H',I.bw,r,q⟩
theorem PE.D6 {e:Expr} {t:TE} (h:PE X.D6 e t):PE X e t:=fun pins s σ H Q I hw =>
 wpAny_mono (h pins s σ H Q (I.bL _) hw) (fun _ _ ⟨v,H',I',r,q⟩=>⟨v,H',I'.bw,r,q⟩) fun _ _ z=>False.elim z
theorem PT.D6 {e:Expr} {t:TT} (h:PT X.D6 e t):PT X e t:=fun pins s σ H Q I hw =>
 wpAny_mono (h pins s σ H Q (I.bL _) hw) (fun _ _ ⟨H',I',q⟩=>⟨H',I'.bw,q⟩) fun _ _ z=>False.elim z
theorem j8.D6 {st:List Stmt} {t:TS} (h:j8 X.D6 st t):j8 X st t:=fun pins s σ H D I hw =>
 wpAny_mono (h pins s σ H D (I.bL _) hw) (fun _ _ q=>q.bw) fun _ _ z=>False.elim z
end
section
variable {X:Cx} {st:Stmt} {rest:List Stmt} {t u:TS} {e:Expr} {te:TE} {pos:Pos}
noncomputable def DL:TS:=fun D σ H=>D.nx σ H
noncomputable def Jr (t u:TS):TS:=fun D σ H=>t { D with nx:=u D } σ H
theorem uc:j8 X [] DL:=fun _ _ σ H _ I h=>wpAny_execs_nil ⟨σ,H,I,h⟩
theorem pZ (h1:PS X st t) (h2:j8 X rest u):j8 X (st::rest) (Jr t u):=by
 intro pins s σ H D I h
 refine wpAny_execs_cons (bq (h1 pins s σ H { D with nx:=u D } I h) fun f s1 q=>?_)
 cases f with
 | next =>
  obtain ⟨σ',H',I',q⟩:=q
  exact h2 pins s1 σ' H' D I' q
 | ret v=>exact q
 | brk=>exact q
 | cont=>exact q
theorem Inv.quiet {pins:List (Addr×Obj)} {σ:St} {H:Hp} {s:Shared} (I:Inv X pins σ H s):interactive X.env=false:=by simp [interactive,I.ok.kind]
noncomputable def DM (te:TE):TS:=fun D σ H=>te σ H fun _ H1=>D.nx σ H1
theorem BV (he:PE X e te) (hs:swapsWith e none pos.line X.env=pure false:=by rfl):PS X (.Expr e pos) (DM te):=by
 intro pins s σ H D I h
 exact wpAny_Expr_any (bq (he pins s σ H _ I h) fun v s1 ⟨x,H1,I1,r1,q1⟩=>⟨σ,H1,I1,q1⟩) I.quiet hs
noncomputable def Js (te:TE):TS:=fun D σ H=>te σ H D.rt
theorem FT (he:PE X e te):PS X (.Return (some e) pos) (Js te):=by
 intro pins s σ H D I h
 exact wpAny_Return_some (bq (he pins s σ H _ I h) fun v s1 ⟨x,H1,I1,r1,q1⟩=>⟨x,σ,H1,I1,r1,q1⟩)
noncomputable def Jw (c:TT) (t u:TS):TS:=fun D σ H=>c σ H fun b H1=>if b=true then t D σ H1 else u D σ H1
theorem JU {c:Expr} {a b:List Stmt} {tc:TT} (hc:PT X c tc) (ha:j8 X a t) (hb:j8 X b u):PS X (.If c a b pos) (Jw tc t u):=by
 intro pins s σ H D I h
 refine wpAny_If (bq (hc pins s σ H _ I h) fun d s1 ⟨H1,I1,q1⟩=>?_)
 cases d with
 | true=>exact ha pins s1 σ H1 D I1 q1
 | false=>exact hb pins s1 σ H1 D I1 q1
end
noncomputable abbrev TG:=V->St->Hp->(St->Hp->Prop)->Prop
noncomputable abbrev ET:=List V->St->Hp->(St->Hp->Prop)->Prop
noncomputable def PG (X:Cx) (target:Expr) (t:TG):Prop :=
 ∀ (pins:List (Addr×Obj)) (s:Shared) (σ:St) (H:Hp) (v:V) (u:Value) (Q:St->Hp->Prop),Inv X pins σ H s->RelV v u->t v σ H Q ->
  wpAny (model X.prog X.w) X.A (assign target X.env u) (fun _ s'=>∃ σ' H',Inv X pins σ' H' s'/\Q σ' H') X.xe s
noncomputable def LU (X:Cx) (ts:List Expr) (t:ET):Prop :=
 ∀ (pins:List (Addr×Obj)) (s:Shared) (σ:St) (H:Hp) (vs:List V) (us:List Value) (Q:St->Hp->Prop),Inv X pins σ H s->Vals vs us->t vs σ H Q ->
  wpAny (model X.prog X.w) X.A (assignInOrder ((assignEach ts X.env).map (·.2)) us) (fun _ s'=>∃ σ' H',Inv X pins σ' H' s'/\Q σ' H') X.xe s
noncomputable abbrev TSet:=V->V->V->Hp->(Hp->Prop)->Prop
noncomputable def PSet (X:Cx) (t:TSet):Prop :=
 ∀ (pins:List (Addr×Obj)) (s:Shared) (σ:St) (H:Hp) (o i v:V) (ov iv u:Value) (Q:Hp->Prop),Inv X pins σ H s->RelV o ov->RelV i iv->RelV v u->t o i v H Q ->
  wpAny (model X.prog X.w) X.A (setItem ov iv u) (fun _ s'=>∃ H',Inv X pins σ H' s'/\Q H') X.xe s
section
variable {X:Cx} {pos:Pos}
noncomputable def kM (i:Nat):TG:=fun v σ H Q=>Q (σ.set i (some v)) H
theorem BZ {i:Nat} {x:Str} (hN:X.N.Nodup) (hi:X.N[i]? = some x) (hx:Loc X.env.scope x) (hf:X.fn x=true\/X.env.scope.names.lookup x=some .local:=by first | exact .inl rfl | exact .inr rfl | assumption):PG X (.Name x pos) (kM i):=by
 intro pins s σ H v u Q I r h
 exact wpAny_assign_Name (o8 I hN hi hx r (fun s' I'=>⟨_,H,I',h⟩) hf)
noncomputable def KY:ET:=fun vs σ H Q=>vs=[]/\Q σ H
noncomputable def El (t:TG) (u:ET):ET:=fun vs σ H Q=>∃ v r,vs=v::r/\t v σ H fun σ' H'=>u r σ' H' Q
theorem uf:LU X [] KY:=by
 intro pins s σ H vs us Q I r h
 obtain ⟨e,h⟩:=h
 subst e
 cases r
 exact assignInOrder_nil ⟨σ,H,I,h⟩
theorem kE {e:Expr} {es:List Expr} {t:TG} {u:ET} (h1:PG X e t) (h2:LU X es u)
  (hs:(assignEach (e::es) X.env).map (·.2)=assign e X.env::(assignEach es X.env).map (·.2):=by rfl):LU X (e::es) (El t u):=by
 intro pins s σ H vs us Q I r h
 obtain ⟨v,vr,e1,h⟩:=h
 subst e1
 cases r with
 | cons r rr =>
  rw [hs]
  refine assignInOrder_cons (bq (h1 pins s σ H _ _ _ I r h) fun _ s1 ⟨σ1,H1,I1,q1⟩=>?_)
  exact h2 pins s1 σ1 H1 _ _ Q I1 rr q1
noncomputable def gTup (K:PySem.W.Frag) (n:Nat) (t:ET):TG:=fun v σ H Q=>∃ a xs,v=.ref a/\gO K H a xs/\xs.length=n/\t xs σ H Q
theorem yw {es:List Expr} {k:Nat} {t:ET} {n:Nat} (hc:X.calm=true) (h:LU X es t)
  (hn:(assignEach es X.env).length=n:=by rfl) (hst:(assignEach es X.env).findIdx? (·.1)=none:=by rfl):PG X (.Tuple es k pos) (gTup X.K n t):=by
 intro pins s σ H v u Q I r hw
 obtain ⟨a,xs,e1,hq,hl,hw⟩:=hw
 subst e1
 cases r
 obtain ⟨its,rv,ht,hz⟩:=I.tuple hq
 refine assign_Tuple_tuple (I.ok.hd hc) ht (by simp [hn,<- hl,rv.length]) hst fun h' hx=>?_
 have I1:Inv X pins σ H { s with heap:=h' }:=I.kept (t':=s.toks) fun b o e=>hx b o (Nat.ne_of_lt (Heap.lt_size e)) e
 exact h pins _ σ H xs _ Q I1 (by simpa using rv) hw
noncomputable def E5 (te:TE) (g:TG):TS:=fun D σ H=>te σ H fun x H1=>g x σ H1 D.nx
theorem yu {i:Nat} {x:Str} {e:Expr} {te:TE} {pos':Pos} (hN:X.N.Nodup) (hi:X.N[i]? = some x) (hx:Loc X.env.scope x) (he:PE X e te) (hs:swapsWith e (some (.Name x pos')) pos.line X.env=pure false:=by rfl) (hf:X.fn x=true\/X.env.scope.names.lookup x=some .local:=by first | exact .inl rfl | exact .inr rfl | assumption) :
  PS X (.Assign [.Name x pos'] e pos) (E5 te (kM i)):=by
 intro pins s σ H D I h
 refine wpAny_Assign_Name (bq (he pins s σ H _ I h) fun v s1 ⟨y,H1,I1,r1,q1⟩=>?_) hs
 exact o8 I1 hN hi hx r1 (fun s2 I2=>⟨_,H1,I2,q1⟩) hf
end
section
variable {X:Cx} {pos:Pos}
noncomputable def xF (c:TT) (tb:TS):TS:=fun D σ H=>∃ W:Nat->St->Hp->Prop,(∃ m,W m σ H)/\∀ m σ H,W m σ H ->
 c σ H fun b H1=>if b=true then ∃ N:St->Hp->Prop,(∀ σ' H',N σ' H'->∃ m',m'<m/\W m' σ' H')/\tb { D with nx:=N,ct:=N,bk:=D.nx } σ H1 else D.nx σ H1
theorem yt {c:Expr} {body:List Stmt} {tc:TT} {tb:TS} (hp:PassesOwn (model X.prog X.w) X.A X.env X.xe) (hc:PT X c tc) (hb:j8 X body tb):PS X (.While c body [] pos) (xF tc tb):=by
 intro pins s σ H D I h
 obtain ⟨W,⟨m0,w0⟩,turn⟩:=h
 refine wpAny_While (codeAny_whileLoop (fun n s'=>∃ σ' H',Inv X pins σ' H' s'/\W n σ' H') ?_ m0 ⟨σ,H,I,w0⟩)
 rintro n s1 ⟨σ1,H1,I1,w1⟩
 refine wpAny_passesOwn hp (bq (hc pins s1 σ1 H1 _ I1 (turn n σ1 H1 w1)) fun b s2 ⟨H2,I2,q2⟩=>?_)
 cases b with
 | true =>
  obtain ⟨N,hN,q2⟩:=q2
  rw [if_pos rfl]
  refine wpAny_passesOwn hp (bq (hb pins s2 σ1 H2 _ I2 q2) fun f s3 q3=>?_)
  cases f with
  | next =>
   obtain ⟨σ3,H3,I3,n3⟩:=q3
   obtain ⟨m',hm,w3⟩:=hN σ3 H3 n3
   exact ⟨m',hm,σ3,H3,I3,w3⟩
  | cont =>
   obtain ⟨σ3,H3,I3,n3⟩:=q3
   obtain ⟨m',hm,w3⟩:=hN σ3 H3 n3
   exact ⟨m',hm,σ3,H3,I3,w3⟩
  | brk=>exact q3
  | ret v=>exact q3
 | false =>
  rw [if_neg Bool.false_ne_true]
  exact wpAny_execs_nil ⟨σ1,H2,I2,q2⟩
end
structure It where
 go:Nat->Hp->Prop
 L3:Nat->Hp->V->Hp->Prop
 stop:Nat->Hp->Prop
noncomputable def lA (X:Cx) (pins:List (Addr×Obj)) (H:Hp) (b:Addr):Prop :=
 H b=none/\b≠X.env.locals/\b∉X.fs/\(b∈X.ex\/X.s₀.heap.objs.size<=b)/\(∀ x c,X.env.cells.lookup x=some c->c≠b)/\∀ p∈X.pn++pins,p.1≠b
theorem Inv.qj {X:Cx} {pins:List (Addr×Obj)} {σ:St} {H H':Hp} {s:Shared} {b:Addr} (I:Inv X pins σ H s) (hb:s.heap.objs.size<=b) (hn:H' b=none):lA X pins H' b:=by
 refine ⟨hn,Nat.ne_of_gt (Nat.lt_of_lt_of_le I.lt hb),I.Kf hb,.inr (Nat.le_trans I.sz hb),fun x c e z=>?_,fun p hp z=>?_⟩
 ·obtain ⟨v,q⟩:=I.cell x c e
  exact absurd (Nat.lt_of_lt_of_le q.lt (by rw [z];exact hb)) (Nat.lt_irrefl _)
 ·exact absurd (Nat.lt_of_lt_of_le (Heap.lt_size (I.pin p hp).1) (by rw [z];exact hb)) (Nat.lt_irrefl _)
structure Turn (P:Program) (w:World) (K:PySem.W.Frag) (tg:Expr) (J:It) (fp:List Addr) (it:Addr) (tn:Nat->Heap->Prop):Prop where
 mem:it∈fp
 obj:∀ i h,tn i h->∀ b∈fp,∃ o,h.get? b=some o/\∀ v,o.data≠.cell v
 keep:∀ i h h',tn i h->(∀ b∈fp,∀ o,h.get? b=some o->h'.get? b=some o)->tn i h'
 item:∀ (X:Cx),X.prog=P->X.w=w->X.K=K->X.calm=true->∀ (i:Nat) (pins:List (Addr×Obj)) (s:Shared) (σ:St) (H:Hp) (E:Value->Shared->Prop),Inv X pins σ H s->(∀ b∈fp,lA X pins H b)->tn i s.heap->J.go i H ->
  wpAny (model P w) X.A (pyNext (.ref it)) (fun r s1=>∃ u,r=some u /\
   wpAny (model P w) X.A (letOwnedTupleGo tg (.ref it) u) (fun _ s2=>∃ x H',Inv X pins σ H' s2/\RelV x u/\J.L3 i H x H'/\tn (i+1) s2.heap/\∀ b∈fp,H' b=none) E s1) E s
 done:∀ (X:Cx),X.prog=P->X.w=w->X.K=K->X.calm=true->∀ (i:Nat) (pins:List (Addr×Obj)) (s:Shared) (σ:St) (H:Hp) (E:Value->Shared->Prop),Inv X pins σ H s->(∀ b∈fp,lA X pins H b)->tn i s.heap->J.stop i H ->
  wpAny (model P w) X.A (pyNext (.ref it)) (fun r s1=>r=none/\Inv X pins σ H s1) E s
 self:∀ (A:Around) (i:Nat) (s:Shared) (Q:Value->Shared->Prop) (E:Value->Shared->Prop),tn i s.heap->Q (.ref it) s->wpAny (model P w) A (pyIter (.ref it)) Q E s
noncomputable abbrev TI:=St->Hp->(It->Hp->Prop)->Prop
noncomputable def M6 (X:Cx) (pins:List (Addr×Obj)) (σ:St) (tg:Expr) (R:It->Hp->Prop) (itv:Value) (s2:Shared):Prop :=
 ∃ (it:Addr) (fp:List Addr) (tn:Nat->Heap->Prop) (J:It) (H':Hp),itv=.ref it/\Inv X pins σ H' s2/\Turn X.prog X.w X.K tg J fp it tn/\tn 0 s2.heap/\(∀ b∈fp,lA X pins H' b)/\R J H'
noncomputable def PI (X:Cx) (tg iter:Expr) (wi:TI):Prop :=
 ∀ (pins:List (Addr×Obj)) (s:Shared) (σ:St) (H:Hp) (R:It->Hp->Prop),Inv X pins σ H s->wi σ H R ->
  wpAny (model X.prog X.w) X.A (eval iter X.env) (fun v s1=>wpAny (model X.prog X.w) X.A (pyIter v) (M6 X pins σ tg R) X.xe s1) X.xe s
theorem kK {M:Model} {A:Around} {E:Value->Shared->Prop} {s:Shared} {tg:Expr} {it:Addr} {u:Value} {o:Obj} {n:String} {vs:Array Value} {Q:Unit->Shared->Prop} (ho:s.heap.get? it=some o) (hc:o.cls=.type n) (hd:o.data=.fields vs)
    (hn:["enumerate", "zip", "dict_itemiterator", "dict_reverseitemiterator", "odict_iterator", "itertools.zip_longest", "itertools.pairwise"].contains n=false) (hQ:Q () s):wpAny M A (letOwnedTupleGo tg (.ref it) u) Q E s:=by
  unfold letOwnedTupleGo
  cases tg <;> first
    | exact wpAny_pure hQ
    | (cases u <;> first
        | exact wpAny_pure hQ
        | (refine wpAny_bind (wpAny_load ho ?_)
           rw [hc,hd]
           show wpAny M A (if (["enumerate", "zip", "dict_itemiterator", "dict_reverseitemiterator", "odict_iterator", "itertools.zip_longest", "itertools.pairwise"].contains n&&vs[0]? == some (rawInt _))=true then _ else _) Q E s
           rw [if_neg (by intro h;rw [hn,Bool.false_and] at h;cases h)]
           exact wpAny_pure hQ))
noncomputable def Itl (K:PySem.W.Frag) (a:Addr):It :=
 ⟨fun i H=>∃ xs x,fK K H a xs/\xs[i]? = some x,fun i H x H'=>H'=H/\∀ xs,fK K H a xs->xs[i]? = some x,fun i H=>∃ xs,fK K H a xs/\xs.length<=i⟩
noncomputable def Itt (K:PySem.W.Frag) (a:Addr):It :=
 ⟨fun i H=>∃ xs x,gO K H a xs/\xs[i]? = some x,fun i H x H'=>H'=H/\∀ xs,gO K H a xs->xs[i]? = some x,fun i H=>∃ xs,gO K H a xs/\xs.length<=i⟩
noncomputable def M9 (lo:Int) (n:Nat):It:=⟨fun i _=>i<n,fun i H x H'=>H'=H/\x=.int (lo+i),fun i _=>n<=i⟩
theorem vA {P:Program} {w:World} {K:PySem.W.Frag} {tg:Expr} (a it:Addr):Turn P w K tg (Itl K a) [it] it (fun i h=>h.IsListIter it a i) where
 mem:=by simp
 obj:=fun i h st b hb=>by
  have e:b=it:=by simpa using hb
  subst e
  obtain ⟨o,e,c,d⟩:=st
  exact ⟨o,e,fun v z=>by rw [d] at z;cases z⟩
 keep:=fun i h h' st k=>st.at fun o e=>k it (by simp) o e
 item:=by
  intro X hP hw hK hc i pins s σ H E I hf st hg
  subst hP hw hK
  obtain ⟨xs,x,hq,hx⟩:=hg
  obtain ⟨its,rv,p,hz⟩:=I.list hq
  obtain ⟨u,hu,ru⟩:=rv.get hx
  obtain ⟨f0,f1,f2,f3,f4,f5⟩:=hf it (by simp)
  refine wpAny_pyNext_list_item st p.isList (x:=u) (by simpa using hu) fun h' st' sb=>?_
  have I1:Inv X pins σ H { s with heap:=h' }:=I.turned (t':=s.toks) (fun b o hb e=>(sb.2 b hb).trans e) f0 f1 f3 f4 f5
  obtain ⟨o,e,c,d⟩:=id st'
  exact ⟨u,rfl,kK (s:={ s with heap:=h' }) e c d (by decide) ⟨x,H,I1,ru,⟨rfl,fun ys hy=>by rw [I.kG hy hq];exact hx⟩,st',fun b hb=>(hf b hb).1⟩⟩
 done:=by
  intro X hP hw hK hc i pins s σ H E I hf st hg
  subst hP hw hK
  obtain ⟨xs,hq,hx⟩:=hg
  obtain ⟨its,rv,p,hz⟩:=I.list hq
  obtain ⟨f0,f1,f2,f3,f4,f5⟩:=hf it (by simp)
  have hl:=rv.length
  exact wpAny_pyNext_list_end (I.ok.hd hc) st p.isList (by simp;omega) fun h' eb=>⟨rfl,I.turned (t':=s.toks) (fun b o hb e=>eb b o hb e) f0 f1 f3 f4 f5⟩
 self:=fun _ _ _ _ _ st h=>wpAny_pyIter_listiter st h
theorem qQ {P:Program} {w:World} {K:PySem.W.Frag} {tg:Expr} (a it:Addr):Turn P w K tg (Itt K a) [it] it (fun i h=>h.IsTupleIter it a i) where
 mem:=by simp
 obj:=fun i h st b hb=>by
  have e:b=it:=by simpa using hb
  subst e
  obtain ⟨o,e,c,d⟩:=st
  exact ⟨o,e,fun v z=>by rw [d] at z;cases z⟩
 keep:=fun i h h' st k=>st.at fun o e=>k it (by simp) o e
 item:=by
  intro X hP hw hK hc i pins s σ H E I hf st hg
  subst hP hw hK
  obtain ⟨xs,x,hq,hx⟩:=hg
  obtain ⟨its,rv,p,hz⟩:=I.tuple hq
  obtain ⟨u,hu,ru⟩:=rv.get hx
  obtain ⟨f0,f1,f2,f3,f4,f5⟩:=hf it (by simp)
  refine wpAny_pyNext_tuple_item st (show s.heap.IsTuple a its.toArray from p) (x:=u) (by simpa using hu) fun h' st' sb=>?_
  have I1:Inv X pins σ H { s with heap:=h' }:=I.turned (t':=s.toks) (fun b o hb e=>(sb.2 b hb).trans e) f0 f1 f3 f4 f5
  obtain ⟨o,e,c,d⟩:=id st'
  exact ⟨u,rfl,kK (s:={ s with heap:=h' }) e c d (by decide) ⟨x,H,I1,ru,⟨rfl,fun ys hy=>by rw [I.iW hy hq];exact hx⟩,st',fun b hb=>(hf b hb).1⟩⟩
 done:=by
  intro X hP hw hK hc i pins s σ H E I hf st hg
  subst hP hw hK
  obtain ⟨xs,hq,hx⟩:=hg
  obtain ⟨its,rv,p,hz⟩:=I.tuple hq
  obtain ⟨f0,f1,f2,f3,f4,f5⟩:=hf it (by simp)
  have hl:=rv.length
  exact wpAny_pyNext_tuple_end (I.ok.hd hc) st (show s.heap.IsTuple a its.toArray from p) (by simp;omega) fun h' eb=>⟨rfl,I.turned (t':=s.toks) (fun b o hb e=>eb b o hb e) f0 f1 f3 f4 f5⟩
 self:=fun _ _ _ _ _ st h=>wpAny_pyIter_tupleiter st h
theorem qR {P:Program} {w:World} {K:PySem.W.Frag} {tg:Expr} (it:Addr) (lo:Int) (n:Nat):Turn P w K tg (M9 lo n) [it] it (fun i h=>IsRangeIter h it (lo+(i:Nat)*1) ((n:Int)-(i:Nat)) 1) where
 mem:=by simp
 obj:=fun i h st b hb=>by
  have e:b=it:=by simpa using hb
  subst e
  exact ⟨_,st,fun v z=>by
   have z':Data.fields _=Data.cell v:=z
   cases z'⟩
 keep:=fun i h h' st k=>k it (by simp) _ st
 item:=by
  intro X hP hw hK hc i pins s σ H E I hf st hg
  subst hP hw hK
  obtain ⟨f0,f1,f2,f3,f4,f5⟩:=hf it (by simp)
  have W:=Walks.range (prog:=X.prog) (w:=X.w) (I.ok.hd hc) it lo 1 n
  refine W.item i s _ _ hg st fun v h' tk hv st' kk=>?_
  obtain ⟨t,rfl⟩:=hv
  have I1:Inv X pins σ H { s with heap:=h',toks:=tk }:=I.turned (fun b o hb e=>kk b o (by simpa using hb) e) f0 f1 f3 f4 f5
  refine ⟨_, rfl, kK (s:={ s with heap:=h', toks:=tk }) (n:="range_iterator") st' rfl rfl (by decide) ⟨.int (lo+i), H, I1, ⟨t, ?_⟩, ⟨rfl, rfl⟩, st', fun b hb=>(hf b hb).1⟩⟩
  rw [Int.mul_one]
 done:=by
  intro X hP hw hK hc i pins s σ H E I hf st hg
  subst hP hw hK
  obtain ⟨f0,f1,f2,f3,f4,f5⟩:=hf it (by simp)
  exact wpAny_pyNext_range_end (I.ok.hd hc) st (by have:n<=i:=hg;omega) fun h' eb=>⟨rfl,I.turned (t':=s.toks) (fun b o hb e=>eb b o hb e) f0 f1 f3 f4 f5⟩
 self:=fun _ _ _ _ _ st h=>wpAny_pyIter_rangeiter st h
section
variable {X:Cx} {tg:Expr}
theorem yk {pins:List (Addr×Obj)} {σ:St} {H:Hp} {s:Shared} {R:It->Hp->Prop} {E:Value->Shared->Prop} {lo hi:Int} {t u v:Tok} {tk:Nat} (I:Inv X pins σ H s) (h1:-(2 ^ 62)<=lo) (h2:lo<2 ^ 62) (h3:-(2 ^ 62)<=hi) (h4:hi<2 ^ 62)
  (q:R (M9 lo (hi-lo).toNat) H):wpAny (model X.prog X.w) X.A (pyIter (.ref s.heap.objs.size)) (M6 X pins σ tg R) E { s with heap:=s.heap.push { cls:=.type "range", data:=.fields #[.int lo t, .int hi u, .int 1 v] }, toks:=tk }:=by
 refine wpAny_pyIter_range (IsRange.new ..) (small_one h1 h2 h3 h4) ?_
 have I1:Inv X pins σ H { s with heap:=s.heap.push { cls:=.type "range", data:=.fields #[.int lo t, .int hi u, .int 1 v] }, toks:=tk }:=I.kept fun b o e=>Heap.get?_push_of_some _ e
 refine ⟨(s.heap.push { cls:=.type "range", data:=.fields #[.int lo t, .int hi u, .int 1 v] }).objs.size, [(s.heap.push { cls:=.type "range", data:=.fields #[.int lo t, .int hi u, .int 1 v] }).objs.size], _, _, H, rfl,
  I1.kept (t':=tk) fun b o e=>Heap.get?_push_of_some _ e,qR _ lo (hi-lo).toNat,?_,fun b hb=>?_,q⟩
 ·have e1:lo+((0:Nat):Int)*1=lo:=by simp
  have e2:(((hi-lo).toNat:Nat):Int)-((0:Nat):Int)=Builtin.Range.rangeSize lo hi 1:=by rw [rangeSize_one];split <;> omega
  show IsRangeIter _ _ (lo+((0:Nat):Int)*1) ((((hi-lo).toNat:Nat):Int)-((0:Nat):Int)) 1
  rw [e1,e2]
  exact Heap.get?_push_size _ rfl
 ·have e:b=(s.heap.push { cls:=.type "range", data:=.fields #[.int lo t, .int hi u, .int 1 v] }).objs.size:=by simpa using hb
  subst e
  exact I1.qj (Nat.le_refl _) (I1.hok.fresh (Nat.le_refl _))
noncomputable def Eh (ta:TA):TI:=fun σ H R=>ta σ H fun vs H1=>∃ j:Int,vs=[.int j]/\-(2 ^ 62)<=j/\j<2 ^ 62/\R (M9 0 j.toNat) H1
theorem vS {a:Expr} {ta:TA} {p pos:Pos} (hg:Gl X "range") (hm:X.mg "range" = none) (ha:PA X [a] ta) (hs:starEach [a] X.env=[(false, eval a X.env)]:=by rfl):PI X tg (.Call (.Name "range" p) [a] [] pos) (Eh ta):=by
 intro pins s σ H R I h
 refine Call_ (fS I hg hm boot_range (PyProof.Rows.callWith_type1 (bq (ha pos pins s σ H _ I h) fun us s1 ⟨vs,H1,I1,r1,q1⟩=>?_) hs rfl))
 obtain ⟨j,e,q1,q2,q⟩:=q1
 subst e
 cases r1 with
 | cons r rr =>
  cases rr
  obtain ⟨t,rfl⟩:=r
  exact call_range_1 (yk I1 (by omega) (by omega) q1 q2 (by simpa using q))
noncomputable def Jx (wi:TI) (g:TG) (tb:TS):TS:=fun D σ H=>wi σ H fun J H1=>∃ W:Nat->Nat->St->Hp->Prop,(∃ m,W 0 m σ H1)/\∀ i m σ H,W i m σ H ->
 (J.stop i H/\D.nx σ H)\/(J.go i H/\∃ N:St->Hp->Prop,(∀ σ' H',N σ' H'->∃ m',m'<m/\W (i+1) m' σ' H')/\∀ x H',J.L3 i H x H'->g x σ H' fun σ2 H2=>tb { D with nx:=N,ct:=N,bk:=D.nx } σ2 H2)
noncomputable def kB (fp:List Addr) (h:Heap):List (Addr×Obj):=fp.filterMap fun b=>(h.get? b).map fun o=>(b,o)
theorem eO {fp:List Addr} {h:Heap} {b:Addr} {o:Obj} (hb:b∈fp) (e:h.get? b=some o):(b,o)∈kB fp h:=List.mem_filterMap.mpr ⟨b,hb,by rw [e];rfl⟩
theorem vZ {fp:List Addr} {h:Heap} {p:Addr×Obj} (hp:p∈kB fp h):p.1∈fp/\h.get? p.1=some p.2:=by
 obtain ⟨b,hb,e⟩:=List.mem_filterMap.mp hp
 cases q:h.get? b with
 | none=>rw [q] at e;cases e
 | some o =>
  rw [q] at e
  have e':(b,o)=p:=Option.some.inj e
  subst e'
  exact ⟨hb,q⟩
theorem Inv.pinned {pins:List (Addr×Obj)} {σ:St} {H:Hp} {s:Shared} {fp:List Addr} (I:Inv X pins σ H s) (hf:∀ b∈fp,lA X pins H b) (ho:∀ b∈fp,∃ o,s.heap.get? b=some o/\∀ v,o.data≠.cell v):Inv X (pins++kB fp s.heap) σ H s :=
 I.ue fun p hp=>(List.mem_append.mp hp).elim (fun z=>I.pin p (List.mem_append_right _ z)) fun z=>by
  obtain ⟨hb,e⟩:=vZ z
  obtain ⟨f0,f1,f2,_⟩:=hf p.1 hb
  obtain ⟨o,e',d⟩:=ho p.1 hb
  rw [e] at e';cases e'
  exact ⟨e,f0,f1,f2,d⟩
theorem Inv.ia {pins pl:List (Addr×Obj)} {σ:St} {H:Hp} {s:Shared} (I:Inv X (pins++pl) σ H s):Inv X pins σ H s:=I.ue fun p hp=>I.pin p (List.mem_append_right _ (List.mem_append_left _ hp))
theorem FU {iter:Expr} {body:List Stmt} {wi:TI} {g:TG} {tb:TS} {pos:Pos} (hp:PassesOwn (model X.prog X.w) X.A X.env X.xe) (hc:X.calm=true) (hi:PI X tg iter wi) (hg:PG X tg g) (hb:j8 X body tb)
  (hs:∀ x,foldedSetIterable iter X.env x=pure x:=by intro _;rfl):PS X (.For tg iter body [] pos) (Jx wi g tb):=by
 intro pins s σ H D I h
 refine wpAny_For (bq (hi pins s σ H _ I h) fun v s1 h1=>bq h1 fun itv s2 h2=>?_) hs
 obtain ⟨it,fp,tn,J,H2,e,I2,T,st2,f2,W,⟨m0,w0⟩,turn⟩:=h2
 subst e
 have stat:∀ {H':Hp},(∀ b∈fp,H' b=none)->∀ b∈fp,lA X pins H' b:=fun hn b hb=>⟨hn b hb,(f2 b hb).2⟩
 refine codeAny_forLoop_any (fun n s'=>∃ i σ' H',Inv X pins σ' H' s'/\tn i s'.heap/\(∀ b∈fp,H' b=none)/\W i n σ' H') ?_ m0 ⟨0,σ,H2,I2,st2,fun b hb=>(f2 b hb).1,w0⟩
 rintro n s3 ⟨i,σ3,H3,I3,st3,K0,w3⟩
 rcases turn i n σ3 H3 w3 with ⟨stop,qn⟩ | ⟨go,N,hN,step⟩
 ·refine wpAny_passesOwn hp (bq (T.done X rfl rfl rfl hc i pins s3 σ3 H3 X.xe I3 (stat K0) st3 stop) fun r s4 ⟨hr,I4⟩=>?_)
  subst hr
  exact wpAny_execs_nil ⟨σ3,H3,I4,qn⟩
 ·refine wpAny_passesOwn hp (bq (T.item X rfl rfl rfl hc i pins s3 σ3 H3 X.xe I3 (stat K0) st3 go) fun r s4 ⟨u,hr,h4⟩=>?_)
  subst hr
  refine wpAny_passesOwn hp (bq h4 fun _ s5 ⟨x,H5,I5,r5,y5,Fb,fr5⟩=>?_)
  have I5':=I5.pinned (stat fr5) (T.obj _ _ Fb)
  refine wpAny_passesOwn hp (bq (hg _ s5 σ3 H5 x u _ I5' r5 (step x H5 y5)) fun _ s6 ⟨σ6,H6,I6,q6⟩=>?_)
  refine wpAny_passesOwn hp (bq (hb _ s6 σ6 H6 _ I6 q6) fun f s7 q7=>?_)
  have again:∀ {σ7:St} {H7:Hp},Inv X (pins++kB fp s5.heap) σ7 H7 s7->N σ7 H7->∃ m,m<n/\∃ i σ' H',Inv X pins σ' H' s7/\tn i s7.heap/\(∀ b∈fp,H' b=none)/\W i m σ' H':=fun {σ7 H7} I7 n7=>by
   obtain ⟨m',hm,w7⟩:=hN σ7 H7 n7
   refine ⟨m',hm,i+1,σ7,H7,I7.ia,T.keep _ _ _ Fb fun b hb o e=>(I7.pin (b,o) (List.mem_append_right _ (List.mem_append_right _ (eO hb e)))).1,fun b hb=>?_,w7⟩
   obtain ⟨o,e,d⟩:=T.obj _ _ Fb b hb
   exact (I7.pin (b,o) (List.mem_append_right _ (List.mem_append_right _ (eO hb e)))).2.1
  cases f with
  | next=>obtain ⟨σ7,H7,I7,n7⟩:=q7;exact again I7 n7
  | cont=>obtain ⟨σ7,H7,I7,n7⟩:=q7;exact again I7 n7
  | brk=>obtain ⟨σ7,H7,I7,q7⟩:=q7;exact ⟨σ7,H7,I7.ia,q7⟩
  | ret v=>obtain ⟨x7,σ7,H7,I7,r7,q7⟩:=q7;exact ⟨x7,σ7,H7,I7.ia,r7,q7⟩
end
noncomputable abbrev R2:=V->V->Hp->VK->Prop
noncomputable def eB (X:Cx) (f:Value->Value->Sem Value) (r:R2):Prop :=
 ∀ (pins:List (Addr×Obj)) (s:Shared) (σ:St) (H:Hp) (x y:V) (v u:Value) (Q:VK),Inv X pins σ H s->RelV x v->RelV y u->r x y H Q ->
  wpAny (model X.prog X.w) X.A (f v u) (EP X pins σ Q) X.xe s
noncomputable def UnR (X:Cx) (f:Value->Sem Value) (r:V->Hp->VK->Prop):Prop :=
 ∀ (pins:List (Addr×Obj)) (s:Shared) (σ:St) (H:Hp) (x:V) (v:Value) (Q:VK),Inv X pins σ H s->RelV x v->r x H Q ->
  wpAny (model X.prog X.w) X.A (f v) (EP X pins σ Q) X.xe s
noncomputable def cB (X:Cx) (f:Value) (r:List V->Hp->VK->Prop):Prop :=
 ∀ (pins:List (Addr×Obj)) (s:Shared) (σ:St) (H:Hp) (xs:List V) (us:List Value) (Q:VK),Inv X pins σ H s->Vals xs us->r xs H Q ->
  wpAny (model X.prog X.w) X.A (call f us) (EP X pins σ Q) X.xe s
noncomputable def E3 (r:R2) (ta tb:TE):TE:=fun σ H Q=>ta σ H fun x H1=>tb σ H1 fun y H2=>r x y H2 Q
noncomputable def tUn (r:V->Hp->VK->Prop) (ta:TE):TE:=fun σ H Q=>ta σ H fun x H1=>r x H1 Q
noncomputable def rI (C:Int->Int->Prop) (g:Int->Int->V):R2:=fun x y H Q=>∃ i j,x=.int i/\y=.int j/\C i j/\Q (g i j) H
noncomputable def rG (g:Int->Int->V):R2:=fun x y H Q=>∃ i j,x=.int i/\y=.int j/\Q (g i j) H
noncomputable def rU (g:Int->V):V->Hp->VK->Prop:=fun x H Q=>∃ i,x=.int i/\Q (g i) H
section
variable {X:Cx} {a b c:Expr} {ta tb tc:TE} {pos:Pos}
theorem IB (ha:PE X a ta) (hb:PE X b tb) {pins:List (Addr×Obj)} {s:Shared} {σ:St} {H:Hp} {R:V->V->Hp->Prop} (I:Inv X pins σ H s)
  (h:ta σ H fun x H1=>tb σ H1 fun y H2=>R x y H2) {Q:Value->Shared->Prop} {f:Value->Value->Sem Value}
  (hf:∀ v u s2 x y H2,Inv X pins σ H2 s2->RelV x v->RelV y u->R x y H2->wpAny (model X.prog X.w) X.A (f v u) Q X.xe s2) :
  wpAny (model X.prog X.w) X.A (eval a X.env) (fun v s₁=>wpAny (model X.prog X.w) X.A (eval b X.env) (fun u s₂=>wpAny (model X.prog X.w) X.A (f v u) Q X.xe s₂) X.xe s₁) X.xe s:=by
 refine bq (ha pins s σ H _ I h) fun v s1 ⟨x,H1,I1,r1,q1⟩=>?_
 refine bq (hb pins s1 σ H1 _ I1 q1) fun u s2 ⟨y,H2,I2,r2,q2⟩=>?_
 exact hf v u s2 x y H2 I2 r1 r2 q2
theorem J0 {op:Operator} {r:R2} (ho:eB X (binaryOp op) r) (ha:PE X a ta) (hb:PE X b tb):PE X (.BinOp a op b pos) (E3 r ta tb):=by
 intro pins s σ H Q I h
 exact wpAny_BinOp (IB ha hb I h fun v u s2 x y H2 I2 rx ry q=>ho pins s2 σ H2 x y v u Q I2 rx ry q)
theorem JY {op:UnaryOp} {r:V->Hp->VK->Prop} (ho:UnR X (unaryOp op) r) (ha:PE X a ta):PE X (.UnaryOp op a pos) (tUn r ta):=by
 intro pins s σ H Q I h
 exact UnaryOp_ (bq (ha pins s σ H _ I h) fun v s1 ⟨x,H1,I1,r1,q1⟩=>ho pins s1 σ H1 x v Q I1 r1 q1)
theorem Kc {f:Value->Value->Sem Value} {C:Int->Int->Prop} {g:Int->Int->Int}
  (rule:∀ (i j:Int) (t u:Tok) (s:Shared) (Q:Value->Shared->Prop) (E:Value->Shared->Prop),C i j->Q (.int (g i j) s.toks) { s with toks:=s.toks+1 }->wpAny (model X.prog X.w) X.A (f (.int i t) (.int j u)) Q E s) :
  eB X f (rI C fun i j=>.int (g i j)):=by
 intro pins s σ H x y v u Q I rx ry h
 obtain ⟨i,j,rfl,rfl,hc,q⟩:=h
 obtain ⟨t,rfl⟩:=rx
 obtain ⟨t',rfl⟩:=ry
 exact rule i j t t' s _ _ hc ⟨.int (g i j),H,I.tok _,⟨_,rfl⟩,q⟩
theorem Ka {f:Value->Value->Sem Value} {g:Int->Int->Int}
  (rule:∀ (i j:Int) (t u:Tok) (s:Shared) (Q:Value->Shared->Prop) (E:Value->Shared->Prop),Q (.int (g i j) s.toks) { s with toks:=s.toks+1 }->wpAny (model X.prog X.w) X.A (f (.int i t) (.int j u)) Q E s) :
  eB X f (rG fun i j=>.int (g i j)):=by
 intro pins s σ H x y v u Q I rx ry h
 obtain ⟨i,j,rfl,rfl,q⟩:=h
 obtain ⟨t,rfl⟩:=rx
 obtain ⟨t',rfl⟩:=ry
 exact rule i j t t' s _ _ ⟨.int (g i j),H,I.tok _,⟨_,rfl⟩,q⟩
theorem Cf {f:Value->Value->Sem Value} {g:Int->Int->Bool}
  (rule:∀ (i j:Int) (t u:Tok) (s:Shared) (Q:Value->Shared->Prop) (E:Value->Shared->Prop),Q (.bool (g i j)) s->wpAny (model X.prog X.w) X.A (f (.int i t) (.int j u)) Q E s) :
  eB X f (rG fun i j=>.bl (g i j)):=by
 intro pins s σ H x y v u Q I rx ry h
 obtain ⟨i,j,rfl,rfl,q⟩:=h
 obtain ⟨t,rfl⟩:=rx
 obtain ⟨t',rfl⟩:=ry
 exact rule i j t t' s _ _ ⟨.bl (g i j),H,I,rfl,q⟩
noncomputable def L1 (i j:Int):Prop:=0<j/\j<1073741824
noncomputable def LZ (i j:Int):Prop:=0<=j/\j<=1000000/\i.natAbs<2 ^ 64
noncomputable def DC (i j:Int):Prop:=(-(2 ^ 64)<i/\i<2 ^ 64)\/(-(2 ^ 64)<j/\j<2 ^ 64)
theorem DC.ok {i j:Int} (h:DC i j):IntMulOk i j:=by
 rcases h with ⟨h1,h2⟩ | ⟨h1,h2⟩
 ·exact .of_left (intBits_le_64 h1 h2)
 ·exact .of_right (intBits_le_64 h1 h2)
theorem GC:eB X (binaryOp .Add) (rG fun i j=>.int (i+j)):=Ka fun _ _ _ _ _ _ _ q=>add_int q
theorem Gk:eB X (binaryOp .Sub) (rG fun i j=>.int (i-j)):=Ka fun _ _ _ _ _ _ _ q=>sub_int q
theorem Gs:eB X (binaryOp .Mult) (rI DC fun i j=>.int (i*j)):=Kc fun _ _ _ _ _ _ _ hc q=>mul_int q hc.ok
theorem Cc:eB X (binaryOp .FloorDiv) (rI L1 fun i j=>.int (i / j)):=Kc fun i j _ _ _ _ _ hc q=>by
 have h1:(0:Int)<j:=hc.1
 have h2:j<1073741824:=hc.2
 exact floordiv_int (by omega) (by rw [Int.fdiv_eq_ediv_of_nonneg i (by omega)];exact q) (.inl (PyProof.noPylong_small (by omega)))
theorem Gu:eB X (binaryOp .Mod) (rI (fun _ j=>0<j) fun i j=>.int (i % j)):=Kc fun i j _ _ _ _ _ hc q=>by
 have h1:(0:Int)<j:=hc
 exact mod_int' (by omega) (by rw [Int.fmod_eq_emod_of_nonneg i (by omega)];exact q)
theorem Gn:eB X (binaryOp .Pow) (rI LZ fun i j=>.int (i ^ j.toNat)):=Kc fun _ _ _ _ _ _ _ hc q=>pow_int_small hc.1 hc.2.1 hc.2.2 q
theorem unI {f:Value->Sem Value} {g:Int->Int}
  (rule:∀ (i:Int) (t:Tok) (s:Shared) (Q:Value->Shared->Prop) (E:Value->Shared->Prop),Q (.int (g i) s.toks) { s with toks:=s.toks+1 }->wpAny (model X.prog X.w) X.A (f (.int i t)) Q E s) :
  UnR X f (rU fun i=>.int (g i)):=by
 intro pins s σ H x v Q I rx h
 obtain ⟨i,rfl,q⟩:=h
 obtain ⟨t,rfl⟩:=rx
 exact rule i t s _ _ ⟨.int (g i),H,I.tok _,⟨_,rfl⟩,q⟩
theorem E0:UnR X (unaryOp .USub) (rU fun i=>.int (-i)):=unI fun _ _ _ _ _ q=>neg_int q
end
noncomputable def JG:V->V->Bool
 | .ao,.ao=>true | .ao,.int _=>true | .int _,.ao=>true | .ao,.bl _=>true | .bl _,.ao=>true | .ao,.str _=>true | .str _,.ao=>true
 | .int _,.int _=>true | .bl _,.bl _=>true | .str _,.str _=>true | .xh _,.xh _=>true
 | .int _,.str _=>true | .str _,.int _=>true | .bl _,.str _=>true | .str _,.bl _=>true
 | _,_=>false
noncomputable def rEq:R2:=fun x y H Q=>JG x y=true/\Q (.bl (decide (x=y))) H
noncomputable def rNe:R2:=fun x y H Q=>JG x y=true/\Q (.bl (!decide (x=y))) H
theorem u7 {i j:Int}:decide (V.int i=V.int j)=(i == j):=by
 rw [Bool.eq_iff_iff]
 simp
theorem ow {i j:Bool}:decide (V.bl i=V.bl j)=(i == j):=by
 rw [Bool.eq_iff_iff]
 simp
theorem u6 {i j:Str}:decide (V.str i=V.str j)=(i == j):=by
 rw [Bool.eq_iff_iff]
 simp
theorem u9 {i j:Array UInt8}:decide (V.xh i=V.xh j)=(i.toList == j.toList):=by
 rw [Bool.eq_iff_iff]
 cases i
 cases j
 simp
section
variable {X:Cx} {a b c:Expr} {ta tb tc:TE} {pos:Pos}
theorem aA {pins:List (Addr×Obj)} {σ:St} {H:Hp} {s:Shared} {Q:VK} {k k':Bool} (I:Inv X pins σ H s) (q:Q (.bl k) H) (e:k=k'):EP X pins σ Q (.bool k') s:=by
 subst e
 exact ⟨.bl k,H,I,rfl,q⟩
theorem J9:eB X (compareOp .Eq) rEq:=by
 intro pins s σ H x y v u Q I rx ry h
 obtain ⟨hs,q⟩:=h
 cases x with
 | ao =>
  cases rx
  cases y with
  | ao=>cases ry;exact PySem.EqNone.eq_none_none (aA I q (by simp))
  | bl j=>cases ry;exact PySem.EqNone.eq_none_bool (aA I q (by simp))
  | int j=>obtain ⟨t',rfl⟩:=ry;exact PySem.EqNone.eq_none_int (aA I q (by simp))
  | str j=>obtain ⟨t',rfl⟩:=ry;exact PySem.EqNone.eq_none_str (aA I q (by simp))
  | _=>exact absurd (show false=true from hs) Bool.false_ne_true
 | bl i =>
  cases rx
  cases y with
  | ao=>cases ry;exact PySem.EqNone.eq_bool_none (aA I q (by simp))
  | bl j=>cases ry;exact eq_bool (aA I q ow)
  | str j=>obtain ⟨t',rfl⟩:=ry;exact PySem.EqMixed.eq_bool_str (aA I q (by simp))
  | _=>exact absurd (show false=true from hs) Bool.false_ne_true
 | int i =>
  obtain ⟨t,rfl⟩:=rx
  cases y with
  | ao=>cases ry;exact PySem.EqNone.eq_int_none (aA I q (by simp))
  | int j=>obtain ⟨t',rfl⟩:=ry;exact eq_int (aA I q u7)
  | str j=>obtain ⟨t',rfl⟩:=ry;exact PySem.EqMixed.eq_int_str (aA I q (by simp))
  | _=>exact absurd (show false=true from hs) Bool.false_ne_true
 | str i =>
  obtain ⟨t,rfl⟩:=rx
  cases y with
  | ao=>cases ry;exact PySem.EqNone.eq_str_none (aA I q (by simp))
  | bl j=>cases ry;exact PySem.EqMixed.eq_str_bool (aA I q (by simp))
  | int j=>obtain ⟨t',rfl⟩:=ry;exact PySem.EqMixed.eq_str_int (aA I q (by simp))
  | str j=>obtain ⟨t',rfl⟩:=ry;exact eq_str (aA I q u6)
  | _=>exact absurd (show false=true from hs) Bool.false_ne_true
 | xh i =>
  obtain ⟨t,rfl⟩:=rx
  cases y with
  | xh j=>obtain ⟨t',rfl⟩:=ry;exact PySem.W.eq_bytes (aA I q u9)
  | _=>exact absurd (show false=true from hs) Bool.false_ne_true
 | _=>cases y <;> exact absurd (show false=true from hs) Bool.false_ne_true
theorem J4:eB X (compareOp .NotEq) rNe:=by
 intro pins s σ H x y v u Q I rx ry h
 obtain ⟨hs,q⟩:=h
 cases x with
 | ao =>
  cases rx
  cases y with
  | ao=>cases ry;exact PySem.EqNone.ne_none_none (aA I q (by simp))
  | bl j=>cases ry;exact PySem.EqNone.ne_none_bool (aA I q (by simp))
  | int j=>obtain ⟨t',rfl⟩:=ry;exact PySem.EqNone.ne_none_int (aA I q (by simp))
  | str j=>obtain ⟨t',rfl⟩:=ry;exact PySem.EqNone.ne_none_str (aA I q (by simp))
  | _=>exact absurd (show false=true from hs) Bool.false_ne_true
 | bl i =>
  cases rx
  cases y with
  | ao=>cases ry;exact PySem.EqNone.ne_bool_none (aA I q (by simp))
  | bl j=>cases ry;exact ne_bool (aA I q (congrArg not ow))
  | str j=>obtain ⟨t',rfl⟩:=ry;exact PySem.EqMixed.ne_bool_str (aA I q (by simp))
  | _=>exact absurd (show false=true from hs) Bool.false_ne_true
 | int i =>
  obtain ⟨t,rfl⟩:=rx
  cases y with
  | ao=>cases ry;exact PySem.EqNone.ne_int_none (aA I q (by simp))
  | int j=>obtain ⟨t',rfl⟩:=ry;exact ne_int (aA I q (congrArg not u7))
  | str j=>obtain ⟨t',rfl⟩:=ry;exact PySem.EqMixed.ne_int_str (aA I q (by simp))
  | _=>exact absurd (show false=true from hs) Bool.false_ne_true
 | str i =>
  obtain ⟨t,rfl⟩:=rx
  cases y with
  | ao=>cases ry;exact PySem.EqNone.ne_str_none (aA I q (by simp))
  | bl j=>cases ry;exact PySem.EqMixed.ne_str_bool (aA I q (by simp))
  | int j=>obtain ⟨t',rfl⟩:=ry;exact PySem.EqMixed.ne_str_int (aA I q (by simp))
  | str j=>obtain ⟨t',rfl⟩:=ry;exact ne_str (aA I q (congrArg not u6))
  | _=>exact absurd (show false=true from hs) Bool.false_ne_true
 | xh i =>
  obtain ⟨t,rfl⟩:=rx
  cases y with
  | xh j=>obtain ⟨t',rfl⟩:=ry;exact PySem.W.ne_bytes (aA I q (congrArg not u9))
  | _=>exact absurd (show false=true from hs) Bool.false_ne_true
 | _=>cases y <;> exact absurd (show false=true from hs) Bool.false_ne_true
theorem J5:eB X (compareOp .Lt) (rG fun i j=>.bl (decide (i<j))):=Cf fun _ _ _ _ _ _ _ q=>lt_int q
theorem J6:eB X (compareOp .LtE) (rG fun i j=>.bl (decide (i<=j))):=Cf fun _ _ _ _ _ _ _ q=>le_int q
theorem J7:eB X (compareOp .Gt) (rG fun i j=>.bl (decide (j<i))):=Cf fun _ _ _ _ _ _ _ q=>gt_int q
theorem J8:eB X (compareOp .GtE) (rG fun i j=>.bl (decide (j<=i))):=Cf fun _ _ _ _ _ _ _ q=>ge_int q
theorem Gv:eB X (compareOp .Is) (fun x y H Q=>y=.ao/\Q (.bl (decide (x=.ao))) H):=by
 intro pins s σ H x y v u Q I rx ry h
 obtain ⟨rfl,q⟩:=h
 cases ry
 refine is_none_gen (aA I q ?_)
 cases x <;> first
  | (cases rx;rfl)
  | (obtain ⟨t,rfl⟩:=rx;rfl)
theorem B9:eB X (compareOp .IsNot) (fun x y H Q=>y=.ao/\Q (.bl (!decide (x=.ao))) H):=by
 intro pins s σ H x y v u Q I rx ry h
 obtain ⟨rfl,q⟩:=h
 cases ry
 refine isnot_none_gen (aA I q ?_)
 cases x <;> first
  | (cases rx;rfl)
  | (obtain ⟨t,rfl⟩:=rx;rfl)
theorem eB.or {f:Value->Value->Sem Value} {r r':R2} (h:eB X f r) (h':eB X f r'):eB X f (fun x y H Q=>r x y H Q\/r' x y H Q):=by
 intro pins s σ H x y v u Q I rx ry q
 rcases q with q | q
 ·exact h pins s σ H x y v u Q I rx ry q
 ·exact h' pins s σ H x y v u Q I rx ry q
theorem B5 {op:CmpOp} {r:R2} (ho:eB X (compareOp op) r) (ha:PE X a ta) (hb:PE X b tb) (hm:behindInMarks op b=false):PE X (.Compare a [op] [b] pos) (E3 r ta tb):=by
 intro pins s σ H Q I h
 exact wpAny_Compare1 (IB ha hb I h fun v u s2 x y H2 I2 rx ry q=>ho pins s2 σ H2 x y v u Q I2 rx ry q) hm
noncomputable def Jq (t:TE):TT:=fun σ H Q=>t σ H fun x H'=>∃ k,x=.bl k/\Q k H'
theorem BR {op:CmpOp} {r:R2} (ho:eB X (compareOp op) r) (ha:PE X a ta) (hb:PE X b tb) (hm:behindInMarks op b=false):PT X (.Compare a [op] [b] pos) (Jq (E3 r ta tb)):=by
 intro pins s σ H Q I h
 refine wpAny_isTrue_Compare1 (bq (ha pins s σ H _ I h) fun v s1 ⟨x,H1,I1,r1,q1⟩=>bq (hb pins s1 σ H1 _ I1 q1) fun u s2 ⟨y,H2,I2,r2,q2⟩ =>
  bq (ho pins s2 σ H2 x y v u _ I2 r1 r2 q2) fun c s3 ⟨z,H3,I3,r3,k,e,q3⟩=>?_) hm
 subst e
 cases r3
 exact wpAny_truthy_bool ⟨H3,I3,q3⟩
theorem jb:(sizeLine:Nat)<2 ^ 63:=by rw [sizeLine_eq];decide
theorem rN:eB X (binaryOp .Add) (fun x y H Q=>∃ i j,x=.str i/\y=.str j/\i.length+j.length<=sizeLine/\Q (.str (i++j)) H):=by
 intro pins s σ H x y v u Q I rx ry h
 obtain ⟨i,j,rfl,rfl,hz,q⟩:=h
 obtain ⟨t,rfl⟩:=rx
 obtain ⟨t',rfl⟩:=ry
 exact add_str (fun t' tk=>⟨.str (i++j),H,I.tok _,⟨_,rfl⟩,q⟩) hz
theorem vals1 {x:V} {us:List Value} (r:Vals [x] us):∃ u,us=[u]/\RelV x u:=by
 cases r with
 | cons r1 r2=>cases r2;exact ⟨_,rfl,r1⟩
theorem vals2 {x y:V} {us:List Value} (r:Vals [x,y] us):∃ u w',us=[u,w']/\RelV x u/\RelV y w':=by
 cases r with
 | cons r1 r2 =>
  cases r2 with
  | cons r3 r4=>cases r4;exact ⟨_,_,rfl,r1,r3⟩
theorem wL (hc:X.calm=true):cB X (.builtin "max") (fun xs H Q=>∃ i j, xs=[.int i, .int j]/\Q (.int (if j > i then j else i)) H):=by
 intro pins s σ H xs us Q I r h
 obtain ⟨i,j,rfl,q⟩:=h
 obtain ⟨u,w',rfl,⟨t,rfl⟩,⟨t',rfl⟩⟩:=vals2 r
 refine max_two_ints (I.ok.hd hc) fun h' tk k=>⟨_,H,I.kept k,?_,q⟩
 by_cases hj:j > i
 ·rw [if_pos hj,if_pos hj];exact ⟨_,rfl⟩
 ·rw [if_neg hj,if_neg hj];exact ⟨_,rfl⟩
theorem wK (hc:X.calm=true):cB X (.builtin "min") (fun xs H Q=>∃ i j, xs=[.int i, .int j]/\Q (.int (if j<i then j else i)) H):=by
 intro pins s σ H xs us Q I r h
 obtain ⟨i,j,rfl,q⟩:=h
 obtain ⟨u,w',rfl,⟨t,rfl⟩,⟨t',rfl⟩⟩:=vals2 r
 refine min_two_ints (I.ok.hd hc) fun h' tk k=>⟨_,H,I.kept k,?_,q⟩
 by_cases hj:j<i
 ·rw [if_pos hj,if_pos hj];exact ⟨_,rfl⟩
 ·rw [if_neg hj,if_neg hj];exact ⟨_,rfl⟩
end
structure sX (h:Heap) (x dx C:Addr) (mA:Str->Option Value):Prop where
 obj:h.get? x=some (PySem.W.instObj C dx)
 ns:h.Ns1 dx mA
 ne:dx≠x
theorem v9 {h:Heap} {dx:Addr} {mA:Str->Option Value} (n:h.Ns1 dx mA):∃ od,h.get? dx=some od/\∀ name,PySem.W.lookIn name od=some (mA name):=by
 obtain ⟨o,es,ep,ho,hd,hk,_,hm⟩:=n
 refine ⟨o,ho,fun name=>?_⟩
 have e:=hm name
 unfold nsFind findBy at e
 rw [<- Array.find?_toList] at e
 unfold PySem.W.lookIn
 rw [hd]
 dsimp only
 split
 ·rename_i y q
  rw [q] at e
  exact congrArg some e
 ·rename_i q
  rw [q] at e
  have a:es.toList.any (·.refKey)=false:=by
   rw [List.any_eq_false]
   intro y hy
   obtain ⟨z,t,hkey⟩:=hk y (Array.mem_toList_iff.mp hy)
   simp [DictEntry.refKey,hkey]
  have a':¬ es.toList.any (·.refKey)=true:=by rw [a];exact Bool.false_ne_true
  rw [if_neg a']
  exact congrArg some e
theorem sX.look {h:Heap} {x dx C:Addr} {mA:Str->Option Value} (I:sX h x dx C mA):∃ od,PySem.W.InstAt h x (PySem.W.instObj C dx) C (some od)/\∀ name,PySem.W.lookIn name od=some (mA name) :=
 let ⟨od,ho,hl⟩:=v9 I.ns
 ⟨od,⟨I.obj,rfl,rfl,ho⟩,hl⟩
section
variable {prog:Program} {w:World} {A:Around} {E:Value->Shared->Prop} {s:Shared} {K:PySem.W.Frag} {x dx C f:Addr} {mA:Str->Option Value} {name:Str} {v:Value}
theorem get_map {expr:Bool} {Q:Value->Shared->Prop} (X:K.In s.heap) (I:sX s.heap x dx C mA) (hg:PySem.W.plainGet K C name=true) (hh:PySem.W.hasDictIn K C=true)
  (ha:PySem.W.findIn K (.ref C) name=some none) (hv:mA name=some v) (hv':PySem.W.handedIn v=true) (h:Q v { s with toks:=s.toks+1 }) :
  wpAny (model prog w) A (getAttr (.ref x) name expr) Q E s:=by
 obtain ⟨od,J,hl⟩:=I.look
 exact PySem.W.get_value X J (PySem.W.plainGet_of hg).1 (PySem.W.findObj_own hh ha rfl (by rw [hl,hv])) hv' h
theorem zM {pl:Sem Bool} {Q:Value×List Value->Shared->Prop} (X:K.In s.heap) (I:sX s.heap x dx C mA) (hg:PySem.W.plainGet K C name=true)
  (hf:PySem.W.findIn K (.ref C) name=some (some (.ref f))) (ht:PySem.W.isFn K (.ref f)=true) (hv:mA name=none) (h:Q (.ref f,[.ref x]) s) :
  wpAny (model prog w) A (getMethod (.ref x) name pl) Q E s:=by
 obtain ⟨od,J,hl⟩:=I.look
 exact PySem.W.method_fn X J (PySem.W.plainGet_of hg).1 (PySem.W.plainGet_of hg).2 hf (beq_iff_eq.mp ht) (by show (PySem.W.lookIn name od).map (·.isSome)=some false;rw [hl,hv];rfl) h
theorem BG {ns:List Str} {Q:Unit->Shared->Prop} (X:K.In s.heap) (I:sX s.heap x dx C mA)
  (hs:PySem.W.findIn K (.ref C) "__setattr__" = some (some (.builtin "object.__setattr__"))) (hp:PySem.W.plainOver K C=true) (ht:PySem.W.takerIn K C name=some none) (hh:PySem.W.hasDictIn K C=true)
  (hw:PySem.Within mA ns) (hsz:ns.length<=sizeLine)
  (h:∀ h',sX h' x dx C (fun y=>if y=name then some v else mA y)->Heap.SameBut dx s.heap h'->Q () { s with heap:=h',toks:=s.toks+2 }) :
  wpAny (model prog w) A (setAttr (.ref x) name v) Q E s:=by
 obtain ⟨od,J,hl⟩:=I.look
 refine PySem.W.set_plain X J hs (PySem.W.osa_open (s:={ s with toks:=s.toks+1 }) (r:=none) X J hp ht fun b=>?_)
 obtain ⟨cd,hc,hd'⟩:=PySem.W.any_some hh
 have hx:s.heap.get? x=some ⟨.ref C,some dx,.plain,#[]⟩:=I.obj
 refine wpAny_bind (wpAny_pure (wpAny_bind (wpAny_bind (wpAny_loadPart hx (wpAny_bind (PySem.W.Looks.here (s:={ s with toks:=s.toks+1 }) (PySem.W.looks_clsIn X hc) ?_))))))
 rw [hd']
 refine wpAny_pure (a:=some dx) (wpAny_bind (wpAny_pure (wpAny_bind ?_)))
 refine wpAny_nsSet1 (s:={ s with toks:=s.toks+1 }) I.ns fun h' hn2 hs2=>?_
 obtain ⟨oD,esD,epD,hoD,hdD,hcD⟩:=hn2.count (PySem.Within.cons name v hw)
 refine wpAny_bind (wpAny_lookBehind hoD (by rw [hdD];exact pastItsLine_dict (Nat.le_trans hcD (by rw [List.length_cons];omega))) ?_)
 exact wpAny_pure (h _ ⟨(hs2.2 _ (Ne.symm I.ne)).trans I.obj,hn2,I.ne⟩ hs2)
theorem yY {R:Result->Shared->Prop} {vs:List Value} {kw:List (Str×Value)} (X:K.In s.heap) (hm:PySem.W.makesIn K C=true)
  (hi:PySem.W.findIn K (.ref C) "__init__" = some (some (.ref f))) (hf:PySem.W.typeIn K (.ref f)=some (.type "function"))
  (h:codeAny (model prog w) (A.under (.builtin "type.__call__" ⟨.ref C::vs, kw⟩)) (.call (.ref f) ⟨.ref (s.heap.objs.size+1)::vs, kw⟩) (PySem.W.InitBack (s.heap.objs.size+1) R)
   { s with heap:=(s.heap.push PySem.W.emptyDict).push (PySem.W.instObj C s.heap.objs.size) }) :
  codeAny (model prog w) A (.call (.ref C) ⟨vs,kw⟩) R s:=by
 obtain ⟨hh,g,d,t,os⟩:=s
 exact PySem.W.make_core (PySem.W.makes_of X hm) (PySem.W.looks_findIn X hi) (fun self=>PySem.W.bind_fn X self hf) (.inl rfl) h
end
noncomputable def dF (f:Str) (v:V):List (Str×V)->List (Str×V)
 | []=>[(f,v)]
 | (g,x)::r=>if g=f then (g,v)::r else (g,x)::dF f v r
theorem jw (f g:Str) (v:V):∀ fs:List (Str×V),(dF f v fs).lookup g=if g=f then some v else fs.lookup g
 | []=>by
  show List.lookup g [(f,v)]=_
  by_cases h:g=f
  ·have hb:(g == f)=true:=beq_iff_eq.mpr h
   simp only [List.lookup,hb,if_pos h]
  ·have hb:(g == f)=false:=beq_eq_false_iff_ne.mpr h
   simp only [List.lookup,hb,if_neg h]
 | (k, x)::r=>by
  have ih:=jw f g v r
  rw [show dF f v ((k,x)::r)=(if k=f then (k,v)::r else (k,x)::dF f v r) from rfl]
  by_cases hk:k=f
  ·rw [if_pos hk]
   by_cases h:g=k
   ·have hb:(g == k)=true:=beq_iff_eq.mpr h
    simp only [List.lookup,hb,if_pos (h.trans hk)]
   ·have hb:(g == k)=false:=beq_eq_false_iff_ne.mpr h
    simp only [List.lookup,hb,if_neg (fun e:g=f=>h (e.trans hk.symm))]
  ·rw [if_neg hk]
   by_cases h:g=k
   ·have hb:(g == k)=true:=beq_iff_eq.mpr h
    simp only [List.lookup,hb,if_neg (fun e:g=f=>hk (h.symm.trans e))]
   ·have hb:(g == k)=false:=beq_eq_false_iff_ne.mpr h
    simp only [List.lookup,hb]
    exact ih
theorem jc (f:Str) (v:V):∀ fs:List (Str×V),f∈(dF f v fs).map (·.1)/\∀ g,g∈fs.map (·.1)->g∈(dF f v fs).map (·.1)
 | []=>⟨by simp [dF],fun g h=>by simp at h⟩
 | (k, x)::r=>by
  obtain ⟨i1,i2⟩:=jc f v r
  rw [show dF f v ((k,x)::r)=(if k=f then (k,v)::r else (k,x)::dF f v r) from rfl]
  by_cases hk:k=f
  ·rw [if_pos hk]
   subst hk
   exact ⟨by simp,fun g h=>by simpa using h⟩
  ·rw [if_neg hk]
   refine ⟨?_,fun g h=>?_⟩
   ·rw [List.map_cons]
    exact List.mem_cons_of_mem _ i1
   ·rw [List.map_cons] at h ⊢
    rcases List.mem_cons.mp h with e | e
    ·exact List.mem_cons.mpr (.inl e)
    ·exact List.mem_cons_of_mem _ (i2 g e)
theorem jx (f:Str) (v:V):∀ fs:List (Str×V),(dF f v fs).length<=fs.length+1
 | []=>by simp [dF]
 | (k,x)::r=>by
  have ih:=jx f v r
  rw [show dF f v ((k,x)::r)=(if k=f then (k,v)::r else (k,x)::dF f v r) from rfl]
  by_cases hk:k=f
  ·rw [if_pos hk,List.length_cons,List.length_cons];omega
  ·rw [if_neg hk,List.length_cons,List.length_cons];omega
theorem gZ.some_of {v:V} {o:Option Value} (r:gZ (some v) o):∃ u,o=some u/\RelV v u:=by
 cases o with
 | none=>exact (show False from r).elim
 | some u=>exact ⟨u,rfl,r⟩
theorem gZ.none_of {o:Option Value} (r:gZ none o):o=none:=by
 cases o with
 | none=>rfl
 | some u=>exact (show False from r).elim
theorem wD {v:V} {u:Value} (r:RelV v u):PySem.W.handedIn u=true:=by
 cases v with
 | ao=>cases (show u=Value.none from r);rfl
 | bl b=>cases (show u=Value.bool b from r);rfl
 | int i=>obtain ⟨t,e⟩:=(show ∃ t,u=Value.int i t from r);cases e;rfl
 | str x=>obtain ⟨t,e⟩:=(show ∃ t,u=Value.str x t from r);cases e;rfl
 | xh b=>obtain ⟨t,e⟩:=(show ∃ t,u=Value.bytes b t from r);cases e;rfl
 | MJ b=>obtain ⟨t,e⟩:=(show ∃ t,u=Value.float b t from r);cases e;rfl
 | ref a=>cases (show u=Value.ref a from r);rfl
 | ty n=>cases (show u=Value.type n from r);rfl
section
variable {P:Program} {w:World} {H H':Hp} {h h':Heap} {a C dx:Addr} {fs fs':List (Str×V)}
theorem nT (hok:gC P w H h) (e:H a=some (.ins C dx fs)):∃ mA,sX h a dx C mA/\(∀ f,gZ (fs.lookup f) (mA f))/\PySem.Within mA (fs.map (·.1))/\fs.length<=1000/\H dx=some (.own a):=by
 obtain ⟨d,z,ne,ob,mA,n,r,q⟩:=(show bh P w H h a (.ins C dx fs) from hok a _ e)
 exact ⟨mA,⟨ob,n,ne⟩,r,q,z,d⟩
end
structure w6 (K:PySem.W.Frag) (C:Addr):Prop where
 pg:PySem.W.plainGet K C Str.empty=true
 hd:PySem.W.hasDictIn K C=true
 po:PySem.W.plainOver K C=true
 sa:PySem.W.findIn K (.ref C) "__setattr__" = some (some (.builtin "object.__setattr__"))
theorem w6.get {K:PySem.W.Frag} {C:Addr} (c:w6 K C) (f:Str):PySem.W.plainGet K C f=true:=c.pg
noncomputable def dQ (K:PySem.W.Frag) (C:Addr) (f:Str):Prop:=PySem.W.findIn K (.ref C) f=some none
theorem dQ.Jm {K:PySem.W.Frag} {C:Addr} {f:Str} (n:dQ K C f):PySem.W.takerIn K C f=some none:=by
 unfold PySem.W.takerIn
 rw [show PySem.W.findIn K (.ref C) f=some none from n]
 rfl
structure Meth (K:PySem.W.Frag) (C:Addr) (m:Str) (f:Addr):Prop where
 at_:PySem.W.findIn K (.ref C) m=some (some (.ref f))
 fn:PySem.W.isFn K (.ref f)=true
 kp:PySem.W.keepIn K (.ref f)=true
section
variable {X:Cx} {pins:List (Addr×Obj)} {σ:St} {H:Hp} {s:Shared} {a C dx:Addr} {fs:List (Str×V)} {f:Str} {v:V} {A:Around} {E:Value->Shared->Prop}
theorem sj {b:Bool} {Q:Value->Shared->Prop} (I:Inv X pins σ H s) (e:H a=some (.ins C dx fs)) (c:w6 X.K C) (n:dQ X.K C f) (l:fs.lookup f=some v)
  (h:∀ u s',Inv X pins σ H s'->RelV v u->Q u s'):wpAny (model X.prog X.w) A (getAttr (.ref a) f b) Q E s:=by
 obtain ⟨mA,O,r,_,_,_⟩:=nT I.hok e
 obtain ⟨u,hu,ru⟩:=gZ.some_of (v:=v) (o:=mA f) (by rw [<- l];exact r f)
 exact get_map I.gS O (c.get f) c.hd n hu (wD ru) (h u _ (I.tok _) ru)
theorem kL {m:Str} {g:Addr} {pl:Sem Bool} {Q:Value×List Value->Shared->Prop} (I:Inv X pins σ H s) (e:H a=some (.ins C dx fs)) (c:w6 X.K C) (k:Meth X.K C m g) (l:fs.lookup m=none)
  (h:Q (.ref g,[.ref a]) s):wpAny (model X.prog X.w) A (getMethod (.ref a) m pl) Q E s:=by
 obtain ⟨mA,O,r,_,_,_⟩:=nT I.hok e
 have hn:mA m=none:=gZ.none_of (by rw [<- l];exact r m)
 exact zM I.gS O (c.get m) k.at_ k.fn hn h
theorem rB {y:V} {u:Value} {Q:Unit->Shared->Prop} (I:Inv X pins σ H s) (e:H a=some (.ins C dx fs)) (c:w6 X.K C) (n:dQ X.K C f) (hl:fs.length<1000) (ry:RelV y u)
  (h:∀ s',Inv X pins σ (upd H a (.ins C dx (dF f y fs))) s'->Q () s'):wpAny (model X.prog X.w) A (setAttr (.ref a) f u) Q E s:=by
 obtain ⟨mA,O,r,wi,_,ho⟩:=nT I.hok e
 have hz:(fs.map (·.1)).length<=sizeLine:=by rw [List.length_map,sizeLine_eq];omega
 refine BG I.gS O c.sa c.po n.Jm c.hd wi hz fun h' O' sb=>h _ ?_
 have hd:∃ o,h'.get? dx=some o:=let ⟨o,_,_,e',_⟩:=O'.ns;⟨o,e'⟩
 refine I.write (x:=a) (e:=dx) (by rw [e];exact True.intro) (.inr ho) (fun b q hb z=>(sb.2 b hb).trans z) hd ?_
 refine ⟨by rw [aq O.ne];exact ho,?_,O.ne,O'.obj,_,O'.ns,fun g=>?_,fun g hg=>?_⟩
 ·have:=jx f y fs;omega
 ·show gZ ((dF f y fs).lookup g) (if g=f then some u else mA g)
  rw [jw]
  by_cases q:g=f
  ·rw [if_pos q,if_pos q];exact ry
  ·rw [if_neg q,if_neg q];exact r g
 ·by_cases q:g=f
  ·rw [q];exact (jc f y fs).1
  ·refine (jc f y fs).2 g (wi g fun z=>hg ?_)
   show (if g=f then some u else mA g)=none
   rw [if_neg q];exact z
theorem Inv.made (I:Inv X pins σ H s):Inv X pins σ (upd (upd H s.heap.objs.size (.own (s.heap.objs.size+1))) (s.heap.objs.size+1) (.ins C s.heap.objs.size []))
  { s with heap:=(s.heap.push PySem.W.emptyDict).push (PySem.W.instObj C s.heap.objs.size) }:=by
 have e1:(s.heap.push PySem.W.emptyDict).get? s.heap.objs.size=some PySem.W.emptyDict:=Heap.get?_push_size s.heap rfl
 have e2:((s.heap.push PySem.W.emptyDict).push (PySem.W.instObj C s.heap.objs.size)).get? (s.heap.objs.size+1)=some (PySem.W.instObj C s.heap.objs.size):=by
  have:=Heap.get?_push_size (s.heap.push PySem.W.emptyDict) (o:=PySem.W.instObj C s.heap.objs.size) rfl
  rwa [Heap.size_push] at this
 have e3:(s.heap.push PySem.W.emptyDict).Ns s.heap.objs.size (fun _=>none):=⟨PySem.W.emptyDict,#[],_,e1,rfl,(fun e he=>absurd he (by simp)),fun _=>rfl⟩
 have I1:=I.laid (a:=s.heap.objs.size) (o:=.own (s.heap.objs.size+1)) (h':=s.heap.push PySem.W.emptyDict) (t':=s.toks) (fun b u q=>Heap.get?_push_of_some _ q) (Nat.le_refl _) ⟨_,e1⟩
 refine I1.laid (a:=s.heap.objs.size+1) (o:=.ins C s.heap.objs.size []) (t':=s.toks) (fun b u q=>Heap.get?_push_of_some _ q) (Nat.le_of_eq (Heap.size_push _ _)) ?_
 have ne:s.heap.objs.size≠s.heap.objs.size+1:=Nat.ne_of_lt (Nat.lt_succ_self _)
 refine ⟨by rw [aq ne,ay],Nat.zero_le _,ne,e2,fun _=>none,(Heap.Ns1.of_empty e3).at fun o q=>Heap.get?_push_of_some _ q,fun _=>True.intro,fun y hy=>absurd rfl hy⟩
theorem Dq {prog:Program} {w:World} {env:Env} {e:Expr} {f:Str} {pos:Pos} {s:Shared} {Q:Value->Shared->Prop} (hb:attributeBase e f env (eval e env)=eval e env)
  (h:wpAny (model prog w) A (eval e env) (fun o s₁=>wpAny (model prog w) A (getAttr o f true) Q E s₁) E s):wpAny (model prog w) A (eval (.Attribute e f pos) env) Q E s :=
 Attribute_any_ h (by rw [arm_eval_Attribute,hb])
end
noncomputable def Jy (K:PySem.W.Frag) (ta:TE) (f:Str):TE:=fun σ H Q=>ta σ H fun x H1=>∃ a C dx fs v,x=.ref a/\H1 a=some (.ins C dx fs)/\w6 K C/\dQ K C f/\fs.lookup f=some v/\Q v H1
noncomputable def JI (K:PySem.W.Frag) (ta tv:TE) (f:Str):TS:=fun D σ H=>tv σ H fun y H1=>ta σ H1 fun x H2=>∃ a C dx fs,x=.ref a/\H2 a=some (.ins C dx fs)/\w6 K C/\dQ K C f/\fs.length<1000 /\
 D.nx σ (upd H2 a (.ins C dx (dF f y fs)))
section
variable {X:Cx} {o e value:Expr} {f:Str} {pos pos' tpos:Pos} {ta tv:TE}
theorem Gf (he:PE X e ta) (hb:attributeBase e f X.env (eval e X.env)=eval e X.env):PE X (.Attribute e f pos) (Jy X.K ta f):=by
 intro pins s σ H Q I h
 refine Dq hb (bq (he pins s σ H _ I h) fun u s1 ⟨x,H1,I1,rx,a,C,dx,fs,v,ex,ea,c,n,l,q⟩=>?_)
 subst ex
 obtain rfl:u=Value.ref a:=rx
 exact sj I1 ea c n l fun u' s2 I2 ru=>⟨v,H1,I2,ru,q⟩
theorem FW (ha:PE X o ta) (hv:PE X value tv) (hs:swapsWith value (some (.Attribute o f pos')) pos.line X.env=pure false):PS X (.Assign [.Attribute o f pos'] value pos) (JI X.K ta tv f):=by
 intro pins s σ H D I h
 refine plainObj_wpAny_Assign_Attribute (bq (hv pins s σ H _ I h) fun u s1 ⟨y,H1,I1,ry,q⟩=>bq (ha pins s1 σ H1 _ I1 q) fun ov s2 ⟨x,H2,I2,rx,a,C,dx,fs,ex,ea,c,n,l,q2⟩=>?_) hs
 subst ex
 obtain rfl:ov=Value.ref a:=rx
 exact rB I2 ea c n l ry fun s3 I3=>⟨σ,_,I3,q2⟩
end
section
variable {X:Cx} {pins:List (Addr×Obj)} {σ:St} {H:Hp} {s:Shared} {A:Around} {E:Value->Shared->Prop} {Q:Value->Shared->Prop} {c:Value} {b:Bool}
end
structure bW (k:Nat) (A:Around):Prop where
 hd:A.handled=none
 dp:A.depth+3*k+5<recursionLimit
 un:A.units+16*k+200<cLine
theorem bW.deeper {k:Nat} {A:Around} (r:bW (k+1) A) (env:Env):bW k (A.deeper env) :=
 ⟨r.hd,by have:=r.dp;show A.depth+1+3*k+5<_;omega,by have:=r.un;show A.units+3+16*k+200<_;omega⟩
theorem bW.in1 {k:Nat} {A:Around} (r:bW (k+1) A):bW k A.in1 :=
 ⟨r.hd,by have:=r.dp;show A.depth+3*k+5<_;omega,by have:=r.un;show A.units+1+16*k+200<_;omega⟩
theorem rT {A:Around} {C:Addr} {us:List Value} {kw:List (Str×Value)}:(A.under (.builtin "type.__call__" ⟨.ref C::us, kw⟩)).depth=A.depth+1:=by
 first | rfl | simp [Around.under,Code.weight,Code.isCreation,Code.isGuard,Code.isCaller,Code.frames,Code.isFrame,guardIds]
theorem rS {A:Around} {C:Addr} {us:List Value} {kw:List (Str×Value)}:(A.under (.builtin "type.__call__" ⟨.ref C::us, kw⟩)).units=A.units+1:=by
 first | rfl | simp [Around.under,Code.cUnits,Code.frames,Code.isFrame]
theorem bW.make {k:Nat} {A:Around} (r:bW (k+1) A) (C:Addr) (us:List Value) (kw:List (Str×Value)):bW k (A.under (.builtin "type.__call__" ⟨.ref C::us, kw⟩)) :=
 ⟨r.hd,by have:=r.dp;rw [rT];omega,by have:=r.un;rw [rS];omega⟩
theorem bW.depth {k:Nat} {A:Around} (r:bW k A):A.depth<recursionLimit:=by have:=r.dp;omega
noncomputable def iY:TA:=fun _ H Q=>Q [] H
noncomputable def cG (ta:TE) (tr:TA):TA:=fun σ H Q=>ta σ H fun x H1=>tr σ H1 fun xs H2=>Q (x::xs) H2
section
variable {X:Cx} {e:Expr} {es:List Expr} {te:TE} {t:TA} {pos:Pos}
theorem dG:PA X [] iY:=fun _ _ _ _ H Q I h=>Calls.spliced_nil ⟨[],H,I,.nil,h⟩
theorem aV (ha:PE X e te) (hr:PA X es t) (hs:starEach (e::es) X.env=(false,eval e X.env)::starEach es X.env:=by rfl):PA X (e::es) (cG te t):=by
 intro pos pins s σ H Q I h
 rw [hs]
 show wpAny _ _ (spliced ((false,eval e X.env)::backTo pos (starEach es X.env))) _ _ s
 refine Calls.spliced_cons (bq (ha pins s σ H _ I h) fun u s1 ⟨x,H1,I1,r1,q1⟩=>?_)
 exact bq (hr pos pins s1 σ H1 _ I1 q1) fun us s2 ⟨xs,H2,I2,r2,q2⟩=>⟨x::xs,H2,I2,.cons r1 r2,q2⟩
noncomputable def Jp (t:TA):TE:=fun σ H Q=>t σ H fun xs H1=>xs.length<=sizeLine/\∀ p,H1 p=none->Q (.ref p) (upd H1 p (.tup xs))
noncomputable def Jv (t:TA):TE:=fun σ H Q=>t σ H fun xs H1=>xs.length<=sizeLine/\∀ p,H1 p=none->Q (.ref p) (upd H1 p (.lst xs))
theorem F7 {x1} (h:PA X es t):PE X (.Tuple es x1 pos) (Jp t):=by
 intro pins s σ H Q I hq
 refine wpAny_Tuple_spliced (bq (h pos pins s σ H _ I hq) fun us s1 ⟨xs,H1,I1,r,z,q⟩=>⟨by rw [<- r.length];exact z,?_⟩)
 have hf:H1 s1.heap.objs.size=none:=I1.hok.fresh (Nat.le_refl _)
 refine ⟨.ref s1.heap.objs.size,upd H1 s1.heap.objs.size (.tup xs),I1.laid (t':=s1.toks) (fun b u e=>Heap.get?_push_of_some _ e) (Nat.le_refl _) ?_,rfl,q _ hf⟩
 exact ⟨z,us,r,⟨_,Heap.get?_push_size _ rfl,rfl,_,rfl⟩⟩
theorem Gd (h:PA X es t):PE X (.List es pos) (Jv t):=by
 intro pins s σ H Q I hq
 refine wpAny_List_spliced (bq (h pos pins s σ H _ I hq) fun us s1 ⟨xs,H1,I1,r,z,q⟩=>⟨by rw [<- r.length];exact z,?_⟩)
 have hf:H1 s1.heap.objs.size=none:=I1.hok.fresh (Nat.le_refl _)
 refine ⟨.ref s1.heap.objs.size,upd H1 s1.heap.objs.size (.lst xs),I1.laid (t':=s1.toks) (fun b u e=>Heap.get?_push_of_some _ e) (Nat.le_refl _) ?_,rfl,q _ hf⟩
 exact ⟨z,us,0,r,Heap.get?_push_size _ rfl⟩
end
noncomputable abbrev Sp:=List V->Hp->VK->XK->Prop
noncomputable abbrev AU:=List Env->Hp->Shared->XK->Value->Shared->Prop
structure lP (P:Program) (w:World) (K:PySem.W.Frag) (mg:Str->Option Value) (base:Heap) (A:Around) (outer:List Env) (s:Shared) (H:Hp):Prop where
 frames:A.frames=some outer
 mod:Mod K mg base
 bs:∀ b o,base.get? b=some o->s.heap.get? b=some o/\H b=none
 wX:base.objs.size<=s.heap.objs.size
 gp:s.heap.FunFrames base outer
 zO:∀ b∈frs outer,H b=none
 hok:gC P w H s.heap
 bare:AllBare s.gens
noncomputable def CE (outer:List Env) (P:Program) (w:World) (H:Hp) (s:Shared) (Q:VK) (u:Value) (s':Shared):Prop :=
 ∃ v H',s'.os=s.os/\AllBare s'.gens/\Un (frs outer) [] H H' s.heap s'.heap/\gC P w H' s'.heap/\RelV v u/\Q v H'
noncomputable def CR (CX:AU) (outer:List Env) (P:Program) (w:World) (H:Hp) (s:Shared) (Q:VK) (E:XK) (r:Result) (s':Shared):Prop :=
 match r with
 | .ok (.ret u)=>CE outer P w H s Q u s'
 | .ok _=>False
 | .error e=>CX outer H s E e s'
structure cz (P:Program) (w:World) (K:PySem.W.Frag) (mg:Str->Option Value) (base:Heap) (CX:AU) (k:Nat) (f:Addr) (fd:FuncData) (ps:List Str) (sp:Sp):Prop where
 len:∀ vs H Q E,sp vs H Q E->vs.length=ps.length
 run:∀ (A:Around) (outer:List Env) (s:Shared) (H:Hp) (args:Args) (us:List Value) (vs:List V) (Q:VK) (E:XK),bW k A->lP P w K mg base A outer s H->BindsTo s fd args (ps.zip us)->Vals vs us->sp vs H Q E ->
  codeAny (model P w) A (.call (.ref f) args) (CR CX outer P w H s Q E) s
theorem cz.imp {P:Program} {w:World} {K:PySem.W.Frag} {mg:Str->Option Value} {base:Heap} {CX:AU} {k:Nat} {f:Addr} {fd:FuncData} {ps:List Str} {sp sp':Sp} (F:cz P w K mg base CX k f fd ps sp)
  (h:∀ vs H Q E,sp' vs H Q E->sp vs H Q E):cz P w K mg base CX k f fd ps sp' :=
 ⟨fun vs H Q E q=>F.len vs H Q E (h _ _ _ _ q),fun A outer s H args us vs Q E hr he hb hv hs=>F.run A outer s H args us vs Q E hr he hb hv (h _ _ _ _ hs)⟩
theorem lP.make {P:Program} {w:World} {K:PySem.W.Frag} {mg:Str->Option Value} {base:Heap} {A:Around} {outer:List Env} {s:Shared} {H:Hp} (e:lP P w K mg base A outer s H) (C:Addr) (us:List Value) (kw:List (Str×Value)) :
  lP P w K mg base (A.under (.builtin "type.__call__" ⟨.ref C::us, kw⟩)) outer s H:=⟨by first | exact e.frames | (simpa [Around.under, Code.envs, Code.isFrame, pushEnvs] using e.frames), e.mod, e.bs, e.wX, e.gp, e.zO, e.hok, e.bare⟩
theorem lP.in1 {P:Program} {w:World} {K:PySem.W.Frag} {mg:Str->Option Value} {base:Heap} {A:Around} {outer:List Env} {s:Shared} {H:Hp} (e:lP P w K mg base A outer s H) :
  lP P w K mg base A.in1 outer s H:=⟨e.frames,e.mod,e.bs,e.wX,e.gp,e.zO,e.hok,e.bare⟩
section
variable {X:Cx} {pins:List (Addr×Obj)} {σ:St} {H:Hp} {s s':Shared}
theorem Inv.kR (I:Inv X pins σ H s):lP X.prog X.w X.K X.mg X.base X.A X.stack s H :=
 ⟨I.ok.frames,I.ok.mod,I.bs,Nat.le_trans I.ok.wX I.sz,I.stack,I.gb,I.hok,I.bare⟩
theorem Inv.after {Q:VK} {u:Value} (I:Inv X pins σ H s) (h:CE X.stack X.prog X.w H s Q u s'):EP X pins σ Q u s':=by
 obtain ⟨v,H',os,bare,un,hok,r,q⟩:=h
 obtain ⟨hh,g,d,t,os'⟩:=s'
 obtain rfl:os'=s.os:=os
 exact ⟨v,H',I.call (h':=hh) (g':=g) (d':=d) (t':=t) (ch:=[]) un hok bare (fun b z=>absurd z (by simp)),r,q⟩
end
noncomputable def Binds (K:PySem.W.Frag) (fd:FuncData) (ps:List Str) (ds:List Value):Prop :=
 ∀ (s:Shared) (us:List Value),K.In s.heap->(us++ds).length=ps.length->BindsTo s fd ⟨us,[]⟩ (ps.zip (us++ds))
theorem Binds.all {K:PySem.W.Frag} {fd:FuncData} {ps:List Str} (h:∀ us:List Value,us.length=ps.length->bindArgs fd ⟨us,[]⟩=pure (ps.zip us)):Binds K fd ps []:=fun s us _ hl=>by
 rw [List.append_nil] at hl ⊢
 exact .of_eq (h us hl)
section
variable {X:Cx} {CX:AU} {k:Nat} {f C:Addr} {fd:FuncData} {ps:List Str} {sp:Sp} {dvs:List V} {ds:List Value} {E:XK} {x m:Str} {p pos apos:Pos} {e o:Expr} {es:List Expr} {ta:TE} {t:TA}
structure Mk (K:PySem.W.Frag) (C f:Addr):Prop where
 makes:PySem.W.makesIn K C=true
 init:PySem.W.findIn K (.ref C) "__init__" = some (some (.ref f))
 fn:PySem.W.isFn K (.ref f)=true
 kp:PySem.W.keepIn K (.ref C)=true
end
section
variable {X:Cx} {CX:AU} {k:Nat} {f C:Addr} {fd:FuncData} {ps ks:List Str} {sp:Sp} {E:XK} {x m:Str} {p pos apos kpos:Pos} {e o:Expr} {es:List Expr} {kws:List Keyword} {te ta:TE} {t tk:TA} {nm:Option Str}
variable {g:List Value->List Value->List Value} {gV:List V->List V->List V}
end
structure dD (N P:List Str) (sc:Scope):Prop where
 kind:sc.kind=.function
 co:sc.isCoroutine=false
 gen:sc.isGenerator=false
 nd:N.Nodup
 pre:N.take P.length=P
 par:∀ x∈P,sc.names.lookup x=some .local\/sc.names.lookup x=some .cell
 GH:∀ y∈sc.names,y.2≠.free
theorem mY {kindOf:Str->Option NameKind} {x:Str}:∀ {binds:List (Str×Value)} {m:Str->Option Value},(∀ v,(x,v)∉binds)->bindL kindOf binds m x=m x
 | [],_,_=>rfl
 | (n, v)::r, m, h=>by
  unfold bindL
  rw [mY fun w hw=>h w (List.mem_cons_of_mem _ hw)]
  split
  ·have:x≠n:=by rintro rfl;exact h v List.mem_cons_self
   simp [this]
  ·rfl
theorem m5 {kindOf:Str->Option NameKind} {x:Str}:∀ {binds:List (Str×Value)} {m:Str->Option Value},(∀ v,(x,v)∉binds)->bindC kindOf binds m x=m x
 | [],_,_=>rfl
 | (n, v)::r, m, h=>by
  unfold bindC
  rw [m5 fun w hw=>h w (List.mem_cons_of_mem _ hw)]
  split
  ·rfl
  ·have:x≠n:=by rintro rfl;exact h v List.mem_cons_self
   simp [this]
theorem mZ {kindOf:Str->Option NameKind} {x:Str} {v:Value}:∀ {P:List Str} {vs:List Value} {i:Nat} {m:Str->Option Value},P.Nodup->P[i]? = some x->vs[i]? = some v->kindOf x=some .local ->
  bindL kindOf (P.zip vs) m x=some v
 | [],_,_,_,_,h,_,_=>by simp at h
 | _::_,[],_,_,_,_,h,_=>by simp at h
 | p::P,w::vs,0,m,nd,h1,h2,hk=>by
  simp at h1 h2;subst h1;subst h2
  show bindL kindOf ((p,w)::P.zip vs) m p=_
  unfold bindL
  rw [mY fun v hv=>(List.nodup_cons.mp nd).1 (List.of_mem_zip hv).1,if_pos hk]
  simp
 | p::P,w::vs,i+1,m,nd,h1,h2,hk=>by
  show bindL kindOf ((p,w)::P.zip vs) m x=_
  unfold bindL
  exact mZ (i:=i) (List.nodup_cons.mp nd).2 (by simpa using h1) (by simpa using h2) hk
theorem m6 {kindOf:Str->Option NameKind} {x:Str} {v:Value}:∀ {P:List Str} {vs:List Value} {i:Nat} {m:Str->Option Value},P.Nodup->P[i]? = some x->vs[i]? = some v->kindOf x≠some .local ->
  bindC kindOf (P.zip vs) m x=some v
 | [],_,_,_,_,h,_,_=>by simp at h
 | _::_,[],_,_,_,_,h,_=>by simp at h
 | p::P,w::vs,0,m,nd,h1,h2,hk=>by
  simp at h1 h2;subst h1;subst h2
  show bindC kindOf ((p,w)::P.zip vs) m p=_
  unfold bindC
  rw [m5 fun v hv=>(List.nodup_cons.mp nd).1 (List.of_mem_zip hv).1,if_neg hk]
  simp
 | p::P,w::vs,i+1,m,nd,h1,h2,hk=>by
  show bindC kindOf ((p,w)::P.zip vs) m x=_
  unfold bindC
  exact m6 (i:=i) (List.nodup_cons.mp nd).2 (by simpa using h1) (by simpa using h2) hk
noncomputable def start (N:List Str) (vs:List V):St:=vs.map some++List.replicate (N.length-vs.length) none
noncomputable def iQ (CX:AU) (P:Program) (w:World) (K:PySem.W.Frag) (mg:Str->Option Value) (base:Heap) (N:List Str) (qual:Str) (scope:Scope) (f:Addr) (cd:Value) (A:Around) (outer:List Env) (s:Shared) (H:Hp) (E:XK):Cx where
 prog:=P
 w:=w
 K:=K
 mg:=mg
 base:=base
 A:=A.deeper (envOfC qual scope s.heap.objs.size f cd)
 N:=N
 s₀:=s
 H₀:=H
 env:=envOfC qual scope s.heap.objs.size f cd
 outer:=outer
 stack:=envOfC qual scope s.heap.objs.size f cd::outer
 ex:=[]
 calm:=true
 fn:=fun _=>true
 pn:=[]
 xe:=fun e s'=>wpAny (model P w) (A.deeper (envOfC qual scope s.heap.objs.size f cd)) (leaving (envOfC qual scope s.heap.objs.size f cd) e) (fun _ s''=>CX outer H s E e s'') (fun e' s''=>CX outer H s E e' s'') s'
theorem qF {sc:Scope} {n:Nat} {x:Str} (h:sc.names.lookup x=some .cell):∃ c,(cellsFrom n sc.names []).lookup x=some c:=by
 have q:=PySem.W.cellsFrom_some sc.names n [] (.inl h)
 exact Option.isSome_iff_exists.mp q
theorem wA {CX:AU} {P:Program} {w:World} {K:PySem.W.Frag} {mg:Str->Option Value} {base:Heap} {N ps:List Str} {qual:Str} {scope:Scope} {f:Addr} {cd:Value} {A:Around} {outer:List Env} {s s1:Shared} {H:Hp} {E:XK} {us:List Value} {vs:List V}
  (S:dD N ps scope) (hd:A.handled=none) (e0:lP P w K mg base A outer s H) (hl:vs.length=ps.length) (r:Vals vs us)
  (x:InCallC s s.heap.objs.size (bindL (envOfC qual scope s.heap.objs.size f cd).kindOf (ps.zip us) fun _=>none) (cellsFrom (s.heap.objs.size+1) scope.names []) (bindC (envOfC qual scope s.heap.objs.size f cd).kindOf (ps.zip us) fun _=>none) s1) :
  Inv (iQ CX P w K mg base N qual scope f cd A outer s H E) [] (start N vs) H s1:=by
 have hpl:ps.length<=N.length:=by have:=congrArg List.length S.pre;rw [List.length_take] at this;omega
 obtain ⟨h1,tk,rfl,hk⟩:=x.done
 have Kg:∀ b:Addr,b∉(iQ CX P w K mg base N qual scope f cd A outer s H E).ex:=fun b z=>absurd (show b∈([]:List Addr) from z) (by simp)
 refine ⟨⟨e0.mod,S.kind,rfl,rfl,Nat.le_refl _,fun y z c h1 h2=>?_,fun y hy=>?_,fun y c _ h=>?_,fun _=>hd,Around.frames_deeper e0.frames,.inr ⟨rfl,rfl⟩,fun b z=>absurd z (Kg b),e0.bs,e0.wX,fun b _ _=>Kg b,fun b z=>absurd z (Kg b),e0.gp,e0.zO⟩,
  rfl,e0.bare,Un.kept hk,⟨_,x.toInCall.ns,fun i y v h1 h2 h3=>?_⟩,fun y c h=>⟨_,x.cell y c h⟩,e0.hok.fresh (Nat.le_refl _),fun y c h=>?_,fun p hp=>absurd (show p∈([]:List (Addr×Obj)) from hp) (by simp),e0.hok.kept hk,?_⟩
 ·exact name_of_addr x.apart (PySem.mem_of_lookup h1) (PySem.mem_of_lookup h2)
 ·have hy:scope.names.lookup y=some .cell\/scope.names.lookup y=some .free:=hy
  rcases hy with hy | hy
  ·exact qF hy
  ·exact absurd rfl (S.GH _ (PySem.mem_of_lookup hy))
 ·exact Nat.le_of_lt (x.above y c (PySem.mem_of_lookup h))
 ·have hi:i<vs.length:=by
   unfold start at h2
   by_cases hi:i<vs.length
   ·exact hi
   ·rw [List.getElem?_append_right (by simpa using hi)] at h2
    rw [List.getElem?_replicate] at h2
    split at h2 <;> cases h2
  have ha:vs[i]? = some v:=by
   unfold start at h2
   rw [List.getElem?_append_left (by simpa using hi),List.getElem?_map] at h2
   cases e:vs[i]? with
   | none=>rw [e] at h2;cases h2
   | some a=>rw [e] at h2;cases h2;rfl
  obtain ⟨u,hu,rv⟩:=r.get ha
  have hp:ps[i]? = some y:=by
   rw [<- S.pre,List.getElem?_take_of_lt (by omega)];exact h1
  have ndP:ps.Nodup:=by rw [<- S.pre];exact S.nd.sublist (List.take_sublist _ _)
  refine ⟨u,rv,?_⟩
  rcases S.par y (List.mem_of_getElem? hp) with k | k
  ·exact .inl ⟨k,mZ ndP hp hu k⟩
  ·obtain ⟨c,e⟩:=qF (n:=s.heap.objs.size+1) k
   refine .inr ⟨.inl k,c,e,?_⟩
   have q:=x.cell y c e
   rw [m6 ndP hp hu (by show scope.names.lookup y≠_;rw [k];decide)] at q
   exact q
 ·exact e0.hok.fresh (Nat.le_of_lt (x.above y c (PySem.mem_of_lookup h)))
 ·unfold start
  show _=N.length
  rw [List.length_append,List.length_map,List.length_replicate]
  omega
theorem Em {CX:AU} {P:Program} {w:World} {K:PySem.W.Frag} {mg:Str->Option Value} {base:Heap} {k:Nat} {f:Addr} {name qual:Str} {params:Arguments} {body:List Stmt} {scope:Scope} {dV kV doc pm cdv ct oc:Value} {an od:Option Addr}
  {osl:Array (Option Value)} {N ps:List Str} {sp:Sp} (lk:K.lookup f=some ⟨oc,od,.func (PySem.W.fnOf name qual params body scope dV kV doc pm an cdv ct),osl⟩) (hcd:PySem.W.codeIn K cdv qual=true) (S:dD N ps scope)
  (len:∀ vs H Q E,sp vs H Q E->vs.length=ps.length)
  (hbody:∀ (A:Around) (outer:List Env) (s:Shared) (H:Hp) (vs:List V) (Q:VK) (E:XK),bW k (A.deeper (envOfC qual scope s.heap.objs.size f cdv))->sp vs H Q E ->
   ∃ t,j8 (iQ CX P w K mg base N qual scope f cdv A outer s H E) body t/\t { nx:=fun _ H'=>Q .ao H',rt:=Q } (start N vs) H) :
  cz P w K mg base CX (k+1) f (PySem.W.fnOf name qual params body scope dV kV doc pm an cdv ct) ps sp:=by
 refine ⟨len,fun A outer s H args us vs Q E hr e0 hb r IW=>?_⟩
 have hl:=len _ _ _ _ IW
 have KX:K.In s.heap:=e0.mod.Cu.keeps fun b o e=>(e0.bs b o e).1
 have lim:s.heap.NoLimit:=e0.mod.nolimit.keeps fun b o e=>(e0.bs b o e).1
 have hkind:∀ y∈ps.zip us,scope.names.lookup y.1=some .local\/(scope.names.lookup y.1=some .cell/\((cellsFrom (s.heap.objs.size+1) scope.names []).lookup y.1).isSome=true):=fun ⟨n,v⟩ hy=>by
  rcases S.par n (List.of_mem_zip hy).1 with q | q
  ·exact .inl q
  ·exact .inr ⟨q,PySem.W.cellsFrom_some _ _ _ (.inl q)⟩
 refine codeAny_call_function hr.depth (KX _ _ lk) rfl S.co S.gen rfl (PySem.W.codeRec_of KX hcd) (hb _ _ _ _ ?_)
 refine wpAny_newFunctionEnv_cells S.kind hkind fun env he s1 x=>?_
 subst he
 refine ⟨lim.keeps x.toInCall.keep,codeAny_func ?_⟩
 obtain ⟨t,ht,hq⟩:=hbody A outer s H vs Q E (hr.deeper _) IW
 have I:Inv (iQ CX P w K mg base N qual scope f cdv A outer s H E) [] (start N vs) H s1:=wA S hr.hd e0 hl r x
 refine wpAny_mono (ht [] s1 (start N vs) H _ I hq) (fun fl s' hs=>?_) fun e s' hs=>hs
 have fin:∀ {σ':St} {H':Hp} {v:V} {u:Value},Inv (iQ CX P w K mg base N qual scope f cdv A outer s H E) [] σ' H' s'->RelV v u->Q v H'->CE outer P w H s Q u s' :=
  fun {σ' H' v u} J rv q=>⟨v,H',J.os,J.bare,J.base,J.hok,rv,q⟩
 cases fl with
 | ret u =>
  obtain ⟨v,σ',H',J,rv,q⟩:=hs
  exact fin J rv q
 | next =>
  obtain ⟨σ',H',J,q⟩:=hs
  exact fin (v:=V.ao) (u:=Value.none) J rfl q
 | brk =>
  obtain ⟨_,_,_,q⟩:=hs
  exact False.elim q
 | cont =>
  obtain ⟨_,_,_,q⟩:=hs
  exact False.elim q
section
variable {X:Cx} {x:Str} {p pos:Pos} {e:Expr} {es:List Expr} {t:TA} {id T:String} {r:List V->Hp->VK->Prop}
noncomputable def E4 (r:List V->Hp->VK->Prop) (t:TA):TE:=fun σ H Q=>t σ H fun vs H1=>r vs H1 Q
theorem fP (hc:cB X (.builtin id) r) (hg:Gl X x) (hm:X.mg x=none) (hv:bootBuiltins x=some (.builtin id)) (ha:PA X (e::es) t) (hn:x≠"__name__":=by decide) (hdb:(x == ("__debug__" : Str))=false:=by decide)
  (he:starEach (e::es) X.env=(false,eval e X.env)::starEach es X.env:=by rfl) (hpl:(backTo pos (starEach es X.env)).any (·.1)=false:=by rfl):PE X (.Call (.Name x p) (e::es) [] pos) (E4 r t):=by
 intro pins s σ H Q I h
 refine wpAny_Call_Name_kw (fS I hg hm hv ?_ hn hdb)
 exact PyProof.Rows.callWith_builtin1 (bq (ha pos pins s σ H _ I h) fun us s1 ⟨vs,H1,I1,r1,q1⟩=>hc pins s1 σ H1 vs us Q I1 r1 q1) he hpl
theorem i8 (hc:cB X (.type T) r) (hg:Gl X x) (hm:X.mg x=none) (hv:bootBuiltins x=some (.type T)) (ha:PA X (e::es) t) (hn:x≠"__name__":=by decide) (hdb:(x == ("__debug__" : Str))=false:=by decide)
  (he:starEach (e::es) X.env=(false,eval e X.env)::starEach es X.env:=by rfl) (hpl:(backTo pos (starEach es X.env)).any (·.1)=false:=by rfl):PE X (.Call (.Name x p) (e::es) [] pos) (E4 r t):=by
 intro pins s σ H Q I h
 refine wpAny_Call_Name_kw (fS I hg hm hv ?_ hn hdb)
 exact PyProof.Rows.callWith_type1 (bq (ha pos pins s σ H _ I h) fun us s1 ⟨vs,H1,I1,r1,q1⟩=>hc pins s1 σ H1 vs us Q I1 r1 q1) he hpl
end
end L2
namespace HT
open PySem PyProof.Rows
section
open PySem.SeqAt
open PySem.AutoSeq1 (wpAny_loadPart')
open PySem.MeetsSeq PySem.MeetsSeq2 PySem.MeetsSeq3
end
section
variable {prog:Program} {w:World} {A:Around} {E:Value->Shared->Prop} {s:Shared}
theorem Di {t b:Addr} {vs ws:List Value} {Q:Value->Shared->Prop} (ht:IsTup s.heap t vs.toArray) (hb:IsTup s.heap b ws.toArray) (hv:vs≠[])
  (h1:ws=[]->Q (.ref t) s) (h2:ws≠[]->Q (.ref s.heap.objs.size) { s with heap:=s.heap.push { cls:=.type "tuple", data:=.seq (vs++ws).toArray } })
  (hsz:vs.length+ws.length<=sizeLine):wpAny (model prog w) A (binaryOp .Add (.ref t) (.ref b)) Q E s:=by
 obtain ⟨⟨cls,dd,data,sl⟩,ho,hc,n,hd⟩:=id ht
 obtain ⟨⟨LA,dd2,data2,sl2⟩,ho2,hc2,n2,hd2⟩:=id hb
 simp only at hc hd hc2 hd2
 subst hc hd hc2 hd2
 have e:vs.toArray++ws.toArray=(vs++ws).toArray:=by simp
 by_cases hw:ws=[]
 ·exact concat_meets ⟨_,ho,rfl⟩ ⟨_,ho2,rfl⟩ noFill_tuple_add seq_tuple_add PySem.F.slot_tuple_add PySem.F.entry_tuple_add (PySem.F.args_tuple_add_2 _ _)
   (tuple_addW1 t b vs.toArray ws.toArray n n2 dd dd2 sl sl2 (by simpa using hv) (by simp [hw])) ⟨ho,ho2,h1 hw⟩
 ·refine concat_meets ⟨_,ho,rfl⟩ ⟨_,ho2,rfl⟩ noFill_tuple_add seq_tuple_add PySem.F.slot_tuple_add PySem.F.entry_tuple_add (PySem.F.args_tuple_add_2 _ _)
   (tuple_addW2 t b vs.toArray ws.toArray n n2 dd dd2 sl sl2 (by simpa using hv) (by simpa using hw) (by rw [List.size_toArray,List.size_toArray];exact hsz)) ⟨ho,ho2,?_⟩
  rw [e]
  exact h2 hw
noncomputable def cC (n d:Nat):Option Int->Nat
 | none=>d
 | some v=>if v<0 then (v+(n:Int)).toNat else min v.toNat n
theorem FA (n d:Nat) (hd:d<=n) (o:Option Int):cC n d o<=n:=by
 cases o with
 | none=>exact hd
 | some v =>
  show (if v<0 then (v+(n:Int)).toNat else min v.toNat n)<=n
  by_cases hv:v<0
  ·rw [if_pos hv];omega
  ·rw [if_neg hv];exact Nat.min_le_right _ _
theorem vg (v:Int) (n d:Nat):(if v<0 then max (v+(n:Int)) 0 else min v (n:Int))=((cC n d (some v):Nat):Int):=by
 show (if v<0 then max (v+(n:Int)) 0 else min v (n:Int))=(((if v<0 then (v+(n:Int)).toNat else min v.toNat n):Nat):Int)
 by_cases hv:v<0
 ·simp only [if_pos hv];omega
 ·simp only [if_neg hv];omega
theorem sW (lo hi:Option Int) (n:Nat):Builtin.Slice.sliceAdjust lo hi 1 (n:Int)=(((cC n 0 lo:Nat):Int),((cC n n hi:Nat):Int)):=by
 have h1:¬ ((1:Int)<0):=by omega
 unfold Builtin.Slice.sliceAdjust
 simp only [h1,if_false]
 refine Prod.ext ?_ ?_
 ·cases lo with
  | none=>rfl
  | some v=>exact vg v n 0
 ·cases hi with
  | none=>rfl
  | some v=>exact vg v n n
theorem rJ (i j:Nat):Builtin.Slice.slicePlaces (i:Int) (j:Int) 1=j-i:=by
 unfold Builtin.Slice.slicePlaces
 have h1:(1:Int) > 0:=by omega
 simp only [h1,if_true,Int.ediv_one]
 split <;> omega
theorem ki {v:Value} {o:Option Int} {Q:Option Int->Shared->Prop} (p:IsPart v o) (h:Q o s):wpAny (model prog w) A (Builtin.Slice.slicePartIndex v) Q E s:=by
 cases p with
 | none=>exact slicePart_none h
 | int i t=>exact slicePart_int h
theorem iZ {sl:Addr} {vl vu:Value} {lo hi:Option Int} {n:Nat} {Q:Int×Int×Nat->Shared->Prop} (hs:s.heap.IsSliceOf sl vl vu .none) (pl:IsPart vl lo) (pu:IsPart vu hi)
  (h:Q (((cC n 0 lo:Nat):Int),1,cC n n hi-cC n 0 lo) s):wpAny (model prog w) A (Builtin.Slice.sliceApplied (.ref sl) (pure (n:Int))) Q E s:=by
 obtain ⟨os,hos,hcs,hds⟩:=id hs
 unfold Builtin.Slice.sliceApplied Builtin.Slice.sliceFields
 refine wpAny_bind (wpAny_bind (wpAny_field hos hds (x:=vl) rfl (wpAny_bind (wpAny_field hos hds (x:=vu) rfl (wpAny_bind (wpAny_field hos hds (x:=.none) rfl (wpAny_pure ?_)))))))
 refine wpAny_bind (slicePart_none ?_)
 show wpAny _ _ (if ((1:Int) == 0)=true then _ else _) _ _ s
 rw [if_neg (by decide)]
 refine wpAny_bind (ki pl (wpAny_bind (ki pu (wpAny_bind (wpAny_pure ?_)))))
 show wpAny _ _ (match Builtin.Slice.sliceAdjust lo hi 1 (n:Int) with | (lo,hi)=>pure (lo,(1:Int),Builtin.Slice.slicePlaces lo hi 1)) _ _ s
 rw [sW lo hi n]
 show wpAny _ _ (pure (((cC n 0 lo:Nat):Int),(1:Int),Builtin.Slice.slicePlaces ((cC n 0 lo:Nat):Int) ((cC n n hi:Nat):Int) 1)) _ _ s
 rw [rJ]
 exact wpAny_pure h
theorem yv (xs:Array Value) (i k:Nat):((List.range k).filterMap fun (m:Nat)=>xs[((i:Int)+(m:Int)*1).toNat]?).toArray=((xs.toList.drop i).take k).toArray:=by
 have e:(fun (m:Nat)=>xs[((i:Int)+(m:Int)*1).toNat]?)=fun m=>xs[i+m]?:=by
  funext m
  have:((i:Int)+(m:Int)*1).toNat=i+m:=by omega
  rw [this]
 rw [e]
 have:=pick_run xs i k
 rw [List.filterMap_map] at this
 have e2:((fun x=>xs[x]?) ∘ fun x=>i+x)=fun m=>xs[i+m]?:=rfl
 rw [e2] at this
 rw [this]
theorem iC {t sl:Addr} {items:Array Value} {vl vu:Value} {lo hi:Option Int} {Q:Value->Shared->Prop} (ht:IsTup s.heap t items) (hs:s.heap.IsSliceOf sl vl vu .none) (pl:IsPart vl lo) (pu:IsPart vu hi)
  (hw:¬ (cC items.size 0 lo=0/\cC items.size items.size hi=items.size))
  (h:Q (.ref s.heap.objs.size) { s with heap:=s.heap.push { cls:=.type "tuple", data:=.seq ((items.toList.drop (cC items.size 0 lo)).take (cC items.size items.size hi-cC items.size 0 lo)).toArray } })
  (hsz:items.size<=sizeLine):wpAny (model prog w) A (getItem (.ref t) (.ref sl)) Q E s:=by
 have uH:sizeOk (.seq ((items.toList.drop (cC items.size 0 lo)).take (cC items.size items.size hi-cC items.size 0 lo)).toArray):=by
  show ((items.toList.drop (cC items.size 0 lo)).take (cC items.size items.size hi-cC items.size 0 lo)).toArray.size<=sizeLine
  rw [List.size_toArray,List.length_take,List.length_drop,Array.length_toList]
  omega
 have hj:cC items.size items.size hi<=items.size:=FA _ _ (Nat.le_refl _) hi
 obtain ⟨os,hos,hcs,hds⟩:=id hs
 have hTs:s.TypeIs (.ref sl) "slice":=⟨os, hos, hcs⟩
 unfold getItem
 try with_reducible refine wpAny_holding ?_
 first | refine wpAny_bind (wpAny_pure ?_) | skip
 refine wpAny_bind (wpAny_sequenceKey ht.typeIs (by decide) ?_)
 refine wpAny_bind (wpAny_callSpecial?_slot (name:=Str.ofString "__getitem__") ht.typeIs PyProof.Rows.slot_tuple_getitem
  (wpAny_call_entry PyProof.Rows.slot_tuple_getitem ht.typeIs entry_tuple_getitem ?_ (args_tuple_getitem _ _)))
 show wpAny _ _ (Builtin.Tuple.tupleItemsOf (.ref t) >>= _) _ _ s
 refine wpAny_bind (tupleItemsOf_ ht ?_)
 refine wpAny_bind (wpAny_typeOf hTs ?_)
 rw [if_pos (by decide)]
 refine wpAny_bind (iZ hs pl pu ?_)
 have hno:¬ ((((cC items.size 0 lo:Nat):Int) == 0&&(1:Int) == 1&&(cC items.size items.size hi-cC items.size 0 lo) == items.size)=true):=by
  intro q
  rw [Bool.and_eq_true,Bool.and_eq_true] at q
  have q1:((cC items.size 0 lo:Nat):Int)=0:=eq_of_beq q.1.1
  have q2:cC items.size items.size hi-cC items.size 0 lo=items.size:=eq_of_beq q.2
  exact hw ⟨by omega,by omega⟩
 show wpAny _ _ (if (((cC items.size 0 lo:Nat):Int) == 0&&(1:Int) == 1&&(cC items.size items.size hi-cC items.size 0 lo) == items.size)=true then _ else _) _ _ s
 rw [if_neg hno,yv]
 first
  | exact wpAny_bind (m:=Builtin.Tuple.tupleExact _) (wpAny_newObj_type (wpAny_pure ⟨_,rfl,wpAny_pure h⟩) uH)
  | exact wpAny_bind (m:=Builtin.Tuple.tupleExact _) (wpAny_newObj_type (wpAny_bind (wpAny_pure (wpAny_pure ⟨_,rfl,wpAny_pure h⟩))) uH)
  | exact wpAny_bind (wpAny_bind (m:=Builtin.Tuple.tupleExact _) (wpAny_newObj_type (wpAny_pure (wpAny_pure ⟨_,rfl,wpAny_pure h⟩)) uH))
  | exact wpAny_bind (wpAny_bind (m:=Builtin.Tuple.tupleExact _) (wpAny_newObj_type (wpAny_pure ⟨_,rfl,wpAny_pure h⟩) uH))
end
end HT
namespace L2
open PySem PySem.Spec PyProof.Rows
noncomputable abbrev TO:=St->Hp->(Option Int->Hp->Prop)->Prop
noncomputable def PO (X:Cx) (e:Option Expr) (t:TO):Prop :=
 ∀ (pins:List (Addr×Obj)) (s:Shared) (σ:St) (H:Hp) (Q:Option Int->Hp->Prop),Inv X pins σ H s->t σ H Q ->
  wpAny (model X.prog X.w) X.A (evalPart e X.env) (fun u s'=>∃ o H',Inv X pins σ H' s'/\IsPart u o/\Q o H') X.xe s
noncomputable def tG:TO:=fun _ H Q=>Q none H
noncomputable def DJ (t:TE):TO:=fun σ H Q=>t σ H fun x H1=>∃ i,x=.int i/\Q (some i) H1
section
variable {X:Cx} {e:Expr} {te:TE} {lo hi:Option Expr} {tl th:TO} {pos p2:Pos}
theorem BY:PO X none tG:=by
 intro pins s σ H Q I h
 rw [evalPart_none]
 exact wpAny_pure ⟨none,H,I,.none,h⟩
theorem BX (h:PE X e te):PO X (some e) (DJ te):=by
 intro pins s σ H Q I hw
 rw [evalPart_some]
 refine bq (h pins s σ H _ I hw) fun u s1 ⟨x,H1,I1,r1,q1⟩=>?_
 obtain ⟨i,rfl,q⟩:=q1
 obtain ⟨t,rfl⟩:=r1
 exact ⟨some i,H1,I1,.int i t,q⟩
noncomputable def Du (X:Cx) (r:V->Option Int->Option Int->Hp->VK->Prop):Prop :=
 ∀ (pins:List (Addr×Obj)) (s:Shared) (σ:St) (H:Hp) (x:V) (v vl vu:Value) (lo hi:Option Int) (sl:Addr) (Q:VK),Inv X pins σ H s->RelV x v->s.heap.IsSliceOf sl vl vu .none->IsPart vl lo->IsPart vu hi->r x lo hi H Q ->
  ∃ T id, typeLookup (.type T) "__getitem__" = pure (some (.builtin id))/\s.TypeIs v T/\wpAny (model X.prog X.w) X.A (getItem v (.ref sl)) (EP X pins σ Q) X.xe s
theorem Du.or {r r':V->Option Int->Option Int->Hp->VK->Prop} (h:Du X r) (h':Du X r'):Du X (fun x lo hi H Q=>r x lo hi H Q\/r' x lo hi H Q):=by
 intro pins s σ H x v vl vu lo hi sl Q I rx hs pl pu q
 rcases q with q | q
 ·exact h pins s σ H x v vl vu lo hi sl Q I rx hs pl pu q
 ·exact h' pins s σ H x v vl vu lo hi sl Q I rx hs pl pu q
noncomputable def tSl (r:V->Option Int->Option Int->Hp->VK->Prop) (te:TE) (tl th:TO):TE:=fun σ H Q=>te σ H fun x H1=>tl σ H1 fun l H2=>th σ H2 fun u H3=>r x l u H3 Q
theorem yx {r:V->Option Int->Option Int->Hp->VK->Prop} (hr:Du X r) (he:PE X e te) (hl:PO X lo tl) (hu:PO X hi th):PE X (.Subscript e (.Slice lo hi none p2) pos) (tSl r te tl th):=by
 intro pins s σ H Q I h
 refine Subscript_ (bq (he pins s σ H _ I h) fun v s1 ⟨x,H1,I1,r1,q1⟩=>?_)
 refine wpAny_Slice (bq (hl pins s1 σ H1 _ I1 q1) fun vl s2 ⟨l,H2,I2,pl,q2⟩=>bq (hu pins s2 σ H2 _ I2 q2) fun vu s3 ⟨u,H3,I3,pu,q3⟩=>?_)
 rw [evalPart_none]
 refine wpAny_pure ?_
 have I4:Inv X pins σ H3 { s3 with heap:=s3.heap.push { cls:=.type "slice", data:=.fields #[vl, vu, .none] } }:=I3.kept (t':=s3.toks) fun b ob q=>Heap.get?_push_of_some _ q
 obtain ⟨T, id, hT, ht, hg⟩:=hr pins { s3 with heap:=s3.heap.push { cls:=.type "slice", data:=.fields #[vl, vu, .none] } } σ H3 x v vl vu l u s3.heap.objs.size Q I4 r1 (Heap.IsSliceOf.new ..) pl pu q3
 show wpAny (model X.prog X.w) X.A (subscriptTail e (.Slice lo hi none p2) v (.ref s3.heap.objs.size)) (EP X pins σ Q) X.xe { s3 with heap:=s3.heap.push { cls:=.type "slice", data:=.fields #[vl, vu, .none] } }
 exact tail_any (ops:=[.ref s3.heap.objs.size,v]) ht hT hg (by with_unfolding_all rfl)
noncomputable def qD (xs:List V) (lo hi:Option Int):List V:=(xs.drop (HT.cC xs.length 0 lo)).take (HT.cC xs.length xs.length hi-HT.cC xs.length 0 lo)
theorem jG (xs:List V) (lo hi:Option Int):(qD xs lo hi).length<=xs.length:=by
 unfold qD
 rw [List.length_take,List.length_drop]
 omega
noncomputable def JK (K:PySem.W.Frag):V->Option Int->Option Int->Hp->VK->Prop:=fun x lo hi H Q=>∃ a xs,x=.ref a/\gO K H a xs /\
 ¬ (HT.cC xs.length 0 lo=0/\HT.cC xs.length xs.length hi=xs.length)/\∀ p,H p=none->Q (.ref p) (upd H p (.tup (qD xs lo hi)))
theorem Fc:Du X (JK X.K):=by
 intro pins s σ H x v vl vu lo hi sl Q I rx hs pl pu h
 obtain ⟨a,xs,rfl,hx,hw,q⟩:=h
 cases rx
 obtain ⟨its,r,ht,hz⟩:=I.tuple hx
 have hlen:its.toArray.size=xs.length:=by rw [List.size_toArray];exact r.length.symm
 refine ⟨"tuple", _, PyProof.Rows.slot_tuple_getitem.lookup, ht.typeIs, ?_⟩
 refine HT.iC ht hs pl pu (by rw [hlen];exact hw) ?_ (by rw [hlen];exact hz)
 rw [hlen]
 refine ⟨.ref s.heap.objs.size,_,I.laid (t':=s.toks) (o:=.tup (qD xs lo hi)) (fun b ob q=>Heap.get?_push_of_some _ q) (Nat.le_refl _) ?_,rfl,q _ (I.hok.fresh (Nat.le_refl _))⟩
 exact ⟨Nat.le_trans (jG xs lo hi) hz,_,(r.drop (HT.cC xs.length 0 lo)).take (HT.cC xs.length xs.length hi-HT.cC xs.length 0 lo),IsTup.new _ _⟩
noncomputable def DZ (K:PySem.W.Frag):R2:=fun x y H Q=>∃ a b xs ys,x=.ref a/\y=.ref b/\gO K H a xs/\gO K H b ys/\xs≠[]/\xs.length+ys.length<=sizeLine /\
 (ys=[]->Q (.ref a) H)/\(ys≠[]->∀ p,H p=none->Q (.ref p) (upd H p (.tup (xs++ys))))
theorem Vals.nK {xs:List V} {us:List Value} (r:Vals xs us):us=[]↔xs=[]:=by
 cases r with
 | nil=>simp
 | cons _ _=>simp
theorem Cd:eB X (binaryOp .Add) (DZ X.K):=by
 intro pins s σ H x y v u Q I rx ry h
 obtain ⟨a,b,xs,ys,rfl,rfl,ha,hb,hx,hz,q1,q2⟩:=h
 cases rx
 cases ry
 obtain ⟨its,r1,p1,_⟩:=I.tuple ha
 obtain ⟨its2,r2,p2,_⟩:=I.tuple hb
 refine HT.Di p1 p2 (fun z=>hx (r1.nK.mp z)) (fun z=>⟨.ref a,H,I,rfl,q1 (r2.nK.mp z)⟩) (fun z=>?_) (by rw [<- r1.length,<- r2.length];exact hz)
 refine ⟨.ref s.heap.objs.size,_,I.laid (t':=s.toks) (o:=.tup (xs++ys)) (fun b ob q=>Heap.get?_push_of_some _ q) (Nat.le_refl _) ?_,rfl,q2 (fun w=>z (r2.nK.mpr w)) _ (I.hok.fresh (Nat.le_refl _))⟩
 exact ⟨by rw [List.length_append];exact hz,_,r1.append r2,IsTup.new _ _⟩
end
noncomputable def IV (n:Nat) (i:Int):Option Nat:=if 0<=i then (if i<n then some i.toNat else none) else if -(n:Int)<=i then some (i+n).toNat else none
noncomputable def ID {α:Type} (xs:List α) (i:Int):Option α:=(IV xs.length i).bind fun j=>xs[j]?
theorem uC {n:Nat} {i:Int} {j:Nat} (h:IV n i=some j):seqIndex? i n=some j/\j<n/\-(n:Int)<=i/\i<n:=by
 unfold IV at h
 by_cases h0:0<=i
 ·rw [if_pos h0] at h
  by_cases h1:i<n
  ·rw [if_pos h1] at h
   have e:i.toNat=j:=Option.some.inj h
   exact ⟨by rw [seqIndex_of h0 h1,e],by omega,by omega,h1⟩
  ·rw [if_neg h1] at h;cases h
 ·rw [if_neg h0] at h
  by_cases h1:-(n:Int)<=i
  ·rw [if_pos h1] at h
   have e:(i+n).toNat=j:=Option.some.inj h
   exact ⟨by rw [seqIndex_neg (by omega) h1,e],by omega,h1,by omega⟩
  ·rw [if_neg h1] at h;cases h
theorem oN {α:Type} {xs:List α} {i:Int} {v:α} (h:ID xs i=some v):∃ j,seqIndex? i xs.length=some j/\xs[j]? = some v/\j<xs.length/\-(xs.length:Int)<=i/\i<xs.length:=by
 unfold ID at h
 cases e:IV xs.length i with
 | none=>rw [e] at h;cases h
 | some j =>
  rw [e] at h
  obtain ⟨h1,h2,h3,h4⟩:=uC e
  exact ⟨j,h1,h,h2,h3,h4⟩
noncomputable def vp (b:Expr):Prop:=∀ o i,subscripted b false o i=operate [o,i] (getItem o i)
noncomputable def A4 (X:Cx) (r:R2):Prop :=
 ∀ (value slice:Expr) (pins:List (Addr×Obj)) (s:Shared) (σ:St) (H:Hp) (x y:V) (v u:Value) (Q:VK),Inv X pins σ H s->RelV x v->RelV y u->r x y H Q ->
  subscripted slice false v u=operate [v,u] (getItem v u)->wpAny (model X.prog X.w) X.A (subscriptTail value slice v u) (EP X pins σ Q) X.xe s
noncomputable def MtR (X:Cx) (id:String) (r:V->List V->Hp->VK->Prop):Prop :=
 ∀ (pins:List (Addr×Obj)) (s:Shared) (σ:St) (H:Hp) (x:V) (xs:List V) (v:Value) (us:List Value) (Q:VK),Inv X pins σ H s->RelV x v->Vals xs us->r x xs H Q ->
  wpAny (model X.prog X.w) X.A (call (.builtin id) (v::us)) (EP X pins σ Q) X.xe s
section
variable {X:Cx} {a b:Expr} {ta tb:TE} {pos:Pos}
theorem A4.or {r r':R2} (h:A4 X r) (h':A4 X r'):A4 X (fun x y H Q=>r x y H Q\/r' x y H Q):=by
 intro value slice pins s σ H x y v u Q I rx ry q hs
 rcases q with q | q
 ·exact h value slice pins s σ H x y v u Q I rx ry q hs
 ·exact h' value slice pins s σ H x y v u Q I rx ry q hs
theorem J1 {r:R2} (hr:A4 X r) (ha:PE X a ta) (hb:PE X b tb) (hs:vp b):PE X (.Subscript a b pos) (E3 r ta tb):=by
 intro pins s σ H Q I h
 exact Subscript_ (IB ha hb I h fun v u s2 x y H2 I2 rx ry q=>hr a b pins s2 σ H2 x y v u Q I2 rx ry q (hs _ _))
noncomputable def JQ (K:PySem.W.Frag):R2:=fun x y H Q=>∃ p xs i v,x=.ref p/\y=.int i/\fK K H p xs/\ID xs i=some v/\Q v H
noncomputable def JO (K:PySem.W.Frag):R2:=fun x y H Q=>∃ p xs i v,x=.ref p/\y=.int i/\gO K H p xs/\ID xs i=some v/\Q v H
noncomputable def JP:R2:=fun x y H Q=>∃ z i c,x=.str z/\y=.int i/\z.length<=sizeLine/\ID z.cps.toList i=some c/\Q (.str ⟨#[c]⟩) H
theorem CF:A4 X (JQ X.K):=by
 intro value slice pins s σ H x y v u Q I rx ry h hs
 obtain ⟨p,xs,i,z,rfl,rfl,hq,he,q⟩:=h
 cases rx
 obtain ⟨t,rfl⟩:=ry
 obtain ⟨its,r,pl,hz⟩:=I.list hq
 obtain ⟨j,h1,h2,h3,h4,h5⟩:=oN he
 obtain ⟨w,ew,rw'⟩:=r.get h2
 have hl:=r.length
 have hn:=jb
 have fin:EP X pins σ Q w s:=⟨z,H,I,rw',q⟩
 by_cases h0:0<=i
 ·have hj:i.toNat=j:=by
   rw [seqIndex_of h0 h5] at h1
   exact Option.some.inj h1
  exact item_listR pl.isList h0 (by omega) (by rw [hj];simpa using ew) fin hs
 ·have hj:(i+(its.toArray.size:Int)).toNat=j:=by
   rw [seqIndex_neg (by omega) h4] at h1
   rw [List.size_toArray,<- hl]
   exact Option.some.inj h1
  exact subscriptTail_builtinR (x:=w) pl.isList.typeIs slot_list_getitem.lookup
   (wpAny_getItem_list_neg (Q:=fun r s'=>r=w/\EP X pins σ Q r s') pl.isList (by omega) (by rw [List.size_toArray] <;> omega) (by omega) (by rw [hj];simpa using ew) ⟨rfl,fin⟩) hs
theorem Hv:A4 X (JO X.K):=by
 intro value slice pins s σ H x y v u Q I rx ry h hs
 obtain ⟨p,xs,i,z,rfl,rfl,hq,he,q⟩:=h
 cases rx
 obtain ⟨t,rfl⟩:=ry
 obtain ⟨its,r,pl,hz⟩:=I.tuple hq
 obtain ⟨j,h1,h2,h3,h4,h5⟩:=oN he
 obtain ⟨w,ew,rw'⟩:=r.get h2
 have hl:=r.length
 have hn:=jb
 have fin:EP X pins σ Q w s:=⟨z,H,I,rw',q⟩
 exact subscriptTail_builtinR (x:=w) pl.typeIs slot_tuple_getitem.lookup
  (getItem_tuple (j:=j) (Q:=fun r s'=>r=w/\EP X pins σ Q r s') pl (by omega) (by omega) (by rw [List.size_toArray,<- hl];exact h1) (by simpa using ew) ⟨rfl,fin⟩) hs
theorem Hw:A4 X JP:=by
 intro value slice pins s σ H x y v u Q I rx ry h hs
 obtain ⟨z,i,c,rfl,rfl,hz,he,q⟩:=h
 obtain ⟨t,rfl⟩:=rx
 obtain ⟨t',rfl⟩:=ry
 obtain ⟨j,h1,h2,h3,h4,h5⟩:=oN he
 have hl:z.cps.toList.length=z.length:=by simp [Str.length]
 rw [hl] at h1 h4 h5
 have hn:=jb
 exact tail_any (typeIs_str s z t) slot_str_getitem.lookup (getItem_str (c:=c) (by
  have e1:decide (i < -(2 ^ 63:Int))=false:=decide_eq_false (by omega)
  have e2:decide (i ≥ 2 ^ 63)=false:=decide_eq_false (by omega)
  rw [e1,e2,Bool.or_false]) (by rw [h1];simpa using h2) ⟨.str ⟨#[c]⟩,H,I.tok _,⟨_,rfl⟩,q⟩) hs
theorem rR (its:List Value) (n j:Nat) (u:Value):Obj.mapSeq (·.setIfInBounds j u) { cls:=.type "list", data:=.seq its.toArray n }={ cls:=.type "list", data:=.seq (its.set j u).toArray n }:=by
 simp [Obj.mapSeq]
theorem Inv.lst {pins:List (Addr×Obj)} {σ:St} {H:Hp} {s:Shared} {p:Addr} {xs:List V} (I:Inv X pins σ H s) (h:H p=some (.lst xs)) :
  ∃ (its:List Value) (n:Nat), Vals xs its/\s.heap.get? p=some { cls:=.type "list", data:=.seq its.toArray n }/\xs.length<=sizeLine:=by
 obtain ⟨z,its,n,r,e⟩:=I.hok p _ h
 exact ⟨its,n,r,e,z⟩
theorem Inv.GL {pins:List (Addr×Obj)} {σ:St} {H:Hp} {s:Shared} {p:Addr} {xs ys:List V} {its its':List Value} {n n':Nat} {f:Obj->Obj} (I:Inv X pins σ H s) (h:H p=some (.lst xs))
  (ho:s.heap.get? p=some { cls:=.type "list", data:=.seq its.toArray n }) (hf:f { cls:=.type "list", data:=.seq its.toArray n }={ cls:=.type "list", data:=.seq its'.toArray n' }) (r:Vals ys its') (hz:ys.length<=sizeLine) (t:Nat) :
  Inv X pins σ (upd H p (.lst ys)) { s with heap:=s.heap.update p f,toks:=t }:=by
 have e:(s.heap.update p f).get? p=some { cls:=.type "list", data:=.seq its'.toArray n' }:=by
  rw [Heap.get?_update_self f ho (by rw [hf] <;> rfl),hf]
 refine I.write (x:=p) (e:=p) (by rw [h];trivial) (.inl rfl) (fun b u hb q=>(Heap.get?_update_other _ _ (Ne.symm hb)).trans q) ⟨_,e⟩ ?_
 exact ⟨hz,its',n',r,e⟩
noncomputable def DU:V->V->V->Hp->(Hp->Prop)->Prop:=fun o i v H Q=>∃ p xs k j,o=.ref p/\i=.int k/\H p=some (.lst xs)/\IV xs.length k=some j/\Q (upd H p (.lst (xs.set j v)))
theorem set_list:PSet X DU:=by
 intro pins s σ H o i v ov iv u Q I ro ri rv h
 obtain ⟨p,xs,k,j,rfl,rfl,hp,hj,q⟩:=h
 cases ro
 obtain ⟨t,rfl⟩:=ri
 obtain ⟨its,n,r,ho,hz⟩:=I.lst hp
 obtain ⟨h1,h2,h3,h4⟩:=uC hj
 have hl:=r.length
 have hn:=jb
 have I':Inv X pins σ (upd H p (.lst (xs.set j v))) { s with heap:=s.heap.update p (Obj.mapSeq (·.setIfInBounds j u)) } :=
  I.GL hp ho (rR its n j u) (r.set rv j) (by rw [List.length_set];exact hz) s.toks
 by_cases h0:0<=k
 ·have hk:k.toNat=j:=by
   rw [seqIndex_of h0 h4] at h1
   exact Option.some.inj h1
  exact PySem.W.ki_setAt ho h0 (by omega) (by rw [List.size_toArray,<- hl];exact h4) (by rw [hk];exact ⟨_,I',q⟩)
 ·have hk:(k+(its.toArray.size:Int)).toNat=j:=by
   rw [seqIndex_neg (by omega) h3] at h1
   rw [List.size_toArray,<- hl]
   exact Option.some.inj h1
  exact PySem.W.ki_setBack ho (by omega) (by rw [List.size_toArray,<- hl];exact h3) (by omega) (by rw [hk];exact ⟨_,I',q⟩)
theorem nj (lo hi:Option Int) (n:Nat):(sliceBounds lo hi none n).1=((HT.cC n 0 lo:Nat):Int)/\(sliceBounds lo hi none n).2.1=((HT.cC n n hi:Nat):Int)/\(sliceBounds lo hi none n).2.2=1:=by
 refine ⟨?_,?_,rfl⟩
 ·cases lo with
  | none=>simp [sliceBounds,HT.cC]
  | some i =>
   simp only [sliceBounds,HT.cC,Option.getD_none,show (1:Int) > 0 by decide,if_true]
   by_cases h:i<0
   ·simp only [h,if_true] <;> omega
   ·simp only [h,if_false] <;> omega
 ·cases hi with
  | none=>simp [sliceBounds,HT.cC]
  | some i =>
   simp only [sliceBounds,HT.cC,Option.getD_none,show (1:Int) > 0 by decide,if_true]
   by_cases h:i<0
   ·simp only [h,if_true] <;> omega
   ·simp only [h,if_false] <;> omega
theorem lF (its:List Value) (lo hi:Option Int):slicePick its.toArray lo hi none=((its.drop (HT.cC its.length 0 lo)).take (HT.cC its.length its.length hi-HT.cC its.length 0 lo)).toArray:=by
 obtain ⟨h1,h2,h3⟩:=nj lo hi its.toArray.size
 unfold slicePick
 rw [h1,h2,h3]
 simp only [sliceRange_one,pick_run,List.size_toArray] <;> rfl
noncomputable def JM (K:PySem.W.Frag):V->Option Int->Option Int->Hp->VK->Prop:=fun x lo hi H Q=>∃ a xs,x=.ref a/\fK K H a xs/\∀ p,H p=none->Q (.ref p) (upd H p (.lst (qD xs lo hi)))
theorem Bj:Du X (JM X.K):=by
 intro pins s σ H x v vl vu lo hi sl Q I rx hs pl pu h
 obtain ⟨a,xs,rfl,hx,q⟩:=h
 cases rx
 obtain ⟨its,r,ht,hz⟩:=I.list hx
 have hlen:=r.length
 refine ⟨"list", _, slot_list_getitem.lookup, ht.isList.typeIs, ?_⟩
 refine wpAny_getItem_list_slice ht.isList hs pl pu .none (by simp) ?_ (by rw [List.size_toArray] <;> omega)
 rw [lF,<- hlen]
 refine ⟨.ref s.heap.objs.size,_,I.laid (t':=s.toks) (o:=.lst (qD xs lo hi)) (fun b ob q=>Heap.get?_push_of_some _ q) (Nat.le_refl _) ?_,rfl,q _ (I.hok.fresh (Nat.le_refl _))⟩
 exact ⟨Nat.le_trans (jG xs lo hi) hz,_,0,(r.drop (HT.cC xs.length 0 lo)).take (HT.cC xs.length xs.length hi-HT.cC xs.length 0 lo),Heap.get?_push_size _ rfl⟩
noncomputable def gH:V->Bool
 | .ao=>true
 | .bl _=>true
 | .int _=>true
 | .str _=>true
 | _=>false
noncomputable def A1:V->V->Bool
 | .ao,.ao=>true
 | .bl a,.bl b=>a == b
 | .bl a,.int b=>(if a then 1 else 0) == b
 | .int a,.bl b=>a == (if b then 1 else 0)
 | .int a,.int b=>a == b
 | .str a,.str b=>a == b
 | _,_=>false
theorem HY {A:Around} {s:Shared} {y x:V} {u v:Value} (ry:RelV y u) (rx:RelV x v) (fy:gH y=true) (fx:gH x=true):SeqAt.EqAt A s u v (A1 y x):=by
 cases y with
 | ao =>
  cases ry
  cases x with
  | ao=>cases rx;exact SeqAt.EqAt.same _
  | bl b=>cases rx;exact SeqAt.EqAt.none_bool b
  | int b=>obtain ⟨t,rfl⟩:=rx;exact SeqAt.EqAt.none_int b t
  | str b=>obtain ⟨t,rfl⟩:=rx;exact SeqAt.EqAt.none_str b t
  | _=>exact absurd (show false=true from fx) Bool.false_ne_true
 | bl a =>
  cases ry
  cases x with
  | ao=>cases rx;exact SeqAt.EqAt.bool_none a
  | bl b=>cases rx;exact SeqAt.EqAt.bool_bool a b
  | int b=>obtain ⟨t,rfl⟩:=rx;exact SeqAt.EqAt.bool_int a b t
  | str b=>obtain ⟨t,rfl⟩:=rx;exact SeqAt.EqAt.bool_str a b t
  | _=>exact absurd (show false=true from fx) Bool.false_ne_true
 | int a =>
  obtain ⟨t',rfl⟩:=ry
  cases x with
  | ao=>cases rx;exact SeqAt.EqAt.int_none a t'
  | bl b=>cases rx;exact SeqAt.EqAt.int_bool a t' b
  | int b=>obtain ⟨t,rfl⟩:=rx;exact SeqAt.EqAt.int_int a t' b t
  | str b=>obtain ⟨t,rfl⟩:=rx;exact SeqAt.EqAt.int_str a t' b t
  | _=>exact absurd (show false=true from fx) Bool.false_ne_true
 | str a =>
  obtain ⟨t',rfl⟩:=ry
  cases x with
  | ao=>cases rx;exact SeqAt.EqAt.str_none a t'
  | bl b=>cases rx;exact SeqAt.EqAt.str_bool a t' b
  | int b=>obtain ⟨t,rfl⟩:=rx;exact SeqAt.EqAt.str_int a t' b t
  | str b=>obtain ⟨t,rfl⟩:=rx;exact SeqAt.EqAt.str_str a t' b t
  | _=>exact absurd (show false=true from fx) Bool.false_ne_true
 | _=>exact absurd (show false=true from fy) Bool.false_ne_true
noncomputable def sG (x:V) (u:Value):Bool:=match u with
 | .none=>A1 .ao x
 | .bool b=>A1 (.bl b) x
 | .int i _=>A1 (.int i) x
 | .str z _=>A1 (.str z) x
 | _=>false
theorem Af {x y:V} {u:Value} (r:RelV y u) (f:gH y=true):sG x u=A1 y x:=by
 cases y with
 | ao=>cases r;rfl
 | bl b=>cases r;rfl
 | int i=>obtain ⟨t,rfl⟩:=r;rfl
 | str z=>obtain ⟨t,rfl⟩:=r;rfl
 | _=>exact absurd (show false=true from f) Bool.false_ne_true
theorem iS {x:V}:∀ {xs:List V} {us:List Value},Vals xs us->xs.all gH=true->us.any (sG x)=xs.any fun y=>A1 y x
 | _,_,.nil,_=>rfl
 | y::xs,u::us,.cons r t,f=>by
  rw [List.all_cons,Bool.and_eq_true] at f
  rw [List.any_cons,List.any_cons,Af r f.1,iS t f.2]
theorem fQ {A:Around} {s:Shared} {x:V} {v:Value} (rx:RelV x v) (fx:gH x=true):∀ {xs:List V} {us:List Value},Vals xs us->xs.all gH=true->∀ u∈us,SeqAt.EqAt A s u v (sG x u)
 | _,_,.nil,_=>fun u hu=>by cases hu
 | y::xs,u::us,.cons r t,f=>fun u' hu=>by
  rw [List.all_cons,Bool.and_eq_true] at f
  rcases List.mem_cons.mp hu with rfl | hu
  ·rw [Af r f.1];exact HY r rx f.1 fx
  ·exact fQ rx fx t f.2 u' hu
noncomputable def KH (x:V) (xs:List V):Bool:=xs.any fun y=>A1 y x
noncomputable def JT (K:PySem.W.Frag) (neg:Bool):R2:=fun x y H Q=>∃ p xs,y=.ref p/\(fK K H p xs\/gO K H p xs)/\gH x=true/\xs.all gH=true/\Q (.bl (if neg then !KH x xs else KH x xs)) H
theorem vY:eB X (compareOp .In) (JT X.K false):=by
 intro pins s σ H x y v u Q I rx ry h
 obtain ⟨p,xs,rfl,hq,fx,fs,q⟩:=h
 cases ry
 rcases hq with hq | hq
 ·obtain ⟨its,r,pl,hz⟩:=I.list hq
  refine SeqAt.in_listAt (sG x) pl.isList (fun w hw=>fQ rx fx r fs w (by simpa using hw)) ⟨.bl _,H,I,rfl,?_⟩
  rw [show its.toArray.any (sG x)=its.any (sG x) by simp,iS r fs]
  exact q
 ·obtain ⟨its,r,pl,hz⟩:=I.tuple hq
  refine SeqAt.in_tupleAt (sG x) pl (fun w hw=>fQ rx fx r fs w (by simpa using hw)) ⟨.bl _,H,I,rfl,?_⟩
  rw [show its.toArray.any (sG x)=its.any (sG x) by simp,iS r fs]
  exact q
theorem nH:eB X (compareOp .NotIn) (JT X.K true):=by
 intro pins s σ H x y v u Q I rx ry h
 obtain ⟨p,xs,rfl,hq,fx,fs,q⟩:=h
 cases ry
 rcases hq with hq | hq
 ·obtain ⟨its,r,pl,hz⟩:=I.list hq
  refine SeqAt.notIn_listAt (sG x) pl.isList (fun w hw=>fQ rx fx r fs w (by simpa using hw)) ⟨.bl _,H,I,rfl,?_⟩
  rw [show its.toArray.any (sG x)=its.any (sG x) by simp,iS r fs]
  exact q
 ·obtain ⟨its,r,pl,hz⟩:=I.tuple hq
  refine SeqAt.notIn_tupleAt (sG x) pl (fun w hw=>fQ rx fx r fs w (by simpa using hw)) ⟨.bl _,H,I,rfl,?_⟩
  rw [show its.toArray.any (sG x)=its.any (sG x) by simp,iS r fs]
  exact q
theorem oG:cB X (.builtin "len") (fun xs H Q=>∃ p ys, xs=[.ref p]/\(fK X.K H p ys\/gO X.K H p ys)/\Q (.int ys.length) H):=by
 intro pins s σ H xs us Q I r h
 obtain ⟨p,ys,rfl,hq,q⟩:=h
 obtain ⟨u,rfl,rx⟩:=vals1 r
 cases rx
 have hn:=jb
 rcases hq with hq | hq
 ·obtain ⟨its,r',pl,hz⟩:=I.list hq
  have hlen:=r'.length
  exact Calls.call_len_list pl.isList (by simp only [List.size_toArray] <;> omega) ⟨.int ys.length,H,I.tok _,⟨s.toks+1,by rw [List.size_toArray,hlen]⟩,q⟩
 ·obtain ⟨its,r',pl,hz⟩:=I.tuple hq
  have hlen:=r'.length
  exact len_tuple pl (by simp only [List.size_toArray] <;> omega) ⟨.int ys.length,H,I.tok _,⟨s.toks+1,by rw [List.size_toArray,hlen]⟩,q⟩
theorem oF:cB X (.builtin "len") (fun xs H Q=>∃ z, xs=[.str z]/\z.length<=sizeLine/\Q (.int z.length) H):=by
 intro pins s σ H xs us Q I r h
 obtain ⟨z,rfl,hz,q⟩:=h
 obtain ⟨u,rfl,t,rfl⟩:=vals1 r
 have hn:=jb
 exact len_str (by omega) ⟨.int z.length,H,I.tok _,⟨_,rfl⟩,q⟩
theorem cB.or {f:Value} {r r':List V->Hp->VK->Prop} (h:cB X f r) (h':cB X f r'):cB X f (fun xs H Q=>r xs H Q\/r' xs H Q):=by
 intro pins s σ H xs us Q I rs q
 rcases q with q | q
 ·exact h pins s σ H xs us Q I rs q
 ·exact h' pins s σ H xs us Q I rs q
theorem oE:cB X (.type "list") (fun xs H Q=>∃ p ys, xs=[.ref p]/\(fK X.K H p ys\/gO X.K H p ys)/\∀ l, H l=none->Q (.ref l) (upd H l (.lst ys))):=by
 intro pins s σ H xs us Q I r h
 obtain ⟨p,ys,rfl,hq,q⟩:=h
 obtain ⟨u,rfl,rx⟩:=vals1 r
 cases rx
 have fin:∀ (its:List Value),Vals ys its->ys.length<=sizeLine->∀ (h':Heap) (c':Nat),(∀ b o',s.heap.get? b=some o'->h'.get? b=some o') ->
   h'.get? s.heap.objs.size=some { cls:=.type "list", dict:=none, data:=.seq its.toArray c', slots:=#[] }->EP X pins σ Q (.ref s.heap.objs.size) { s with heap:=h' }:=fun its r' hz h' c' kp e =>
  ⟨.ref s.heap.objs.size,_,I.laid (t':=s.toks) kp (Nat.le_refl _) (show bh X.prog X.w _ h' _ (.lst ys) from ⟨hz,its,c',r',e⟩),rfl,q _ (I.hok.fresh (Nat.le_refl _))⟩
 rcases hq with hq | hq
 ·obtain ⟨its,r',pl,hz⟩:=I.list hq
  have hlen:=r'.length
  obtain ⟨o,ho,hc,n,hd⟩:=pl.isList
  exact call_list_seq p (.inl rfl) ho hc hd (fun h' c' kp e=>fin its r' hz h' c' kp e) (by simp only [List.size_toArray] <;> omega)
 ·obtain ⟨its,r',pl,hz⟩:=I.tuple hq
  have hlen:=r'.length
  obtain ⟨o,ho,hc,n,hd⟩:=pl
  exact call_list_seq p (.inr rfl) ho hc hd (fun h' c' kp e=>fin its r' hz h' c' kp e) (by simp only [List.size_toArray] <;> omega)
noncomputable def L6 (K:PySem.W.Frag) (T:String) (x:V) (H:Hp):Prop:=match x with
 | .str _=>T = "str"
 | .int _=>T = "int"
 | .ref p=>(T = "list"/\∃ xs, fK K H p xs)\/(T = "tuple"/\∃ o, K.lookup p=some o/\o.cls=.type "tuple"/\o.dict=none) \/
   (T = "dict"/\((∃ kvs, H p=some (.dK kvs))\/∃ kvs, H p=some (.dT kvs)))\/(T = "set"/\∃ S n, H p=some (.set S n))
 | _=>False
theorem xw {pins:List (Addr×Obj)} {σ:St} {H:Hp} {s:Shared} {T:String} {x:V} {v:Value} (I:Inv X pins σ H s) (r:RelV x v) (ty:L6 X.K T x H) :
  s.TypeIs v T/\∀ a,v=.ref a->∃ ob,s.heap.get? a=some ob/\ob.dict=none:=by
 cases x with
 | str z =>
  obtain ⟨t,rfl⟩:=r
  cases (show T = "str" from ty)
  exact ⟨typeIs_str s z t,fun _ e=>nomatch e⟩
 | int i =>
  obtain ⟨t,rfl⟩:=r
  cases (show T = "int" from ty)
  exact ⟨typeIs_int s i t,fun _ e=>nomatch e⟩
 | ref p =>
  cases r
  rcases ty with ⟨rfl,xs,hq⟩ | ⟨rfl,o,hk,hc,hd⟩ | ⟨rfl,hk⟩ | ⟨rfl,S,n,hk⟩
  ·obtain ⟨its,_,pl,_⟩:=I.list hq
   refine ⟨pl.isList.typeIs,fun a e=>?_⟩
   cases e
   obtain ⟨o,n,e,c,hd,_⟩:=pl
   exact ⟨o,e,hd⟩
  ·refine ⟨⟨o,I.gS p o hk,hc⟩,fun a e=>?_⟩
   cases e
   exact ⟨o,I.gS _ o hk,hd⟩
  ·have z:∃ o,s.heap.get? p=some o/\o.ExactDict:=by
    rcases hk with ⟨kvs,hk⟩ | ⟨kvs,hk⟩
    ·obtain ⟨_,_,_,_,o,_,_,e,ex,_⟩:=I.hok p _ hk
     exact ⟨o,e,ex⟩
    ·obtain ⟨_,_,_,_,o,_,_,e,ex,_⟩:=I.hok p _ hk
     exact ⟨o,e,ex⟩
   obtain ⟨o,e,ex⟩:=z
   refine ⟨⟨o,e,ex.1⟩,fun a e2=>?_⟩
   cases e2
   exact ⟨o,e,ex.2.1⟩
  ·obtain ⟨o,_,_,_,e,ex,_⟩:=I.hok p _ hk
   refine ⟨⟨o,e,ex.1⟩,fun a e2=>?_⟩
   cases e2
   exact ⟨o,e,ex.2.1⟩
 | _=>exact False.elim ty
noncomputable def Bc (K:PySem.W.Frag) (T:String) (r:V->List V->Hp->VK->Prop) (to:TE):TE:=fun σ H Q=>to σ H fun x H1=>L6 K T x H1/\r x [] H1 Q
noncomputable def tBM (K:PySem.W.Frag) (T:String) (r:V->List V->Hp->VK->Prop) (to:TE) (t:TA):TE:=fun σ H Q=>to σ H fun x H1=>L6 K T x H1/\t σ H1 fun xs H2=>r x xs H2 Q
variable {o e:Expr} {es:List Expr} {to:TE} {t:TA} {name:Str} {apos cpos:Pos} {T id:String} {r:V->List V->Hp->VK->Prop}
theorem yG (pa:PlainAttrs T) (slot:Slot T name id) (hty:typeOf (.builtin id)=pure (.type "method_descriptor")) (hm:MtR X id r) (ho:PE X o to)
  (hbase:attributeBase o name X.env (eval o X.env)=eval o X.env:=by rfl) (hline:(apos.endLine == cpos.line)=true:=by rfl):PE X (.Call (.Attribute o name apos) [] [] cpos) (Bc X.K T r to):=by
 intro pins s σ H Q I h
 refine wpAny_Call_method0_late hbase hline (bq (ho pins s σ H _ I h) fun v s1 ⟨x,H1,I1,r1,ty,q1⟩=>?_)
 obtain ⟨h1,h2⟩:=xw I1 r1 ty
 exact ⟨T,id,pa,slot,hty,h1,h2,Calls.callWith_builtin rfl (PySem.evalArgs_none (hm pins s1 σ H1 x [] v [] Q I1 r1 .nil q1))⟩
theorem D4 (pa:PlainAttrs T) (slot:Slot T name id) (hty:typeOf (.builtin id)=pure (.type "method_descriptor")) (hm:MtR X id r) (ho:PE X o to) (ha:PA X (e::es) t)
  (hbase:attributeBase o name X.env (eval o X.env)=eval o X.env:=by rfl)
  (hfew:((backTo cpos (starEach (e::es) X.env)).all (fun x=>!x.1)&&(backToKw cpos (keywordEach [] X.env)).all (fun x=>x.1.isSome)
  &&decide ((e::es).length+([]:List Keyword).length+(if ([]:List Keyword).isEmpty then 0 else 1)<30))=true:=by rfl)
  (hline:(apos.endLine == cpos.line)=true:=by rfl) (hs:starEach (e::es) X.env=(false,eval e X.env)::starEach es X.env:=by rfl) (hplain:(backTo cpos (starEach es X.env)).any (·.1)=false:=by rfl) :
  PE X (.Call (.Attribute o name apos) (e::es) [] cpos) (tBM X.K T r to t):=by
 intro pins s σ H Q I h
 refine wpAny_Call_method_late hbase hfew hline rfl (bq (ho pins s σ H _ I h) fun v s1 ⟨x,H1,I1,r1,ty,q1⟩=>?_)
 obtain ⟨h1,h2⟩:=xw I1 r1 ty
 refine ⟨T,id,pa,slot,hty,h1,h2,?_⟩
 have hA:=ha cpos pins s1 σ H1 _ I1 q1
 rw [hs] at hA ⊢
 refine Calls.callWith_builtin (by show (false||(backTo cpos (starEach es X.env)).any (·.1))=false;rw [hplain] <;> rfl) (Calls.evalArgs_plain ?_)
 exact bq hA fun us s2 ⟨vs,H2,I2,r2,q2⟩=>hm pins s2 σ H2 x vs v us Q I2 r1 r2 q2
end
noncomputable def M7 (X:Cx) (id:String) (r:V->List V->Hp->VK->Prop):Prop :=
 ∀ (pins:List (Addr×Obj)) (s:Shared) (σ:St) (H:Hp) (x:V) (xs:List V) (v:Value) (us:List Value) (Q:VK),Inv X pins σ H s->RelV x v->Vals xs us->r x xs H Q ->
  wpAny (model X.prog X.w) X.A (call (.builtin id) (v::us)) (EP X pins σ Q) X.xe s
theorem Vals.one:∀ {x:V} {us:List Value},Vals [x] us->∃ u,us=[u]/\RelV x u
 | _,_,.cons r .nil=>⟨_,rfl,r⟩
theorem Vals.zero:∀ {us:List Value},Vals [] us->us=[]
 | _,.nil=>rfl
theorem Vals.dropLast {xs:List V} {us:List Value} (h:Vals xs us):Vals xs.dropLast us.dropLast:=by
 induction h with
 | nil=>exact .nil
 | cons r t ih =>
  cases t with
  | nil=>exact .nil
  | cons q t'=>exact .cons r ih
theorem Vals.reverse {xs:List V} {us:List Value} (h:Vals xs us):Vals xs.reverse us.reverse:=by
 induction h with
 | nil=>exact .nil
 | cons r t ih=>rw [List.reverse_cons,List.reverse_cons];exact Vals.append ih (.cons r .nil)
theorem sF {α:Type} (l:List α):l.eraseIdx (l.length-1)=l.dropLast:=by
 induction l with
 | nil=>rfl
 | cons a r ih =>
  cases r with
  | nil=>rfl
  | cons b r =>
   have e:(a::b::r).length-1=((b::r).length-1)+1:=by
    have h1:(a::b::r).length=r.length+2:=rfl
    have h2:(b::r).length=r.length+1:=rfl
    omega
   rw [e,List.eraseIdx_cons_succ,ih]
   all_goals rfl
section
variable {X:Cx} {pins:List (Addr×Obj)} {σ:St} {H:Hp} {s:Shared} {l b:Addr} {xs ys zs:List V}
theorem Inv.Cq {its its':List Value} {n:Nat} {f:Array Value->Array Value} {t':Nat} (I:Inv X pins σ H s) (hH:H l=some (.lst xs))
  (e:s.heap.get? l=some { cls:=.type "list", data:=.seq its.toArray n }) (hf:f its.toArray=its'.toArray) (hv:Vals ys its') (hz:ys.length<=sizeLine) :
  Inv X pins σ (upd H l (.lst ys)) { s with heap:=s.heap.update l (Obj.mapSeq f),toks:=t' }:=by
 have q:=PySem.IsL.update e f
 rw [hf] at q
 refine I.write (x:=l) (e:=l) (by rw [hH];exact trivial) (.inl rfl) (fun b' u hb hu=>(Heap.get?_update_other s.heap (Obj.mapSeq f) (Ne.symm hb)).trans hu) ⟨_,q⟩ ?_
 exact ⟨hz,its',_,hv,q⟩
theorem Inv.Kr {its:List Value} {t':Nat} (I:Inv X pins σ H s) (hv:Vals ys its) (hz:ys.length<=sizeLine) :
  Inv X pins σ (upd H s.heap.objs.size (.lst ys)) { s with heap:=s.heap.push { cls:=.type "list", data:=.seq its.toArray }, toks:=t' } :=
 I.laid (fun _ _ q=>Heap.get?_push_of_some _ q) (Nat.le_refl _) ⟨hz,its,0,hv,Heap.get?_push_size _ rfl⟩
theorem Inv.fresh (I:Inv X pins σ H s):H s.heap.objs.size=none:=I.hok.fresh (Nat.le_refl _)
theorem Inv.Cp (I:Inv X pins σ H s) (hH:H l=some (.lst xs)):xs.length<=sizeLine/\∃ (its:List Value) (n:Nat), Vals xs its/\xs.length=its.length/\s.heap.get? l=some { cls:=.type "list", data:=.seq its.toArray n }:=by
 obtain ⟨z,its,n,r,e⟩:=I.hok l _ hH
 exact ⟨z,its,n,r,r.length,e⟩
theorem yO {n:Nat} (h:n<=sizeLine):Builtin.List.listTooLong n=false:=by
 unfold Builtin.List.listTooLong
 exact decide_eq_false (by omega)
end
section
variable {X:Cx}
noncomputable def nE:V->List V->Hp->VK->Prop:=fun x vs H Q=>∃ l xs y,x=.ref l/\vs=[y]/\H l=some (.lst xs)/\xs.length<sizeLine/\Q .ao (upd H l (.lst (xs++[y])))
theorem mC:M7 X "list.append" nE:=by
 intro pins s σ H x vs v us Q I rx rv h
 obtain ⟨l,xs,y,rfl,rfl,hH,hz,q⟩:=h
 cases rx
 obtain ⟨u,rfl,ru⟩:=rv.one
 obtain ⟨z,its,n,r,hl,e⟩:=I.Cp hH
 refine call_meets F.slot_list_append ⟨_,e,rfl⟩ F.entry_list_append (F.args_list_append_2 _ _) (PySem.list_append l its.toArray n u (by rw [List.size_toArray];omega)) ⟨e,?_⟩
 refine ⟨.ao,_,I.Cq (its':=its++[u]) hH e (by simp) (r.append (.cons ru .nil)) ?_,rfl,q⟩
 rw [List.length_append,List.length_singleton]
 omega
noncomputable def FJ:V->List V->Hp->VK->Prop:=fun x vs H Q=>∃ l xs y,x=.ref l/\vs=[]/\H l=some (.lst xs)/\xs[xs.length-1]? = some y/\Q y (upd H l (.lst xs.dropLast))
theorem GI:M7 X "list.pop" FJ:=by
 intro pins s σ H x vs v us Q I rx rv h
 obtain ⟨l,xs,y,rfl,rfl,hH,hy,q⟩:=h
 cases rx
 have hus:=rv.zero
 subst hus
 obtain ⟨z,its,n,r,hl,e⟩:=I.Cp hH
 obtain ⟨u,hu,ru⟩:=r.get hy
 have hy':its.toArray[its.toArray.size-1]? = some u:=by
  show its.toArray[its.length-1]? = some u
  rw [<- Array.getElem?_toList,<- hl]
  exact hu
 refine call_meets F.slot_list_pop ⟨_,e,rfl⟩ F.entry_list_pop (F.args_list_pop_1 _) (MeetsSeq.list_pop_last l its.toArray n u hy' (by rw [List.size_toArray];omega)) ⟨e,?_⟩
 refine ⟨y,_,I.Cq (its':=its.dropLast) hH e ?_ r.dropLast ?_,ru,q⟩
 ·show its.toArray.eraseIdxIfInBounds (its.toArray.size-1)=its.dropLast.toArray
  rw [List.size_toArray,List.eraseIdxIfInBounds_toArray,sF]
 ·rw [List.length_dropLast]
  omega
noncomputable def kr:V->List V->Hp->VK->Prop:=fun x vs H Q=>∃ l xs,x=.ref l/\vs=[]/\H l=some (.lst xs)/\Q .ao (upd H l (.lst xs.reverse))
theorem rQ:M7 X "list.reverse" kr:=by
 intro pins s σ H x vs v us Q I rx rv h
 obtain ⟨l,xs,rfl,rfl,hH,q⟩:=h
 cases rx
 have hus:=rv.zero
 subst hus
 obtain ⟨z,its,n,r,hl,e⟩:=I.Cp hH
 refine call_meets F.slot_list_reverse ⟨_,e,rfl⟩ F.entry_list_reverse (F.args_list_reverse_1 _) (AutoSeq1.list_reverse_list_0 l its.toArray n (by rw [List.size_toArray];omega)) ⟨e,?_⟩
 refine ⟨.ao,_,I.Cq (its':=its.reverse) hH e (by simp) r.reverse ?_,rfl,q⟩
 rw [List.length_reverse]
 omega
end
section
variable {prog:Program} {w:World} {A:Around} {E:Value->Shared->Prop} {s:Shared}
end
section
variable {X:Cx}
end
section
variable {κ:Type} [DecidableEq κ]
noncomputable def cI (kvs:List (κ×V)) (k:κ):Option V:=(kvs.find? fun kv=>decide (kv.1=k)).map (·.2)
noncomputable def putK (kvs:List (κ×V)) (k:κ) (v:V):List (κ×V) :=
 if (kvs.any fun kv=>decide (kv.1=k))=true then kvs.map (fun kv=>if kv.1=k then (kv.1,v) else kv) else kvs++[(k,v)]
theorem kc {p:κ×V} {r:List (κ×V)} {k:κ} (e:p.1=k):cI (p::r) k=some p.2:=by simp [cI,List.find?_cons,e]
theorem kg {p:κ×V} {r:List (κ×V)} {k:κ} (e:¬ p.1=k):cI (p::r) k=cI r k:=by simp [cI,List.find?_cons,e]
theorem o5 (k:κ):∀ kvs:List (κ×V),(kvs.any fun kv=>decide (kv.1=k))=(cI kvs k).isSome
 | []=>rfl
 | p::r=>by
  rw [List.any_cons]
  by_cases e:p.1=k
  ·simp only [kc e,decide_eq_true e,Bool.true_or,Option.isSome_some]
  ·rw [kg e,decide_eq_false e,Bool.false_or];exact o5 k r
theorem fR (kvs:List (κ×V)) (k:κ) (v:V):(putK kvs k v).length<=kvs.length+1:=by
 unfold putK
 split
 ·rw [List.length_map];omega
 ·rw [List.length_append,List.length_cons,List.length_nil];omega
theorem gZ.jf {o:Option V} {u:Option Value} (r:gZ o u):o.isSome=u.isSome:=by
 cases o with
 | none=>cases u with
  | none=>rfl
  | some _=>exact (show False from r).elim
 | some _=>cases u with
  | none=>exact (show False from r).elim
  | some _=>rfl
theorem KV.val {kvs:List (κ×V)} {vs:List (κ×Value)} (r:KV kvs vs) (k:κ):gZ (cI kvs k) (valueAt vs k):=by
 unfold KV at r
 induction r with
 | nil=>exact True.intro
 | @cons p q ps qs h t ih =>
  obtain ⟨h1,h2⟩:=h
  by_cases e:p.1=k
  ·have e':q.1=k:=h1.symm.trans e
   have b:valueAt (q::qs) k=some q.2:=by simp [valueAt,List.find?_cons,e']
   rw [kc e,b];exact h2
  ·have e':¬ q.1=k:=fun z=>e (h1.trans z)
   have b:valueAt (q::qs) k=valueAt qs k:=by simp [valueAt,List.find?_cons,e']
   rw [kg e,b];exact ih
theorem KV.any {kvs:List (κ×V)} {vs:List (κ×Value)} (r:KV kvs vs) (k:κ):(kvs.any fun kv=>decide (kv.1=k))=vs.any fun kv=>decide (kv.1=k):=by
 unfold KV at r
 induction r with
 | nil=>rfl
 | cons h t ih=>rw [List.any_cons,List.any_cons,ih,h.1]
theorem KV.repl {kvs:List (κ×V)} {vs:List (κ×Value)} (r:KV kvs vs) (k:κ) {y:V} {u:Value} (ry:RelV y u) :
  KV (kvs.map fun kv=>if kv.1=k then (kv.1,y) else kv) (vs.map fun kv=>if kv.1=k then (kv.1,u) else kv):=by
 unfold KV at r ⊢
 induction r with
 | nil=>exact .nil
 | @cons p q ps qs h t ih =>
  rw [List.map_cons,List.map_cons]
  refine .cons ?_ ih
  obtain ⟨h1,h2⟩:=h
  by_cases e:p.1=k
  ·rw [if_pos e,if_pos (h1.symm.trans e)];exact ⟨h1,ry⟩
  ·rw [if_neg e,if_neg (fun z=>e (h1.trans z))];exact ⟨h1,h2⟩
theorem KV.put {kvs:List (κ×V)} {vs:List (κ×Value)} (r:KV kvs vs) (k:κ) {y:V} {u:Value} (ry:RelV y u):KV (putK kvs k y) (stored vs k u):=by
 unfold putK stored
 rw [r.any k]
 by_cases e:(vs.any fun kv=>decide (kv.1=k))=true
 ·rw [if_pos e,if_pos e];exact r.repl k ry
 ·rw [if_neg e,if_neg e];exact Paired.snoc r ⟨rfl,ry⟩
theorem KV.length {kvs:List (κ×V)} {vs:List (κ×Value)} (r:KV kvs vs):kvs.length=vs.length:=Paired.length r
end
theorem mF {P:Program} {w:World} {k:Key} {u:Value} (r:RelV (kV k) u):(aI P w).is k u=true:=by
 cases k with
 | inl i=>obtain ⟨t,e⟩:=(show ∃ t,u=Value.int i t from r);subst e;exact qd P w i t
 | inr x=>obtain ⟨t,e⟩:=(show ∃ t,u=Value.str x t from r);subst e;exact qc P w x t
theorem mG {P:Program} {w:World}:∀ {ks:List Key} {us:List Value},Vals (ks.map kV) us->ItemsAre (aI P w) ks us
 | [],_,r=>by rw [List.map_nil] at r;cases r;exact .nil
 | k::ks,_,r=>by
  rw [List.map_cons] at r
  cases r with
  | cons h t=>exact .cons (mF h) (mG t)
noncomputable abbrev KT (H:Hp):List (List Key×V)->List (List Key×Addr×Value)->Prop:=Paired fun p q=>p.1=q.1/\H q.2.1=some (.tup (p.1.map kV))/\RelV p.2 q.2.2
theorem KT.val {H:Hp} {kvs:List (List Key×V)} {xs:List (List Key×Addr×Value)} (r:KT H kvs xs) (k:List Key):gZ (cI kvs k) ((atKey xs k).map (·.2)):=by
 induction r with
 | nil=>exact True.intro
 | @cons p q ps qs h t ih =>
  obtain ⟨h1,_,h2⟩:=h
  by_cases e:p.1=k
  ·have e':q.1=k:=h1.symm.trans e
   have b:atKey (q::qs) k=some q.2:=by simp [atKey,List.find?_cons,e']
   rw [kc e,b];exact h2
  ·have e':¬ q.1=k:=fun z=>e (h1.trans z)
   have b:atKey (q::qs) k=atKey qs k:=by simp [atKey,List.find?_cons,e']
   rw [kg e,b];exact ih
theorem KT.repl {H:Hp} {kvs:List (List Key×V)} {xs:List (List Key×Addr×Value)} (r:KT H kvs xs) (k:List Key) {y:V} {u:Value} (ry:RelV y u) :
  KT H (kvs.map fun kv=>if kv.1=k then (kv.1,y) else kv) (xs.map (putAt k u)):=by
 induction r with
 | nil=>exact .nil
 | @cons p q ps qs h t ih =>
  rw [List.map_cons,List.map_cons]
  refine .cons ?_ ih
  obtain ⟨h1,h2,h3⟩:=h
  unfold putAt
  by_cases e:p.1=k
  ·rw [if_pos e,if_pos (h1.symm.trans e)];exact ⟨h1,h2,ry⟩
  ·rw [if_neg e,if_neg (fun z=>e (h1.trans z))];exact ⟨h1,h2,h3⟩
theorem KT.put {H:Hp} {kvs:List (List Key×V)} {xs:List (List Key×Addr×Value)} (r:KT H kvs xs) (k:List Key) {b:Addr} {y:V} {u:Value} (hb:H b=some (.tup (k.map kV))) (ry:RelV y u) :
  KT H (putK kvs k y) (storedH xs k b u):=by
 have e:(kvs.any fun kv=>decide (kv.1=k))=(atKey xs k).isSome:=by
  rw [o5,(r.val k).jf,Option.isSome_map]
 unfold putK storedH
 rw [e]
 by_cases q:(atKey xs k).isSome=true
 ·rw [if_pos q,if_pos q];exact r.repl k ry
 ·rw [if_neg q,if_neg q];exact Paired.snoc r ⟨rfl,hb,ry⟩
theorem KT.keeps {H H':Hp} {kvs:List (List Key×V)} {xs:List (List Key×Addr×Value)} (r:KT H kvs xs) (ht:∀ b ys,H b=some (.tup ys)->H' b=some (.tup ys)):KT H' kvs xs :=
 Paired.GK r fun _ _ z=>⟨z.1,ht _ _ z.2.1,z.2.2⟩
section
variable {P:Program} {w:World} {H:Hp} {h:Heap} {a:Addr}
theorem DS {u:HO} (ok:gC P w H h) (e:Rd H a u):bh P w H h a u:=e.ok ok
theorem EJ {kvs:List (Key×V)} (ok:gC P w H h) (e:Rd H a (.dK kvs)):kvs.length<=sizeLine/\(a == sysModules)=false/\∃ vs,KV kvs vs/\h.DictOf (aI P w) a vs :=
 show bh P w H h a (.dK kvs) from DS ok e
theorem Lz {kvs:List (Key×V)} (ok:gC P w H h) (e:H a=some (.dK kvs)):kvs.length<=sizeLine/\(a == sysModules)=false/\∃ vs,KV kvs vs/\h.DictOf (aI P w) a vs:=EJ ok (.inl e)
theorem zj {ks:List Key} (ok:gC P w H h) (e:H a=some (.tup (ks.map kV))):(tupleKind (aI P w)).is h ks a:=by
 obtain ⟨_,its,r,o,h1,h2,n,h3⟩:=(show bh P w H h a (.tup (ks.map kV)) from ok a _ e)
 exact ⟨o,its.toArray,n,h1,h2,h3,by simpa using mG r⟩
theorem Lx {kvs:List (List Key×V)} (ok:gC P w H h) (e:Rd H a (.dT kvs)):kvs.length<=sizeLine/\(a == sysModules)=false /\
  ∃ xs,KT H kvs xs/\h.DictOfH (tupleKind (aI P w)) a xs:=by
 obtain ⟨z,y,xs,r,o,es,ep,h1,h2,h3,h4,h5⟩:=(show bh P w H h a (.dT kvs) from DS ok e)
 refine ⟨z,y,xs,r,o,es,ep,h1,h2,h3,h4,fun x hx=>?_,h5⟩
 have all:∀ {l:List (List Key×V)} {m:List (List Key×Addr×Value)},KT H l m->∀ x∈m,(tupleKind (aI P w)).is h x.1 x.2.1:=by
  intro l m q
  induction q with
  | nil=>intro x hx;exact nomatch hx
  | @cons p q ps qs hq t ih =>
   intro x hx
   rcases List.mem_cons.mp hx with e | hx
   ·subst e
    exact zj ok (by rw [<- hq.1];exact hq.2.1)
   ·exact ih x hx
 exact all r x hx
theorem Ly {kvs:List (List Key×V)} (ok:gC P w H h) (e:H a=some (.dT kvs)):kvs.length<=sizeLine/\(a == sysModules)=false /\
  ∃ xs,KT H kvs xs/\h.DictOfH (tupleKind (aI P w)) a xs:=Lx ok (.inl e)
end
noncomputable def DB (H:Hp) (a:Addr) (y:V) (r:Option V):Prop :=
 (∃ kvs k,Rd H a (.dK kvs)/\y=kV k/\r=cI kvs k)\/∃ kvs k b,Rd H a (.dT kvs)/\y=.ref b/\H b=some (.tup (k.map kV))/\r=cI kvs k
noncomputable def sZ (H:Hp) (a:Addr) (y v:V) (H':Hp):Prop :=
 (∃ kvs k,H a=some (.dK kvs)/\y=kV k/\kvs.length<sizeLine/\H'=upd H a (.dK (putK kvs k v))) \/
 ∃ kvs k b,H a=some (.dT kvs)/\y=.ref b/\H b=some (.tup (k.map kV))/\kvs.length<sizeLine/\H'=upd H a (.dT (putK kvs k v))
theorem DB.k {H:Hp} {a:Addr} {kvs:List (Key×V)} {k:Key} (e:H a=some (.dK kvs)):DB H a (kV k) (cI kvs k):=.inl ⟨kvs,k,.inl e,rfl,rfl⟩
theorem DB.t {H:Hp} {a b:Addr} {kvs:List (List Key×V)} {k:List Key} (e:H a=some (.dT kvs)) (eb:H b=some (.tup (k.map kV))):DB H a (.ref b) (cI kvs k):=.inr ⟨kvs,k,b,.inl e,rfl,eb,rfl⟩
theorem sZ.k {H:Hp} {a:Addr} {kvs:List (Key×V)} {k:Key} {v:V} (e:H a=some (.dK kvs)) (hl:kvs.length<sizeLine):sZ H a (kV k) v (upd H a (.dK (putK kvs k v))):=.inl ⟨kvs,k,e,rfl,hl,rfl⟩
theorem sZ.t {H:Hp} {a b:Addr} {kvs:List (List Key×V)} {k:List Key} {v:V} (e:H a=some (.dT kvs)) (eb:H b=some (.tup (k.map kV))) (hl:kvs.length<sizeLine) :
  sZ H a (.ref b) v (upd H a (.dT (putK kvs k v))):=.inr ⟨kvs,k,b,e,rfl,eb,hl,rfl⟩
section
variable {X:Cx} {pins:List (Addr×Obj)} {σ:St} {H:Hp} {s:Shared} {a:Addr} {y v:V} {u r:Value} {o:Option V} {A:Around} {E:Value->Shared->Prop}
theorem Inv.big (I:Inv X pins σ H s):sysModules<s.heap.objs.size:=by
 have h:mainGlobals<s.heap.objs.size:=(I.mod.glob.keeps I.bk).lt
 exact Nat.lt_trans (by decide) h
theorem ve {h':Heap} {t':Nat} {ob:HO} (I:Inv X pins σ H s) (mu:LX (H a)) (hs:Heap.SameBut a s.heap h') (he:∃ q,h'.get? a=some q) (new:bh X.prog X.w (upd H a ob) h' a ob) :
  Inv X pins σ (upd H a ob) { s with heap:=h',toks:=t' } :=
 I.write (x:=a) (e:=a) mu (.inl rfl) (fun b q hb z=>(hs.2 b hb).trans z) he new
theorem sM {P:Program} {w:World} {H':Hp} {h':Heap} {kvs:List (Key×V)} {vs:List (Key×Value)} (z:kvs.length<=sizeLine) (hd:(a == sysModules)=false) (rel:KV kvs vs) (dd:h'.DictOf (aI P w) a vs) :
  bh P w H' h' a (.dK kvs):=⟨z,hd,vs,rel,dd⟩
theorem wJ {H':Hp} {Q:Unit->Shared->Prop} (hu:A.units+1<cLine) (I:Inv X pins σ H s) (g:sZ H a y v H') (ry:RelV y u) (rv:RelV v r) (h:∀ s',Inv X pins σ H' s'->Q () s') :
  wpAny (model X.prog X.w) A (setItem (.ref a) u r) Q E s:=by
 rcases g with ⟨kvs,k,e,ey,l,eH⟩ | ⟨kvs,k,b,e,ey,eb,l,eH⟩
 ·subst ey eH
  obtain ⟨z,hd,vs,rel,dd⟩:=Lz I.hok e
  have hz:vs.length<=sizeLine:=by rw [<- rel.length];exact z
  have hl:(putK kvs k v).length<=sizeLine:=by have:=fR kvs k v;omega
  refine wpAny_setItem_pairs (hsz:=hz) (mF ry) dd fun h' De hs=>h _ ?_
  have he:∃ q,h'.get? a=some q:=let ⟨q,_,_,hq,_⟩:=De;⟨q,hq⟩
  exact ve I (by rw [e];exact True.intro) hs he (sM hl hd (rel.put k rv) De)
 ·subst ey eH
  cases (show u=Value.ref b from ry)
  obtain ⟨z,hd,xs,rel,dd⟩:=Ly I.hok e
  have hz:xs.length<=sizeLine:=by rw [<- Paired.length rel];exact z
  have hl:(putK kvs k v).length<=sizeLine:=by have:=fR kvs k v;omega
  refine wpAny_setItem_heap (hsz:=hz) (tupleKind_room_in1 hu) (zj I.hok eb) dd fun h' De hs=>h _ ?_
  obtain ⟨q,es,ep,hq,h2,h3,h4,_,h5⟩:=De
  refine ve I (by rw [e];exact True.intro) hs ⟨q,hq⟩ ⟨hl,hd,_,(rel.put k eb rv).keeps fun c ys ec=>?_,q,es,ep,hq,h2,h3,h4,h5⟩
  rw [aq (Kl ec e (fun z=>nomatch z))]
  exact ec
end
section
variable {X:Cx} {pins:List (Addr×Obj)} {σ:St} {H:Hp} {s:Shared} {a:Addr} {kvs:List (Key×V)} {k:Key} {u:Value} {A:Around} {E:Value->Shared->Prop}
end
section
variable {X:Cx} {o i e value:Expr} {pos pos' tpos:Pos} {td ty tv:TE}
end
section
variable {X:Cx} {pos:Pos}
end
noncomputable def cW (kvs more:List (Key×V)):List (Key×V):=more.foldl (fun acc kv=>putK acc kv.1 kv.2) kvs
theorem KV.merge:∀ {more:List (Key×V)} {rs:List (Key×Value)} {kvs:List (Key×V)} {vs:List (Key×Value)},KV more rs->KV kvs vs->KV (cW kvs more) (merged vs rs):=by
 intro more rs kvs vs r
 unfold KV at r
 induction r generalizing kvs vs with
 | nil=>intro q;exact q
 | @cons p q ps qs h t ih =>
  intro r0
  have e:KV (putK kvs p.1 p.2) (stored vs q.1 q.2):=by
   have:=r0.put p.1 h.2
   rw [<- h.1];exact this
  exact ih e
theorem gG:∀ (more kvs:List (Key×V)),(cW kvs more).length<=kvs.length+more.length
 | [],kvs=>by show kvs.length<=kvs.length+0;omega
 | p::r,kvs=>by
  have h1:=gG r (putK kvs p.1 p.2)
  have h2:=fR kvs p.1 p.2
  show (cW (putK kvs p.1 p.2) r).length<=_
  rw [List.length_cons];omega
structure M1 (X:Cx) (o:Expr) (m:Str) (apos:Pos) (e:Expr) (cpos:Pos):Prop where
 base:attributeBase o m X.env (eval o X.env)=eval o X.env
 few:((backTo cpos (starEach [e] X.env)).all (fun x=>!x.1)&&(backToKw cpos (keywordEach [] X.env)).all (fun x=>x.1.isSome)
 &&decide (([e]:List Expr).length+([]:List Keyword).length+(if ([]:List Keyword).isEmpty then 0 else 1)<30))=true
 line:(apos.endLine == cpos.line)=true
 trees:backTo cpos (starEach [e] X.env)=[(false,eval e X.env)]
structure M2 (X:Cx) (o:Expr) (m:Str) (apos:Pos) (e f:Expr) (cpos:Pos):Prop where
 base:attributeBase o m X.env (eval o X.env)=eval o X.env
 few:((backTo cpos (starEach [e,f] X.env)).all (fun x=>!x.1)&&(backToKw cpos (keywordEach [] X.env)).all (fun x=>x.1.isSome)
 &&decide (([e,f]:List Expr).length+([]:List Keyword).length+(if ([]:List Keyword).isEmpty then 0 else 1)<30))=true
 line:(apos.endLine == cpos.line)=true
 trees:backTo cpos (starEach [e,f] X.env)=[(false,eval e X.env),(false,eval f X.env)]
section
variable {X:Cx} {pins:List (Addr×Obj)} {σ:St} {H:Hp} {s:Shared} {a:Addr} {y d:V} {u r:Value} {o:Option V} {A:Around} {E:Value->Shared->Prop}
end
section
variable {X:Cx} {o e f:Expr} {apos cpos:Pos} {td ty tx:TE}
end
section
variable {X:Cx} {pins:List (Addr×Obj)} {σ:St} {H:Hp} {s:Shared} {a:Addr} {kvs:List (Key×V)} {A:Around} {E:Value->Shared->Prop}
end
section
variable {X:Cx} {pins:List (Addr×Obj)} {σ:St} {H:Hp} {s:Shared} {a:Addr} {y:V} {u:Value} {A:Around} {E:Value->Shared->Prop}
end
end L2
namespace Att
open PySem PySem.W PySem.Calls PyProof.Rows
theorem jJ {P:Params} {h:Heap}:∀ (ns:List Int) (vs:List Value),WellAll P h vs (ns.map WData.int)->IntsAre vs ns:=by
 intro ns
 induction ns with
 | nil =>
  intro vs w
  rw [List.map_nil] at w
  cases w
  exact .nil
 | cons n ns ih =>
  intro vs w
  rw [List.map_cons] at w
  cases w with
  | cons a b =>
   cases a
   exact .cons _ _ (ih _ b)
theorem vK {l:OpenLaw} {n:Nat} (hn:l.most=some n) {P:Params} {h:Heap} {args:List WData} {vals:List Value}
  (hpre:l.row.toRowW.claim.pre args=true) (hwl:WellAll P h vals args) :
  ∃ a vs ns, vals=[Value.ref a]/\args=[WData.list (ns.map WData.int)]/\h.get? a=some { cls:=.type "list", data:=.seq vs.toArray }/\IntsAre vs ns/\ns.length<=n:=by
 have hsh:WShape.hasAll [] args [.list .int]=true:=(pre_splitW hpre).1
 have hc:l.pre.holds [] { args:=args }=true:=(pre_splitW hpre).2
 obtain ⟨d,r,rfl,h1,h2⟩:=hasAllW_cons hsh
 obtain rfl:=hasAllW_nil h2
 obtain ⟨xs,rfl,h3⟩:=hasW_list h1
 obtain ⟨ns,rfl⟩:=items_int h3
 have hlen:ns.length<=n:=by
  unfold OpenLaw.pre at hc
  have h4:(WTm.not (.lt (.lit (.int (n:Int))) (.len (.arg 0)))).holds [] { args:=[.list (ns.map .int)] }=true:=by
   have h4:=(holds_andW hc).1
   rw [hn] at h4
   exact h4
  have h5:=condW_of h4 (w_not (w_lt w_lit (w_len_list (w_arg rfl))))
  rw [List.length_map] at h5
  refine Nat.le_of_not_lt fun q=>?_
  have q':(n:Int)<((ns.length:Nat):Int):=by omega
  first
   | (rw [decide_eq_true q'] at h5;exact absurd h5 (by decide))
   | (simp at h5;omega)
 cases hwl with
 | cons w1 w2 =>
  cases w2
  cases w1 with
  | list ho hall=>exact ⟨_,_,ns,rfl,rfl,ho,jJ ns _ hall,hlen⟩
theorem vQ (l:OpenLaw) (args:List WData):l.row.toRowW.claim.post args (.bool true) args=true :=
 postW_of (r:=l.row.toRowW) (X:=(true == true))
  (show WShape.has [] (.bool true) .bool=true by first | rfl | decide | simp [WShape.has,WShape.arms,WShape.armsAll])
  (show (WTm.eq .res (.lit (.bool true))).value [] { args:=args,res:=some (.bool true),after:=args }=some (.bool (true == true)) from w_eq_bool (w_res rfl) w_lit) rfl
theorem qI {l:OpenLaw} {n:Nat} {q:Program} {loose:List Str} {XP:(Str->Option Value)->Heap->Prop} {YP:World->Heap->Prop} {d:DefRec}
  (hn:l.most=some n) (hdf:d.params.defaults=[])
  (call:∀ (w:World) (s₀ s₁:Shared) (mg mb:Str->Option Value) (fa:Addr) (o:Obj) (pm cd doc:Value) (a:Addr) (vs:List Value) (ns:List Int),
   Ground q loose [] XP w s₀ mg mb s₁.heap->YP w s₁.heap ->
   s₁.heap.get? fa=some o->o.data=.func (docDef d.name d.params d.body d.scope pm cd doc)->s₁.heap.CodeRec cd d.name->mg d.name=some (.ref fa) ->
   s₁.heap.get? a=some { cls:=.type "list", data:=.seq vs.toArray }->IntsAre vs ns->ns.length<=n->s₁.gens=#[] ->
   codeAny (model l.prog w) callerA (.call (.ref fa) ⟨[.ref a],[]⟩) (fun r s'=>r=.ok (.ret (.bool true))/\OldK s₁.heap s'.heap/\s'.os=s₁.os/\AllBare s'.gens) s₁) :
  WalkO q loose XP YP l.row.toRowW d [] (fun f vs=>PySem.call f vs):=by
 intro w s₀ s₁ mg mb G Y fa o pm cd doc dV kV ho hd hcd hD hmg hg args vals as hpre hlay hrd hwl hlo
 obtain rfl:dV=.none:=Dflts.none hD hdf
 obtain rfl:kV=.none:=Dflts.noKw hD
 obtain ⟨a,vs,ns,rfl,rfl,hobj,hints,hlen⟩:=vK hn hpre hwl
 refine enter_call (codeAny_mono (call w s₀ s₁ mg mb fa o pm cd doc a vs ns G Y ho (fd_plain hd) hcd hmg hobj hints hlen hg) fun r s' hq=>?_)
 obtain ⟨rfl,h2,h3,h4⟩:=hq
 exact ⟨.inl ⟨.bool true,.bool true,[],rfl,fun _=>rfl,.bool true,vQ l _,fun _=>⟨List.Pairwise.nil,fun _ hm=>(nomatch hm)⟩⟩,h2,h3,h4⟩
section
variable {prog:Program} {w:World} {A:Around} {E:Value->Shared->Prop} {s:Shared} {K:Frag}
end
end Att
namespace L2
open PySem PySem.Spec PyProof.Rows
theorem lV:∀ {vs:List Value} {ns:List Int},IntsAre vs ns->Vals (ns.map V.int) vs
 | _,_,.nil=>.nil
 | _,_,.cons n t h=>.cons ⟨t,rfl⟩ (lV h)
noncomputable def LW (H:Hp):Prop:=∀ b,H b=none\/∃ o xs,H b=some (.gh o (.lst xs))
theorem zg {P:Program} {w:World} {K:PySem.W.Frag} {mg mb:Str->Option Value} {CX:AU} {k:Nat} {fa a:Addr} {fd:FuncData} {x:Str} {sp:Sp} {s₁:Shared} {vs:List Value} {ns:List Int}
  (KX:K.In s₁.heap) (hns:s₁.heap.Ns mainGlobals mg) (hb:s₁.heap.Ns builtinsNs mb) (hbb:∀ x:Str, x≠"__name__"->mb x=bootBuiltins x) (hlim:s₁.heap.NoLimit) (hg:s₁.gens=#[])
  (ha:s₁.heap.get? a=some { cls:=.type "list", data:=.seq vs.toArray }) (hi:IntsAre vs ns) (hl:ns.length<=sizeLine) (hr:bW k callerA)
  (F:∀ base:Heap,K.In base->base.Ns mainGlobals mg->cz P w K mg base CX k fa fd [x] sp) (hbind:∀ (s:Shared) (u:Value),BindsTo s fd ⟨[u],[]⟩ [(x,u)])
  (IW:∀ H:Hp,LW H->fK K H a (ns.map V.int)->sp [.ref a] H (fun v _=>v=.bl true) fun _ _ _=>False)
  (hCX:∀ H e s',CX [] H s₁ (fun _ _ _=>False) e s'->False) :
  codeAny (model P w) callerA (.call (.ref fa) ⟨[.ref a],[]⟩) (fun r s'=>r=.ok (.ret (.bool true))/\OldK s₁.heap s'.heap/\s'.os=s₁.os/\AllBare s'.gens) s₁:=by
 have rv:=lV hi
 have lenV:=hi.length
 have core:∀ H:Hp,LW H->fK K H a (ns.map V.int)->gC P w H s₁.heap->(∀ b,H b≠none->b=a)->(H a≠none->K.lookup a=none) ->
   codeAny (model P w) callerA (.call (.ref fa) ⟨[.ref a],[]⟩) (fun r s'=>r=.ok (.ret (.bool true))/\OldK s₁.heap s'.heap/\s'.os=s₁.os/\AllBare s'.gens) s₁:=by
  intro H hO hS hok hA hK
  have j7:∀ {b:Addr} {o:Obj},s₁.heap.get? b=some o->H b=none->(nW s₁.heap H).get? b=some o:=fun e n=>zL e n
  have Kg:∀ {b:Addr} {o:Obj} {es:Array DictEntry} {ep:Nat},s₁.heap.get? b=some o->o.data=.dict es ep->H b=none:=fun {b o es ep} e d=>by
   cases q:H b with
   | none=>rfl
   | some u =>
    have e':b=a:=hA b (by rw [q];simp)
    subst e'
    rw [ha] at e;cases e
    have d':Data.seq vs.toArray _=Data.dict es ep:=d
    cases d'
  have Mm:∀ {b:Addr} {m:Str->Option Value},s₁.heap.Ns b m->(nW s₁.heap H).Ns b m:=fun {b m} ⟨o,es,ep,e,d,r⟩=>⟨o,es,ep,j7 e (Kg e d),d,r⟩
  have hKb:K.In (nW s₁.heap H):=fun b o e=>j7 (KX b o e) (by
   cases q:H b with
   | none=>rfl
   | some u =>
    have e':b=a:=hA b (by rw [q];simp)
    subst e'
    rw [hK (by rw [q];simp)] at e;cases e)
  have hM:Mod K mg (nW s₁.heap H):=⟨hKb,Mm hns,⟨mb,Mm hb,hbb⟩,let ⟨mc,h1,h2⟩:=hlim;⟨mc,Mm h1,h2⟩⟩
  have e0:lP P w K mg (nW s₁.heap H) callerA [] s₁ H:=⟨rfl,hM,fun b o e=>Cj e,Nat.le_of_eq (wC _ _),trivial,fun b hb=>absurd (show b∈([]:List Addr) from hb) (by simp),hok,.of_eq hg⟩
  refine codeAny_mono ((F _ hKb (Mm hns)).run callerA [] s₁ H ⟨[.ref a],[]⟩ [.ref a] [.ref a] _ _ hr e0 (hbind s₁ (.ref a)) (.cons rfl .nil) (IW H hO hS)) fun r s' h=>?_
  cases r with
  | error e=>exact (hCX H e s' h).elim
  | ok fl =>
   cases fl with
   | next=>exact False.elim h
   | brk=>exact False.elim h
   | cont=>exact False.elim h
   | ret u =>
    obtain ⟨v,H',os,bare,un,hok',r',q⟩:=h
    have q':v=.bl true:=q
    subst q'
    obtain rfl:u=Value.bool true:=r'
    refine ⟨rfl,OldK.of_keep fun b o e=>?_,os,bare⟩
    cases q:H b with
    | none=>exact un.keep b o e q (by intro z;exact absurd (show b∈([]:List Addr) from z) (by simp)) (by simp)
    | some u =>
     rcases hO b with z | ⟨ob,xs,z⟩
     ·rw [q] at z;cases z
     ·have z2:=un.gq b ob _ z
      obtain ⟨e1,_⟩:=hok b _ z
      obtain ⟨e2,_⟩:=hok' b _ z2
      rw [e] at e1;cases e1
      exact e2
 cases hk:K.lookup a with
 | some o =>
  have e:=KX a o hk
  rw [ha] at e
  cases e
  refine core (fun _=>none) (fun _=>.inl rfl) (.inr ⟨_,vs.toArray,_,hk,rfl,rfl,rfl,by rw [List.size_toArray,lenV];exact hl,by simpa using rv⟩) (fun b u z=>by have z':(none:Option HO)=some u:=z;cases z') (fun b z=>absurd rfl z) fun z=>absurd rfl z
 | none =>
  refine core (fun b=>if b=a then some (.gh { cls:=.type "list", data:=.seq vs.toArray } (.lst (ns.map V.int))) else none) (fun b=>?_) (.inl (.inr ⟨{ cls:=.type "list", data:=.seq vs.toArray }, if_pos rfl⟩)) (fun b u z=>?_) (fun b z=>?_) fun _=>hk
  ·by_cases hb:b=a
   ·exact .inr ⟨_,_,if_pos hb⟩
   ·exact .inl (if_neg hb)
  ·by_cases hb:b=a
   ·have z':=(if_pos hb).symm.trans z
    cases z'
    subst hb
    exact ⟨ha,by rw [List.length_map];exact hl,vs,_,rv,ha⟩
   ·have z':=(if_neg hb).symm.trans z
    cases z'
  ·by_cases hb:b=a
   ·exact hb
   ·exact absurd (if_neg hb) z
noncomputable abbrev CX0:AU:=fun _ _ _ _ _ _=>False
structure Fun (K:PySem.W.Frag) (x qual:Str) (st:Stmt) (f:Addr) (fd:FuncData):Prop where
 ex:∃ (oc:Value) (od:Option Addr) (kV doc pm:Value) (an:Option Addr) (cdv ct:Value) (osl:Array (Option Value)),
  fd=PySem.W.fnOf x qual (iP st) (cg st) (aD st) .none kV doc pm an cdv ct/\K.lookup f=some ⟨oc,od,.func fd,osl⟩/\PySem.W.codeIn K cdv qual=true
 kp:PySem.W.keepIn K (.ref f)=true
section
variable {P:Program} {w:World} {K:PySem.W.Frag} {mg:Str->Option Value} {base:Heap}
theorem Fun.ok {x qual:Str} {st:Stmt} {f:Addr} {fd:FuncData} {N ps:List Str} {k:Nat} {sp:Sp} (F:Fun K x qual st f fd) (S:dD N ps (aD st)) (len:∀ vs H Q E,sp vs H Q E->vs.length=ps.length)
  (hbody:∀ (cdv:Value) (A:Around) (outer:List Env) (s:Shared) (H:Hp) (vs:List V) (Q:VK) (E:XK),bW k (A.deeper (envOfC qual (aD st) s.heap.objs.size f cdv))->sp vs H Q E ->
   ∃ t,j8 (iQ CX0 P w K mg base N qual (aD st) f cdv A outer s H E).D6 (cg st) t/\t { nx:=fun _ H'=>Q .ao H',rt:=Q } (start N vs) H):cz P w K mg base CX0 (k+1) f fd ps sp:=by
 obtain ⟨oc,od,kV,doc,pm,an,cdv,ct,osl,rfl,lk,hcd⟩:=F.ex
 refine Em lk hcd S len fun A outer s H vs Q E hr IW=>?_
 obtain ⟨t,h,q⟩:=hbody cdv A outer s H vs Q E hr IW
 exact ⟨t,h.D6,q⟩
end
section
variable {X:Cx}
end
noncomputable def w5 (H H':Hp):Prop:=∀ b o,H b=some o->H' b=some o
theorem w5.trans {H H1 H2:Hp} (a:w5 H H1) (b:w5 H1 H2):w5 H H2:=fun c o h=>b c o (a c o h)
theorem w5.free {H H':Hp} (e:w5 H H') {l:Addr} (h:H' l=Option.none):H l=Option.none:=by
 cases q:H l with
 | none=>rfl
 | some o =>
  rw [e l o q] at h
  cases h
section
variable {κ:Type} [DecidableEq κ]
end
end L2
end
section
namespace Fg
open PySem
section
variable {Φ:bF} {σ:Sg} {M:MH}
@[simp] theorem lM {i:Nat}:ev Φ (.v i) σ M=match σ[i]? with | some (some d)=>.ok d M | _=>.bad:=rfl
@[simp] theorem kP {d:D}:ev Φ (.k d) σ M=.ok d M:=rfl
@[simp] theorem Ld {i:Nat}:ev Φ (.g i) σ M=match Φ.glob i with | some d=>.ok d M | none=>.bad:=rfl
@[simp] theorem bT {es:Es}:ev Φ (.tup es) σ M=(cM Φ es σ M).bind fun ds M1=>.ok (.tup ds) M1:=rfl
@[simp] theorem oj {fz:Bool} {es:Es}:ev Φ (.lst fz es) σ M=(cM Φ es σ M).bind fun ds M1=>cU fz ds M1:=rfl
@[simp] theorem MW:ev Φ .Df σ M=.ok (.ref M.length) (M++[.dct []]):=rfl
@[simp] theorem iI {o:Dv} {fz:Bool} {a b:E}:ev Φ (.op o fz a b) σ M=(ev Φ a σ M).bind fun x M1=>(ev Φ b σ M1).bind fun y M2=>lD o fz M2 x y:=rfl
@[simp] theorem ev_neg {a:E}:ev Φ (.neg a) σ M=(ev Φ a σ M).bind fun x M1=>match x with | .int i=>.ok (.int (-i)) M1 | _=>.bad:=rfl
@[simp] theorem cF {o:AS} {a b:E}:ev Φ (.cmp o a b) σ M=(ev Φ a σ M).bind fun x M1=>(ev Φ b σ M1).bind fun y M2=>bf o M2 x y:=rfl
@[simp] theorem Lf {o o':AS} {a b c:E}:ev Φ (.chain o o' a b c) σ M=(ev Φ a σ M).bind fun x M1=>(ev Φ b σ M1).bind fun y M2=>(bf o M2 x y).bind fun t M3=>match t with
  | .bl true=>(ev Φ c σ M3).bind fun z M4=>bf o' M4 y z
  | .bl false=>.ok (.bl false) M3
  | _=>.bad:=rfl
@[simp] theorem om {a b:E}:ev Φ (.and a b) σ M=(ev Φ a σ M).bind fun x M1=>match x with | .bl true=>(ev Φ b σ M1) | .bl false=>.ok (.bl false) M1 | _=>.bad:=rfl
@[simp] theorem Lb {a b:E}:ev Φ (.or a b) σ M=(ev Φ a σ M).bind fun x M1=>match x with | .bl true=>.ok (.bl true) M1 | .bl false=>(ev Φ b σ M1) | _=>.bad:=rfl
@[simp] theorem HU {a:E}:ev Φ (.not a) σ M=(ev Φ a σ M).bind fun x M1=>match x with | .bl b=>.ok (.bl (!b)) M1 | _=>.bad:=rfl
@[simp] theorem Ab {c a b:E}:ev Φ (.AZ c a b) σ M=(ev Φ c σ M).bind fun x M1=>match x with | .bl true=>ev Φ a σ M1 | .bl false=>ev Φ b σ M1 | _=>.bad:=rfl
@[simp] theorem jl {a b:E}:ev Φ (.idx a b) σ M=(ev Φ a σ M).bind fun x M1=>(ev Φ b σ M1).bind fun y M2=>nU M2 x y:=rfl
@[simp] theorem Aa {fz:Bool} {a:E} {lo hi:O}:ev Φ (.sl fz a lo hi) σ M=(ev Φ a σ M).bind fun x M1=>(CS Φ lo σ M1).bind fun l M2=>(CS Φ hi σ M2).bind fun h M3=>sl2 fz M3 x l h:=rfl
@[simp] theorem aO {f:Nat} {es:Es}:ev Φ (.call f es) σ M=(cM Φ es σ M).bind fun ds M1=>Φ.call f ds M1:=rfl
@[simp] theorem HW {a:E} {t:Ty}:ev Φ (.r9 a t) σ M=(ev Φ a σ M).bind fun x M1=>if yK M1 x then .ok (.bl (Hz M1 t x)) M1 else .bad:=rfl
@[simp] theorem sE {b:Bl} {fz:Bool} {es:Es}:ev Φ (.blt b fz es) σ M=(cM Φ es σ M).bind fun ds M1=>AK b fz M1 ds:=rfl
@[simp] theorem jk {m:Mt} {fz:Bool} {a:E} {es:Es}:ev Φ (.dH m fz a es) σ M=(ev Φ a σ M).bind fun x M1=>if nL m M1 x then (cM Φ es σ M1).bind fun ds M2=>gR m fz M2 x ds else .bad:=rfl
@[simp] theorem uO {fz:Bool} {caps tg:List Nat} {elt:E} {it:Src} {cond:O}:ev Φ (.comp fz caps tg elt it cond) σ M=(aX Φ it σ M).bind fun p M1 =>
   ((bG (oW Φ cond) (ev Φ elt) tg (aP M1 p.1) p.2.1 (oB σ caps++List.replicate tg.length none) M1 []).fin (fL p.2.2 p.1)).bind fun ds M2=>cU fz ds M2:=rfl
@[simp] theorem jm {a:E} {f:Str}:ev Φ (.fld a f) σ M=(ev Φ a σ M).bind fun x M1=>match x with
  | .ref n=>match M1[n]? with
   | some (.ins _ fs)=>match fs.lookup f with
    | some d=>.ok d M1
    | none=>.bad
   | _=>.bad
  | _=>.bad:=rfl
@[simp] theorem HS {c m:Nat} {nm:Str} {a:E} {es:Es}:ev Φ (.dc c m nm a es) σ M=(ev Φ a σ M).bind fun x M1=>match x with
  | .ref n=>match M1[n]? with
   | some (.ins c' fs)=>if decide (c'=c)&&(fs.lookup nm).isNone then (cM Φ es σ M1).bind fun ds M2=>Φ.call m (.ref n::ds) M2 else .bad
   | _=>.bad
  | _=>.bad:=rfl
@[simp] theorem HV {c i:Nat} {es:Es}:ev Φ (.new c i es) σ M=(cM Φ es σ M).bind fun ds M1=>(Φ.ini i (.ref M1.length::ds) (M1++[.ins c []])).bind fun r M2=>match r with
  | .ao=>.ok (.ref M1.length) M2
  | _=>.bad:=rfl
@[simp] theorem Lc {hi:Bool} {a b:E}:ev Φ (.mx hi a b) σ M=(ev Φ a σ M).bind fun x M1=>(ev Φ b σ M1).bind fun y M2=>match x,y with
  | .int i,.int j=>.ok (.int (if hi then (if j > i then j else i) else (if j<i then j else i))) M2
  | _,_=>.bad:=rfl
@[simp] theorem ev_lrg {fz:Bool} {a b:E}:ev Φ (.Mn fz a b) σ M=(ev Φ a σ M).bind fun x M1=>(ev Φ b σ M1).bind fun y M2=>match x,y with
  | .int i,.int j=>if i9 i&&(i9 j&&decide ((j-i).toNat<=line)) then cU fz (i7 i j) M2 else .bad
  | _,_=>.bad:=rfl
@[simp] theorem Ac {f:F1} {a:E}:ev Φ (.iT f a) σ M=(ev Φ a σ M).bind fun x M1=>match wF f x with
  | some d=>.ok d M1
  | none=>.bad:=rfl
@[simp] theorem ev_lr1 {fz:Bool} {a:E}:ev Φ (.Mp fz a) σ M=(ev Φ a σ M).bind fun x M1=>match x with
  | .int j=>if i9 j then cU fz (i7 0 j) M1 else .bad
  | _=>.bad:=rfl
@[simp] theorem ev_rv {fz:Bool} {a:E}:ev Φ (.rv fz a) σ M=(ev Φ a σ M).bind fun x M1=>match vw M1 x with
  | .lst ds=>cU fz ds.reverse M1
  | _=>.bad:=rfl
@[simp] theorem MX {a:E}:ev Φ (.all1 a) σ M=(ev Φ a σ M).bind fun x M1=>match vw M1 x with
  | .lst ds=>match boolsOf ds with
   | some bs=>.ok (.bl (bs.all id)) M1
   | none=>.bad
  | _=>.bad:=rfl
@[simp] theorem gk:cM Φ .nil σ M=.ok [] M:=rfl
@[simp] theorem bS {e:E} {es:Es}:cM Φ (.cons e es) σ M=(ev Φ e σ M).bind fun x M1=>(cM Φ es σ M1).bind fun xs M2=>.ok (x::xs) M2:=rfl
@[simp] theorem zX:CS Φ .none σ M=.ok none M:=rfl
@[simp] theorem kO {e:E}:CS Φ (.some e) σ M=(ev Φ e σ M).bind fun x M1=>match x with | .int i=>.ok (some i) M1 | _=>.bad:=rfl
@[simp] theorem z9:oW Φ .none σ M=.ok (.bl true) M:=rfl
@[simp] theorem La {e:E}:oW Φ (.some e) σ M=ev Φ e σ M:=rfl
@[simp] theorem Er {a:E}:aX Φ (.e a) σ M=(ev Φ a σ M).bind fun x M1=>match itemsOf M1 x with | some ds=>.ok (x,ds,wk M1 x) (walk M1 x) | none=>.bad:=rfl
@[simp] theorem CV {a:E}:aX Φ (.g8 a) σ M=(ev Φ a σ M).bind fun x M1=>match x with
  | .int j=>if i9 j then .ok (.ao,i7 0 j,false) M1 else .bad
  | _=>.bad:=rfl
@[simp] theorem K9 {a b:E}:aX Φ (.FE a b) σ M=(ev Φ a σ M).bind fun x M1=>(ev Φ b σ M1).bind fun y M2=>match fB x,fB y with
  | some i,some j=>if i9 i&&i9 j then .ok (.ao,i7 i j,false) M2 else .bad
  | _,_=>.bad:=rfl
@[simp] theorem CW {a:E}:aX Φ (.rev a) σ M=(ev Φ a σ M).bind fun x M1=>match qg x with
  | some ds=>.ok (.ao,ds.reverse,false) M1
  | none=>.bad:=rfl
@[simp] theorem zZ {a b:E}:aX Φ (.fE a b) σ M=(ev Φ a σ M).bind fun x M1=>(ev Φ b σ M1).bind fun y M2=>match fB x,fB y with
  | some i,some j=>if i9 i&&i9 j then .ok (.ao,jt i j,false) M2 else .bad
  | _,_=>.bad:=rfl
@[simp] theorem Le {a b:E}:ev Φ (.dz a b) σ M=(ev Φ a σ M).bind fun x M1=>(ev Φ b σ M1).bind fun y M2=>match AW M2 x,AW M2 y with
  | some ds,some es=>if decide (ds.length<=1000) then (match xg [] ds es with
   | some kvs=>.ok (.ref M2.length) (M2++[.dct kvs])
   | none=>.bad) else .bad
  | _,_=>.bad:=rfl
@[simp] theorem Ae {f:Nat} {es:Es} {d:Int}:ev Φ (.gM f es d) σ M=(cM Φ es σ M).bind fun ds M1=>Φ.call f (ds++[.int d]) M1:=rfl
@[simp] theorem MV {a b:E}:aX Φ (.zip a b) σ M=(ev Φ a σ M).bind fun x M1=>(ev Φ b σ M1).bind fun y M2=>match qg x,qg y with
  | some ds,some es=>.ok (.ao,Je ds es,false) M2
  | _,_=>.bad:=rfl
@[simp] theorem HQ {i:Nat} {e:E}:ex Φ (.set i e) σ M=(ev Φ e σ M).use σ fun x M1=>.ok (.nx (σ.set i (some x))) M1:=rfl
@[simp] theorem CQ {a b e:E}:ex Φ (.rA a b e) σ M=(ev Φ e σ M).use σ fun x M1=>(ev Φ a σ M1).use σ fun y M2=>(ev Φ b σ M2).use σ fun z M3=>(nv M3 y z x).use σ fun _ M4=>.ok (.nx σ) M4:=rfl
@[simp] theorem oh {a:E} {f:Str} {e:E}:ex Φ (.eF a f e) σ M=(ev Φ e σ M).use σ fun x M1=>(ev Φ a σ M1).use σ fun y M2=>match y with
  | .ref n=>match M2[n]? with
   | some (.ins c fs)=>if decide (fs.length<1000) then .ok (.nx σ) (M2.set n (.ins c (eK f x fs))) else .bad
   | _=>.bad
  | _=>.bad:=rfl
@[simp] theorem CT:CU Φ .nil σ M=.ok () M:=rfl
@[simp] theorem zY {e:E} {es:Es}:CU Φ (.cons e es) σ M=(ev Φ e σ M).bind fun x M1=>if bY x then CU Φ es σ M1 else .bad:=rfl
@[simp] theorem zV {c:Nat} {es:Es}:ex Φ (.raise c es) σ M=(CU Φ es σ M).use σ fun _ M1=>.ok (.xc c σ) M1:=rfl
@[simp] theorem zU {b:Ss} {hs:Hs} {els:Ss}:ex Φ (.try b hs els) σ M=(exs Φ b σ M).bind fun o M1=>match o with
  | .nx σ1=>exs Φ els σ1 M1
  | .xc c σ1=>A0 Φ hs c σ1 M1
  | o=>.ok o M1:=rfl
@[simp] theorem MQ {c:Nat}:A0 Φ .nil c σ M=.bad:=rfl
@[simp] theorem qu {cs:List Nat} {b:Ss} {hs:Hs} {c:Nat}:A0 Φ (.cons cs b hs) c σ M=if cs.any (fun d=>Φ.sub c d) then exs Φ b σ M else A0 Φ hs c σ M:=rfl
@[simp] theorem ex_unp {tg:List Nat} {e:E}:ex Φ (.unp tg e) σ M=(ev Φ e σ M).use σ fun x M1=>match sets tg M1 x σ with | some σ1=>.ok (.nx σ1) M1 | none=>.bad:=rfl
@[simp] theorem K8 {e:E}:ex Φ (.ex e) σ M=(ev Φ e σ M).use σ fun _ M1=>.ok (.nx σ) M1:=rfl
@[simp] theorem HR {e:E}:ex Φ (.ret e) σ M=(ev Φ e σ M).use σ fun x M1=>.ok (.rt x) M1:=rfl
@[simp] theorem MS:ex Φ .FG σ M=.ok (.rt .ao) M:=rfl
@[simp] theorem sC {c:E} {a b:Ss}:ex Φ (.ifs c a b) σ M=(ev Φ c σ M).use σ fun t M1=>match t with | .bl true=>exs Φ a σ M1 | .bl false=>exs Φ b σ M1 | _=>.bad:=rfl
@[simp] theorem ex_for {tg:List Nat} {it:Src} {b:Ss}:ex Φ (.for tg it b) σ M=(aX Φ it σ M).use σ fun p M1=>(aS (exs Φ b) tg (aP M1 p.1) p.2.1 σ M1).fin (fL p.2.2 p.1):=rfl
@[simp] theorem kN {c:E} {b:Ss}:ex Φ (.while c b) σ M=bX (ev Φ c) (exs Φ b) Φ.turns σ M:=rfl
@[simp] theorem ex_brk:ex Φ .brk σ M=.ok (.bk σ) M:=rfl
@[simp] theorem MU:ex Φ .cont σ M=.ok (.ct σ) M:=rfl
@[simp] theorem MT:ex Φ .pass σ M=.ok (.nx σ) M:=rfl
@[simp] theorem MP:exs Φ .nil σ M=.ok (.nx σ) M:=rfl
@[simp] theorem bR {s:S} {ss:Ss}:exs Φ (.cons s ss) σ M=(ex Φ s σ M).bind fun o M1=>match o with | .nx σ1=>exs Φ ss σ1 M1 | o=>.ok o M1:=rfl
end
@[simp] theorem fin_ok {α:Type} {a:α} {M:MH} {f:MH->MH}:(R.ok a M).fin f=.ok a (f M):=rfl
@[simp] theorem ML {α:Type} {c:Nat} {M:MH} {f:MH->MH}:(R.exc c M:R α).fin f=.exc c (f M):=rfl
@[simp] theorem MM {α:Type} {f:MH->MH}:(R.bad:R α).fin f=.bad:=rfl
@[simp] theorem unwk_f {d:D} {M:MH}:fL false d M=M:=by cases d <;> rfl
@[simp] theorem En {α:Type} {x:R α} {d:D}:x.fin (fL false d)=x:=by cases x <;> simp
@[simp] theorem wk_tup {M:MH} {ds:List D}:wk M (.tup ds)=false:=rfl
@[simp] theorem wk_lst {M:MH} {ds:List D}:wk M (.lst ds)=false:=rfl
@[simp] theorem wk_str {M:MH} {x:Str}:wk M (.str x)=false:=rfl
@[simp] theorem Ji {M:MH} {ds:List D}:walk M (.tup ds)=M:=rfl
@[simp] theorem Jk {M:MH} {ds:List D}:walk M (.lst ds)=M:=rfl
@[simp] theorem Jj {M:MH} {x:Str}:walk M (.str x)=M:=rfl
theorem cP {P:lO} {k i:Nat} {ds:List D} {M:MH} {fn:Fn} (h:P.fn i=some fn):(aa P (k+1)).call i ds M=ko (aa P k) fn ds M:=by simp only [aa,h]
@[simp] theorem k9 {P:lO} {k:Nat}:(aa P k).glob=P.glob:=by cases k <;> rfl
@[simp] theorem fZ {P:lO} {k:Nat}:(aa P k).turns=P.turns:=by cases k <;> rfl
@[simp] theorem wU {P:lO} {k:Nat}:(aa P k).sub=P.sub:=by cases k <;> rfl
@[simp] theorem aT {α:Type} {a:α} {l:List α}:lN (a::l) 0=some a:=by
 have:(0:Int)<((a::l).length:Int):=by simp only [List.length_cons];omega
 simp only [lN,AX,if_pos (Int.le_refl 0),if_pos this];rfl
@[simp] theorem c8 {α:Type} {a b:α} {l:List α}:lN (a::b::l) 1=some b:=by
 have:(1:Int)<((a::b::l).length:Int):=by simp only [List.length_cons];omega
 simp only [lN,AX,if_pos (show (0:Int)<=1 by decide),if_pos this];rfl
@[simp] theorem m8 {α:Type} {a b c:α} {l:List α}:lN (a::b::c::l) 2=some c:=by
 have:(2:Int)<((a::b::c::l).length:Int):=by simp only [List.length_cons];omega
 simp only [lN,AX,if_pos (show (0:Int)<=2 by decide),if_pos this];rfl
@[simp] theorem m7 {α:Type} {a b c d:α} {l:List α}:lN (a::b::c::d::l) 3=some d:=by
 have:(3:Int)<((a::b::c::d::l).length:Int):=by simp only [List.length_cons];omega
 simp only [lN,AX,if_pos (show (0:Int)<=3 by decide),if_pos this];rfl
@[simp] theorem Ey:aJ D.ao D.ao=true:=by simp only [aJ]
@[simp] theorem qy {x:Int} {y:Int}:aJ (D.int x) (D.int y)=decide (x=y):=by simp only [aJ]
@[simp] theorem Ew {x:Str} {y:Str}:aJ (D.str x) (D.str y)=decide (x=y):=by simp only [aJ]
@[simp] theorem qx {x:List D} {y:List D}:aJ (D.tup x) (D.tup y)=dO x y:=by simp only [aJ]
@[simp] theorem jE {x:List D} {y:List D}:aJ (D.lst x) (D.lst y)=dO x y:=by simp only [aJ]
@[simp] theorem MY:dO [] []=true:=by simp only [dO]
@[simp] theorem CY {a:D} {l:List D}:dO (a::l) []=false:=by simp only [dO]
@[simp] theorem CZ {a b:D} {l m:List D}:dO (a::l) (b::m)=(aJ a b&&dO l m):=by simp only [dO]
section
variable {Φ:bF} {σ σ':Sg} {M M1 M2:MH} {e c:E} {x:D} {ss a b:Ss} {i:Nat}
theorem av (h:ev Φ e σ M=.ok x M1):exs Φ (.cons (.set i e) ss) σ M=exs Φ ss (σ.set i (some x)) M1:=by simp [h]
theorem bZ (h:ev Φ e σ M=.ok x M1):exs Φ (.cons (.ex e) ss) σ M=exs Φ ss σ M1:=by simp [h]
theorem aR (h:ev Φ e σ M=.ok x M1):exs Φ (.cons (.ret e) ss) σ M=.ok (.rt x) M1:=by simp [h]
theorem aE (h:ev Φ c σ M=.ok (.bl false) M1):exs Φ (.cons (.ifs c a .nil) ss) σ M=exs Φ ss σ M1:=by simp [h]
theorem rD (h:ev Φ c σ M=.ok (.bl false) M1) (hb:exs Φ b σ M1=.ok (.nx σ') M2):exs Φ (.cons (.ifs c a b) ss) σ M=exs Φ ss σ' M2:=by simp [h,hb]
theorem pO (h:ev Φ c σ M=.ok (.bl true) M1) (ha:exs Φ a σ M1=.ok (.nx σ') M2):exs Φ (.cons (.ifs c a b) ss) σ M=exs Φ ss σ' M2:=by simp [h,ha]
theorem cT (h:ev Φ c σ M=.ok (.bl true) M1) (ha:exs Φ a σ M1=.ok (.rt x) M2):exs Φ (.cons (.ifs c a b) ss) σ M=.ok (.rt x) M2:=by simp [h,ha]
theorem pP {tg:List Nat} {it:Src} {d:D} {ds:List D} (h:aX Φ it σ M=.ok (d,ds,false) M1) (hl:aS (exs Φ b) tg (aP M1 d) ds σ M1=.ok (.nx σ') M2):exs Φ (.cons (.for tg it b) ss) σ M=exs Φ ss σ' M2:=by simp [h,hl]
theorem Fz {tg:List Nat} {it:Src} {d:D} {ds:List D} (h:aX Φ it σ M=.ok (d,ds,false) M1) (hl:aS (exs Φ b) tg (aP M1 d) ds σ M1=.ok (.rt x) M2):exs Φ (.cons (.for tg it b) ss) σ M=.ok (.rt x) M2:=by simp [h,hl]
theorem aL {P:lO} {k f:Nat} {fn:Fn} {ds:List D} {d:D} {M':MH} {r:R D} (hf:P.fn f=some fn) (hn:ds.length=fn.np) (hb:exs (aa P k) fn.body (ds.map some++List.replicate (fn.ns-fn.np) none) M=.ok (.rt d) M') (hr:cJ fn.keep M d M'=r):(aa P (k+1)).call f ds M=r:=by
 rw [cP hf]
 have h1:ds.length+fn.kZ.length-fn.np=fn.kZ.length:=by omega
 simp only [ko,h1,List.drop_length,List.append_nil,hb]
 rw [if_pos (by simp;omega)]
 exact hr
theorem fN {M:MH} {d:D} {M':MH} (h:nr M.length d=true) (ht:M'.take M.length=M):cJ false M d M'=.ok d M:=by
 unfold cJ;rw [if_pos ⟨rfl,ht⟩,if_pos h]
end
theorem uq {n:Nat} (h:n<=1000000):i9 (n:Int)=true:=by simp only [i9,decide_eq_true_eq];omega
theorem Ci {n:Int} (h0:-1000000<=n) (h:n<=1000000):i9 n=true:=by simp only [i9,decide_eq_true_eq];omega
@[simp] theorem Mg {M:MH} {ds:List D}:yK M (.tup ds)=true:=rfl
@[simp] theorem Mj {M:MH} {ds:List D}:yK M (.lst ds)=true:=rfl
@[simp] theorem Ml {M:MH} {i:Int}:yK M (.int i)=true:=rfl
@[simp] theorem Mh {M:MH} {x:Str}:yK M (.str x)=true:=rfl
@[simp] theorem okT_bl {M:MH} {b:Bool}:yK M (.bl b)=true:=rfl
@[simp] theorem Mi {M:MH}:yK M .ao=true:=rfl
@[simp] theorem CJ {n:Nat}:jA (n+1) (some 1) none=false:=by simp [jA,six]
@[simp] theorem CI {n:Nat}:jA (n+1+1) (some 2) none=false:=by simp [jA,six]
end Fg
end
section
namespace Fg
open PySem L2
structure Bd where
 K:W.Frag
 dk:Addr->List (Key×V)->Prop
 cls:Nat->Option Addr
 exc:Nat->Value->Prop
 L4:Nat->Option Addr
noncomputable def KTup (K:W.Frag) (a:Addr) (xs:List V):Prop :=
 ∃ (o:Obj) (its:Array Value) (n:Nat), K.lookup a=some o/\o.cls=.type "tuple"/\o.data=.seq its n/\its.size<=sizeLine/\Vals xs its.toList
noncomputable def KLst (K:W.Frag) (a:Addr) (xs:List V):Prop :=
 ∃ (o:Obj) (its:Array Value) (n:Nat), K.lookup a=some o/\o.cls=.type "list"/\o.dict=none/\o.data=.seq its n/\its.size<=sizeLine/\Vals xs its.toList
noncomputable def FzT (B:Bd) (F:Addr->Prop) (H:Hp) (a:Addr) (xs:List V):Prop:=(F a/\Rd H a (.tup xs))\/KTup B.K a xs
noncomputable def FzL (B:Bd) (F:Addr->Prop) (H:Hp) (a:Addr) (xs:List V):Prop:=(F a/\Rd H a (.lst xs))\/KLst B.K a xs
noncomputable def FzD (B:Bd) (F:Addr->Prop) (H:Hp) (a:Addr) (kvs:List (Key×V)):Prop:=(F a/\Rd H a (.dK kvs))\/B.dk a kvs
theorem FzT.sq {B:Bd} {F:Addr->Prop} {H:Hp} {a:Addr} {xs:List V} (h:FzT B F H a xs):gO B.K H a xs:=by
 rcases h with ⟨_,h⟩ | h
 ·exact .inl h
 ·exact .inr h
theorem FzL.sq {B:Bd} {F:Addr->Prop} {H:Hp} {a:Addr} {xs:List V} (h:FzL B F H a xs):fK B.K H a xs:=by
 rcases h with ⟨_,h⟩ | h
 ·exact .inl h
 ·exact .inr h
mutual
noncomputable def RD (B:Bd) (F:Addr->Prop) (ρ:List Addr) (H:Hp):D->V->Prop
 | .ao,v=>v=.ao
 | .bl b,v=>v=.bl b
 | .int i,v=>v=.int i
 | .str x,v=>v=.str x
 | .tup ds,v=>∃ a vs,v=.ref a/\FzT B F H a vs/\ai B F ρ H ds vs
 | .lst ds,v=>∃ a vs,v=.ref a/\FzL B F H a vs/\ai B F ρ H ds vs
 | .dct ks ds,v=>∃ a kvs,v=.ref a/\FzD B F H a kvs/\kvs.map (·.1)=ks/\ai B F ρ H ds (kvs.map (·.2))
 | .ref n,v=>∃ a,ρ[n]? = some a/\v=.ref a
noncomputable def ai (B:Bd) (F:Addr->Prop) (ρ:List Addr) (H:Hp):List D->List V->Prop
 | [],vs=>vs=[]
 | d::ds,vs=>∃ v ws,vs=v::ws/\RD B F ρ H d v/\ai B F ρ H ds ws
end
structure Ext0 (F:Addr->Prop) (ρ:List Addr) (H:Hp) (F':Addr->Prop) (ρ':List Addr) (H':Hp):Prop where
 s:∀ a∈ρ,¬ F a
 f:∀ a,F a->F' a
 h:∀ a,H a≠none->a∉ρ->H' a=H a
 r:ρ <+: ρ'
 n:∀ a∈ρ',a∈ρ\/H a=none
 g:∀ a,F' a->F a\/(H a=none\/a∈ρ)
structure qL (F:Addr->Prop) (ρ:List Addr) (H:Hp) (F':Addr->Prop) (ρ':List Addr) (H':Hp):Prop where
 f:∀ a,F a->F' a
 k:∀ a,F a->H a≠none->H' a=H a
 r:ρ <+: ρ'
theorem Ext0.IZ {F F':Addr->Prop} {ρ ρ':List Addr} {H H':Hp} (e:Ext0 F ρ H F' ρ' H'):qL F ρ H F' ρ' H':=⟨e.f,fun a fa h=>e.h a h fun z=>e.s a z fa,e.r⟩
section
variable {B:Bd} {F F' F1:Addr->Prop} {ρ ρ' ρ1:List Addr} {H H' H1:Hp}
theorem DT {a:Addr} {u:HO} (h:Rd H a u):H a≠none:=by
 rcases h with h | ⟨o,h⟩ <;> rw [h] <;> simp
theorem qL.rd (e:qL F ρ H F' ρ' H') {a:Addr} {u:HO} (f:F a) (h:Rd H a u):Rd H' a u:=by
 have q:=e.k a f (DT h)
 rcases h with h | ⟨o,h⟩
 ·exact .inl (q.trans h)
 ·exact .inr ⟨o,q.trans h⟩
theorem qL.at (e:qL F ρ H F' ρ' H') {n:Nat} {a:Addr} (h:ρ[n]? = some a):ρ'[n]? = some a:=by
 obtain ⟨t,rfl⟩:=e.r
 have hn:n<ρ.length:=by
  rcases Nat.lt_or_ge n ρ.length with q | q
  ·exact q
  ·rw [List.getElem?_eq_none_iff.mpr q] at h;cases h
 rw [List.getElem?_append_left hn];exact h
mutual
theorem RD.aY (e:qL F ρ H F' ρ' H'):∀ (d:D) (v:V),RD B F ρ H d v->RD B F' ρ' H' d v
 | .ao,v,h=>h
 | .bl _,v,h=>h
 | .int _,v,h=>h
 | .str _,v,h=>h
 | .tup ds,v,h=>by
  simp only [RD] at h ⊢
  obtain ⟨a,vs,h1,h2,h3⟩:=h
  refine ⟨a,vs,h1,?_,ai.aY e ds vs h3⟩
  rcases h2 with ⟨f,r⟩ | h2
  ·exact .inl ⟨e.f a f,e.rd f r⟩
  ·exact .inr h2
 | .lst ds,v,h=>by
  simp only [RD] at h ⊢
  obtain ⟨a,vs,h1,h2,h3⟩:=h
  refine ⟨a,vs,h1,?_,ai.aY e ds vs h3⟩
  rcases h2 with ⟨f,r⟩ | h2
  ·exact .inl ⟨e.f a f,e.rd f r⟩
  ·exact .inr h2
 | .dct ks ds,v,h=>by
  simp only [RD] at h ⊢
  obtain ⟨a,kvs,h1,h2,h4,h3⟩:=h
  refine ⟨a,kvs,h1,?_,h4,ai.aY e ds _ h3⟩
  rcases h2 with ⟨f,r⟩ | h2
  ·exact .inl ⟨e.f a f,e.rd f r⟩
  ·exact .inr h2
 | .ref n,v,h=>by
  simp only [RD] at h ⊢
  obtain ⟨a,h1,h2⟩:=h
  exact ⟨a,e.at h1,h2⟩
theorem ai.aY (e:qL F ρ H F' ρ' H'):∀ (ds:List D) (vs:List V),ai B F ρ H ds vs->ai B F' ρ' H' ds vs
 | [],vs,h=>h
 | d::ds,vs,h=>by
  simp only [ai] at h ⊢
  obtain ⟨v,ws,h1,h2,h3⟩:=h
  exact ⟨v,ws,h1,RD.aY e d v h2,ai.aY e ds ws h3⟩
end
theorem Ext0.at (e:Ext0 F ρ H F' ρ' H') {n:Nat} {a:Addr} (h:ρ[n]? = some a):ρ'[n]? = some a:=e.IZ.at h
theorem RD.bE (e:Ext0 F ρ H F' ρ' H') (d:D) (v:V) (h:RD B F ρ H d v):RD B F' ρ' H' d v:=RD.aY e.IZ d v h
theorem ai.bE (e:Ext0 F ρ H F' ρ' H') (ds:List D) (vs:List V) (h:ai B F ρ H ds vs):ai B F' ρ' H' ds vs:=ai.aY e.IZ ds vs h
structure Ext (F:Addr->Prop) (ρ:List Addr) (H:Hp) (F':Addr->Prop) (ρ':List Addr) (H':Hp):Prop extends Ext0 F ρ H F' ρ' H' where
 z:∀ a o u,H a=some (.gh o u)->H' a=some (.gh o u)
theorem RD.mono (e:Ext F ρ H F' ρ' H') (d:D) (v:V) (h:RD B F ρ H d v):RD B F' ρ' H' d v:=RD.bE e.toExt0 d v h
theorem ai.mono (e:Ext F ρ H F' ρ' H') (ds:List D) (vs:List V) (h:ai B F ρ H ds vs):ai B F' ρ' H' ds vs:=ai.bE e.toExt0 ds vs h
theorem Ext.trans (a:Ext F ρ H F1 ρ1 H1) (b:Ext F1 ρ1 H1 F' ρ' H'):Ext F ρ H F' ρ' H' where
 s:=a.s
 f:=fun x h=>b.f x (a.f x h)
 h:=fun x h1 h2=>by
  have q:=a.h x h1 h2
  have n1:x∉ρ1:=fun z=>(a.n x z).elim h2 h1
  exact (b.h x (by rw [q];exact h1) n1).trans q
 r:=List.IsPrefix.trans a.r b.r
 n:=fun x hx=>by
  rcases b.n x hx with q | q
  ·exact a.n x q
  ·by_cases hr:x∈ρ
   ·exact .inl hr
   ·refine .inr ?_
    cases hh:H x with
    | none=>rfl
    | some u =>
     have:=a.h x (by rw [hh];simp) hr
     rw [q,hh] at this;cases this
 g:=fun x hx=>by
  rcases b.g x hx with q | q | q
  ·exact a.g x q
  ·by_cases hr:x∈ρ
   ·exact .inr (.inr hr)
   ·refine .inr (.inl ?_)
    cases hh:H x with
    | none=>rfl
    | some u =>
     have:=a.h x (by rw [hh];simp) hr
     rw [q,hh] at this;cases this
  ·rcases a.n x q with z | z
   ·exact .inr (.inr z)
   ·exact .inr (.inl z)
 z:=fun x o u h=>b.z x o u (a.z x o u h)
theorem Ext.refl (s:∀ a∈ρ,¬ F a):Ext F ρ H F ρ H:=⟨⟨s,fun _ h=>h,fun _ _ _=>rfl,List.prefix_refl _,fun _ h=>.inl h,fun _ h=>.inl h⟩,fun _ _ _ h=>h⟩
end
noncomputable def MR (B:Bd) (F:Addr->Prop) (ρ:List Addr) (H:Hp):MO->Addr->Prop
 | .lst ds,a=>∃ vs,H a=some (.lst vs)/\ai B F ρ H ds vs
 | .dct kvs,a=>∃ kws,H a=some (.dK kws)/\kws.map (·.1)=kvs.map (·.1)/\ai B F ρ H (kvs.map (·.2)) (kws.map (·.2))
 | .oX kvs,a=>∃ o kws,H a=some (.gh o (.dK kws))/\kws.map (·.1)=kvs.map (·.1)/\ai B F ρ H (kvs.map (·.2)) (kws.map (·.2))
 | .ins c fs,a=>∃ C dx fm,B.cls c=some C/\H a=some (.ins C dx fm)/\fm.map (·.1)=fs.map (·.1)/\ai B F ρ H (fs.map (·.2)) (fm.map (·.2))
theorem MR.aY {B:Bd} {F F':Addr->Prop} {ρ ρ':List Addr} {H H':Hp} (e:qL F ρ H F' ρ' H') {a:Addr} (ha:H' a=H a):∀ {o:MO},MR B F ρ H o a->MR B F' ρ' H' o a
 | .lst ds,⟨vs,h1,h2⟩=>⟨vs,ha.trans h1,ai.aY e _ _ h2⟩
 | .dct kvs,⟨kws,h1,h2,h3⟩=>⟨kws,ha.trans h1,h2,ai.aY e _ _ h3⟩
 | .oX kvs,⟨o,kws,h1,h2,h3⟩=>⟨o,kws,ha.trans h1,h2,ai.aY e _ _ h3⟩
 | .ins c fs,⟨C,dx,fm,h0,h1,h2,h3⟩=>⟨C,dx,fm,h0,ha.trans h1,h2,ai.aY e _ _ h3⟩
theorem MR.bE {B:Bd} {F F':Addr->Prop} {ρ ρ':List Addr} {H H':Hp} (e:Ext0 F ρ H F' ρ' H') {a:Addr} (ha:H' a=H a) {o:MO} (h:MR B F ρ H o a):MR B F' ρ' H' o a:=h.aY e.IZ ha
theorem MR.mono {B:Bd} {F F':Addr->Prop} {ρ ρ':List Addr} {H H':Hp} (e:Ext F ρ H F' ρ' H') {a:Addr} (ha:H' a=H a) {o:MO} (h:MR B F ρ H o a):MR B F' ρ' H' o a:=h.bE e.toExt0 ha
theorem MR.ne {B:Bd} {F:Addr->Prop} {ρ:List Addr} {H:Hp} {a:Addr}:∀ {o:MO},MR B F ρ H o a->H a≠none
 | .lst ds,⟨vs,h1,h2⟩=>by rw [h1];simp
 | .dct kvs,⟨kws,h1,_⟩=>by rw [h1];simp
 | .oX kvs,⟨o,kws,h1,_⟩=>by rw [h1];simp
 | .ins c fs,⟨C,dx,fm,_,h1,_⟩=>by rw [h1];simp
structure SR (B:Bd) (F:Addr->Prop) (ρ:List Addr) (M:MH) (H:Hp):Prop where
 len:ρ.length=M.length
 nd:ρ.Nodup
 sep:∀ a∈ρ,¬ F a
 CK:∀ a,F a->H a≠none
 obj:∀ (n:Nat) (a:Addr) (o:MO),ρ[n]? = some a->M[n]? = some o->MR B F ρ H o a
section
variable {B:Bd} {F F' F1:Addr->Prop} {ρ ρ' ρ1:List Addr} {H H' H1:Hp} {M M':MH}
theorem SR.ne (S:SR B F ρ M H) {a:Addr} (h:a∈ρ):H a≠none:=by
 obtain ⟨n,hn,e⟩:=List.mem_iff_getElem.mp h
 have hm:n<M.length:=by rw [<- S.len];exact hn
 exact (S.obj n a M[n] (by rw [List.getElem?_eq_getElem hn,e]) (List.getElem?_eq_getElem hm)).ne
theorem SR.new (S:SR B F ρ M H) {p:Addr} (h:H p=none):p∉ρ/\¬ F p:=⟨fun z=>S.ne z h,fun z=>S.CK p z h⟩
theorem SR.refl (S:SR B F ρ M H):Ext F ρ H F ρ H:=Ext.refl S.sep
theorem SR.fz (S:SR B F ρ M H) {p:Addr} (h:H p=none) (o:HO):SR B (fun a=>F a\/a=p) ρ M (upd H p o)/\Ext F ρ H (fun a=>F a\/a=p) ρ (upd H p o):=by
 obtain ⟨np,nf⟩:=S.new h
 have e:Ext F ρ H (fun a=>F a\/a=p) ρ (upd H p o):=⟨⟨S.sep,fun a q=>.inl q,fun a q _=>aq (by rintro rfl;exact q h),List.prefix_refl _,fun a q=>.inl q,fun a q=>q.elim .inl fun z=>.inr (.inl (z ▸ h))⟩,fun b w u q=>by rw [aq (by rintro rfl;rw [h] at q;cases q)];exact q⟩
 refine ⟨⟨S.len,S.nd,fun a ha z=>?_,fun a z=>?_,fun n a u h1 h2=>?_⟩,e⟩
 ·rcases z with z | z
  ·exact S.sep a ha z
  ·subst z;exact np ha
 ·by_cases q:a=p
  ·subst q;rw [ay];simp
  ·rw [aq q]
   rcases z with z | z
   ·exact S.CK a z
   ·exact absurd z q
 ·have m:=S.obj n a u h1 h2
  exact m.mono e (aq (by rintro rfl;exact m.ne h))
theorem SR.lv (S:SR B F ρ M H) {p:Addr} (h:H p=none) {o:HO} {u:MO} (hu:MR B F (ρ++[p]) (upd H p o) u p):SR B F (ρ++[p]) (M++[u]) (upd H p o)/\Ext F ρ H F (ρ++[p]) (upd H p o):=by
 obtain ⟨np,nf⟩:=S.new h
 have e:Ext F ρ H F (ρ++[p]) (upd H p o):=⟨⟨S.sep,fun a q=>q,fun a q _=>aq (by rintro rfl;exact q h),List.prefix_append _ _,fun a q=>by
  rcases List.mem_append.mp q with q | q
  ·exact .inl q
  ·rw [List.mem_singleton.mp q];exact .inr h,fun _ q=>.inl q⟩,fun b w u q=>by rw [aq (by rintro rfl;rw [h] at q;cases q)];exact q⟩
 refine ⟨⟨by simp [S.len],?_,fun a ha z=>?_,fun a z=>?_,fun n a w h1 h2=>?_⟩,e⟩
 ·rw [List.nodup_append]
  refine ⟨S.nd,by simp,fun a ha b hb=>?_⟩
  rw [List.mem_singleton.mp hb]
  rintro rfl
  exact np ha
 ·rcases List.mem_append.mp ha with q | q
  ·exact S.sep a q z
  ·rw [List.mem_singleton.mp q] at z;exact nf z
 ·have q:a≠p:=by rintro rfl;exact nf z
  rw [aq q];exact S.CK a z
 ·by_cases hn:n<ρ.length
  ·rw [List.getElem?_append_left hn] at h1
   rw [List.getElem?_append_left (by rw [<- S.len];exact hn)] at h2
   have m:=S.obj n a w h1 h2
   exact m.mono e (aq (by rintro rfl;exact m.ne h))
  ·have hn':ρ.length<=n:=Nat.le_of_not_lt hn
   rw [List.getElem?_append_right hn'] at h1
   rw [List.getElem?_append_right (by rw [<- S.len];exact hn'),<- S.len] at h2
   cases k:n-ρ.length with
   | zero =>
    rw [k] at h1 h2
    cases h1;cases h2
    exact hu
   | succ j=>rw [k] at h1;simp at h1
theorem SR.jI (S:SR B F ρ M H) {n:Nat} {a:Addr} {o:HO} {u:MO} (hn:ρ[n]? = some a) (hu:MR B F ρ (upd H a o) u a):SR B F ρ (M.set n u) (upd H a o)/\Ext0 F ρ H F ρ (upd H a o):=by
 have ha:a∈ρ:=List.mem_of_getElem? hn
 have e:Ext0 F ρ H F ρ (upd H a o):=⟨S.sep,fun _ q=>q,fun b q nb=>aq (by rintro rfl;exact nb ha),List.prefix_refl _,fun _ q=>.inl q,fun _ q=>.inl q⟩
 refine ⟨⟨by simp [S.len],S.nd,S.sep,fun b z=>?_,fun m b w h1 h2=>?_⟩,e⟩
 ·have q:b≠a:=by rintro rfl;exact S.sep b ha z
  rw [aq q];exact S.CK b z
 ·by_cases q:m=n
  ·subst q
   rw [hn] at h1;cases h1
   rw [List.getElem?_set] at h2
   split at h2
   ·split at h2
    ·cases h2;exact hu
    ·cases h2
   ·rename_i z;exact absurd rfl z
  ·rw [List.getElem?_set_ne (Ne.symm q)] at h2
   have ne:b≠a:=by
    rintro rfl
    obtain ⟨m1,e1⟩:=List.getElem?_eq_some_iff.mp h1
    obtain ⟨m2,e2⟩:=List.getElem?_eq_some_iff.mp hn
    exact q ((List.getElem_inj S.nd).mp (e1.trans e2.symm))
   exact (S.obj m b w h1 h2).bE e (aq ne)
theorem SR.st (S:SR B F ρ M H) {n:Nat} {a:Addr} {o:HO} {u:MO} (hn:ρ[n]? = some a) (hz:∀ w v,H a≠some (.gh w v)) (hu:MR B F ρ (upd H a o) u a):SR B F ρ (M.set n u) (upd H a o)/\Ext F ρ H F ρ (upd H a o) :=
 ⟨(S.jI hn hu).1,⟨(S.jI hn hu).2,fun b w v q=>by rw [aq (by rintro rfl;exact hz w v q)];exact q⟩⟩
theorem Ext0.at_ (S:SR B F ρ M H) {n:Nat} {a:Addr} {o:HO} (hn:ρ[n]? = some a):Ext0 F ρ H F ρ (upd H a o) :=
 ⟨S.sep,fun _ q=>q,fun b q nb=>aq (by rintro rfl;exact nb (List.mem_of_getElem? hn)),List.prefix_refl _,fun _ q=>.inl q,fun _ q=>.inl q⟩
theorem qL.side {D:Addr} (hF:¬ F D) (o:HO):qL F ρ H F ρ (upd H D o):=⟨fun _ h=>h,fun a fa _=>aq (by rintro rfl;exact hF fa),List.prefix_refl _⟩
theorem SR.side (S:SR B F ρ M H) {D:Addr} (hD:D∉ρ) (hF:¬ F D) (o:HO):SR B F ρ M (upd H D o) :=
 ⟨S.len,S.nd,S.sep,fun a fa=>by rw [aq (by rintro rfl;exact hF fa)];exact S.CK a fa,fun n a w h1 h2=>(S.obj n a w h1 h2).aY (qL.side hF o) (aq (by rintro rfl;exact hD (List.mem_of_getElem? h1)))⟩
theorem SR.take (S:SR B F ρ M H) {D:Addr} (hD:D∉ρ) (hn:H D≠none):SR B (fun a=>F a\/a=D) ρ M H :=
 ⟨S.len,S.nd,fun a ha z=>z.elim (S.sep a ha) fun e=>hD (e ▸ ha),fun a z=>z.elim (S.CK a) fun e=>e ▸ hn,fun n a w h1 h2=>(S.obj n a w h1 h2).aY ⟨fun _ h=>.inl h,fun _ _ _=>rfl,List.prefix_refl _⟩ rfl⟩
theorem SR.hold (S:SR B F ρ M H) {D:Addr} {u:MO} (hD:D∉ρ) (hF:¬ F D) (hu:MR B F (ρ++[D]) H u D):SR B F (ρ++[D]) (M++[u]) H:=by
 refine ⟨by simp [S.len],?_,fun a ha z=>?_,S.CK,fun n a w h1 h2=>?_⟩
 ·rw [List.nodup_append]
  refine ⟨S.nd,by simp,fun a ha b hb=>?_⟩
  rw [List.mem_singleton.mp hb]
  rintro rfl
  exact hD ha
 ·rcases List.mem_append.mp ha with q | q
  ·exact S.sep a q z
  ·rw [List.mem_singleton.mp q] at z;exact hF z
 ·by_cases hn:n<ρ.length
  ·rw [List.getElem?_append_left hn] at h1
   rw [List.getElem?_append_left (by rw [<- S.len];exact hn)] at h2
   exact (S.obj n a w h1 h2).aY ⟨fun _ h=>h,fun _ _ _=>rfl,List.prefix_append _ _⟩ rfl
  ·have hn':ρ.length<=n:=Nat.le_of_not_lt hn
   rw [List.getElem?_append_right hn'] at h1
   rw [List.getElem?_append_right (by rw [<- S.len];exact hn'),<- S.len] at h2
   cases k:n-ρ.length with
   | zero =>
    rw [k] at h1 h2
    cases h1;cases h2
    exact hu
   | succ j=>rw [k] at h1;simp at h1
theorem SR.wk (S:SR B F ρ M H) {n:Nat} {a:Addr} {kvs:List (Ky×D)} {kws:List (Key×V)} (o:Obj) (hn:ρ[n]? = some a) (hM:M[n]? = some (.dct kvs)) (hH:H a=some (.dK kws)) :
  SR B F ρ (M.set n (.oX kvs)) (upd H a (.gh o (.dK kws)))/\Ext F ρ H F ρ (upd H a (.gh o (.dK kws))):=by
 obtain ⟨kws',h1,h2,h3⟩:=S.obj n a _ hn hM
 rw [hH] at h1;cases h1
 exact S.st (o:=.gh o (.dK kws)) (u:=.oX kvs) hn (fun w v q=>by rw [hH] at q;cases q) ⟨o,kws,ay,h2,ai.bE (Ext0.at_ S hn) _ _ h3⟩
theorem SR.uw (S:SR B F ρ M H) {n:Nat} {a:Addr} {kvs:List (Ky×D)} (hn:ρ[n]? = some a) (hM:M[n]? = some (.oX kvs)):∃ o kws,H a=some (.gh o (.dK kws)) /\
  SR B F ρ (M.set n (.dct kvs)) (upd H a (.dK kws)):=by
 obtain ⟨o,kws,h1,h2,h3⟩:=S.obj n a _ hn hM
 exact ⟨o,kws,h1,(S.jI (o:=.dK kws) (u:=.dct kvs) hn ⟨kws,ay,h2,ai.bE (Ext0.at_ S hn) _ _ h3⟩).1⟩
theorem Ext.thaw (e:Ext F ρ H F' ρ' H') {a:Addr} {o:HO} (ha:a∈ρ') (hn:∀ w v,H a≠some (.gh w v)) (hF:∀ b∈ρ',¬ F' b):Ext F ρ H F' ρ' (upd H' a o) :=
 ⟨⟨e.s,e.f,fun b q nb=>by
  by_cases hb:b=a
  ·subst hb
   rcases e.n b ha with z | z
   ·exact absurd z nb
   ·exact absurd z q
  ·rw [aq hb];exact e.h b q nb,e.r,e.n,e.g⟩,fun b w v q=>by rw [aq (by rintro rfl;exact hn w v q)];exact e.z b w v q⟩
end
section
variable {B:Bd} {F F' F1:Addr->Prop} {ρ ρ' ρ1:List Addr} {H H' H1:Hp} {M M':MH}
theorem ai.length:∀ {ds:List D} {vs:List V},ai B F ρ H ds vs->ds.length=vs.length
 | [],vs,h=>by simp only [ai] at h;subst h;rfl
 | d::ds,vs,h=>by
  simp only [ai] at h
  obtain ⟨v,ws,rfl,_,h3⟩:=h
  simp [ai.length h3]
theorem ai.cons {d:D} {v:V} {ds:List D} {vs:List V} (h:RD B F ρ H d v) (t:ai B F ρ H ds vs):ai B F ρ H (d::ds) (v::vs):=by
 simp only [ai];exact ⟨v,vs,rfl,h,t⟩
theorem ai.nil:ai B F ρ H [] []:=by simp only [ai]
theorem ai.append:∀ {ds es:List D} {vs ws:List V},ai B F ρ H ds vs->ai B F ρ H es ws->ai B F ρ H (ds++es) (vs++ws)
 | [],es,vs,ws,h,t=>by simp only [ai] at h;subst h;exact t
 | d::ds,es,vs,ws,h,t=>by
  simp only [ai] at h
  obtain ⟨v,us,rfl,h2,h3⟩:=h
  exact ai.cons h2 (ai.append h3 t)
theorem ai.get:∀ {ds:List D} {vs:List V} {i:Nat} {d:D},ai B F ρ H ds vs->ds[i]? = some d->∃ v,vs[i]? = some v/\RD B F ρ H d v
 | [],vs,i,d,h,e=>by simp at e
 | d::ds,vs,i,d',h,e=>by
  simp only [ai] at h
  obtain ⟨v,ws,rfl,h2,h3⟩:=h
  cases i with
  | zero=>simp at e;subst e;exact ⟨v,rfl,h2⟩
  | succ i=>simp at e;simpa using ai.get (i:=i) h3 e
theorem ai.take:∀ {ds:List D} {vs:List V} (n:Nat),ai B F ρ H ds vs->ai B F ρ H (ds.take n) (vs.take n)
 | [],vs,n,h=>by simp only [ai] at h;subst h;simp [ai]
 | d::ds,vs,n,h=>by
  simp only [ai] at h
  obtain ⟨v,ws,rfl,h2,h3⟩:=h
  cases n with
  | zero=>simp [ai]
  | succ n=>simp only [List.take_succ_cons];exact ai.cons h2 (ai.take n h3)
theorem ai.drop:∀ {ds:List D} {vs:List V} (n:Nat),ai B F ρ H ds vs->ai B F ρ H (ds.drop n) (vs.drop n)
 | [],vs,n,h=>by simp only [ai] at h;subst h;simp [ai]
 | d::ds,vs,n,h=>by
  cases n with
  | zero=>exact h
  | succ n =>
   simp only [ai] at h
   obtain ⟨v,ws,rfl,h2,h3⟩:=h
   simp only [List.drop_succ_cons];exact ai.drop n h3
theorem ai.set:∀ {ds:List D} {vs:List V} {d:D} {v:V} (i:Nat),ai B F ρ H ds vs->RD B F ρ H d v->ai B F ρ H (ds.set i d) (vs.set i v)
 | [],vs,d,v,i,h,q=>by simp only [ai] at h;subst h;simp [ai]
 | e::ds,vs,d,v,i,h,q=>by
  simp only [ai] at h
  obtain ⟨u,ws,rfl,h2,h3⟩:=h
  cases i with
  | zero=>simp only [List.set_cons_zero];exact ai.cons q h3
  | succ i=>simp only [List.set_cons_succ];exact ai.cons h2 (ai.set i h3 q)
mutual
theorem RD.nr:∀ {d:D} {v:V},RD B F ρ H d v->nr ρ.length d=true
 | .ao,v,h=>by simp [Fg.nr]
 | .bl _,v,h=>by simp [Fg.nr]
 | .int _,v,h=>by simp [Fg.nr]
 | .str _,v,h=>by simp [Fg.nr]
 | .tup ds,v,h=>by simp only [RD] at h;obtain ⟨a,vs,h1,h2,h3⟩:=h;simp only [Fg.nr];exact ai.nr h3
 | .lst ds,v,h=>by simp only [RD] at h;obtain ⟨a,vs,h1,h2,h3⟩:=h;simp only [Fg.nr];exact ai.nr h3
 | .dct ks ds,v,h=>by simp only [RD] at h;obtain ⟨a,vs,h1,h2,_,h3⟩:=h;simp only [Fg.nr];exact ai.nr h3
 | .ref n,v,h=>by
  simp only [RD] at h;obtain ⟨a,h1,h2⟩:=h;simp only [Fg.nr]
  obtain ⟨q,_⟩:=List.getElem?_eq_some_iff.mp h1
  exact decide_eq_true q
theorem ai.nr:∀ {ds:List D} {vs:List V},ai B F ρ H ds vs->dS ρ.length ds=true
 | [],vs,h=>by simp [dS]
 | d::ds,vs,h=>by
  simp only [ai] at h
  obtain ⟨v,ws,rfl,h2,h3⟩:=h
  simp only [dS,RD.nr h2,ai.nr h3,Bool.and_self]
end
mutual
theorem RD.cut (hp:ρ <+: ρ'):∀ {d:D} {v:V},Fg.nr ρ.length d=true->RD B F ρ' H d v->RD B F ρ H d v
 | .ao,v,_,h=>h
 | .bl _,v,_,h=>h
 | .int _,v,_,h=>h
 | .str _,v,_,h=>h
 | .tup ds,v,q,h=>by
  simp only [Fg.nr] at q;simp only [RD] at h ⊢
  obtain ⟨a,vs,h1,h2,h3⟩:=h
  exact ⟨a,vs,h1,h2,ai.cut hp q h3⟩
 | .lst ds,v,q,h=>by
  simp only [Fg.nr] at q;simp only [RD] at h ⊢
  obtain ⟨a,vs,h1,h2,h3⟩:=h
  exact ⟨a,vs,h1,h2,ai.cut hp q h3⟩
 | .dct ks ds,v,q,h=>by
  simp only [Fg.nr] at q;simp only [RD] at h ⊢
  obtain ⟨a,vs,h1,h2,h4,h3⟩:=h
  exact ⟨a,vs,h1,h2,h4,ai.cut hp q h3⟩
 | .ref n,v,q,h=>by
  simp only [Fg.nr] at q;simp only [RD] at h ⊢
  obtain ⟨a,h1,h2⟩:=h
  obtain ⟨t,rfl⟩:=hp
  rw [List.getElem?_append_left (of_decide_eq_true q)] at h1
  exact ⟨a,h1,h2⟩
theorem ai.cut (hp:ρ <+: ρ'):∀ {ds:List D} {vs:List V},dS ρ.length ds=true->ai B F ρ' H ds vs->ai B F ρ H ds vs
 | [],vs,_,h=>h
 | d::ds,vs,q,h=>by
  simp only [dS,Bool.and_eq_true] at q;simp only [ai] at h ⊢
  obtain ⟨v,ws,rfl,h2,h3⟩:=h
  exact ⟨v,ws,rfl,RD.cut hp q.1 h2,ai.cut hp q.2 h3⟩
end
theorem MR.cut (hp:ρ <+: ρ') {a:Addr} {F0:Addr->Prop} {H0:Hp} {a0:Addr}:∀ {o:MO},MR B F0 ρ H0 o a0->MR B F ρ' H o a->MR B F ρ H o a
 | .lst ds,⟨_,_,k⟩,⟨vs,h1,h2⟩=>⟨vs,h1,ai.cut hp (ai.nr k) h2⟩
 | .dct kvs,⟨_,_,_,k⟩,⟨kws,h1,h2,h3⟩=>⟨kws,h1,h2,ai.cut hp (ai.nr k) h3⟩
 | .oX kvs,⟨_,_,_,_,k⟩,⟨o,kws,h1,h2,h3⟩=>⟨o,kws,h1,h2,ai.cut hp (ai.nr k) h3⟩
 | .ins c fs,⟨_,_,_,_,_,_,k⟩,⟨C,dx,fm,h0,h1,h2,h3⟩=>⟨C,dx,fm,h0,h1,h2,ai.cut hp (ai.nr k) h3⟩
theorem SR.cut (S:SR B F ρ M H) (S':SR B F' ρ' M' H') (e:Ext F ρ H F' ρ' H') (hm:M'.take M.length=M):SR B F' ρ M H' where
 len:=S.len
 nd:=S.nd
 sep:=fun a ha=>S'.sep a (e.r.subset ha)
 CK:=S'.CK
 obj:=fun n a o h1 h2=>by
  have m':M'[n]? = some o:=by
   rw [<- hm] at h2
   rw [List.getElem?_take] at h2
   split at h2
   ·exact h2
   ·cases h2
  exact MR.cut e.r (S.obj n a o h1 h2) (S'.obj n a o (e.at h1) m')
theorem Ext.cut (e:Ext F ρ H F' ρ' H'):Ext F ρ H F' ρ H':=⟨⟨e.s,e.f,e.h,List.prefix_refl _,fun _ h=>.inl h,e.g⟩,e.z⟩
end
end Fg
end
section
namespace Fg
open PySem L2
noncomputable def A2 (th:Addr->Prop) (H H':Hp):Prop:=H'=H\/∃ a o kvs,th a/\H a=some (.gh o (.dK kvs))/\H'=upd H a (.dK kvs)
noncomputable abbrev XS:=Value->Option Addr->St->Hp->Prop
structure Gx where
 e:XS
 th:Addr->Prop
 cl:∀ cv x σ H H',A2 th H H'->e cv x σ H'->e cv x σ H
noncomputable def ah {α β:Type} (rel:(Addr->Prop)->List Addr->Hp->α->β->Prop) (B:Bd) (r:R α) (F:Addr->Prop) (ρ:List Addr) (H:Hp) (Q:β->Hp->Prop) (E:XK):Prop :=
 match r with
 | .ok d M'=>∀ F' ρ' H' v,Ext F ρ H F' ρ' H'->SR B F' ρ' M' H'->rel F' ρ' H' d v->Q v H'
 | .exc c M'=>∀ F' ρ' H' cv x,Ext F ρ H F' ρ' H'->SR B F' ρ' M' H'->B.exc c cv->E cv x H'
 | .bad=>False
noncomputable abbrev Post (B:Bd):=ah (RD B) B
noncomputable abbrev LS (B:Bd):=ah (ai B) B
section
variable {B:Bd} {F F' F1:Addr->Prop} {ρ ρ' ρ1:List Addr} {H H' H1:Hp} {M M':MH} {E:XK}
theorem ah.weak {α β:Type} {rel:(Addr->Prop)->List Addr->Hp->α->β->Prop} {r:R α} {Q:β->Hp->Prop} (e:Ext F ρ H F1 ρ1 H1) (h:ah rel B r F ρ H Q E):ah rel B r F1 ρ1 H1 Q E:=by
 cases r with
 | ok d M'=>exact fun F' ρ' H' v e' S r=>h F' ρ' H' v (e.trans e') S r
 | exc c M'=>exact fun F' ρ' H' cv x e' S r=>h F' ρ' H' cv x (e.trans e') S r
 | bad=>exact h
theorem ah.imp {α β:Type} {rel:(Addr->Prop)->List Addr->Hp->α->β->Prop} {r:R α} {Q Q':β->Hp->Prop} (h:ah rel B r F ρ H Q E) (k:∀ v H',Q v H'->Q' v H'):ah rel B r F ρ H Q' E:=by
 cases r with
 | ok d M'=>exact fun F' ρ' H' v e' S r=>k _ _ (h F' ρ' H' v e' S r)
 | exc c M'=>exact h
 | bad=>exact h
theorem ah.bind {α β α' β':Type} {rel:(Addr->Prop)->List Addr->Hp->α->β->Prop} {rel':(Addr->Prop)->List Addr->Hp->α'->β'->Prop} {x:R α} {f:α->MH->R α'} {Q:β'->Hp->Prop} (h:ah rel' B (x.bind f) F ρ H Q E) :
  ah rel B x F ρ H (fun v H'=>∃ d M' F' ρ',Ext F ρ H F' ρ' H'/\SR B F' ρ' M' H'/\rel F' ρ' H' d v/\ah rel' B (f d M') F' ρ' H' Q E) E:=by
 cases x with
 | ok d M'=>exact fun F' ρ' H' v e S r=>⟨d,M',F',ρ',e,S,r,ah.weak e h⟩
 | exc c M'=>exact h
 | bad=>exact h
theorem ah.run {α β:Type} {rel:(Addr->Prop)->List Addr->Hp->α->β->Prop} {d:α} {Q:β->Hp->Prop} {v:β} (h:ah rel B (.ok d M) F ρ H Q E) (S:SR B F ρ M H) (r:rel F ρ H d v):Q v H :=
 h F ρ H v S.refl S r
end
structure RS (B:Bd) (F:Addr->Prop) (ρ:List Addr) (H:Hp) (σD:Sg) (σ:St):Prop where
 len:σ.length=σD.length
 get:∀ (i:Nat) (d:D),σD[i]? = some (some d)->∃ v,σ[i]? = some (some v)/\RD B F ρ H d v
section
variable {B:Bd} {F F' F1:Addr->Prop} {ρ ρ' ρ1:List Addr} {H H' H1:Hp} {M M':MH} {σD:Sg} {σ:St}
theorem RS.mono (e:Ext F ρ H F' ρ' H') (h:RS B F ρ H σD σ):RS B F' ρ' H' σD σ :=
 ⟨h.len,fun i d q=>let ⟨v,h1,h2⟩:=h.get i d q;⟨v,h1,RD.mono e d v h2⟩⟩
theorem RS.set (h:RS B F ρ H σD σ) {d:D} {v:V} (r:RD B F ρ H d v) (i:Nat):RS B F ρ H (σD.set i (some d)) (σ.set i (some v)):=by
 refine ⟨by simp [h.len],fun j d' q=>?_⟩
 rw [List.getElem?_set] at q ⊢
 split at q
 ·rename_i e
  split at q
  ·rename_i l
   cases q
   refine ⟨v,?_,r⟩
   rw [if_pos e,if_pos (by rw [h.len];exact l)]
  ·cases q
 ·rename_i e
  rw [if_neg e]
  exact h.get j d' q
end
noncomputable def T (B:Bd) (Φ:bF) (E:Gx) (c:Fg.E):TE:=fun σ H Q=>∃ (σD:Sg) (M:MH) (F:Addr->Prop) (ρ:List Addr),
 SR B F ρ M H/\RS B F ρ H σD σ/\Post B (ev Φ c σD M) F ρ H Q (fun cv x H'=>E.e cv x σ H')
noncomputable def TB (B:Bd) (Φ:bF) (E:Gx) (c:Fg.E):TT:=fun σ H Q=>T B Φ E c σ H fun v H'=>∃ b,v=.bl b/\Q b H'
noncomputable def TL (B:Bd) (Φ:bF) (E:Gx) (c:Es):TA:=fun σ H Q=>∃ (σD:Sg) (M:MH) (F:Addr->Prop) (ρ:List Addr),
 SR B F ρ M H/\RS B F ρ H σD σ/\LS B (cM Φ c σD M) F ρ H Q (fun cv x H'=>E.e cv x σ H')
noncomputable def TP (B:Bd) (Φ:bF) (E:Gx) (c:O):TO:=fun σ H Q=>∃ (σD:Sg) (M:MH) (F:Addr->Prop) (ρ:List Addr),
 SR B F ρ M H/\RS B F ρ H σD σ/\ah (fun _ _ _ (a b:Option Int)=>a=b) B (CS Φ c σD M) F ρ H Q (fun cv x H'=>E.e cv x σ H')
section
variable {B:Bd} {Φ:bF} {E:Gx} {F F' F1:Addr->Prop} {ρ ρ' ρ1:List Addr} {H H' H1:Hp} {M M':MH} {σD:Sg} {σ:St} {Q:VK}
theorem T.one {a:Fg.E} {g:D->MH->R D} {W:V->Hp->Prop} {X:XK} (S:SR B F ρ M H) (r:RS B F ρ H σD σ) (hX:X=fun cv x H'=>E.e cv x σ H') (h:Post B ((ev Φ a σD M).bind g) F ρ H Q X)
  (k:∀ x M1 F1 ρ1 H1 v,Ext F ρ H F1 ρ1 H1->SR B F1 ρ1 M1 H1->RS B F1 ρ1 H1 σD σ->RD B F1 ρ1 H1 x v->Post B (g x M1) F1 ρ1 H1 Q X->W v H1):T B Φ E a σ H W:=by
 subst hX
 refine ⟨σD,M,F,ρ,S,r,ah.imp (ah.bind (rel:=RD B) h) fun v H1 ⟨x,M1,F1,ρ1,e,S1,rx,h1⟩=>?_⟩
 exact k x M1 F1 ρ1 H1 v e S1 (r.mono e) rx h1
theorem T.two {a b:Fg.E} {g:D->D->MH->R D} {W:V->V->Hp->Prop} {X:XK} (S:SR B F ρ M H) (r:RS B F ρ H σD σ) (hX:X=fun cv x H'=>E.e cv x σ H')
  (h:Post B ((ev Φ a σD M).bind fun x M1=>(ev Φ b σD M1).bind fun y M2=>g x y M2) F ρ H Q X)
  (k:∀ x y M2 F2 ρ2 H2 v w,SR B F2 ρ2 M2 H2->RS B F2 ρ2 H2 σD σ->RD B F2 ρ2 H2 x v->RD B F2 ρ2 H2 y w->Post B (g x y M2) F2 ρ2 H2 Q X->W v w H2) :
  T B Φ E a σ H fun v H1=>T B Φ E b σ H1 fun w H2=>W v w H2:=by
 refine T.one S r hX h fun x M1 F1 ρ1 H1 v e1 S1 r1 rx h1=>?_
 refine T.one S1 r1 hX h1 fun y M2 F2 ρ2 H2 w e2 S2 r2 ry h2=>?_
 exact k x y M2 F2 ρ2 H2 v w S2 r2 (RD.mono e2 _ _ rx) ry h2
theorem TL.one {a:Es} {g:List D->MH->R D} {W:List V->Hp->Prop} {X:XK} (S:SR B F ρ M H) (r:RS B F ρ H σD σ) (hX:X=fun cv x H'=>E.e cv x σ H') (h:Post B ((cM Φ a σD M).bind g) F ρ H Q X)
  (k:∀ x M1 F1 ρ1 H1 v,Ext F ρ H F1 ρ1 H1->SR B F1 ρ1 M1 H1->RS B F1 ρ1 H1 σD σ->ai B F1 ρ1 H1 x v->Post B (g x M1) F1 ρ1 H1 Q X->W v H1):TL B Φ E a σ H W:=by
 subst hX
 refine ⟨σD,M,F,ρ,S,r,ah.imp (ah.bind (rel:=ai B) h) fun v H1 ⟨x,M1,F1,ρ1,e,S1,rx,h1⟩=>?_⟩
 exact k x M1 F1 ρ1 H1 v e S1 (r.mono e) rx h1
theorem JE {i:Nat} (h:T B Φ E (.v i) σ H Q):Jo i σ H Q:=by
 obtain ⟨σD,M,F,ρ,S,r,h⟩:=h
 simp only [ev] at h
 split at h
 ·rename_i d hd
  obtain ⟨v,h1,h2⟩:=r.get _ _ hd
  exact ⟨v,h1,ah.run h S h2⟩
 ·exact h.elim
noncomputable def scl:D->Option V
 | .ao=>some .ao
 | .bl b=>some (.bl b)
 | .int i=>some (.int i)
 | .str x=>some (.str x)
 | _=>none
theorem Fw {d:D} {v:V} (h:scl d=some v):RD B F ρ H d v:=by
 cases d <;> simp only [scl] at h <;> first | (cases h;simp only [RD]) | cases h
theorem tQ {d:D} {v:V} (hv:scl d=some v) (h:T B Φ E (.k d) σ H Q):tC v σ H Q:=by
 obtain ⟨σD,M,F,ρ,S,r,h⟩:=h
 simp only [ev] at h
 exact ah.run h S (Fw hv)
theorem dU {fz:Bool} {ds:List D} {vs:List V} {X:XK} (S:SR B F ρ M H) (h:Post B (cU fz ds M) F ρ H Q X) (r:ai B F ρ H ds vs):∀ p,H p=none->Q (.ref p) (upd H p (.lst vs)):=by
 intro p hp
 cases fz with
 | true =>
  simp only [cU,if_true] at h
  obtain ⟨S',e⟩:=S.fz hp (.lst vs)
  refine h _ _ _ _ e S' ?_
  simp only [RD]
  exact ⟨p,vs,rfl,.inl ⟨.inr rfl,.inl ay⟩,ai.mono e _ _ r⟩
 | false =>
  simp only [cU,Bool.false_eq_true,if_false] at h
  have e0:Ext F ρ H F (ρ++[p]) (upd H p (.lst vs)):=⟨⟨S.sep,fun _ q=>q,fun a q _=>aq (by rintro rfl;exact q hp),List.prefix_append _ _,fun a q=>by
   rcases List.mem_append.mp q with q | q
   ·exact .inl q
   ·rw [List.mem_singleton.mp q];exact .inr hp,fun _ q=>.inl q⟩,fun b w u q=>by rw [aq (by rintro rfl;rw [hp] at q;cases q)];exact q⟩
  obtain ⟨S',e⟩:=S.lv (o:=.lst vs) (u:=.lst ds) hp ⟨vs,ay,ai.mono e0 _ _ r⟩
  refine h _ _ _ _ e S' ?_
  simp only [RD]
  refine ⟨p,?_,rfl⟩
  rw [<- S.len,List.getElem?_append_right (Nat.le_refl _),Nat.sub_self];rfl
theorem jU {ds:List D} {vs:List V} {X:XK} (S:SR B F ρ M H) (h:Post B (.ok (.tup ds) M) F ρ H Q X) (r:ai B F ρ H ds vs):∀ p,H p=none->Q (.ref p) (upd H p (.tup vs)):=by
 intro p hp
 obtain ⟨S',e⟩:=S.fz hp (.tup vs)
 refine h _ _ _ _ e S' ?_
 simp only [RD]
 exact ⟨p,vs,rfl,.inl ⟨.inr rfl,.inl ay⟩,ai.mono e _ _ r⟩
theorem Bm {es:Es} (hz:∀ {σ:Sg} {M:MH} {ds M'},cM Φ es σ M=.ok ds M'->ds.length<=sizeLine) (h:T B Φ E (.tup es) σ H Q):Jp (TL B Φ E es) σ H Q:=by
 obtain ⟨σD,M,F,ρ,S,r,h⟩:=h
 simp only [ev] at h
 refine ⟨σD,M,F,ρ,S,r,?_⟩
 cases hx:cM Φ es σD M with
 | ok ds M1 =>
  rw [hx] at h
  intro F1 ρ1 H1 vs e S1 rv
  refine ⟨by rw [<- ai.length rv];exact hz hx,jU (X:=fun cv x H'=>E.e cv x σ H') S1 (ah.weak e h) rv⟩
 | exc c M1=>rw [hx] at h;exact h
 | bad=>rw [hx] at h;exact h
theorem Bw {fz:Bool} {es:Es} (hz:∀ {σ:Sg} {M:MH} {ds M'},cM Φ es σ M=.ok ds M'->ds.length<=sizeLine) (h:T B Φ E (.lst fz es) σ H Q):Jv (TL B Φ E es) σ H Q:=by
 obtain ⟨σD,M,F,ρ,S,r,h⟩:=h
 simp only [ev] at h
 refine ⟨σD,M,F,ρ,S,r,?_⟩
 cases hx:cM Φ es σD M with
 | ok ds M1 =>
  rw [hx] at h
  intro F1 ρ1 H1 vs e S1 rv
  refine ⟨by rw [<- ai.length rv];exact hz hx,dU (X:=fun cv x H'=>E.e cv x σ H') S1 (ah.weak e h) rv⟩
 | exc c M1=>rw [hx] at h;exact h
 | bad=>rw [hx] at h;exact h
theorem ig {Q:List V->Hp->Prop} (h:TL B Φ E .nil σ H Q):iY σ H Q:=by
 obtain ⟨σD,M,F,ρ,S,r,h⟩:=h
 simp only [cM] at h
 exact ah.run h S ai.nil
theorem x8 {e:Fg.E} {es:Es} {Q:List V->Hp->Prop} (h:TL B Φ E (.cons e es) σ H Q):cG (T B Φ E e) (TL B Φ E es) σ H Q:=by
 obtain ⟨σD,M,F,ρ,S,r,h⟩:=h
 simp only [cM] at h
 refine ⟨σD,M,F,ρ,S,r,ah.imp (ah.bind (rel:=RD B) h) fun v H1 ⟨x,M1,F1,ρ1,e1,S1,rx,h1⟩=>?_⟩
 refine ⟨σD,M1,F1,ρ1,S1,r.mono e1,ah.imp (ah.bind (rel:=ai B) h1) fun vs H2 ⟨xs,M2,F2,ρ2,e2,S2,rxs,h2⟩=>?_⟩
 exact ah.run h2 S2 (ai.cons (RD.mono e2 _ _ rx) rxs)
theorem tU {a b:Fg.E} (h:T B Φ E (.and a b) σ H Q):DN (T B Φ E a) (T B Φ E b) σ H Q:=by
 obtain ⟨σD,M,F,ρ,S,r,h⟩:=h
 simp only [ev] at h
 refine T.one S r rfl h fun x M1 F1 ρ1 H1 v e1 S1 r1 rx h1=>?_
 split at h1
 ·simp only [RD] at rx;subst rx
  exact ⟨true,rfl,by rw [if_pos rfl];exact ⟨σD,M1,F1,ρ1,S1,r1,h1⟩⟩
 ·simp only [RD] at rx;subst rx
  exact ⟨false,rfl,by rw [if_neg Bool.false_ne_true];exact ah.run h1 S1 (by simp only [RD])⟩
 ·exact h1.elim
theorem x6 {a b:Fg.E} (h:T B Φ E (.or a b) σ H Q):Jt (T B Φ E a) (T B Φ E b) σ H Q:=by
 obtain ⟨σD,M,F,ρ,S,r,h⟩:=h
 simp only [ev] at h
 refine T.one S r rfl h fun x M1 F1 ρ1 H1 v e1 S1 r1 rx h1=>?_
 split at h1
 ·simp only [RD] at rx;subst rx
  exact ⟨true,rfl,by rw [if_pos rfl];exact ah.run h1 S1 (by simp only [RD])⟩
 ·simp only [RD] at rx;subst rx
  exact ⟨false,rfl,by rw [if_neg Bool.false_ne_true];exact ⟨σD,M1,F1,ρ1,S1,r1,h1⟩⟩
 ·exact h1.elim
theorem tO {a:Fg.E} (h:T B Φ E (.not a) σ H Q):DK (T B Φ E a) σ H Q:=by
 obtain ⟨σD,M,F,ρ,S,r,h⟩:=h
 simp only [ev] at h
 refine T.one S r rfl h fun x M1 F1 ρ1 H1 v e1 S1 r1 rx h1=>?_
 split at h1
 ·simp only [RD] at rx;subst rx
  exact ⟨_,rfl,ah.run h1 S1 (by simp only [RD])⟩
 ·exact h1.elim
theorem yc {a b:Fg.E} {Q:Bool->Hp->Prop} (h:TB B Φ E (.and a b) σ H Q):Jz (TB B Φ E a) (TB B Φ E b) σ H Q:=by
 have h':=tU h
 obtain ⟨σD,M,F,ρ,S,r,h⟩:=h'
 refine ⟨σD,M,F,ρ,S,r,ah.imp h fun v H' ⟨c,e,q⟩=>⟨c,e,?_⟩⟩
 cases c with
 | true=>rw [if_pos rfl] at q ⊢;exact q
 | false=>rw [if_neg Bool.false_ne_true] at q ⊢;obtain ⟨b,e,q⟩:=q;cases e;exact q
theorem BE {a b:Fg.E} {Q:Bool->Hp->Prop} (h:TB B Φ E (.or a b) σ H Q):tOr (TB B Φ E a) (TB B Φ E b) σ H Q:=by
 have h':=x6 h
 obtain ⟨σD,M,F,ρ,S,r,h⟩:=h'
 refine ⟨σD,M,F,ρ,S,r,ah.imp h fun v H' ⟨c,e,q⟩=>⟨c,e,?_⟩⟩
 cases c with
 | true=>rw [if_pos rfl] at q ⊢;obtain ⟨b,e,q⟩:=q;cases e;exact q
 | false=>rw [if_neg Bool.false_ne_true] at q ⊢;exact q
theorem x9 {a:Fg.E} {Q:Bool->Hp->Prop} (h:TB B Φ E (.not a) σ H Q):Ju (TB B Φ E a) σ H Q:=by
 have h':=tO h
 obtain ⟨σD,M,F,ρ,S,r,h⟩:=h'
 refine ⟨σD,M,F,ρ,S,r,ah.imp h fun v H' ⟨c,e,q⟩=>⟨c,e,?_⟩⟩
 obtain ⟨b,e,q⟩:=q;cases e;exact q
theorem BA {c a b:Fg.E} (h:T B Φ E (.AZ c a b) σ H Q):tIf (TB B Φ E c) (T B Φ E a) (T B Φ E b) σ H Q:=by
 obtain ⟨σD,M,F,ρ,S,r,h⟩:=h
 simp only [ev] at h
 refine T.one S r rfl h fun x M1 F1 ρ1 H1 v e1 S1 r1 rx h1=>?_
 split at h1
 ·simp only [RD] at rx;subst rx
  exact ⟨true,rfl,by dsimp only;rw [if_pos rfl];exact ⟨σD,M1,F1,ρ1,S1,r1,h1⟩⟩
 ·simp only [RD] at rx;subst rx
  exact ⟨false,rfl,by dsimp only;rw [if_neg Bool.false_ne_true];exact ⟨σD,M1,F1,ρ1,S1,r1,h1⟩⟩
 ·exact h1.elim
theorem bH {d:D} {v:V} {ds:List D} (S:SR B F ρ M H) (r:RD B F ρ H d v) (h:vw M d=.lst ds):∃ a vs,v=.ref a/\fK B.K H a vs/\ai B F ρ H ds vs:=by
 cases d with
 | lst xs=>simp only [vw] at h;cases h;simp only [RD] at r;obtain ⟨a,vs,e,z,q⟩:=r;exact ⟨a,vs,e,z.sq,q⟩
 | ref n =>
  simp only [vw] at h
  split at h
  ·rename_i xs hx
   cases h
   simp only [RD] at r
   obtain ⟨a,h1,h2⟩:=r
   obtain ⟨vs,h3,h4⟩:=S.obj n a _ h1 hx
   exact ⟨a,vs,h2,.inl (.inl h3),h4⟩
  ·cases h
  ·cases h
  ·cases h
 | tup _=>simp only [vw] at h;cases h
 | dct _ _=>simp only [vw] at h;cases h
 | ao=>simp only [vw] at h;cases h
 | bl _=>simp only [vw] at h;cases h
 | int _=>simp only [vw] at h;cases h
 | str _=>simp only [vw] at h;cases h
theorem iV {d:D} {v:V} {ds:List D} (S:SR B F ρ M H) (r:RD B F ρ H d v) (h:vw M d=.tup ds):∃ a vs,v=.ref a/\gO B.K H a vs/\ai B F ρ H ds vs:=by
 cases d with
 | tup xs=>simp only [vw] at h;cases h;simp only [RD] at r;obtain ⟨a,vs,e,z,q⟩:=r;exact ⟨a,vs,e,z.sq,q⟩
 | ref n =>
  simp only [vw] at h
  split at h <;> cases h
 | lst _=>simp only [vw] at h;cases h
 | dct _ _=>simp only [vw] at h;cases h
 | ao=>simp only [vw] at h;cases h
 | bl _=>simp only [vw] at h;cases h
 | int _=>simp only [vw] at h;cases h
 | str _=>simp only [vw] at h;cases h
noncomputable def II (B:Bd) (H:Hp) (a:Addr) (kvs:List (Key×V)):Prop:=Rd H a (.dK kvs)\/B.dk a kvs
theorem oY {α β:Type}:∀ (ks:List α) (ds:List β),ks.length=ds.length->(ks.zip ds).map (·.1)=ks/\(ks.zip ds).map (·.2)=ds
 | [],[],_=>⟨rfl,rfl⟩
 | k::ks,d::ds,h=>by
  obtain ⟨a,b⟩:=oY ks ds (by simpa using h)
  simp only [List.zip_cons_cons,List.map_cons,a,b,and_self]
 | [],_::_,h=>by simp at h
 | _::_,[],h=>by simp at h
theorem m9 {d:D} {v:V} {cD:List (Ky×D)} (S:SR B F ρ M H) (r:RD B F ρ H d v) (h:vw M d=.dct cD):∃ a kvs,v=.ref a/\II B H a kvs/\kvs.map (·.1)=cD.map (·.1)/\ai B F ρ H (cD.map (·.2)) (kvs.map (·.2)):=by
 cases d with
 | dct ks ds =>
  simp only [vw] at h;cases h;simp only [RD] at r
  obtain ⟨a,kvs,e,z,q1,q2⟩:=r
  have hl:ks.length=ds.length:=by rw [<- q1,List.length_map,ai.length q2,List.length_map]
  obtain ⟨z1,z2⟩:=oY ks ds hl
  refine ⟨a,kvs,e,?_,by rw [q1,z1],by rw [z2];exact q2⟩
  rcases z with ⟨_,z⟩ | z
  ·exact .inl z
  ·exact .inr z
 | ref n =>
  simp only [vw] at h
  split at h
  ·cases h
  ·rename_i xs hx
   cases h
   simp only [RD] at r
   obtain ⟨a,h1,h2⟩:=r
   obtain ⟨kws,h3,h4,h5⟩:=S.obj n a _ h1 hx
   exact ⟨a,kws,h2,.inl (.inl h3),h4,h5⟩
  ·rename_i xs hx
   cases h
   simp only [RD] at r
   obtain ⟨a,h1,h2⟩:=r
   obtain ⟨o,kws,h3,h4,h5⟩:=S.obj n a _ h1 hx
   exact ⟨a,kws,h2,.inl (.inr ⟨o,h3⟩),h4,h5⟩
  ·cases h
 | tup _=>simp only [vw] at h;cases h
 | lst _=>simp only [vw] at h;cases h
 | ao=>simp only [vw] at h;cases h
 | bl _=>simp only [vw] at h;cases h
 | int _=>simp only [vw] at h;cases h
 | str _=>simp only [vw] at h;cases h
theorem kF {k:Key}:∀ {cD:List (Ky×D)} {kvs:List (Key×V)},kvs.map (·.1)=cD.map (·.1)->ai B F ρ H (cD.map (·.2)) (kvs.map (·.2)) ->
  (∀ d,look cD k=some d->∃ v,cI kvs k=some v/\RD B F ρ H d v)/\(look cD k=none->cI kvs k=none)/\((look cD k).isSome=(cI kvs k).isSome)
 | [],kvs,h1,h2=>by
  have:kvs=[]:=by cases kvs with | nil=>rfl | cons _ _=>simp at h1
  subst this
  exact ⟨fun d h=>by simp [look] at h,fun _=>by simp [cI],by simp [look,cI]⟩
 | (k', d')::cD, kvs, h1, h2=>by
  cases kvs with
  | nil=>simp at h1
  | cons p kvs =>
   obtain ⟨pk,pv⟩:=p
   simp only [List.map_cons,List.cons.injEq] at h1
   simp only [List.map_cons,ai] at h2
   obtain ⟨v,ws,e,r1,r2⟩:=h2
   cases e
   obtain ⟨e1,e2⟩:=h1
   subst e1
   have ih:=kF (k:=k) e2 r2
   by_cases hk:pk=k
   ·subst hk
    simp only [look,cI,List.find?_cons,decide_true]
    exact ⟨fun d h=>by cases h;exact ⟨_,rfl,r1⟩,fun h=>by simp at h,rfl⟩
   ·have hkd:decide (pk=k)=false:=decide_eq_false hk
    simp only [look,cI,List.find?_cons,hkd] at ih ⊢
    exact ih
theorem pF {i:Int} (h:small i=true):-(2 ^ 64)<i/\i<2 ^ 64:=by
 simp only [small,decide_eq_true_eq] at h
 omega
noncomputable def L0 (i j:Int):Prop:=i.natAbs<10 ^ 200/\j.natAbs<10 ^ 200
noncomputable def rStr:R2:=fun x y H Q=>∃ i j,x=.str i/\y=.str j/\i.length+j.length<=sizeLine/\Q (.str (i++j)) H
noncomputable def D0 (K:W.Frag):R2:=fun x y H Q=>∃ l b xs zs,x=.ref l/\y=.ref b/\fK K H l xs/\fK K H b zs/\xs.length+zs.length<=sizeLine/\∀ p,H p=none->Q (.ref p) (upd H p (.lst (xs++zs)))
noncomputable def DX (K:W.Frag):R2:=fun x y H Q=>∃ (l:Addr) (xs:List V) (k:Int),x=.ref l/\y=.int k/\fK K H l xs/\xs.length*k.toNat<=sizeLine/\k.natAbs<=1000000/\∀ p,H p=none->Q (.ref p) (upd H p (.lst (List.replicate k.toNat xs).flatten))
noncomputable def JN (K:W.Frag):Dv->R2
 | .add=>fun x y H Q=>rG (fun i j=>.int (i+j)) x y H Q\/(rStr x y H Q\/(D0 K x y H Q\/DZ K x y H Q))
 | .sub=>rG fun i j=>.int (i-j)
 | .mul=>fun x y H Q=>rI DC (fun i j=>.int (i*j)) x y H Q\/(rI L0 (fun i j=>.int (i*j)) x y H Q\/DX K x y H Q)
 | .fdiv=>rI L1 fun i j=>.int (i / j)
 | .mod=>rI (fun _ j=>0<j) fun i j=>.int (i % j)
 | .pow=>rI LZ fun i j=>.int (i ^ j.toNat)
theorem bO:line<=sizeLine:=by decide
theorem ai.rep {ds:List D} {vs:List V} (r:ai B F ρ H ds vs):∀ k:Nat,ai B F ρ H (List.replicate k ds).flatten (List.replicate k vs).flatten
 | 0=>ai.nil
 | k+1=>by
  rw [List.replicate_succ,List.replicate_succ,List.flatten_cons,List.flatten_cons]
  exact r.append (ai.rep r k)
theorem Cg {o:Dv} {fz:Bool} {x y:D} {v w:V} {X:XK} (S:SR B F ρ M H) (rx:RD B F ρ H x v) (ry:RD B F ρ H y w) (h:Post B (lD o fz M x y) F ρ H Q X):JN B.K o v w H Q:=by
 unfold lD at h
 split at h
 ·rename_i i j
  simp only [RD] at rx ry
  subst rx ry
  cases o with
  | add=>simp only [eN] at h;exact .inl ⟨i,j,rfl,rfl,ah.run h S (by simp only [RD])⟩
  | sub=>simp only [eN] at h;exact ⟨i,j,rfl,rfl,ah.run h S (by simp only [RD])⟩
  | mul =>
   simp only [eN] at h
   split at h
   ·rename_i k hk
    split at hk
    ·rename_i hs
     cases hk
     refine .inl ⟨i,j,rfl,rfl,?_,ah.run h S (by simp only [RD])⟩
     simp only [Bool.or_eq_true] at hs
     rcases hs with hs | hs
     ·exact .inl (pF hs)
     ·exact .inr (pF hs)
    ·split at hk
     ·rename_i hs
      cases hk
      simp only [mid,Bool.and_eq_true,decide_eq_true_eq] at hs
      exact .inr (.inl ⟨i,j,rfl,rfl,hs,ah.run h S (by simp only [RD])⟩)
     ·cases hk
   ·exact h.elim
  | fdiv =>
   simp only [eN] at h
   split at h
   ·rename_i k hk
    split at hk
    ·rename_i hs
     cases hk
     simp only [Bool.and_eq_true,decide_eq_true_eq] at hs
     exact ⟨i,j,rfl,rfl,⟨hs.1,by have:=hs.2;omega⟩,ah.run h S (by simp only [RD])⟩
    ·cases hk
   ·exact h.elim
  | mod =>
   simp only [eN] at h
   split at h
   ·rename_i k hk
    split at hk
    ·rename_i hs
     cases hk
     exact ⟨i,j,rfl,rfl,of_decide_eq_true hs,ah.run h S (by simp only [RD])⟩
    ·cases hk
   ·exact h.elim
  | pow =>
   simp only [eN] at h
   split at h
   ·rename_i k hk
    split at hk
    ·rename_i hs
     cases hk
     simp only [Bool.and_eq_true,decide_eq_true_eq] at hs
     exact ⟨i,j,rfl,rfl,⟨hs.1,hs.2.1,hs.2.2⟩,ah.run h S (by simp only [RD])⟩
    ·cases hk
   ·exact h.elim
 ·rename_i a b
  simp only [RD] at rx ry
  subst rx ry
  cases o with
  | add =>
   simp only at h
   split at h
   ·rename_i hl
    exact .inr (.inl ⟨a,b,rfl,rfl,Nat.le_trans (of_decide_eq_true hl) bO,ah.run h S (by simp only [RD])⟩)
   ·exact h.elim
  | sub=>exact h.elim
  | mul=>exact h.elim
  | fdiv=>exact h.elim
  | mod=>exact h.elim
  | pow=>exact h.elim
 ·cases o with
  | add =>
   simp only at h
   split at h
   ·rename_i xs ys hx hy
    split at h
    ·rename_i hl
     obtain ⟨a,vs,rfl,q1,r1⟩:=bH S rx hx
     obtain ⟨b,ws,rfl,q2,r2⟩:=bH S ry hy
     refine .inr (.inr (.inl ⟨a,b,vs,ws,rfl,rfl,q1,q2,?_,dU S h (r1.append r2)⟩))
     rw [<- ai.length r1,<- ai.length r2]
     exact Nat.le_trans (of_decide_eq_true hl) bO
    ·exact h.elim
   ·rename_i xs ys hx hy
    split at h
    ·rename_i hl
     simp only [Bool.and_eq_true,Bool.not_eq_true',decide_eq_true_eq] at hl
     cases x with
     | tup xs' =>
      simp only [vw] at hx;cases hx
      simp only [RD] at rx
      obtain ⟨a,vs,rfl,z1,r1⟩:=rx
      obtain ⟨b,ws,rfl,q2,r2⟩:=iV S ry hy
      refine .inr (.inr (.inr ⟨a,b,vs,ws,rfl,rfl,z1.sq,q2,?_,?_,fun e=>?_,fun _=>jU S h (r1.append r2)⟩))
      ·rintro rfl
       have:=ai.length r1
       cases xs with
       | nil=>simp at hl
       | cons _ _=>simp at this
      ·rw [<- ai.length r1,<- ai.length r2]
       exact Nat.le_trans hl.2 bO
      ·refine ah.run h S ?_
       simp only [RD]
       refine ⟨a,vs,rfl,z1,?_⟩
       have:=r1.append r2
       rw [e,List.append_nil] at this
       exact this
     | ref n=>simp only [vw] at hx;split at hx <;> cases hx
     | lst _=>simp only [vw] at hx;cases hx
     | dct _ _=>simp only [vw] at hx;cases hx
     | ao=>simp only [vw] at hx;cases hx
     | bl _=>simp only [vw] at hx;cases hx
     | int _=>simp only [vw] at hx;cases hx
     | str _=>simp only [vw] at hx;cases hx
    ·exact h.elim
   ·exact h.elim
  | sub=>exact h.elim
  | mul =>
   simp only at h
   split at h
   ·rename_i xs k hx _ _
    split at h
    ·rename_i hl
     simp only [Bool.and_eq_true,decide_eq_true_eq] at hl
     obtain ⟨a,vs,rfl,q1,r1⟩:=bH S rx (by assumption)
     simp only [RD] at ry
     subst ry
     refine .inr (.inr ⟨a,vs,k,rfl,rfl,q1,?_,hl.2,dU S h (ai.rep r1 _)⟩)
     rw [<- ai.length r1]
     exact Nat.le_trans hl.1 bO
    ·exact h.elim
   ·exact h.elim
  | fdiv=>exact h.elim
  | mod=>exact h.elim
  | pow=>exact h.elim
theorem Fl {o:Dv} {fz:Bool} {a b:Fg.E} (h:T B Φ E (.op o fz a b) σ H Q):E3 (JN B.K o) (T B Φ E a) (T B Φ E b) σ H Q:=by
 obtain ⟨σD,M,F,ρ,S,r,h⟩:=h
 simp only [ev] at h
 exact T.two S r rfl h fun x y M2 F2 ρ2 H2 v w S2 _ rx ry h2=>Cg S2 rx ry h2
theorem Bt {a:Fg.E} (h:T B Φ E (.neg a) σ H Q):tUn (rU fun i=>.int (-i)) (T B Φ E a) σ H Q:=by
 obtain ⟨σD,M,F,ρ,S,r,h⟩:=h
 simp only [ev] at h
 refine T.one S r rfl h fun x M1 F1 ρ1 H1 v e1 S1 r1 rx h1=>?_
 split at h1
 ·simp only [RD] at rx;subst rx
  exact ⟨_,rfl,ah.run h1 S1 (by simp only [RD])⟩
 ·exact h1.elim
end
end Fg
end
section
namespace Fg
open PySem PySem.Spec L2
noncomputable def Up (B:Heap) (l:List Env) (a:Addr) (C a0:Value) (h:Heap):Prop:=B.StaysIn h/\B.get? a=none/\h.FunFrames B l/\∃ fl,h.TracedAtW B a C a0 fl
theorem Up.GF {B h:Heap} {l:List Env} {a:Addr} {C a0:Value} (x:Heap.FlyingW B l a C a0 h):Up B l a C a0 h:=⟨x.1,x.2.1,x.2.2.1,_,x.2.2.2.at⟩
theorem Up.ur {B h:Heap} {l:List Env} {a L:Addr} {C a0:Value} (x:Heap.HeldW B l a C a0 L h):Up B l a C a0 h:=⟨x.1,x.2.1,x.2.2.1,_,x.2.2.2⟩
theorem nI {e:Value} {env env':Env} (h:env.frame=env'.frame):noteFrame e env=noteFrame e env':=by
 unfold noteFrame frameOf
 rw [h]
section
variable {M:Model} {A:Around} {E:Value->Shared->Prop} {s:Shared} {B:Heap} {env:Env} {outer:List Env} {L a:Addr} {C a0:Value}
theorem Up.note {Q:Unit->Shared->Prop} (hfr:A.frames=some (env::outer)) (hf:env.frame=some L) (up:Up B (env::outer) a C a0 s.heap) (k:∀ h',Heap.HeldW B (env::outer) a C a0 L h'->s.heap.UpToSlots h'->Q () { s with heap:=h' }) :
  wpAny M A (noteFrame (.ref a) env) Q E s:=by
 obtain ⟨st,ne,hl,fl,oe,vs,T,oT,ts,q1,⟨q2,D3⟩,q3,q4,q5,q6,q7,q8,q9⟩:=up
 by_cases same:(fl == rawInt L)=true
 ·have e:fl=rawInt L:=by simpa using same
  subst e
  exact wpAny_noteFrame_againW hf ⟨oe,vs,T,oT,ts,q1,⟨q2,D3⟩,q3,q4,q5,q6,q7,q8,q9⟩ (k s.heap ⟨st,ne,hl,oe,vs,T,oT,ts,q1,⟨q2,D3⟩,q3,q4,q5,q6,q7,q8,q9⟩ (Heap.UpToSlots.refl _))
 ·subst q2
  unfold noteFrame
  simp only [hf]
  refine wpAny_bind (wpAny_field q1 q3 q4 ?_)
  rw [if_pos (by simp)]
  refine wpAny_bind (wpAny_field q7 q8 q9 ?_)
  rw [if_neg same]
  refine wpAny_bind (wpAny_setField q7 q8 (Array.getElem?_eq_some_iff.mp q9).1 ?_)
  have uh:∀ b,b≠T->(s.heap.update T (Obj.mapFields (·.setIfInBounds 3 Value.none))).get? b=s.heap.get? b:=fun b hb=>Heap.get?_update_other _ _ fun z=>hb z.symm
  have pW:∀ b o,s.heap.get? b=some o->(∀ vs,o.data≠.fields vs)->b≠T:=fun b o hb hn z=>by
   subst z;rw [q7] at hb;cases hb;exact hn ts q8
  refine wpAny_entryW (base:=B) (a0:=a0) hfr ?_ hf ?_ ?_ ne q3 (Array.getElem?_eq_some_iff.mp q4).1 D3 fun h' nw=>?_
  ·exact hl.of_keeps fun b o hb hn=>⟨o,by rw [uh b (pW b o hb hn),hb],rfl⟩
  ·rw [uh a fun z=>q6 z.symm];exact q1
  ·intro b o e
   rw [uh b (by rintro rfl;rw [q5] at e;cases e)]
   exact st b o e
  ·obtain ⟨x1,x2,x3,x4⟩:=nw
   exact k h' ⟨x1,ne,x2,x3⟩ fun b o hb hn=>x4 b o (by rw [uh b (pW b o hb hn),hb]) hn
theorem Up.leave {Q:Unit->Shared->Prop} (hfr:A.frames=some (env::outer)) (hf:env.frame=some L) (up:Up B (env::outer) a C a0 s.heap) (k:∀ h',Heap.FlyingW B outer a C a0 h'->s.heap.UpToSlots h'->Q () { s with heap:=h' }) :
  wpAny M A (leaving env (.ref a)) Q E s :=
 wpAny_bind (up.note hfr hf fun h4 held xU=>wpAny_landsW held fun h5 fl Bh=>k h5 ⟨fl.1,fl.2.1,fl.2.2.1.2.2,fl.2.2.2⟩ (xU.trans Bh))
end
end Fg
end
section
namespace Fg
open PySem PySem.Spec L2
open PyProof.Rows (AllBare envOfC)
theorem mw {P:Program} {w:World} {H:Hp} {h:Heap} {a:Addr} {o:HO} (x:bh P w H h a o):∃ ob,h.get? a=some ob:=by
 cases o with
 | lst xs=>obtain ⟨_,_,_,_,e⟩:=x;exact ⟨_,e⟩
 | tup xs=>obtain ⟨_,_,_,_,e,_⟩:=x;exact ⟨_,e⟩
 | dK kvs=>obtain ⟨_,_,_,_,o,_,_,e,_⟩:=x;exact ⟨_,e⟩
 | dT kvs=>obtain ⟨_,_,_,_,o,_,_,e,_⟩:=x;exact ⟨_,e⟩
 | set S n=>obtain ⟨o,_,_,_,e,_⟩:=x;exact ⟨_,e⟩
 | ins C dx fs=>obtain ⟨_,_,_,e,_⟩:=x;exact ⟨_,e⟩
 | own y=>obtain ⟨_,e⟩:=x;exact ⟨_,e⟩
 | xd fs=>obtain ⟨_,⟨_,_,_,e,_⟩,_⟩:=x;exact ⟨_,e⟩
 | g8 lo hi=>obtain ⟨_,_,_,e⟩:=x;exact ⟨_,e⟩
 | gh ob u=>obtain ⟨e,_⟩:=x;exact ⟨_,e⟩
 | DI ps=>exact ⟨_,(show h.get? a=some _ from x)⟩
 | met f y=>exact ⟨_,(show h.get? a=some _ from x)⟩
 | ext φ=>obtain ⟨_,⟨_,e⟩,_⟩:=x;exact ⟨_,e⟩
noncomputable def Calm (B:Heap) (fr ex:List Addr) (H:Hp) (h₀:Heap):Prop:=∀ b,(H b≠none\/(∃ o,h₀.get? b=some o)/\b∉ex)->b∉fr->∃ o,B.get? b=some o
theorem Calm.at {B h:Heap} {fr ex:List Addr} {H:Hp} {h₀:Heap} (c:Calm B fr ex H h₀) (st:B.StaysIn h) {b:Addr} {o:Obj} (e:h.get? b=some o) (q:H b≠none\/(∃ o,h₀.get? b=some o)/\b∉ex) (hf:b∉fr):B.get? b=some o:=by
 obtain ⟨o',e'⟩:=c b q hf
 have:=st _ _ e'
 rw [e] at this;cases this
 exact e'
noncomputable def g9 (P:Program) (w:World):AU:=fun outer H s E e s'=>∃ (H':Hp) (a:Addr) (a0 C:Value) (B:Heap),e=.ref a/\s'.os=s.os/\AllBare s'.gens/\Un (frs outer) [] H H' s.heap s'.heap/\gC P w H' s'.heap /\
 Heap.FlyingW B outer a C a0 s'.heap/\Calm B (frs outer) [] H' s.heap/\E C none H'
noncomputable def iU (X:Cx) (E:XS) (e:Value) (s:Shared):Prop:=∃ (pins:List (Addr×Obj)) (σ:St) (H:Hp) (a:Addr) (a0 C:Value) (B:Heap),e=.ref a/\Inv X pins σ H s /\
 Up B X.stack a C a0 s.heap/\Calm B (frs X.stack) X.ex H X.s₀.heap/\(∀ p∈X.pn,B.get? p.1=some p.2)/\E C none σ H
noncomputable def EU (X:Cx) (E:XS) (e:Value) (s:Shared):Prop:=∃ (pins:List (Addr×Obj)) (σ:St) (H:Hp) (a:Addr) (C:Value) (vs:List Value) (h:Heap),e=.ref a/\Inv X pins σ H { s with heap:=h }/\Heap.MadeExcOf h s.heap a C vs/\E C none σ H
theorem nY {fs fr ex:List Addr} {H₀ H H₁:Hp} {h₀ h h' B:Heap} (u:Un fs ex H₀ H h₀ h) (fJ:Calm B fr ex H₁ h₀) (jI:B.StaysIn h) (st:B.StaysIn h') (sm:∀ b∈fr,∀ o,h.get? b=some o->∃ sl,h'.get? b=some { o with slots:=sl })
  (frd:∀ b∈fr,b<h₀.objs.size->b∈fs):Un fs ex H₀ H h₀ h' where
 keep:=fun b o e n0 hb hx=>st _ _ (fJ.at jI (u.keep b o e n0 hb hx) (.inr ⟨⟨_,e⟩,hx⟩) fun z=>hb (frd b z (Heap.lt_size e)))
 slot:=fun b o e n0 hb hx=>by
  obtain ⟨sl,e1⟩:=u.slot b o e n0 hb hx
  by_cases z:b∈fr
  ·obtain ⟨DQ,e2⟩:=sm b z _ e1
   exact ⟨DQ,e2⟩
  ·exact ⟨sl,st _ _ (fJ.at jI e1 (.inr ⟨⟨_,e⟩,hx⟩) z)⟩
 free:=u.free
 there:=fun b o e hx=>by
  obtain ⟨o',e1⟩:=u.there b o e hx
  by_cases z:b∈fr
  ·obtain ⟨DQ,e2⟩:=sm b z _ e1
   exact ⟨_,e2⟩
  ·exact ⟨_,st _ _ (fJ.at jI e1 (.inr ⟨⟨_,e⟩,hx⟩) z)⟩
 tups:=u.tups
 gq:=u.gq
 ic:=u.ic
theorem j3 {P:Program} {w:World} {fr ex:List Addr} {H:Hp} {h₀ h h' B:Heap} (k:gC P w H h) (fJ:Calm B fr ex H h₀) (jI:B.StaysIn h) (st:B.StaysIn h') (free:∀ b∈fr,H b=none):gC P w H h':=fun a o e =>
 (k a o e).stay (fun b u hb e'=>by
  have tr:H b≠none:=by
   rcases hb with rfl | hb
   ·rw [e];simp
   ·rw [hb];simp
  exact st _ _ (fJ.at jI e' (.inl tr) fun z=>tr (free b z))) (fun _ q=>q) fun _ _ q=>q
section
variable {X:Cx} {pins:List (Addr×Obj)} {σ:St} {H:Hp} {s:Shared}
theorem qi (I:Inv X pins σ H s):∀ b∈frs X.stack,∀ o,s.heap.get? b=some o->∀ vs,o.data≠.fields vs:=fun b hb o e vs=>by
 obtain ⟨_,o',e',d⟩:=I.stack.mem hb
 rw [e] at e';cases e'
 exact d vs
theorem sr {h':Heap} (I:Inv X pins σ H s) (sm:s.heap.UpToSlots h'):∀ b∈frs X.stack,∀ o,s.heap.get? b=some o->∃ sl,h'.get? b=some { o with slots:=sl }:=fun b hb o e=>sm b o e (qi I b hb o e)
theorem nX (I:Inv X pins σ H s):∀ b∈frs X.stack,b<X.s₀.heap.objs.size->b∈X.fs:=fun b hb hl=>by
 rcases List.mem_cons.mp (I.eE b hb) with e | z
 ·subst e;exact absurd (Nat.lt_of_lt_of_le hl I.ok.above) (Nat.lt_irrefl _)
 ·exact z
theorem gg (I:Inv X pins σ H s) {b:Addr} {o:Obj} (e:X.s₀.heap.get? b=some o) (hx:b∉X.ex):∃ o',s.heap.get? b=some o':=I.base.there b o e hx
theorem passes {E:XS} (hx:∀ e s,iU X E e s->X.xe e s) (pins:List (Addr×Obj)) (σ:St) (H:Hp) (s:Shared) (e:Value) (s':Shared) (I:Inv X pins σ H s) (q:g9 X.prog X.w X.stack H s (fun cv x H'=>E cv x σ H') e s'):X.xe e s':=by
 obtain ⟨H',a,a0,C,B,rfl,os,bare,un,hok,fl,fJ,q⟩:=q
 have I':=I.AE (ch:=[]) os un hok bare (fun b z=>absurd z (by simp))
 refine hx _ _ ⟨pins,σ,H',a,a0,C,B,rfl,I',.GF fl,fun b hb hf=>fJ b (hb.imp id fun ⟨⟨o,z⟩,n⟩=>⟨gg I z n,by simp⟩) hf,fun p hp=>?_,q⟩
 obtain ⟨p1,p2,p3,p4,_⟩:=I'.pin p (List.mem_append_left _ hp)
 refine fJ.at fl.1 p1 (.inr ⟨⟨_,(I.pin p (List.mem_append_left _ hp)).1⟩,by simp⟩) fun z=>?_
 rcases List.mem_cons.mp (I.eE _ z) with e | z
 ·exact p3 e
 ·exact p4 z
end
section
variable {P:Program} {w:World} {K:W.Frag} {mg:Str->Option Value} {base:Heap} {N:List Str} {qual:Str} {scope:Scope} {f:Addr} {cd:Value} {A:Around} {outer:List Env} {s:Shared} {H:Hp} {E:XK}
theorem qh (b:Addr) (h:b∈frs (envOfC qual scope s.heap.objs.size f cd::outer)):b=s.heap.objs.size\/b∈frs outer:=by
 unfold frs at h
 rw [List.filterMap_cons] at h
 exact List.mem_cons.mp h
theorem zb {pins:List (Addr×Obj)} {σ:St} {H':Hp} {s':Shared} {a:Addr} {a0 C:Value} {B h':Heap} (I:Inv (iQ (g9 P w) P w K mg base N qual scope f cd A outer s H E) pins σ H' s') (jI:B.StaysIn s'.heap) (fJ:Calm B (frs (envOfC qual scope s.heap.objs.size f cd::outer)) [] H' s.heap)
  (q:E C none H') (CM:Heap.FlyingW B outer a C a0 h') (sm:s'.heap.UpToSlots h'):g9 P w outer H s E (.ref a) { s' with heap:=h' }:=by
 refine ⟨H',a,a0,C,B,rfl,I.os,I.bare,nY I.base fJ jI CM.1 (sr I sm) (nX I),j3 I.hok fJ jI CM.1 I.gb,CM,fun b hb hf=>fJ b hb fun z=>?_,q⟩
 rcases qh b z with e | z
 ·subst e
  rcases hb with hb | ⟨⟨o,hb⟩,_⟩
  ·exact hb I.free
  ·exact absurd (Heap.lt_size hb) (Nat.lt_irrefl _)
 ·exact hf z
theorem wc (e:Value) (s':Shared) (q:iU (iQ (g9 P w) P w K mg base N qual scope f cd A outer s H E) (fun cv x _ H'=>E cv x H') e s'):(iQ (g9 P w) P w K mg base N qual scope f cd A outer s H E).xe e s':=by
 obtain ⟨pins,σ,H',a,a0,C,B,rfl,I,up,fJ,_,q⟩:=q
 exact up.leave (L:=s.heap.objs.size) I.ok.frames rfl fun h' CM sm=>zb I up.1 fJ q CM sm
theorem leave_new (e:Value) (s':Shared) (q:EU (iQ (g9 P w) P w K mg base N qual scope f cd A outer s H E) (fun cv x _ H'=>E cv x H') e s'):(iQ (g9 P w) P w K mg base N qual scope f cd A outer s H E).xe e s':=by
 obtain ⟨pins,σ,H',a,C,vs,h,rfl,I,made,q⟩:=q
 have hin:∀ env∈(envOfC qual scope s.heap.objs.size f cd::outer),∀ b,env.frame=some b->b∈frs (envOfC qual scope s.heap.objs.size f cd::outer):=fun env he b hb=>List.mem_filterMap.mpr ⟨env,he,hb⟩
 refine wpAny_leaves_madeW (base:=W.hideAll h (frs (envOfC qual scope s.heap.objs.size f cd::outer))) I.ok.frames rfl (fun b o q=>W.of_hideAll _ q) (W.funFrames_hide I.stack hin) made fun h' t CM tup tn sm=>?_
 have jI:(W.hideAll h (frs (envOfC qual scope s.heap.objs.size f cd::outer))).StaysIn h:=fun b o q=>W.of_hideAll _ q
 have fJ:Calm (W.hideAll h (frs (envOfC qual scope s.heap.objs.size f cd::outer))) (frs (envOfC qual scope s.heap.objs.size f cd::outer)) [] H' s.heap:=fun b hb hf=>by
  have:∃ o,h.get? b=some o:=by
   rcases hb with hb | ⟨⟨o,hb⟩,_⟩
   ·cases e:H' b with
    | none=>exact absurd e hb
    | some o=>exact mw (I.hok b o e)
   ·exact gg I hb (by simp [iQ])
  obtain ⟨o,e⟩:=this
  exact ⟨o,W.hideAll_get _ e hf⟩
 have sm':h.UpToSlots h':=(Heap.UpToSlots.of_keeps made.keeps).trans sm
 refine ⟨H',a,_,C,_,rfl,I.os,I.bare,nY I.base fJ jI CM.1 (sr I sm') (nX I),j3 I.hok fJ jI CM.1 I.gb,CM,fun b hb hf=>fJ b hb fun z=>?_,q⟩
 rcases qh b z with e | z
 ·subst e
  rcases hb with hb | ⟨⟨o,hb⟩,_⟩
  ·exact hb I.free
  ·exact absurd (Heap.lt_size hb) (Nat.lt_irrefl _)
 ·exact hf z
end
end Fg
end
section
namespace Fg
open PySem PySem.Spec L2
open PyProof.Rows (AllBare envOfC)
noncomputable def qK (K:W.Frag) (C:Addr) (bmB:List Value) (newId:String) (bm:List Value):Prop :=
 ∃ nm q N bs hdct sn sub ab col dd k0 k1 k2 k3 k5, K.lookup C=some (excClassObj nm q C N bs bm hdct sn sub ab col dd k0 k1 k2 k3 k5 newId)/\W.nsOkIn K N=true/\W.nsIn K N "__init__" = some none/\W.tailIn K bmB bm=true
variable {X:Cx} {E:XS}
theorem p5 {x:Str} {C:Addr} {B newId initId:String} {bmB bm:List Value} {a:Expr} {t:TA} {np cpos pos:Pos} (hm:X.mg x=some (.ref C)) (hk:X.env.kindOf x=some .globalImplicit) (hd:(x == ("__debug__" : Str))=false)
  (EC:qK X.K C bmB newId bm) (FB:ExcBaseFacts B newId initId bmB) (calm:X.calm=true) (hs:starEach [a] X.env=[(false,eval a X.env)]) (ha:PA X [a] t) (hx:∀ e s,EU X E e s->X.xe e s) :
  PS X (.Raise (some (.Call (.Name x np) [a] [] cpos)) none pos) (fun D σ H=>t σ H fun vs H1=>vs.length<=sizeLine/\E (.ref C) none σ H1):=by
 obtain ⟨nm,q,N,bs,hdct,sn,sub,ab,col,dd,k0,k1,k2,k3,k5,lk,ok,ni,tl⟩:=EC
 intro pins s σ H D I ht
 have tail:∀ {h:Heap},X.K.In h->PySem.OwnTail h bmB bm:=fun KX=>W.tail_of_in KX tl
 refine wpAny_Raise_call_subT (C:=C) (nm:=nm) (q:=q) (N:=N) (bs:=bs) (bm:=bm) (hdct:=hdct) (sn:=sn) (sub:=sub) (ab:=ab) (col:=col) (dd:=dd) (k0:=k0) (k1:=k1) (k2:=k2) (k3:=k3) (k5:=k5) FB (mN:=X.base.nsMap N)
  ((tail I.gS).hasType FB.hasBase) (I.ok.hd calm) (by rw [hs];rfl) (W.nsMap_none_of_in I.mod.Cu ok ni)
  (Calls.Name_function_global I.ok.kind hk (Calls.loadGlobal_global (by rw [I.ok.glob];exact I.mod.glob.keeps I.bk) hm ⟨rfl,?_⟩) hd)
 have z:=ha cpos pins s σ H _ I ht
 rw [hs] at z ⊢
 refine Calls.evalArgs_plain (bq z fun us s2 y=>?_)
 obtain ⟨vs,H1,I1,r,hl,q⟩:=y
 refine ⟨rfl,by rw [<- r.length];exact hl,I1.gS _ _ lk,(Heap.Ns.of_isNs (W.isNs_of_in I.mod.Cu ok)).keeps I1.bk,tail I1.gS,fun h' e made=>hx _ _ ⟨pins,σ,H1,e,.ref C,us,s2.heap,rfl,I1,made,q⟩⟩
end Fg
end
section
namespace Fg
open PySem PySem.Spec L2
noncomputable abbrev gy (X:Cx) (pins:List (Addr×Obj)):Cx:={ X with pn:=X.pn++pins }
theorem tu {X:Cx} {pins:List (Addr×Obj)} (ok:X.Ok):(gy X pins).Ok :=
 ⟨ok.mod,ok.kind,ok.glob,ok.blt,ok.above,ok.inj,ok.has,ok.EN,ok.hd,ok.frames,ok.stk,ok.K7,ok.bs,ok.wX,ok.p7,ok.sA,ok.gp,ok.zO⟩
theorem oR {X:Cx} {pins:List (Addr×Obj)} (ok:(gy X pins).Ok):X.Ok :=
 ⟨ok.mod,ok.kind,ok.glob,ok.blt,ok.above,ok.inj,ok.has,ok.EN,ok.hd,ok.frames,ok.stk,ok.K7,ok.bs,ok.wX,ok.p7,ok.sA,ok.gp,ok.zO⟩
section
variable {X:Cx} {pins kC:List (Addr×Obj)} {σ:St} {H:Hp} {s:Shared}
theorem zF (I:Inv X pins σ H s):Inv (gy X pins) [] σ H s:=⟨tu I.ok,I.os,I.bare,I.base,I.loc,I.cell,I.free,I.cu,fun p hp=>I.pin p (by simpa using hp),I.hok,I.len⟩
theorem eV (I:Inv (gy X pins) kC σ H s):Inv X pins σ H s:=⟨oR I.ok,I.os,I.bare,I.base,I.loc,I.cell,I.free,I.cu,fun p hp=>I.pin p (List.mem_append_left _ hp),I.hok,I.len⟩
theorem lZ {D:Ends} {f:Flow} {s':Shared} (h:SP (gy X pins) kC D f s'):SP X pins D f s':=by
 cases f with
 | next=>obtain ⟨σ',H',I,q⟩:=h;exact ⟨σ',H',eV I,q⟩
 | brk=>obtain ⟨σ',H',I,q⟩:=h;exact ⟨σ',H',eV I,q⟩
 | cont=>obtain ⟨σ',H',I,q⟩:=h;exact ⟨σ',H',eV I,q⟩
 | ret u=>obtain ⟨v,σ',H',I,r,q⟩:=h;exact ⟨v,σ',H',eV I,r,q⟩
theorem j0 {B h':Heap} (I:Inv X pins σ H s) (fJ:Calm B (frs X.stack) X.ex H X.s₀.heap) (hp:∀ p∈X.pn,B.get? p.1=some p.2) (jI:B.StaysIn s.heap) (st:B.StaysIn h') (sm:s.heap.UpToSlots h'):Inv X [] σ H { s with heap:=h' }:=by
 have cel:∀ c v,s.heap.IsCell c v->h'.IsCell c v:=fun c v ⟨o,e,d⟩=>by
  obtain ⟨sl,e'⟩:=sm c o e (fun vs z=>by rw [d] at z;cases z)
  exact ⟨_,e',d⟩
 refine ⟨I.ok,I.os,I.bare,nY I.base fJ jI st (sr I sm) (nX I),?_,fun x c e=>?_,I.free,I.cu,fun p q=>?_,j3 I.hok fJ jI st I.gb,I.len⟩
 ·obtain ⟨m,hn,hv⟩:=I.loc
  refine ⟨m,sm.ns hn,fun i x v h1 h2 h3=>?_⟩
  obtain ⟨u,r,lk⟩:=hv i x v h1 h2 h3
  refine ⟨u,r,lk.imp id fun ⟨z,c,h4,h5⟩=>⟨z,c,h4,cel _ _ h5⟩⟩
 ·obtain ⟨v,h5⟩:=I.cell x c e
  exact ⟨v,cel _ _ h5⟩
 ·have q':p∈X.pn:=by simpa using q
  obtain ⟨_,p2⟩:=I.pin p (List.mem_append_left _ q')
  exact ⟨st _ _ (hp p q'),p2⟩
end
noncomputable abbrev suite (X:Cx) (e:Value):Cx:={ X with A:=X.A.mark (some e),calm:=false,xe:=fun _ _=>False }
section
variable {X:Cx} {pins kC:List (Addr×Obj)} {σ:St} {H:Hp} {s:Shared} {e:Value}
theorem xK (ok:X.Ok):(suite X e).Ok :=
 ⟨ok.mod,ok.kind,ok.glob,ok.blt,ok.above,ok.inj,ok.has,ok.EN,(fun z=>by cases z),ok.frames,ok.stk,ok.K7,ok.bs,ok.wX,ok.p7,ok.sA,ok.gp,ok.zO⟩
theorem wu (I:Inv X pins σ H s):Inv (suite X e) pins σ H s:=⟨xK I.ok,I.os,I.bare,I.base,I.loc,I.cell,I.free,I.cu,I.pin,I.hok,I.len⟩
theorem dj (ok:X.Ok) (I:Inv (suite X e) pins σ H s):Inv X pins σ H s:=⟨ok,I.os,I.bare,I.base,I.loc,I.cell,I.free,I.cu,I.pin,I.hok,I.len⟩
theorem qX (ok:X.Ok) {D:Ends} {f:Flow} {s':Shared} (h:SP (suite X e) pins D f s'):SP X pins D f s':=by
 cases f with
 | next=>obtain ⟨σ',H',I,q⟩:=h;exact ⟨σ',H',dj ok I,q⟩
 | brk=>obtain ⟨σ',H',I,q⟩:=h;exact ⟨σ',H',dj ok I,q⟩
 | cont=>obtain ⟨σ',H',I,q⟩:=h;exact ⟨σ',H',dj ok I,q⟩
 | ret u=>obtain ⟨v,σ',H',I,r,q⟩:=h;exact ⟨v,σ',H',dj ok I,r,q⟩
end
section
variable {M:Model} {A:Around} {E:Value->Shared->Prop} {nm q:Str} {C N:Addr} {bs bm:List Value} {hdct:Bool} {sn:List Str} {sub:List Value} {ab:Bool} {col:Option Bool} {dd:Option Addr} {k0 k1 k2 k3 k5:Option Value} {newId:String}
 {nm' q':Str} {C' N':Addr} {bs' bm':List Value} {Ek:Bool} {sn':List Str} {sub':List Value} {ab':Bool} {col':Option Bool} {De:Option Addr} {l0 l1 l2 l3 l5:Option Value} {newId':String}
theorem qw {h:Heap} {g:Array GenState} {d:Drawn} {t:Nat} {os:OsState} {e:Addr} {oe:Obj} {b:Bool} {Q:Bool->Shared->Prop}
  (hC:h.get? C=some (excClassObj nm q C N bs bm hdct sn sub ab col dd k0 k1 k2 k3 k5 newId)) (hD:h.get? C'=some (excClassObj nm' q' C' N' bs' bm' Ek sn' sub' ab' col' De l0 l1 l2 l3 l5 newId')) (he:h.get? e=some oe) (hcls:oe.cls=.ref C)
  (hb':(Value.ref C'::bm').contains (.type "BaseException")=true) (hb:(Value.ref C::bm).contains (.ref C')=b) (hq:Q b ⟨h, g, d, t, os⟩):wpAny M A (excMatches (.ref e) (.ref C')) Q E ⟨h, g, d, t, os⟩:=by
 have f:=tc_notTuple
 unfold excMatches
 repeat (first | (with_reducible refine wpAny_loadPart_at he ?_;rw [hcls]) | with_reducible refine wpAny_loadPart_at hD ?_ | (with_reducible refine wpAny_isSubtype_exc hD ?_;rw [hb']) | (with_reducible refine wpAny_isSubtype_exc hC ?_;rw [hb]) | wp_step)
 cases b <;> (wp_walk;exact hq)
end
noncomputable def pick (mro:List Value):List (Addr×TS)->Option TS
 | []=>none
 | (C',t)::r=>if mro.contains (.ref C') then some t else pick mro r
noncomputable def EH (K:W.Frag) (rs:List (Addr×TS)) (D:Ends):XS:=fun cv x σ H=>∃ C bmB newId bm t,cv=.ref C/\qK K C bmB newId bm/\pick (.ref C::bm) rs=some t/\t D σ H
inductive PH (X:Cx):List ExceptHandler->List (Addr×TS)->Prop
 | nil:PH X [] []
 | cons {x:Str} {C':Addr} {bmB:List Value} {newId:String} {bm:List Value} {b₀:Stmt} {b:List Stmt} {t:TS} {np pos:Pos} {hs:List ExceptHandler} {rs:List (Addr×TS)} :
   X.mg x=some (.ref C')->Gl X x->(x == ("__debug__" : Str))=false->qK X.K C' bmB newId bm->bm.contains (.type "BaseException")=true->(∀ e, j8 (suite X e) (b₀::b) t)->PH X hs rs ->
   PH X (.ExceptHandler (some (.Name x np)) none (b₀::b) pos::hs) ((C',t)::rs)
theorem handle {X:Cx} {hs:List ExceptHandler} {rs:List (Addr×TS)} (ph:PH X hs rs) {C a:Addr} {a0:Value} {B:Heap} {bmB:List Value} {newId:String} {bm:List Value} {t:TS} {D:Ends} {σ:St} {H:Hp} {s:Shared} (EC:qK X.K C bmB newId bm) (pk:pick (.ref C::bm) rs=some t)
  (I:Inv X [] σ H s) (fl:Heap.FlyingW B X.stack a (.ref C) a0 s.heap) (fJ:Calm B (frs X.stack) X.ex H X.s₀.heap) (hp:∀ p∈X.pn,B.get? p.1=some p.2) (ht:t D σ H) :
  wpAny (model X.prog X.w) X.A (handleBy (.ref a) X.env hs) (SP X [] D) X.xe s:=by
 induction ph with
 | nil=>cases pk
 | cons hm hg hd EC' hb' hsu ph ih =>
  obtain ⟨hp',g,d,tk,os⟩:=s
  obtain ⟨oe,Ej,hcl⟩:=fl.there
  obtain ⟨nm,q,N,bs,hdct,sn,sub,ab,col,dd,k0,k1,k2,k3,k5,lk,_⟩:=EC
  obtain ⟨nm',q',N',bs',Ek,sn',sub',ab',col',De,l0,l1,l2,l3,l5,lk',_⟩:=EC'
  refine wpAny_handleBy_cons (codeAny_handlers_test (Calls.Name_function_global I.ok.kind hg (Calls.loadGlobal_global (by rw [I.ok.glob];exact I.mod.glob.keeps I.bk) hm ?_) hd)) (by intro q;cases q)
  refine qw (I.gS _ _ lk) (I.gS _ _ lk') Ej hcl (by rw [List.contains_cons,hb',Bool.or_true]) rfl ?_
  simp only [pick] at pk
  cases hc:(Value.ref C::bm).contains (.ref _) with
  | true =>
   rw [hc] at pk
   simp only [if_true,Option.some.injEq] at pk
   subst pk
   refine codeAny_handlers_suite (PyProof.Rows.lands_againW fl fun h6 fl6 sm6=>?_)
   have I6:=j0 I fJ hp fl.1 fl6.1 sm6
   exact wpAny_mono (hsu (.ref a) [] _ σ H D (wu I6) ht) (fun f s2 z=>qX I.ok z) fun _ _ z=>z.elim
  | false =>
   rw [hc] at pk
   exact ih pk
theorem FQ {X:Cx} {body:List Stmt} {h₀:ExceptHandler} {hs:List ExceptHandler} {pos:Pos} {rs:List (Addr×TS)} {t:Ends->TS} (stk:X.stack=X.env::X.outer) (hf:X.env.frame=some X.env.locals)
  (hb:∀ pins D,j8 ((gy X pins).bL (iU (gy X pins) (EH X.K rs D))) body (t D)) (ph:∀ pins,PH (gy X pins) (h₀::hs) rs):PS X (.Try body (h₀::hs) [] [] pos) (fun D σ H=>t D D σ H):=by
 intro pins s σ H D I ht
 refine wpAny_Try_except (wpAny_mono (hb pins D [] s σ H D ((zF I).bL _) ht) (fun f s1 z=>?_) fun e s1 z=>?_)
 ·have z':=lZ (SP.bw z)
  cases f with
  | next=>exact wpAny_execs_nil z'
  | brk=>exact z'
  | cont=>exact z'
  | ret u=>exact z'
 ·obtain ⟨kC,σ1,H1,a,a0,cv,B,rfl,I1,fl,fJ,hp,C,bmB,newId,bm,tt,rfl,EC,pk,hts⟩:=z
  have go:∀ h5,Heap.FlyingW B (X.env::X.outer) a (.ref C) a0 h5->s1.heap.UpToSlots h5->wpAny (model X.prog X.w) X.A (handleBy (.ref a) X.env (h₀::hs)) (SP X pins D) X.xe { s1 with heap:=h5 }:=fun h5 MK Bh=>by
   have I5:=j0 I1 fJ hp fl.1 MK.1 Bh
   exact wpAny_mono (handle (ph pins) EC pk I5 (by show Heap.FlyingW B X.stack _ _ _ _;rw [stk];exact MK) fJ hp hts) (fun f s2 z=>lZ z) fun _ _ z=>z
  exact Up.note (L:=X.env.locals) (env:=X.env) (outer:=X.outer) (by rw [I.ok.frames,stk]) hf (by rw [<- stk];exact fl) fun h4 held xU=>wpAny_landsW held fun h5 MK Bh=>go h5 MK (xU.trans Bh)
end Fg
end
section
namespace Fg
open PySem PySem.Spec L2
theorem Up.pass {M:Model} {A:Around} {E:Value->Shared->Prop} {s:Shared} {α:Type} {Q:α->Shared->Prop} {B:Heap} {l:List Env} {a:Addr} {C a0:Value} {env:Env} {what:String} (up:Up B l a C a0 s.heap)
  (k:∀ h',Up B l a C a0 h'->s.heap.UpToSlots h'->E (.ref a) { s with heap:=h' }):wpAny M A (passOn what (.ref a) env:Sem α) Q E s:=by
 obtain ⟨st,ne,hl,fl,oe,vs,T,oT,ts,q1,q2,q3,q4,q5,q6,q7,q8,q9⟩:=up
 have q0:3<ts.size:=(Array.getElem?_eq_some_iff.mp q9).1
 have uh:∀ x b,b≠T->(s.heap.update T (Obj.mapFields (·.setIfInBounds 3 x))).get? b=s.heap.get? b:=fun x b hb=>Heap.get?_update_other _ _ (Ne.symm hb)
 have pW:∀ b o,s.heap.get? b=some o->(∀ vs,o.data≠.fields vs)->b≠T:=fun b o hb hn z=>by
  rw [z,q7] at hb
  cases hb
  exact hn ts q8
 unfold passOn
 refine wpAny_bind (wpAny_field q1 q3 q4 ?_)
 rw [if_neg (by simp)]
 refine wpAny_bind ?_
 unfold setFlight
 refine wpAny_bind (wpAny_field q1 q3 q4 ?_)
 rw [if_pos (by simp)]
 refine wpAny_setField q7 q8 q0 ?_
 refine wpAny_throw (k _ ⟨fun b o e=>?_,ne,hl.of_keeps fun b o hb hn=>⟨o,(uh _ b (pW b o hb hn)).trans hb,rfl⟩,?_⟩ fun b o hb hn=>⟨o.slots,(uh _ b (pW b o hb hn)).trans hb⟩)
 ·exact (uh _ b (by rintro rfl;rw [q5] at e;cases e)).trans (st b o e)
 ·exact ⟨_,oe,vs,T,_,_,(uh _ a (Ne.symm q6)).trans q1,q2,q3,q4,q5,q6,Heap.get?_update_self _ q7 (Obj.isFreed_of_fields (Obj.data_mapFields q8 _)),Obj.data_mapFields q8 _,Array.getElem?_setIfInBounds_self_of_lt q0⟩
theorem Up.hide {B h h':Heap} {l:List Env} {a c:Addr} {C a0:Value} (up:Up B l a C a0 h) (sb:Heap.SameBut c h h') (hc:∃ o,h.get? c=some o/\∀ vs,o.data≠.fields vs) (hfr:c∉frs l):Up (B.hide c) l a C a0 h':=by
 obtain ⟨st,ne,hl,fl,oe,vs,T,oT,ts,q1,q2,q3,q4,q5,q6,q7,q8,q9⟩:=up
 obtain ⟨oc,hoc,hd⟩:=hc
 have hn:∀ {b:Addr},B.get? b=none->(B.hide c).get? b=none:=fun {b} e=>by
  cases q:(B.hide c).get? b with
  | none=>rfl
  | some o=>rw [Heap.of_hide q] at e;cases e
 have hac:a≠c:=by rintro rfl;rw [hoc] at q1;cases q1;exact hd _ q3
 have hTc:T≠c:=by rintro rfl;rw [hoc] at q7;cases q7;exact hd _ q8
 have ff:∀ l',(∀ b∈frs l',b∈frs l)->h.FunFrames B l'->h'.FunFrames (B.hide c) l':=by
  intro l'
  induction l' with
  | nil=>intro _ _;trivial
  | cons env r ih =>
   intro hs hl'
   obtain ⟨hk,⟨L,o,hf,hnn,ho,hdd⟩,hr⟩:=hl'
   have hL:L∈frs l:=hs L (by unfold frs;rw [List.filterMap_cons,hf];exact List.mem_cons_self)
   exact ⟨hk,⟨L,o,hf,hn hnn,by rw [sb.2 L (by rintro rfl;exact hfr hL)];exact ho,hdd⟩,ih (fun b hb=>hs b (by unfold frs;rw [List.filterMap_cons,hf];exact List.mem_cons_of_mem _ hb)) hr⟩
 refine ⟨fun b o e=>?_,hn ne,ff l (fun _ z=>z) hl,fl,oe,vs,T,oT,ts,by rw [sb.2 a hac];exact q1,q2,q3,q4,hn q5,q6,by rw [sb.2 T hTc];exact q7,q8,q9⟩
 have hbc:b≠c:=by rintro rfl;rw [Heap.hide_self] at e;cases e
 rw [sb.2 b hbc]
 exact st b o (Heap.of_hide e)
noncomputable def qJ (X:Cx):Prop:=∃ env outer L,X.stack=env::outer/\env.frame=some L/\X.env.frame=some L
end Fg
end
section
namespace Fg
open PySem PySem.Spec L2
noncomputable def qU (sp:Sp) (Ex:XS) (t:TA):TE:=fun σ H Q=>t σ H fun vs H1=>sp vs H1 Q fun cv x H'=>Ex cv x σ H'
section
variable {X:Cx} {Ex:XS} {k:Nat} {f:Addr} {fd:FuncData} {ps:List Str} {sp:Sp} {x:Str} {p pos:Pos} {e:Expr} {es:List Expr} {t:TA}
theorem BJ {pins:List (Addr×Obj)} {σ:St} {H:Hp} {s:Shared} {Q:VK} {us:List Value} {vs:List V} (F:cz X.prog X.w X.K X.mg X.base (g9 X.prog X.w) k f fd ps sp) (hr:bW k X.A) (hb:Binds X.K fd ps []) (hx:∀ e s,iU X Ex e s->X.xe e s)
  (I:Inv X pins σ H s) (r:Vals vs us) (h:sp vs H Q fun cv x H'=>Ex cv x σ H'):wpAny (model X.prog X.w) X.A (call (.ref f) us) (EP X pins σ Q) X.xe s:=by
 have hl:(us++[]).length=ps.length:=by rw [List.append_nil,<- r.length];exact F.len _ _ _ _ h
 have bd:=hb s us I.gS hl
 rw [List.append_nil] at bd
 refine wpAny_call (codeAny_mono (F.run X.A X.stack s H ⟨us,[]⟩ us vs Q _ hr I.kR bd r h) fun z s' hq=>?_)
 match z,hq with
 | .error e,hq=>exact passes hx pins σ H s e s' I hq
 | .ok (.ret u),hq=>exact I.after hq
 | .ok .next,hq=>exact hq.elim
 | .ok .brk,hq=>exact hq.elim
 | .ok .cont,hq=>exact hq.elim
theorem yE (F:cz X.prog X.w X.K X.mg X.base (g9 X.prog X.w) k f fd ps sp) (hr:bW k X.A) (hg:Gl X x) (hm:X.mg x=some (.ref f)) (hk:W.keepIn X.K (.ref f)=true) (hb:Binds X.K fd ps []) (hx:∀ e s,iU X Ex e s->X.xe e s)
  (ha:PA X (e::es) t) (hdb:(x == ("__debug__" : Str))=false) (he:starEach (e::es) X.env=(false, eval e X.env)::starEach es X.env) (hpl:(backTo pos (starEach es X.env)).any (·.1)=false) :
  PE X (.Call (.Name x p) (e::es) [] pos) (qU sp Ex t):=fun pins s σ H Q I h =>
 wpAny_Call_Name_kw (eU I hg hm (W.callWith_K (h₀:=X.base) I.ok.mod.Cu hk (bq (ha pos pins s σ H _ I h) fun us s1 ⟨vs,H1,I1,r,q⟩=>⟨I1.gS,BJ F hr hb hx I1 r q⟩) he hpl) hdb)
theorem vW (F:cz X.prog X.w X.K X.mg X.base (g9 X.prog X.w) k f fd ps sp) (hr:bW k X.A) (hg:Gl X x) (hm:X.mg x=some (.ref f)) (hk:W.keepIn X.K (.ref f)=true) (hb:Binds X.K fd ps []) (hx:∀ e s, iU X Ex e s->X.xe e s) (hdb:(x == ("__debug__" : Str))=false) :
  PE X (.Call (.Name x p) [] [] pos) (qU sp Ex iY):=fun pins s σ H Q I h =>
 wpAny_Call_Name_kw (eU I hg hm (W.callWith_K0 I.gS hk (BJ (us:=[]) F hr hb hx I .nil h)) hdb)
noncomputable def xG (sp:Sp) (dv:V) (Ex:XS) (t:TA):TE:=fun σ H Q=>t σ H fun vs H1=>sp (vs++[dv]) H1 Q fun cv x H'=>Ex cv x σ H'
theorem runD {pins:List (Addr×Obj)} {σ:St} {H:Hp} {s:Shared} {Q:VK} {us:List Value} {vs:List V} {dv:V} {du:Value} (F:cz X.prog X.w X.K X.mg X.base (g9 X.prog X.w) k f fd ps sp) (hr:bW k X.A) (hb:Binds X.K fd ps [du]) (hd:RelV dv du) (hx:∀ e s,iU X Ex e s->X.xe e s)
  (I:Inv X pins σ H s) (r:Vals vs us) (h:sp (vs++[dv]) H Q fun cv x H'=>Ex cv x σ H'):wpAny (model X.prog X.w) X.A (call (.ref f) us) (EP X pins σ Q) X.xe s:=by
 have r2:Vals (vs++[dv]) (us++[du]):=r.append (.cons hd .nil)
 have hl:(us++[du]).length=ps.length:=by rw [<- r2.length];exact F.len _ _ _ _ h
 have bd:=hb s us I.gS hl
 refine wpAny_call (codeAny_mono (F.run X.A X.stack s H ⟨us,[]⟩ (us++[du]) (vs++[dv]) Q _ hr I.kR bd r2 h) fun z s' hq=>?_)
 match z,hq with
 | .error e,hq=>exact passes hx pins σ H s e s' I hq
 | .ok (.ret u),hq=>exact I.after hq
 | .ok .next,hq=>exact hq.elim
 | .ok .brk,hq=>exact hq.elim
 | .ok .cont,hq=>exact hq.elim
theorem yF {dv:V} {du:Value} (F:cz X.prog X.w X.K X.mg X.base (g9 X.prog X.w) k f fd ps sp) (hr:bW k X.A) (hg:Gl X x) (hm:X.mg x=some (.ref f)) (hk:W.keepIn X.K (.ref f)=true) (hb:Binds X.K fd ps [du]) (hd:RelV dv du) (hx:∀ e s,iU X Ex e s->X.xe e s)
  (ha:PA X (e::es) t) (hdb:(x == ("__debug__" : Str))=false) (he:starEach (e::es) X.env=(false, eval e X.env)::starEach es X.env) (hpl:(backTo pos (starEach es X.env)).any (·.1)=false) :
  PE X (.Call (.Name x p) (e::es) [] pos) (xG sp dv Ex t):=fun pins s σ H Q I h =>
 wpAny_Call_Name_kw (eU I hg hm (W.callWith_K (h₀:=X.base) I.ok.mod.Cu hk (bq (ha pos pins s σ H _ I h) fun us s1 ⟨vs,H1,I1,r,q⟩=>⟨I1.gS,runD F hr hb hd hx I1 r q⟩) he hpl) hdb)
end
end Fg
end
section
namespace Fg
open PySem PySem.Spec L2
theorem Up.back {M:Model} {A:Around} {E:Value->Shared->Prop} {s:Shared} {B:Heap} {l:List Env} {a:Addr} {C a0:Value} {env:Env} (up:Up B l a C a0 s.heap)
  (k:∀ h',Up B l a C a0 h'->s.heap.UpToSlots h'->E (.ref a) { s with heap:=h' }):cameBackBy M A env E (.ref a) s:=by
 obtain ⟨st,ne,hl,fl,oe,vs,T,oT,ts,q1,q2,q3,q4,q5,q6,q7,q8,q9⟩:=up
 have q0:3<ts.size:=(Array.getElem?_eq_some_iff.mp q9).1
 have uh:∀ x b,b≠T->(s.heap.update T (Obj.mapFields (·.setIfInBounds 3 x))).get? b=s.heap.get? b:=fun x b hb=>Heap.get?_update_other _ _ (Ne.symm hb)
 have pW:∀ b o,s.heap.get? b=some o->(∀ vs,o.data≠.fields vs)->b≠T:=fun b o hb hn z=>by
  rw [z,q7] at hb
  cases hb
  exact hn ts q8
 unfold cameBackBy
 refine wpAny_bind (wpAny_field q1 q3 q4 ?_)
 rw [if_neg (by simp)]
 unfold setFlight
 refine wpAny_bind (wpAny_field q1 q3 q4 ?_)
 rw [if_pos (by simp)]
 refine wpAny_setField q7 q8 q0 ?_
 refine k _ ⟨fun b o e=>?_,ne,hl.of_keeps fun b o hb hn=>⟨o,(uh _ b (pW b o hb hn)).trans hb,rfl⟩,?_⟩ fun b o hb hn=>⟨o.slots,(uh _ b (pW b o hb hn)).trans hb⟩
 ·exact (uh _ b (by rintro rfl;rw [q5] at e;cases e)).trans (st b o e)
 ·exact ⟨_,oe,vs,T,_,_,(uh _ a (Ne.symm q6)).trans q1,q2,q3,q4,q5,q6,Heap.get?_update_self _ q7 (Obj.isFreed_of_fields (Obj.data_mapFields q8 _)),Obj.data_mapFields q8 _,Array.getElem?_setIfInBounds_self_of_lt q0⟩
theorem yQ {M:Model} {A:Around} {E:Value->Shared->Prop} {s:Shared} {h B:Heap} {env:Env} {outer:List Env} {L a:Addr} {C:Value} {vs:List Value} {Q:Unit->Shared->Prop} (hfr:A.frames=some (env::outer)) (hf:env.frame=some L)
  (made:Heap.MadeExcOf h s.heap a C vs) (st:B.StaysIn h) (hl:h.FunFrames B (env::outer)) (k:∀ a0 h',Up B (env::outer) a C a0 h'->s.heap.UpToSlots h'->Q () { s with heap:=h' }):wpAny M A (noteFrame (.ref a) env) Q E s:=by
 obtain ⟨t,he,_,_⟩:=made.there
 have ne:B.get? a=none:=by
  cases q:B.get? a with
  | none=>rfl
  | some o=>have:=st _ _ q;rw [made.new] at this;cases this
 unfold noteFrame
 simp only [hf]
 refine wpAny_bind (wpAny_field he rfl (x:=.none) rfl ?_)
 rw [if_neg (by simp)]
 refine wpAny_entryW (base:=B) (a0:=.ref t) hfr (hl.of_keeps fun b o hb _=>⟨o,made.keeps b o hb,rfl⟩) hf he (fun b o e=>made.keeps b o (st b o e)) ne rfl (show 1<6 by decide) rfl fun h' nw=>?_
 obtain ⟨x1,x2,x3,x4⟩:=nw
 exact k _ h' ⟨x1,ne,x2,_,x3⟩ x4
theorem rM {X:Cx} {E:XS} (fr:qJ X) (fo:∀ e s,X.xe e s->iU X E e s\/EU X E e s) (fx:∀ e s,iU X E e s->X.xe e s):PassesOwn (model X.prog X.w) X.A X.env X.xe:=by
 intro e s q
 obtain ⟨kR,nG,L,hst,HD,MA⟩:=fr
 rcases fo e s q with q | q
 ·obtain ⟨pins,σ,H,a,a0,C,B,rfl,I,up,fJ,hp,q⟩:=q
  show wpAny _ X.A (noteFrame (.ref a) X.env) _ _ s
  rw [nI (env:=X.env) (env':=kR) (MA.trans HD.symm)]
  refine Up.note (env:=kR) (outer:=nG) (by rw [I.ok.frames,hst]) HD (by rw [<- hst];exact up) fun h4 held xU=>?_
  refine (Up.ur held).back fun h5 EZ Bh=>fx _ _ ?_
  have J:=j0 I fJ hp up.1 EZ.1 (xU.trans Bh)
  have up':Up B X.stack a C a0 h5:=by rw [hst];exact EZ
  exact ⟨[],σ,H,a,a0,C,B,rfl,J,up',fJ,hp,q⟩
 ·obtain ⟨pins,σ,H,a,C,vs,h,rfl,I,made,q⟩:=q
  show wpAny _ X.A (noteFrame (.ref a) X.env) _ _ s
  rw [nI (env:=X.env) (env':=kR) (MA.trans HD.symm)]
  have jI:(W.hideAll h (frs X.stack)).StaysIn h:=fun b o q=>W.of_hideAll _ q
  have fJ:Calm (W.hideAll h (frs X.stack)) (frs X.stack) X.ex H X.s₀.heap:=fun b hb hf=>by
   have:∃ o,h.get? b=some o:=by
    rcases hb with hb | ⟨⟨o,hb⟩,nx⟩
    ·cases e:H b with
     | none=>exact absurd e hb
     | some o=>exact mw (I.hok b o e)
    ·exact gg I hb nx
   obtain ⟨o,e⟩:=this
   exact ⟨o,W.hideAll_get _ e hf⟩
  have hp:∀ p∈X.pn,(W.hideAll h (frs X.stack)).get? p.1=some p.2:=fun p hp=>by
   obtain ⟨p1,p2,p3,p4,_⟩:=I.pin p (List.mem_append_left _ hp)
   refine W.hideAll_get _ p1 fun z=>?_
   rcases List.mem_cons.mp (I.eE _ z) with e | z
   ·exact p3 e
   ·exact p4 z
  have hl:h.FunFrames (W.hideAll h (frs X.stack)) X.stack:=W.funFrames_hide I.stack fun env he b hb=>List.mem_filterMap.mpr ⟨env,he,hb⟩
  refine yQ (env:=kR) (outer:=nG) (by rw [show X.A.frames=some X.stack from I.ok.frames,hst]) HD made jI (hst ▸ hl) fun a0 h4 up4 xU=>?_
  refine up4.back fun h5 EZ Bh=>fx _ _ ?_
  have sm:h.UpToSlots h5:=(Heap.UpToSlots.of_keeps made.keeps).trans (xU.trans Bh)
  have J:=j0 I fJ hp jI EZ.1 sm
  have up':Up (W.hideAll h (frs X.stack)) X.stack a C a0 h5:=by
   have z:∀ l,l=X.stack->Up (W.hideAll h (frs X.stack)) l a C a0 h5->Up (W.hideAll h (frs X.stack)) X.stack a C a0 h5:=fun l e u=>e ▸ u
   exact z _ hst.symm EZ
  exact ⟨[],σ,H,a,a0,C,_,rfl,J,up',fJ,hp,q⟩
end Fg
end
section
namespace Fg
open PySem L2
mutual
noncomputable def DV (K:W.Frag) (H:Hp):D->V->Prop
 | .ao,v=>v=.ao
 | .bl b,v=>v=.bl b
 | .int i,v=>v=.int i
 | .str x,v=>v=.str x
 | .tup ds,v=>∃ a vs,v=.ref a/\gO K H a vs/\g6 K H ds vs
 | .lst ds,v=>∃ a vs,v=.ref a/\fK K H a vs/\g6 K H ds vs
 | .dct _ _,_=>False
 | .ref _,_=>False
noncomputable def g6 (K:W.Frag) (H:Hp):List D->List V->Prop
 | [],vs=>vs=[]
 | d::ds,vs=>∃ v ws,vs=v::ws/\DV K H d v/\g6 K H ds ws
end
section
variable {B:Bd} {Φ:bF} {E:Gx} {F F' F1:Addr->Prop} {ρ ρ' ρ1:List Addr} {H H' H1:Hp} {M M':MH} {σD:Sg} {σ:St} {Q:VK}
mutual
theorem RD.dv:∀ {d:D} {v:V},plain d=true->RD B F ρ H d v->DV B.K H d v
 | .ao,v,_,h=>by simp only [RD] at h;simp only [DV];exact h
 | .bl _,v,_,h=>by simp only [RD] at h;simp only [DV];exact h
 | .int _,v,_,h=>by simp only [RD] at h;simp only [DV];exact h
 | .str _,v,_,h=>by simp only [RD] at h;simp only [DV];exact h
 | .tup ds,v,p,h=>by
  simp only [RD] at h;simp only [DV];simp only [plain] at p
  obtain ⟨a,vs,h1,h2,h3⟩:=h
  exact ⟨a,vs,h1,h2.sq,ai.dv p h3⟩
 | .lst ds,v,p,h=>by
  simp only [RD] at h;simp only [DV];simp only [plain] at p
  obtain ⟨a,vs,h1,h2,h3⟩:=h
  exact ⟨a,vs,h1,h2.sq,ai.dv p h3⟩
 | .dct _ _,v,p,h=>by simp [plain] at p
 | .ref _,v,p,h=>by simp [plain] at p
theorem ai.dv:∀ {ds:List D} {vs:List V},az ds=true->ai B F ρ H ds vs->g6 B.K H ds vs
 | [],vs,_,h=>by simp only [ai] at h;simp only [g6];exact h
 | d::ds,vs,p,h=>by
  simp only [ai] at h;simp only [g6];simp only [az,Bool.and_eq_true] at p
  obtain ⟨v,ws,h1,h2,h3⟩:=h
  exact ⟨v,ws,h1,RD.dv p.1 h2,ai.dv p.2 h3⟩
end
theorem xC {d:D} {v:V} (S:SR B F ρ M H) (p:plain (top M d)=true) (h:RD B F ρ H d v):DV B.K H (top M d) v:=by
 cases d with
 | ref n =>
  cases hM:M[n]? with
  | none=>simp [top,hM,plain] at p
  | some o =>
   cases o with
   | lst ds =>
    obtain ⟨a,vs,e,q,r⟩:=bH (ds:=ds) S h (by simp only [vw,hM])
    simp only [top,hM,plain] at p
    simp only [top,hM,DV]
    exact ⟨a,vs,e,q,ai.dv p r⟩
   | dct _=>simp [top,hM,plain] at p
   | oX _=>simp [top,hM,plain] at p
   | ins _ _=>simp [top,hM,plain] at p
 | tup ds=>exact RD.dv p h
 | lst ds=>exact RD.dv p h
 | dct _ _=>exact RD.dv p h
 | ao=>exact RD.dv p h
 | bl _=>exact RD.dv p h
 | int _=>exact RD.dv p h
 | str _=>exact RD.dv p h
noncomputable def yo (K:W.Frag) (neg:Bool):R2:=fun x y H Q=>∃ d e,DV K H d x/\DV K H e y/\aZ d e=true/\Q (.bl (if neg then !aJ d e else aJ d e)) H
noncomputable def ym (K:W.Frag) (neg:Bool):R2:=fun x y H Q=>∃ l b xs,x=.ref l/\y=.ref b/\fK K H l xs/\fK K H b []/\Q (.bl (if neg then !xs.isEmpty else xs.isEmpty)) H
noncomputable def BO (neg:Bool):R2:=fun x y H Q=>∃ a b,x=.bl a/\y=.bl b/\Q (.bl (if neg then !(a == b) else (a == b))) H
noncomputable def yp (B:Bd) (neg:Bool):R2:=fun x y H Q=>∃ a kvs k,y=.ref a/\x=kV k/\II B H a kvs/\Q (.bl (if neg then !(cI kvs k).isSome else (cI kvs k).isSome)) H
noncomputable def rH (B:Bd):AS->R2
 | .lt=>rG fun i j=>.bl (decide (i<j))
 | .le=>rG fun i j=>.bl (decide (i<=j))
 | .gt=>rG fun i j=>.bl (decide (j<i))
 | .ge=>rG fun i j=>.bl (decide (j<=i))
 | .eq=>fun x y H Q=>BO false x y H Q\/(yo B.K false x y H Q\/ym B.K false x y H Q)
 | .ne=>fun x y H Q=>BO true x y H Q\/(yo B.K true x y H Q\/ym B.K true x y H Q)
 | .wo=>fun x y H Q=>y=.ao/\Q (.bl (decide (x=.ao))) H
 | .gQ=>fun x y H Q=>y=.ao/\Q (.bl (!decide (x=.ao))) H
 | .isin=>fun x y H Q=>yp B false x y H Q\/JT B.K false x y H Q
 | .p6=>fun x y H Q=>yp B true x y H Q\/JT B.K true x y H Q
theorem nO {d:D} {v:V} {k:Ky} (h:keyOf d=some k) (r:RD B F ρ H d v):v=kV k:=by
 cases d with
 | int i=>simp only [keyOf] at h;cases h;simp only [RD] at r;exact r
 | str x=>simp only [keyOf] at h;cases h;simp only [RD] at r;exact r
 | ao=>simp only [keyOf] at h;cases h
 | bl _=>simp only [keyOf] at h;cases h
 | tup _=>simp only [keyOf] at h;cases h
 | lst _=>simp only [keyOf] at h;cases h
 | dct _ _=>simp only [keyOf] at h;cases h
 | ref _=>simp only [keyOf] at h;cases h
theorem n5 {d:D} {v:V} (h:flat d=true) (r:RD B F ρ H d v):gH v=true:=by
 cases d <;> first | (simp only [RD] at r;subst r;rfl) | (simp only [flat] at h;cases h)
theorem qq {ds:List D}:∀ {vs:List V},ds.all flat=true->ai B F ρ H ds vs->vs.all gH=true:=by
 induction ds with
 | nil=>intro vs _ r;simp only [ai] at r;subst r;rfl
 | cons d ds ih =>
  intro vs h r
  simp only [ai] at r
  obtain ⟨v,ws,rfl,r1,r2⟩:=r
  simp only [List.all_cons,Bool.and_eq_true] at h ⊢
  exact ⟨n5 h.1 r1,ih h.2 r2⟩
theorem C0 {d e:D} {v w:V} (h1:flat d=true) (h2:flat e=true) (r1:RD B F ρ H d v) (r2:RD B F ρ H e w):aJ d e=A1 v w:=by
 cases d <;> first | (simp only [flat] at h1;cases h1;done) | skip
 all_goals (cases e <;> first | (simp only [flat] at h2;cases h2;done) | skip)
 all_goals (simp only [RD] at r1 r2;subst r1 r2;simp only [aJ,A1])
 all_goals first | rfl | simp [Bool.beq_eq_decide_eq]
theorem vo {d:D} {v:V} (h1:flat d=true) (r1:RD B F ρ H d v) {ds:List D}:∀ {vs:List V},ds.all flat=true->ai B F ρ H ds vs->(ds.any fun e=>aJ e d)=KH v vs:=by
 induction ds with
 | nil=>intro vs _ r;simp only [ai] at r;subst r;rfl
 | cons e ds ih =>
  intro vs h r
  simp only [ai] at r
  obtain ⟨w,ws,rfl,q1,q2⟩:=r
  simp only [List.all_cons,Bool.and_eq_true] at h
  simp only [List.any_cons,KH,C0 h.1 h1 q1 r1]
  have:=ih h.2 q2
  simp only [KH] at this
  rw [this]
theorem zH {neg:Bool} {x y:D} {v w:V} {X:XK} {t:Bool} (S:SR B F ρ M H) (rx:RD B F ρ H x v) (ry:RD B F ρ H y w) (hi:zI M x y=some t)
  (h:Post B (.ok (.bl (if neg then !t else t)) M) F ρ H Q X):yp B neg v w H Q\/JT B.K neg v w H Q:=by
 unfold zI at hi
 split at hi
 ·rename_i cD hv
  split at hi
  ·rename_i k hk
   cases hi
   obtain ⟨a,kvs,rfl,q,e1,e2⟩:=m9 S ry hv
   have:=(kF (k:=k) e1 e2).2.2
   refine .inl ⟨a,kvs,k,rfl,nO hk rx,q,?_⟩
   rw [<- this]
   exact ah.run h S (by simp only [RD])
  ·cases hi
 ·rename_i ds hv
  split at hi
  ·rename_i hf
   cases hi
   simp only [Bool.and_eq_true] at hf
   obtain ⟨a,vs,rfl,q,r⟩:=bH S ry hv
   refine .inr ⟨a,vs,rfl,.inl q,n5 hf.1 rx,qq hf.2 r,?_⟩
   rw [<- vo hf.1 rx hf.2 r]
   exact ah.run h S (by simp only [RD])
  ·cases hi
 ·rename_i ds hv
  split at hi
  ·rename_i hf
   cases hi
   simp only [Bool.and_eq_true] at hf
   obtain ⟨a,vs,rfl,q,r⟩:=iV S ry hv
   refine .inr ⟨a,vs,rfl,.inr q,n5 hf.1 rx,qq hf.2 r,?_⟩
   rw [<- vo hf.1 rx hf.2 r]
   exact ah.run h S (by simp only [RD])
  ·cases hi
 ·cases hi
theorem j4 {f:D->D} (ih:∀ (d:D) (v:V),plain (f d)=true->RD B F ρ H d v->DV B.K H (f d) v):∀ (ds:List D) (vs:List V),az (ds.map f)=true->ai B F ρ H ds vs->g6 B.K H (ds.map f) vs
 | [],vs,p,h=>by simp only [ai] at h;simp only [List.map_nil,g6];exact h
 | d::ds,vs,p,h=>by
  simp only [ai] at h;simp only [List.map_cons,g6];simp only [List.map_cons,az,Bool.and_eq_true] at p
  obtain ⟨v,ws,h1,h2,h3⟩:=h
  exact ⟨v,ws,h1,ih d v p.1 h2,j4 ih ds ws p.2 h3⟩
theorem u5 (S:SR B F ρ M H) (n:Nat):∀ (d:D) (v:V),plain (deep n M d)=true->RD B F ρ H d v->DV B.K H (deep n M d) v:=by
 induction n with
 | zero=>intro d v p h;exact RD.dv p h
 | succ n ih =>
  intro d v p h
  cases d with
  | ref r =>
   cases hM:M[r]? with
   | none=>simp [deep,hM,plain] at p
   | some o =>
    cases o with
    | lst ds =>
     obtain ⟨a,vs,e,q,r⟩:=bH (ds:=ds) S h (by simp only [vw,hM])
     simp only [deep,hM,plain] at p
     simp only [deep,hM,DV]
     exact ⟨a,vs,e,q,j4 ih ds vs p r⟩
    | dct _=>simp [deep,hM,plain] at p
    | oX _=>simp [deep,hM,plain] at p
    | ins _ _=>simp [deep,hM,plain] at p
  | tup ds =>
   simp only [RD] at h;simp only [deep,plain] at p;simp only [deep,DV]
   obtain ⟨a,vs,h1,h2,h3⟩:=h
   exact ⟨a,vs,h1,h2.sq,j4 ih ds vs p h3⟩
  | lst ds =>
   simp only [RD] at h;simp only [deep,plain] at p;simp only [deep,DV]
   obtain ⟨a,vs,h1,h2,h3⟩:=h
   exact ⟨a,vs,h1,h2.sq,j4 ih ds vs p h3⟩
  | dct _ _=>simp [deep,plain] at p
  | ao=>exact RD.dv p h
  | bl _=>exact RD.dv p h
  | int _=>exact RD.dv p h
  | str _=>exact RD.dv p h
theorem uP (neg:Bool) {x y:D} {v w:V} {X:XK} (S:SR B F ρ M H) (rx:RD B F ρ H x v) (ry:RD B F ρ H y w) (h:Post B (if aZ (top M x) (top M y) then .ok (.bl (if neg then !aJ (top M x) (top M y) else aJ (top M x) (top M y))) M else (match qa M x y with | some t=>.ok (.bl (if neg then !t else t)) M | none=>Eu M neg x y)) F ρ H Q X):yo B.K neg v w H Q\/ym B.K neg v w H Q:=by
 split at h
 ·rename_i hc
  have hc':=hc
  simp only [aZ,Bool.and_eq_true] at hc'
  exact .inl ⟨_,_,xC S hc'.1.1 rx,xC S hc'.1.2 ry,hc,ah.run h S (by simp only [RD])⟩
 ·cases hn:qa M x y with
  | none =>
   rw [hn] at h
   replace h:Post B (Eu M neg x y) F ρ H Q X:=h
   unfold Eu at h
   split at h
   ·rename_i hc
    have hc':=hc
    simp only [aZ,Bool.and_eq_true] at hc'
    exact .inl ⟨_,_,u5 S 120 _ _ hc'.1.1 rx,u5 S 120 _ _ hc'.1.2 ry,hc,ah.run h S (by simp only [RD])⟩
   ·exact h.elim
  | some t =>
   rw [hn] at h
   unfold qa at hn
   split at hn
   ·rename_i xs ys hx hy
    split at hn
    ·rename_i he
     cases hn
     obtain ⟨a,vs,rfl,q1,r1⟩:=bH S rx hx
     obtain ⟨b,ws,rfl,q2,r2⟩:=bH S ry hy
     have l1:=ai.length r1
     have l2:=ai.length r2
     have e2:ws=[]:=by
      rw [List.isEmpty_iff] at he
      subst he
      exact List.eq_nil_of_length_eq_zero l2.symm
     have e1:vs.isEmpty=xs.isEmpty:=by
      cases xs <;> cases vs <;> first | rfl | (simp at l1;done)
     subst e2
     refine .inr ⟨a,b,vs,rfl,rfl,q1,q2,?_⟩
     rw [e1]
     exact ah.run h S (by simp only [RD])
    ·cases hn
   ·cases hn
theorem jY {f:Int->Int->Bool} {x y:D} {v w:V} {X:XK} (S:SR B F ρ M H) (rx:RD B F ρ H x v) (ry:RD B F ρ H y w) (h:Post B (sQ M f x y) F ρ H Q X):rG (fun i j=>.bl (f i j)) v w H Q:=by
 cases x with
 | int i=>cases y with
  | int j=>simp only [RD] at rx ry;subst rx ry;exact ⟨_,_,rfl,rfl,ah.run h S (by simp only [RD])⟩
  | _=>exact h.elim
 | _=>exact h.elim
theorem kJ {x:D} {v:V} (r:RD B F ρ H x v):bJ x=decide (v=.ao):=by
 cases x <;> first | (simp only [RD] at r;subst r;rfl) | (simp only [RD] at r;obtain ⟨_,r⟩:=r;first | (obtain ⟨_,rfl,_⟩:=r;rfl) | (obtain ⟨_,rfl⟩:=r;rfl) | (obtain ⟨_,_,rfl,_⟩:=r;rfl))
theorem AA {o:AS} {x y:D} {v w:V} {X:XK} (S:SR B F ρ M H) (rx:RD B F ρ H x v) (ry:RD B F ρ H y w) (h:Post B (bf o M x y) F ρ H Q X):rH B o v w H Q:=by
 have eb:∀ {p:Bool×Bool},vj x y=some p->x=.bl p.1/\y=.bl p.2:=fun {p} hb=>by
  cases x with
  | bl a=>cases y with
   | bl b=>cases hb;exact ⟨rfl,rfl⟩
   | _=>cases hb
  | _=>cases hb
 have nn:bJ y=true->w=.ao:=fun q=>by
  have:=kJ ry
  rw [q] at this
  exact of_decide_eq_true this.symm
 cases o with
 | lt=>exact jY S rx ry h
 | le=>exact jY S rx ry h
 | gt=>exact jY S rx ry h
 | ge=>exact jY S rx ry h
 | eq =>
  cases hb:vj x y with
  | some p =>
   obtain ⟨rfl,rfl⟩:=eb hb
   simp only [RD] at rx ry;subst rx ry
   exact .inl ⟨_,_,rfl,rfl,ah.run h S (by simp only [RD];rfl)⟩
  | none =>
   simp only [bf,hb] at h
   exact .inr (uP false S rx ry h)
 | ne =>
  cases hb:vj x y with
  | some p =>
   obtain ⟨rfl,rfl⟩:=eb hb
   simp only [RD] at rx ry;subst rx ry
   exact .inl ⟨_,_,rfl,rfl,ah.run h S (by simp only [RD];rfl)⟩
  | none =>
   simp only [bf,hb] at h
   exact .inr (uP true S rx ry h)
 | wo =>
  cases hn:bJ y with
  | false=>simp only [bf,hn] at h;exact h.elim
  | true =>
   simp only [bf,hn,if_true] at h
   refine ⟨nn hn,?_⟩
   rw [<- kJ rx]
   exact ah.run h S (by simp only [RD])
 | gQ =>
  cases hn:bJ y with
  | false=>simp only [bf,hn] at h;exact h.elim
  | true =>
   simp only [bf,hn,if_true] at h
   refine ⟨nn hn,?_⟩
   rw [<- kJ rx]
   exact ah.run h S (by simp only [RD])
 | isin =>
  cases hi:zI M x y with
  | none=>simp only [bf,hi] at h;exact h.elim
  | some t=>simp only [bf,hi] at h;exact zH (neg:=false) S rx ry hi h
 | p6 =>
  cases hi:zI M x y with
  | none=>simp only [bf,hi] at h;exact h.elim
  | some t=>simp only [bf,hi] at h;exact zH (neg:=true) S rx ry hi h
theorem tT {o:AS} {a b:Fg.E} (h:T B Φ E (.cmp o a b) σ H Q):E3 (rH B o) (T B Φ E a) (T B Φ E b) σ H Q:=by
 obtain ⟨σD,M,F,ρ,S,r,h⟩:=h
 simp only [ev] at h
 exact T.two S r rfl h fun x y M2 F2 ρ2 H2 v w S2 _ rx ry h2=>AA S2 rx ry h2
theorem zA (n:Nat) (i:Int):AX n i=IV n i:=rfl
theorem AL {ds:List D} {vs:List V} {i:Int} {d:D} (r:ai B F ρ H ds vs) (h:lN ds i=some d):∃ v,ID vs i=some v/\RD B F ρ H d v:=by
 unfold lN at h
 unfold ID
 rw [<- ai.length r]
 cases hx:AX ds.length i with
 | none=>rw [hx] at h;cases h
 | some j =>
  rw [hx] at h
  rw [zA] at hx
  rw [hx]
  exact ai.get r h
noncomputable def JR (B:Bd):R2:=fun x y H Q=>∃ a kvs k v,x=.ref a/\y=kV k/\II B H a kvs/\cI kvs k=some v/\Q v H
noncomputable def BN (B:Bd):R2:=fun x y H Q=>JQ B.K x y H Q\/(JO B.K x y H Q\/(JP x y H Q\/JR B x y H Q))
theorem zJ {x y:D} {v w:V} {X:XK} (S:SR B F ρ M H) (rx:RD B F ρ H x v) (ry:RD B F ρ H y w) (h:Post B (nU M x y) F ρ H Q X):BN B v w H Q:=by
 unfold nU at h
 split at h
 ·simp only [RD] at rx ry;subst rx ry
  split at h
  ·rename_i hl
   split at h
   ·rename_i c hc
    exact .inr (.inr (.inl ⟨_,_,c,rfl,rfl,Nat.le_trans (of_decide_eq_true hl) bO,hc,ah.run h S (by simp only [RD])⟩))
   ·exact h.elim
  ·exact h.elim
 ·split at h
  ·rename_i ds i hv _
   split at h
   ·rename_i d hd
    obtain ⟨a,vs,rfl,q,r⟩:=iV S rx hv
    simp only [RD] at ry;subst ry
    obtain ⟨u,h1,h2⟩:=AL r hd
    exact .inr (.inl ⟨a,vs,i,u,rfl,rfl,q,h1,ah.run h S h2⟩)
   ·exact h.elim
  ·rename_i ds i hv _
   split at h
   ·rename_i d hd
    obtain ⟨a,vs,rfl,q,r⟩:=bH S rx hv
    simp only [RD] at ry;subst ry
    obtain ⟨u,h1,h2⟩:=AL r hd
    exact .inl ⟨a,vs,i,u,rfl,rfl,q,h1,ah.run h S h2⟩
   ·exact h.elim
  ·rename_i cD hv _
   split at h
   ·rename_i k hk
    split at h
    ·rename_i d hd
     obtain ⟨a,kvs,rfl,q,e1,e2⟩:=m9 S rx hv
     obtain ⟨u,h1,h2⟩:=(kF (k:=k) e1 e2).1 d hd
     exact .inr (.inr (.inr ⟨a,kvs,k,u,rfl,nO hk ry,q,h1,ah.run h S h2⟩))
    ·exact h.elim
   ·exact h.elim
  ·exact h.elim
theorem BB {a b:Fg.E} (h:T B Φ E (.idx a b) σ H Q):E3 (BN B) (T B Φ E a) (T B Φ E b) σ H Q:=by
 obtain ⟨σD,M,F,ρ,S,r,h⟩:=h
 simp only [ev] at h
 exact T.two S r rfl h fun x y M2 F2 ρ2 H2 v w S2 _ rx ry h2=>zJ S2 rx ry h2
theorem xW (n d:Nat) (o:Option Int):six n d o=HT.cC n d o:=by cases o <;> rfl
theorem vf {ds:List D} {vs:List V} (r:ai B F ρ H ds vs) (lo hi:Option Int):ai B F ρ H (c7 ds lo hi) (qD vs lo hi):=by
 unfold c7 qD
 rw [ai.length r]
 simp only [xW]
 exact ai.take _ (ai.drop _ r)
noncomputable def JL:V->Option Int->Option Int->Hp->VK->Prop:=fun x lo hi H Q=>∃ z,x=.str z/\z.length<=sizeLine/\Q (.str (cuts z lo hi)) H
noncomputable def BL (B:Bd):V->Option Int->Option Int->Hp->VK->Prop:=fun x lo hi H Q=>JM B.K x lo hi H Q\/(JK B.K x lo hi H Q\/JL x lo hi H Q)
theorem Bk {fz:Bool} {x:D} {v:V} {lo hi:Option Int} {X:XK} (S:SR B F ρ M H) (rx:RD B F ρ H x v) (h:Post B (sl2 fz M x lo hi) F ρ H Q X):BL B v lo hi H Q:=by
 unfold sl2 at h
 split at h
 ·simp only [RD] at rx;subst rx
  split at h
  ·rename_i hl
   exact .inr (.inr ⟨_,rfl,Nat.le_trans (of_decide_eq_true hl) bO,ah.run h S (by simp only [RD])⟩)
  ·exact h.elim
 ·split at h
  ·rename_i ds hv
   cases x with
   | tup xs =>
    simp only [vw] at hv;cases hv
    simp only [RD] at rx
    obtain ⟨a,vs,rfl,z,r⟩:=rx
    split at h
    ·exact h.elim
    ·rename_i hf
     refine .inr (.inl ⟨a,vs,rfl,z.sq,fun q=>hf ?_,jU S h (vf r lo hi)⟩)
     simp only [jA,Bool.and_eq_true,decide_eq_true_eq,xW,ai.length r]
     exact q
   | ref n=>simp only [vw] at hv;split at hv <;> cases hv
   | lst _=>simp only [vw] at hv;cases hv
   | dct _ _=>simp only [vw] at hv;cases hv
   | ao=>simp only [vw] at hv;cases hv
   | bl _=>simp only [vw] at hv;cases hv
   | int _=>simp only [vw] at hv;cases hv
   | str _=>simp only [vw] at hv;cases hv
  ·rename_i ds hv
   obtain ⟨a,vs,rfl,q,r⟩:=bH S rx hv
   exact .inl ⟨a,vs,rfl,q,dU S h (vf r lo hi)⟩
  ·exact h.elim
theorem Fp {Q:Option Int->Hp->Prop} (h:TP B Φ E .none σ H Q):tG σ H Q:=by
 obtain ⟨σD,M,F,ρ,S,r,h⟩:=h
 simp only [CS] at h
 exact ah.run h S rfl
theorem Fo {a:Fg.E} {Q:Option Int->Hp->Prop} (h:TP B Φ E (.some a) σ H Q):DJ (T B Φ E a) σ H Q:=by
 obtain ⟨σD,M,F,ρ,S,r,h⟩:=h
 simp only [CS] at h
 refine ⟨σD,M,F,ρ,S,r,ah.imp (ah.bind (rel:=RD B) h) fun v H1 ⟨x,M1,F1,ρ1,e1,S1,rx,h1⟩=>?_⟩
 split at h1
 ·simp only [RD] at rx;subst rx
  exact ⟨_,rfl,ah.run h1 S1 rfl⟩
 ·exact h1.elim
theorem Fj {fz:Bool} {a:Fg.E} {lo hi:O} (h:T B Φ E (.sl fz a lo hi) σ H Q):tSl (BL B) (T B Φ E a) (TP B Φ E lo) (TP B Φ E hi) σ H Q:=by
 obtain ⟨σD,M,F,ρ,S,r,h⟩:=h
 simp only [ev] at h
 refine T.one S r rfl h fun x M1 F1 ρ1 H1 v e1 S1 r1 rx h1=>?_
 refine ⟨σD,M1,F1,ρ1,S1,r1,ah.imp (ah.bind (rel:=fun _ _ _ (a b:Option Int)=>a=b) h1) fun l H2 ⟨l',M2,F2,ρ2,e2,S2,el,h2⟩=>?_⟩
 refine ⟨σD,M2,F2,ρ2,S2,r1.mono e2,ah.imp (ah.bind (rel:=fun _ _ _ (a b:Option Int)=>a=b) h2) fun u H3 ⟨u',M3,F3,ρ3,e3,S3,eu,h3⟩=>?_⟩
 subst el eu
 exact Bk S3 (RD.mono e3 _ _ (RD.mono e2 _ _ rx)) h3
theorem vz {M:MH} {d:D} {ds:List D} (h:vw M d=.tup ds):d=.tup ds:=by
 cases d with
 | tup xs=>simp only [vw] at h;cases h;rfl
 | ref n=>simp only [vw] at h;split at h <;> cases h
 | lst _=>simp only [vw] at h;cases h
 | dct _ _=>simp only [vw] at h;cases h
 | ao=>simp only [vw] at h;cases h
 | bl _=>simp only [vw] at h;cases h
 | int _=>simp only [vw] at h;cases h
 | str _=>simp only [vw] at h;cases h
theorem uG:∀ {ds:List D} {vs:List V} {ns:List Int},ai B F ρ H ds vs->intsOf ds=some ns->vs=ns.map V.int
 | [],vs,ns,r,h=>by simp only [intsOf] at h;cases h;simp only [ai] at r;subst r;rfl
 | d::ds,vs,ns,r,h=>by
  cases d with
  | int i =>
   simp only [intsOf] at h
   cases hx:intsOf ds with
   | none=>rw [hx] at h;cases h
   | some ms =>
    rw [hx] at h;cases h
    simp only [ai] at r
    obtain ⟨v,ws,rfl,r1,r2⟩:=r
    simp only [RD] at r1;subst r1
    rw [uG r2 hx];rfl
  | _=>simp [intsOf] at h
noncomputable def FL (B:Bd):List V->Hp->VK->Prop:=fun xs H Q=>(∃ z,xs=[.str z]/\z.length<=sizeLine/\Q (.int z.length) H)\/((∃ p ys,xs=[.ref p]/\(fK B.K H p ys\/gO B.K H p ys)/\Q (.int ys.length) H)\/(∃ a kvs,xs=[.ref a]/\II B H a kvs/\Q (.int kvs.length) H))
noncomputable def rSum (B:Bd):List V->Hp->VK->Prop:=fun xs H Q=>∃ (p:Addr) (ns:List Int),xs=[.ref p]/\fK B.K H p (ns.map V.int)/\Q (.int ns.sum) H
noncomputable def FI (B:Bd):List V->Hp->VK->Prop:=fun xs H Q=>∃ p ys,xs=[.ref p]/\((fK B.K H p ys/\∀ l,H l=none->Q (.ref l) (upd H l (.tup ys)))\/(gO B.K H p ys/\Q (.ref p) H))
noncomputable def rF (B:Bd):List V->Hp->VK->Prop:=fun xs H Q=>∃ p ys,xs=[.ref p]/\(fK B.K H p ys\/gO B.K H p ys)/\∀ l,H l=none->Q (.ref l) (upd H l (.lst ys))
noncomputable def yq (B:Bd):List V->Hp->VK->Prop:=fun xs H Q=>∃ p kvs,xs=[.ref p]/\II B H p kvs/\∀ l,H l=none->Q (.ref l) (upd H l (.dK kvs))
noncomputable def rBl (B:Bd):Bl->List V->Hp->VK->Prop
 | .len=>FL B
 | .sum=>rSum B
 | .tuple=>FI B
 | .list=>rF B
 | .dict=>yq B
 | _=>fun _ _ _=>False
theorem FH {d:D} {vs:List V} (r:ai B F ρ H [d] vs):∃ v,vs=[v]/\RD B F ρ H d v:=by
 simp only [ai] at r
 obtain ⟨v,ws,rfl,r1,rfl⟩:=r
 exact ⟨v,rfl,r1⟩
theorem AJ {b:Bl} {fz:Bool} {ds:List D} {vs:List V} {X:XK} (S:SR B F ρ M H) (r:ai B F ρ H ds vs) (h:Post B (AK b fz M ds) F ρ H Q X):rBl B b vs H Q:=by
  unfold AK at h
  split at h
  . obtain ⟨v,rfl,r1⟩:=FH r
    simp only [RD] at r1;subst r1
    cases b <;> simp only at h <;> first
      | exact h.elim
      | (split at h
         . rename_i hl
           exact .inl ⟨_,rfl,Nat.le_trans (of_decide_eq_true hl) bO,ah.run h S (by simp only [RD])⟩
         . exact h.elim)
  . obtain ⟨v,rfl,r1⟩:=FH r
    split at h
    . rename_i hv
      obtain ⟨a,ws,rfl,q,rr⟩:=iV S r1 hv
      exact .inr (.inl ⟨a,ws,rfl,.inr q,ah.run h S (by simp only [RD,ai.length rr])⟩)
    . rename_i hv
      obtain ⟨a,ws,rfl,q,rr⟩:=bH S r1 hv
      exact .inr (.inl ⟨a,ws,rfl,.inl q,ah.run h S (by simp only [RD,ai.length rr])⟩)
    . rename_i hv
      obtain ⟨a,kvs,rfl,q,e1,e2⟩:=m9 S r1 hv
      refine .inr (.inr ⟨a,kvs,rfl,q,ah.run h S ?_⟩)
      have:=congrArg List.length e1
      simp only [List.length_map] at this
      simp only [RD,this]
    . rename_i hv
      split at h
      . rename_i ns hn
        obtain ⟨a,ws,rfl,q,rr⟩:=bH S r1 hv
        have:=uG rr hn
        subst this
        exact ⟨a,ns,rfl,q,ah.run h S (by simp only [RD])⟩
      . exact h.elim
    . rename_i hv
      obtain ⟨a,ws,rfl,q,rr⟩:=bH S r1 hv
      exact ⟨a,ws,rfl,.inl ⟨q,jU S h rr⟩⟩
    . rename_i hv
      have ed:=vz hv
      subst ed
      have r1':=r1
      simp only [RD] at r1'
      obtain ⟨a,ws,rfl,q,rr⟩:=r1'
      exact ⟨a,ws,rfl,.inr ⟨q.sq,ah.run h S r1⟩⟩
    . rename_i hv
      obtain ⟨a,ws,rfl,q,rr⟩:=bH S r1 hv
      exact ⟨a,ws,rfl,.inl q,dU S h rr⟩
    . rename_i hv
      obtain ⟨a,ws,rfl,q,rr⟩:=iV S r1 hv
      exact ⟨a,ws,rfl,.inr q,dU S h rr⟩
    . rename_i cD hv
      obtain ⟨a,kvs,rfl,q,e1,e2⟩:=m9 S r1 hv
      refine ⟨a,kvs,rfl,q,fun p hp=>?_⟩
      have e0:Ext F ρ H F (ρ++[p]) (upd H p (.dK kvs)):=⟨⟨S.sep,fun _ q=>q,fun a q _=>aq (by rintro rfl;exact q hp),List.prefix_append _ _,fun a q=>by
        rcases List.mem_append.mp q with q | q
        . exact .inl q
        . rw [List.mem_singleton.mp q];exact .inr hp,fun _ q=>.inl q⟩,fun b w u q=>by rw [aq (by rintro rfl;rw [hp] at q;cases q)];exact q⟩
      obtain ⟨S',e⟩:=S.lv (o:=.dK kvs) (u:=.dct cD) hp ⟨kvs,ay,e1,ai.mono e0 _ _ e2⟩
      refine h _ _ _ _ e S' ?_
      simp only [RD]
      refine ⟨p,?_,rfl⟩
      rw [<- S.len,List.getElem?_append_right (Nat.le_refl _),Nat.sub_self];rfl
    . exact h.elim
  . exact h.elim
theorem nq {b:Bl} {fz:Bool} {es:Es} (h:T B Φ E (.blt b fz es) σ H Q):E4 (rBl B b) (TL B Φ E es) σ H Q:=by
 obtain ⟨σD,M,F,ρ,S,r,h⟩:=h
 simp only [ev] at h
 exact TL.one S r rfl h fun x M1 F1 ρ1 H1 v _ S1 _ rx h1=>AJ S1 rx h1
end
end Fg
end
section
namespace Fg
open PySem L2
noncomputable def LV (B:Bd) (o:Out) (F:Addr->Prop) (ρ:List Addr) (H:Hp) (Dn:Ends) (E:Gx):Prop :=
 match o with
 | .nx σD=>∀ σ,RS B F ρ H σD σ->Dn.nx σ H
 | .rt d=>∀ v,RD B F ρ H d v->Dn.rt v H
 | .bk σD=>∀ σ,RS B F ρ H σD σ->Dn.bk σ H
 | .ct σD=>∀ σ,RS B F ρ H σD σ->Dn.ct σ H
 | .xc c σD=>∀ σ cv x,RS B F ρ H σD σ->B.exc c cv->E.e cv x σ H
noncomputable def aM (B:Bd) (r:R Out) (F:Addr->Prop) (ρ:List Addr) (H:Hp) (Dn:Ends) (E:Gx):Prop :=
 match r with
 | .ok o M'=>∀ F' ρ' H',Ext F ρ H F' ρ' H'->SR B F' ρ' M' H'->LV B o F' ρ' H' Dn E
 | .exc _ _=>False
 | .bad=>False
noncomputable def TC (B:Bd) (Φ:bF) (E:Gx) (s:S):TS:=fun Dn σ H=>∃ (σD:Sg) (M:MH) (F:Addr->Prop) (ρ:List Addr),
 SR B F ρ M H/\RS B F ρ H σD σ/\aM B (ex Φ s σD M) F ρ H Dn E
noncomputable def xj (B:Bd) (Φ:bF) (E:Gx) (s:Ss):TS:=fun Dn σ H=>∃ (σD:Sg) (M:MH) (F:Addr->Prop) (ρ:List Addr),
 SR B F ρ M H/\RS B F ρ H σD σ/\aM B (exs Φ s σD M) F ρ H Dn E
section
variable {B:Bd} {Φ:bF} {E:Gx} {F F' F1:Addr->Prop} {ρ ρ' ρ1:List Addr} {H H' H1:Hp} {M M':MH} {σD:Sg} {σ:St} {Q:VK} {Dn:Ends}
theorem aM.weak {r:R Out} (e:Ext F ρ H F1 ρ1 H1) (h:aM B r F ρ H Dn E):aM B r F1 ρ1 H1 Dn E:=by
 cases r with
 | ok d M'=>exact fun F' ρ' H' e' S=>h F' ρ' H' (e.trans e') S
 | exc c M'=>exact h
 | bad=>exact h
theorem aM.use {α β:Type} {rel:(Addr->Prop)->List Addr->Hp->α->β->Prop} {x:R α} {f:α->MH->R Out} (r:RS B F ρ H σD σ) (h:aM B (x.use σD f) F ρ H Dn E) :
  ah rel B x F ρ H (fun v H'=>∃ d M' F' ρ',Ext F ρ H F' ρ' H'/\SR B F' ρ' M' H'/\rel F' ρ' H' d v/\aM B (f d M') F' ρ' H' Dn E) (fun cv x H'=>E.e cv x σ H'):=by
 cases x with
 | ok d M'=>exact fun F' ρ' H' v e S q=>⟨d,M',F',ρ',e,S,q,aM.weak e h⟩
 | exc c M'=>exact fun F' ρ' H' cv x e S q=>h F' ρ' H' e S σ cv x (r.mono e) q
 | bad=>exact h
theorem TC.one {a:Fg.E} {f:D->MH->R Out} {W:V->Hp->Prop} (S:SR B F ρ M H) (r:RS B F ρ H σD σ) (h:aM B ((ev Φ a σD M).use σD f) F ρ H Dn E)
  (k:∀ x M1 F1 ρ1 H1 v,Ext F ρ H F1 ρ1 H1->SR B F1 ρ1 M1 H1->RS B F1 ρ1 H1 σD σ->RD B F1 ρ1 H1 x v->aM B (f x M1) F1 ρ1 H1 Dn E->W v H1):T B Φ E a σ H W:=by
 refine ⟨σD,M,F,ρ,S,r,ah.imp (aM.use (rel:=RD B) r h) fun v H1 ⟨x,M1,F1,ρ1,e,S1,rx,h1⟩=>?_⟩
 exact k x M1 F1 ρ1 H1 v e S1 (r.mono e) rx h1
theorem aM.run {o:Out} (h:aM B (.ok o M) F ρ H Dn E) (S:SR B F ρ M H):LV B o F ρ H Dn E:=h F ρ H S.refl S
theorem nk {i:Nat} {e:Fg.E} (h:TC B Φ E (.set i e) Dn σ H):E5 (T B Φ E e) (kM i) Dn σ H:=by
 obtain ⟨σD,M,F,ρ,S,r,h⟩:=h
 simp only [ex] at h
 exact TC.one S r h fun x M1 F1 ρ1 H1 v e1 S1 r1 rx h1=>aM.run h1 S1 _ (r1.set rx i)
theorem Ft {e:Fg.E} (h:TC B Φ E (.ex e) Dn σ H):DM (T B Φ E e) Dn σ H:=by
 obtain ⟨σD,M,F,ρ,S,r,h⟩:=h
 simp only [ex] at h
 exact TC.one S r h fun x M1 F1 ρ1 H1 v e1 S1 r1 rx h1=>aM.run h1 S1 _ r1
theorem Br {e:Fg.E} (h:TC B Φ E (.ret e) Dn σ H):Js (T B Φ E e) Dn σ H:=by
 obtain ⟨σD,M,F,ρ,S,r,h⟩:=h
 simp only [ex] at h
 exact TC.one S r h fun x M1 F1 ρ1 H1 v e1 S1 r1 rx h1=>aM.run h1 S1 _ rx
theorem By {c:Fg.E} {a b:Ss} (h:TC B Φ E (.ifs c a b) Dn σ H):Jw (TB B Φ E c) (xj B Φ E a) (xj B Φ E b) Dn σ H:=by
 obtain ⟨σD,M,F,ρ,S,r,h⟩:=h
 simp only [ex] at h
 refine TC.one S r h fun x M1 F1 ρ1 H1 v e1 S1 r1 rx h1=>?_
 split at h1
 ·simp only [RD] at rx;subst rx
  exact ⟨true,rfl,by dsimp only;rw [if_pos rfl];exact ⟨σD,M1,F1,ρ1,S1,r1,h1⟩⟩
 ·simp only [RD] at rx;subst rx
  exact ⟨false,rfl,by dsimp only;rw [if_neg Bool.false_ne_true];exact ⟨σD,M1,F1,ρ1,S1,r1,h1⟩⟩
 ·exact h1.elim
theorem pG (h:xj B Φ E .nil Dn σ H):DL Dn σ H:=by
 obtain ⟨σD,M,F,ρ,S,r,h⟩:=h
 simp only [exs] at h
 exact aM.run h S _ r
theorem l6 {s:S} {ss:Ss} (h:xj B Φ E (.cons s ss) Dn σ H):Jr (TC B Φ E s) (xj B Φ E ss) Dn σ H:=by
 obtain ⟨σD,M,F,ρ,S,r,h⟩:=h
 simp only [exs] at h
 refine ⟨σD,M,F,ρ,S,r,?_⟩
 cases hx:ex Φ s σD M with
 | ok o M1 =>
  rw [hx] at h
  simp only [R.af] at h
  intro F' ρ' H' e S'
  cases o with
  | nx σ1=>exact fun σ' r'=>⟨σ1,M1,F',ρ',S',r',aM.weak e h⟩
  | rt d=>exact fun v q=>h F' ρ' H' e S' v q
  | bk σ1=>exact fun σ' q=>h F' ρ' H' e S' σ' q
  | ct σ1=>exact fun σ' q=>h F' ρ' H' e S' σ' q
  | xc c σ1=>exact fun σ' cv x q1 q2=>h F' ρ' H' e S' σ' cv x q1 q2
 | exc c M1=>rw [hx] at h;exact h
 | bad=>rw [hx] at h;exact h
theorem sV {fz:Bool} {x:D} {ds:List D} {v:V} {vs:List V} {X:XK} (S:SR B F ρ M H) (rx:RD B F ρ H x v) (r:ai B F ρ H ds vs) (h:Post B (gR .append fz M x ds) F ρ H Q X):nE v vs H Q:=by
 unfold gR at h
 cases hl:gF M x with
 | none=>rw [hl] at h;exact h.elim
 | some q =>
  rw [hl] at h
  obtain ⟨rfl,hx⟩:=jX hl
  cases ds with
  | nil=>exact h.elim
  | cons d t =>
   cases t with
   | cons _ _=>exact h.elim
   | nil =>
    simp only [qb,yI] at h
    split at h
    ·rename_i hlen
     obtain ⟨w,rfl,r1⟩:=FH r
     simp only [RD] at rx
     obtain ⟨a,h1,rfl⟩:=rx
     obtain ⟨ws,h2,h3⟩:=S.obj _ a _ h1 hx
     refine ⟨a,ws,w,rfl,rfl,h2,?_,?_⟩
     ·rw [<- ai.length h3];exact Nat.lt_of_lt_of_le (of_decide_eq_true hlen) bO
     ·obtain ⟨S',e⟩:=S.st (o:=.lst (ws++[w])) (u:=.lst (q.2++[d])) h1 (fun _ _ q=>by rw [h2] at q;cases q) ⟨_,ay,ai.bE (Ext0.at_ S h1) _ _ (h3.append (ai.cons r1 ai.nil))⟩
      exact h _ _ _ _ e S' (by simp only [RD])
    ·exact h.elim
theorem yr {k:Key} {d:D} {v:V} (rd:RD B F ρ H d v):∀ {cD:List (Ky×D)} {kvs:List (Key×V)},kvs.map (·.1)=cD.map (·.1)->ai B F ρ H (cD.map (·.2)) (kvs.map (·.2)) ->
  (putK kvs k v).map (·.1)=(put cD k d).map (·.1)/\ai B F ρ H ((put cD k d).map (·.2)) ((putK kvs k v).map (·.2)):=by
 have hmap:∀ {cD:List (Ky×D)} {kvs:List (Key×V)},kvs.map (·.1)=cD.map (·.1)->ai B F ρ H (cD.map (·.2)) (kvs.map (·.2)) ->
   (kvs.map fun kv=>if kv.1=k then (kv.1,v) else kv).map (·.1)=(cD.map fun kv=>if kv.1=k then (kv.1,d) else kv).map (·.1) /\
   ai B F ρ H ((cD.map fun kv=>if kv.1=k then (kv.1,d) else kv).map (·.2)) ((kvs.map fun kv=>if kv.1=k then (kv.1,v) else kv).map (·.2)):=by
  intro cD
  induction cD with
  | nil=>intro kvs h1 h2;cases kvs with | nil=>exact ⟨rfl,ai.nil⟩ | cons _ _=>simp at h1
  | cons p cD ih =>
   intro kvs h1 h2
   cases kvs with
   | nil=>simp at h1
   | cons q kvs =>
    obtain ⟨pk,pd⟩:=p
    obtain ⟨qk,qv⟩:=q
    simp only [List.map_cons,List.cons.injEq] at h1
    simp only [List.map_cons,ai] at h2
    obtain ⟨u,ws,e,r1,r2⟩:=h2
    cases e
    obtain ⟨e1,e2⟩:=h1
    subst e1
    obtain ⟨i1,i2⟩:=ih e2 r2
    by_cases hk:qk=k
    ·simp only [List.map_cons,if_pos hk,i1,true_and]
     exact ai.cons rd i2
    ·simp only [List.map_cons,if_neg hk,i1,true_and]
     exact ai.cons r1 i2
 have hany:∀ {cD:List (Ky×D)} {kvs:List (Key×V)},kvs.map (·.1)=cD.map (·.1)->(kvs.any fun kv=>decide (kv.1=k))=(cD.any fun kv=>decide (kv.1=k)):=by
  intro cD
  induction cD with
  | nil=>intro kvs h1;cases kvs with | nil=>rfl | cons _ _=>simp at h1
  | cons p cD ih =>
   intro kvs h1
   cases kvs with
   | nil=>simp at h1
   | cons q kvs =>
    simp only [List.map_cons,List.cons.injEq] at h1
    simp only [List.any_cons,h1.1,ih h1.2]
 intro cD kvs h1 h2
 unfold putK put
 rw [hany h1]
 split
 ·exact hmap h1 h2
 ·simp only [List.map_append,List.map_cons,List.map_nil,h1,true_and]
  exact h2.append (ai.cons rd ai.nil)
noncomputable def Walks (B:Bd) (J:It) (src:D) (ds:List D) (F0:Addr->Prop) (ρ0:List Addr) (M0:MH) (H0:Hp):Prop :=
 ∀ (i:Nat) F ρ M H,Ext F0 ρ0 H0 F ρ H->SR B F ρ M H->aP M0 src M=true ->
  (∀ d,ds[i]? = some d->J.go i H/\∀ x H',J.L3 i H x H'->∃ F',Ext F ρ H F' ρ H'/\SR B F' ρ M H'/\RD B F' ρ H' d x)/\(ds.length<=i->J.stop i H)
noncomputable def Dt (B:Bd) (Φ:bF) (E:Gx) (c:Src):TI:=fun σ H R=>∃ (σD:Sg) (M:MH) (F:Addr->Prop) (ρ:List Addr),
 SR B F ρ M H/\RS B F ρ H σD σ/\ah (fun F' ρ' H' (p:D×List D×Bool) (J:It)=>∀ M',aX Φ c σD M=.ok p M'->SR B F' ρ' M' H'->Walks B J p.1 p.2.1 F' ρ' M' H' /\
  (p.2.2=true->∃ n a,p.1=.ref n/\ρ'[n]? = some a/\E.th a/\∀ w v,H a≠some (.gh w v))) B (aX Φ c σD M) F ρ H R (fun cv x H'=>E.e cv x σ H')
noncomputable def thE (th:Addr->Prop) (D:Ends):Ends:=⟨fun σ H=>∃ H',A2 th H H'/\D.nx σ H',fun v H=>∃ H',A2 th H H'/\D.rt v H',fun σ H=>∃ H',A2 th H H'/\D.bk σ H',fun σ H=>∃ H',A2 th H H'/\D.ct σ H'⟩
theorem cR {F1:Addr->Prop} {ρ0 ρ1:List Addr} {H1:Hp} {M1:MH} {fl:Bool} {src:D} {th:Addr->Prop} (S:SR B F1 ρ1 M1 H1) (e:Ext F ρ H F1 ρ1 H1) (hp:ρ0 <+: ρ1) (wz:fl=true->∃ n a,src=.ref n/\ρ0[n]? = some a/\th a/\∀ w v,H a≠some (.gh w v)) :
  ∃ H',A2 th H1 H'/\SR B F1 ρ1 (fL fl src M1) H'/\Ext F ρ H F1 ρ1 H'/\Ext0 F1 ρ1 H1 F1 ρ1 H':=by
 have same:SR B F1 ρ1 M1 H1/\Ext F ρ H F1 ρ1 H1/\Ext0 F1 ρ1 H1 F1 ρ1 H1:=⟨S,e,S.refl.toExt0⟩
 cases fl with
 | false=>exact ⟨H1,.inl rfl,by cases src <;> exact same⟩
 | true =>
  obtain ⟨n,a,rfl,hn,ht,hz⟩:=wz rfl
  have hn1:ρ1[n]? = some a:=by
   obtain ⟨t,rfl⟩:=hp
   obtain ⟨q,_⟩:=List.getElem?_eq_some_iff.mp hn
   rw [List.getElem?_append_left q];exact hn
  cases hM:M1[n]? with
  | none=>refine ⟨H1,.inl rfl,?_⟩;simp only [fL,hM];exact same
  | some o =>
   cases o with
   | oX kvs =>
    obtain ⟨o,kws,h1,S'⟩:=S.uw hn1 hM
    refine ⟨upd H1 a (.dK kws),.inr ⟨a,o,kws,ht,h1,rfl⟩,?_,e.thaw (List.mem_of_getElem? hn1) hz S.sep,Ext0.at_ S hn1⟩
    simp only [fL,hM];exact S'
   | lst _=>refine ⟨H1,.inl rfl,?_⟩;simp only [fL,hM];exact same
   | dct _=>refine ⟨H1,.inl rfl,?_⟩;simp only [fL,hM];exact same
   | ins _ _=>refine ⟨H1,.inl rfl,?_⟩;simp only [fL,hM];exact same
theorem RS.bE {F':Addr->Prop} {ρ':List Addr} {H':Hp} (e:Ext0 F ρ H F' ρ' H') (h:RS B F ρ H σD σ):RS B F' ρ' H' σD σ :=
 ⟨h.len,fun i d q=>let ⟨v,h1,h2⟩:=h.get i d q;⟨v,h1,RD.bE e d v h2⟩⟩
noncomputable def KW (tg:List Nat) (K:W.Frag):TG:=match tg with
 | [i]=>kM i
 | [i,j]=>fun v σ H Q=>∃ a x y,v=.ref a/\gO K H a [x,y]/\Q ((σ.set i (some x)).set j (some y)) H
 | []=>fun _ _ _ _=>False
 | tg=>fun v σ H Q=>∃ a xs,v=.ref a/\gO K H a xs/\xs.length=tg.length/\Q (i0 tg xs σ) H
theorem RS.all:∀ {tg:List Nat} {ds:List D} {vs:List V} {σD:Sg} {σ:St},RS B F ρ H σD σ->ai B F ρ H ds vs->RS B F ρ H (i0 tg ds σD) (i0 tg vs σ)
 | [],ds,vs,σD,σ,r,q=>by cases ds <;> cases vs <;> exact r
 | i::tg,[],vs,σD,σ,r,q=>by simp only [ai] at q;subst q;exact r
 | i::tg,d::ds,vs,σD,σ,r,q=>by
  simp only [ai] at q
  obtain ⟨v,ws,rfl,h1,h2⟩:=q
  exact RS.all (tg:=tg) (ds:=ds) (vs:=ws) (σD:=σD.set i (some d)) (σ:=σ.set i (some v)) (r.set h1 i) h2
theorem pM {tg:List Nat} {d:D} {v:V} {σ1:Sg} {N:St->Hp->Prop} (r:RS B F ρ H σD σ) (rd:RD B F ρ H d v) (h:sets tg M d σD=some σ1) (k:∀ σ',RS B F ρ H σ1 σ'->N σ' H):KW tg B.K v σ H N:=by
 unfold sets at h
 split at h
 ·cases h;exact k _ (r.set rd _)
 ·split at h
  ·cases h
   simp only [RD] at rd
   obtain ⟨a,vs,rfl,z,q⟩:=rd
   simp only [ai] at q
   obtain ⟨x,ws,rfl,r1,y,us,rfl,r2,rfl⟩:=q
   exact ⟨a,x,y,rfl,z.sq,k _ ((r.set r1 _).set r2 _)⟩
  ·cases h
 ·cases h
 ·rename_i h1 h2 h3
  split at h
  ·rename_i xs
   split at h
   ·rename_i hl
    cases h
    simp only [RD] at rd
    obtain ⟨a,vs,rfl,z,q⟩:=rd
    have e:vs.length=tg.length:=by rw [<- ai.length q];exact hl
    match tg,h1,h2,h3,e,k with
    | i::j::l::tg,_,_,_,e,k=>exact ⟨a,vs,rfl,z.sq,e,k _ (r.all q)⟩
    | [i],h1,_,_,_,_=>exact absurd rfl (h1 i)
    | [i,j],_,h2,_,_,_=>exact absurd rfl (h2 i j)
    | [],_,_,h3,_,_=>exact absurd rfl h3
   ·cases h
  ·cases h
theorem BC {tg:List Nat} {it:Src} {b:Ss} (h:TC B Φ E (.for tg it b) Dn σ H):Jx (Dt B Φ E it) (KW tg B.K) (xj B Φ E b) (thE E.th Dn) σ H:=by
 obtain ⟨σD,M,F,ρ,S,r,h⟩:=h
 simp only [ex] at h
 refine ⟨σD,M,F,ρ,S,r,?_⟩
 cases hx:aX Φ it σD M with
 | exc c M1=>rw [hx] at h;exact fun F' ρ' H' cv x e S q=>h F' ρ' H' e S σ cv x (r.mono e) q
 | bad=>rw [hx] at h;exact h
 | ok p M0 =>
  rw [hx] at h
  simp only [R.gP] at h
  intro F0 ρ0 H0 J e0 S0 hw
  obtain ⟨W,wz⟩:=hw M0 rfl S0
  obtain ⟨src,ds,fl⟩:=p
  dsimp only at h W wz
  refine ⟨fun i m σ H1=>m+i=ds.length/\∃ σD M F1 ρ1,Ext F ρ H F1 ρ1 H1/\Ext F0 ρ0 H0 F1 ρ1 H1/\SR B F1 ρ1 M H1/\RS B F1 ρ1 H1 σD σ/\aP M0 src M=true/\aM B ((aS (exs Φ b) tg (aP M0 src) (ds.drop i) σD M).fin (fL fl src)) F ρ H Dn E,⟨ds.length,by simp,σD,M0,F0,ρ0,e0,S0.refl,S0,r.mono e0,?_,h⟩,?_⟩
  ·unfold aP;split <;> simp
  rintro i m σ1 H1 ⟨hm,A5,M1,F1,ρ1,eo,e1,S1,r1,st1,p1⟩
  obtain ⟨wgo,wst⟩:=W i F1 ρ1 M1 H1 e1 S1 st1
  by_cases hi:i<ds.length
  ·have hd:ds.drop i=ds[i]::ds.drop (i+1):=List.drop_eq_getElem_cons hi
   rw [hd] at p1
   unfold aS at p1
   obtain ⟨go,yl⟩:=wgo ds[i] (List.getElem?_eq_getElem hi)
   refine .inr ⟨go,fun σ' H'=>∃ σD M F1 ρ1,Ext F ρ H F1 ρ1 H'/\Ext F0 ρ0 H0 F1 ρ1 H'/\SR B F1 ρ1 M H'/\RS B F1 ρ1 H' σD σ'/\aP M0 src M=true/\aM B ((aS (exs Φ b) tg (aP M0 src) (ds.drop (i+1)) σD M).fin (fL fl src)) F ρ H Dn E,fun σ' H' q=>⟨m-1,by omega,by omega,q⟩,fun x H' hy=>?_⟩
   obtain ⟨F',e2,S2,rd⟩:=yl x H' hy
   split at p1
   ·exact p1.elim
   ·rename_i σ2 hs
    refine pM (r1.mono e2) rd hs fun σ' r'=>⟨σ2,M1,F',ρ1,S2,r',?_⟩
    cases hb:exs Φ b σ2 M1 with
    | exc c M3=>rw [hb] at p1;exact p1.elim
    | bad=>rw [hb] at p1;exact p1.elim
    | ok o M3 =>
     rw [hb] at p1
     simp only [R.af] at p1
     intro F3 ρ3 H3 e3 S3
     have Li:=(eo.trans e2).trans e3
     have Lv:=(e1.trans e2).trans e3
     cases o with
     | nx σ3 =>
      simp only at p1
      intro σ4 r4
      split at p1
      ·rename_i hst
       exact ⟨σ3,M3,F3,ρ3,Li,Lv,S3,r4,hst,p1⟩
      ·exact p1.elim
     | ct σ3 =>
      simp only at p1
      intro σ4 r4
      split at p1
      ·rename_i hst
       exact ⟨σ3,M3,F3,ρ3,Li,Lv,S3,r4,hst,p1⟩
      ·exact p1.elim
     | bk σ3 =>
      obtain ⟨H4,t4,S4,e4,x4⟩:=cR S3 Li Lv.r wz
      exact fun σ4 r4=>⟨H4,t4,p1 F3 ρ3 H4 e4 S4 σ4 (r4.bE x4)⟩
     | rt d =>
      obtain ⟨H4,t4,S4,e4,x4⟩:=cR S3 Li Lv.r wz
      exact fun v q=>⟨H4,t4,p1 F3 ρ3 H4 e4 S4 v (RD.bE x4 _ _ q)⟩
     | xc c σ3 =>
      obtain ⟨H4,t4,S4,e4,x4⟩:=cR S3 Li Lv.r wz
      exact fun σ4 cv x q1 q2=>E.cl cv x σ4 H3 H4 t4 (p1 F3 ρ3 H4 e4 S4 σ4 cv x (q1.bE x4) q2)
  ·have hd:ds.drop i=[]:=List.drop_eq_nil_of_le (Nat.le_of_not_lt hi)
   rw [hd] at p1
   unfold aS at p1
   obtain ⟨H4,t4,S4,e4,x4⟩:=cR S1 eo e1.r wz
   exact .inl ⟨wst (Nat.le_of_not_lt hi),H4,t4,p1 F1 ρ1 H4 e4 S4 σ1 (r1.bE x4)⟩
theorem vH {c:Fg.E} {b:Ss} (h:TC B Φ E (.while c b) Dn σ H):xF (TB B Φ E c) (xj B Φ E b) Dn σ H:=by
 obtain ⟨σD,M,F,ρ,S,r,h⟩:=h
 simp only [ex] at h
 refine ⟨fun m σ H=>∃ σD M F ρ,SR B F ρ M H/\RS B F ρ H σD σ/\aM B (bX (ev Φ c) (exs Φ b) m σD M) F ρ H Dn E,⟨Φ.turns,σD,M,F,ρ,S,r,h⟩,?_⟩
 rintro m σ1 H1 ⟨A5,M1,F1,ρ1,S1,r1,p1⟩
 cases m with
 | zero=>simp only [bX] at p1;exact p1.elim
 | succ m =>
  simp only [bX] at p1
  refine TC.one S1 r1 p1 fun x M2 F2 ρ2 H2 v e2 S2 r2 rx h2=>?_
  split at h2
  ·simp only [RD] at rx;subst rx
   refine ⟨false,rfl,?_⟩
   exact aM.run h2 S2 _ r2
  ·simp only [RD] at rx;subst rx
   refine ⟨true,rfl,?_⟩
   refine ⟨fun σ' H'=>∃ σD M F ρ,SR B F ρ M H'/\RS B F ρ H' σD σ'/\aM B (bX (ev Φ c) (exs Φ b) m σD M) F ρ H' Dn E,fun σ' H' q=>⟨m,Nat.lt_succ_self m,q⟩,A5,M2,F2,ρ2,S2,r2,?_⟩
   cases hb:exs Φ b A5 M2 with
   | exc c M3=>rw [hb] at h2;exact h2
   | bad=>rw [hb] at h2;exact h2
   | ok o M3 =>
    rw [hb] at h2
    simp only [R.af] at h2
    intro F3 ρ3 H3 e3 S3
    cases o with
    | nx σ3=>exact fun σ4 r4=>⟨σ3,M3,F3,ρ3,S3,r4,aM.weak e3 h2⟩
    | ct σ3=>exact fun σ4 r4=>⟨σ3,M3,F3,ρ3,S3,r4,aM.weak e3 h2⟩
    | bk σ3=>exact fun σ4 r4=>h2 F3 ρ3 H3 e3 S3 σ4 r4
    | rt d=>exact fun v q=>h2 F3 ρ3 H3 e3 S3 v q
    | xc c σ3=>exact fun σ4 cv x q1 q2=>h2 F3 ρ3 H3 e3 S3 σ4 cv x q1 q2
  ·exact h2.elim
end
end Fg
end
section
namespace Fg
open PySem PySem.Spec L2
section
variable {X:Cx} {pins:List (Addr×Obj)} {σ:L2.St} {H:Hp} {s:Shared}
mutual
theorem DV.inj (I:Inv X pins σ H s):∀ {d e:D} {x:V},DV X.K H d x->DV X.K H e x->d=e
 | .ao,e,x,h,h'=>by
  simp only [DV] at h;subst h
  cases e <;> simp only [DV] at h' <;> first | rfl | (cases h';done) | (obtain ⟨_,_,q,_⟩:=h';cases q)
 | .bl b,e,x,h,h'=>by
  simp only [DV] at h;subst h
  cases e <;> simp only [DV] at h' <;> first | (cases h';rfl) | (cases h';done) | (obtain ⟨_,_,q,_⟩:=h';cases q)
 | .int b,e,x,h,h'=>by
  simp only [DV] at h;subst h
  cases e <;> simp only [DV] at h' <;> first | (cases h';rfl) | (cases h';done) | (obtain ⟨_,_,q,_⟩:=h';cases q)
 | .str b,e,x,h,h'=>by
  simp only [DV] at h;subst h
  cases e <;> simp only [DV] at h' <;> first | (cases h';rfl) | (cases h';done) | (obtain ⟨_,_,q,_⟩:=h';cases q)
 | .tup ds,e,x,h,h'=>by
  simp only [DV] at h
  obtain ⟨a,vs,rfl,h1,h2⟩:=h
  cases e with
  | tup es =>
   simp only [DV] at h'
   obtain ⟨b,ws,q,h3,h4⟩:=h'
   cases q
   have:=I.iW h1 h3
   subst this
   rw [g6.inj I h2 h4]
  | lst es =>
   simp only [DV] at h'
   obtain ⟨b,ws,q,h3,h4⟩:=h'
   cases q
   obtain ⟨its,_,t1,_⟩:=I.tuple h1
   obtain ⟨its',_,t2,_⟩:=I.list h3
   exact absurd rfl (SeqAt.ne_of_list_tuple t2.isList t1)
  | ao=>simp only [DV] at h';cases h'
  | bl _=>simp only [DV] at h';cases h'
  | int _=>simp only [DV] at h';cases h'
  | str _=>simp only [DV] at h';cases h'
  | dct _ _=>simp only [DV] at h'
  | ref _=>simp only [DV] at h'
 | .lst ds,e,x,h,h'=>by
  simp only [DV] at h
  obtain ⟨a,vs,rfl,h1,h2⟩:=h
  cases e with
  | lst es =>
   simp only [DV] at h'
   obtain ⟨b,ws,q,h3,h4⟩:=h'
   cases q
   have:=I.kG h1 h3
   subst this
   rw [g6.inj I h2 h4]
  | tup es =>
   simp only [DV] at h'
   obtain ⟨b,ws,q,h3,h4⟩:=h'
   cases q
   obtain ⟨its,_,t1,_⟩:=I.list h1
   obtain ⟨its',_,t2,_⟩:=I.tuple h3
   exact absurd rfl (SeqAt.ne_of_list_tuple t1.isList t2)
  | ao=>simp only [DV] at h';cases h'
  | bl _=>simp only [DV] at h';cases h'
  | int _=>simp only [DV] at h';cases h'
  | str _=>simp only [DV] at h';cases h'
  | dct _ _=>simp only [DV] at h'
  | ref _=>simp only [DV] at h'
 | .dct _ _,e,x,h,h'=>by simp only [DV] at h
 | .ref _,e,x,h,h'=>by simp only [DV] at h
theorem g6.inj (I:Inv X pins σ H s):∀ {ds es:List D} {xs:List V},g6 X.K H ds xs->g6 X.K H es xs->ds=es
 | [],es,xs,h,h'=>by
  simp only [g6] at h;subst h
  cases es with
  | nil=>rfl
  | cons _ _=>simp only [g6] at h';obtain ⟨_,_,q,_⟩:=h';cases q
 | d::ds,es,xs,h,h'=>by
  simp only [g6] at h
  obtain ⟨v,ws,rfl,h1,h2⟩:=h
  cases es with
  | nil=>simp only [g6] at h';cases h'
  | cons e es =>
   simp only [g6] at h'
   obtain ⟨v',ws',q,h3,h4⟩:=h'
   cases q
   rw [DV.inj I h1 h3,g6.inj I h2 h4]
end
mutual
theorem kQ {K:W.Frag} {H:Hp}:∀ {d:D} {x:V},DV K H d x->aJ d d=true
 | .ao,_,_=>by simp only [aJ]
 | .bl b,_,_=>by simp only [aJ];simp
 | .int i,_,_=>by simp only [aJ];simp
 | .str x,_,_=>by simp only [aJ];simp
 | .tup ds,_,h=>by simp only [DV] at h;obtain ⟨_,_,_,_,q⟩:=h;simp only [aJ];exact jo q
 | .lst ds,_,h=>by simp only [DV] at h;obtain ⟨_,_,_,_,q⟩:=h;simp only [aJ];exact jo q
 | .dct _ _,_,h=>by simp only [DV] at h
 | .ref _,_,h=>by simp only [DV] at h
theorem jo {K:W.Frag} {H:Hp}:∀ {ds:List D} {xs:List V},g6 K H ds xs->dO ds ds=true
 | [],_,_=>by simp only [dO]
 | d::ds,_,h=>by
  simp only [g6] at h
  obtain ⟨_,_,_,h1,h2⟩:=h
  simp only [dO,kQ h1,jo h2,Bool.and_self]
end
theorem g6.length {K:W.Frag} {H:Hp}:∀ {ds:List D} {xs:List V},g6 K H ds xs->ds.length=xs.length
 | [],_,h=>by simp only [g6] at h;subst h;rfl
 | d::ds,_,h=>by
  simp only [g6] at h
  obtain ⟨_,_,rfl,_,h2⟩:=h
  simp [g6.length h2]
theorem g6.get {K:W.Frag} {H:Hp}:∀ {ds:List D} {xs:List V} {i:Nat} (h1:i<ds.length),g6 K H ds xs->∃ v,xs[i]? = some v/\DV K H ds[i] v
 | [],_,i,h1,_=>by simp at h1
 | d::ds,_,i,h1,h=>by
  simp only [g6] at h
  obtain ⟨v,ws,rfl,q1,q2⟩:=h
  cases i with
  | zero=>exact ⟨v,rfl,q1⟩
  | succ i =>
   simp only [List.length_cons] at h1
   obtain ⟨u,a,b⟩:=g6.get (i:=i) (by omega) q2
   exact ⟨u,by simpa using a,by simpa using b⟩
theorem cN:∀ {ds:List D} {i:Nat} (h:i<ds.length),dep ds[i]<=deps ds
 | [],i,h=>by simp at h
 | d::ds,i,h=>by
  cases i with
  | zero=>simp only [List.getElem_cons_zero,deps];omega
  | succ i =>
   simp only [List.length_cons] at h
   have:=cN (ds:=ds) (i:=i) (by omega)
   simp only [List.getElem_cons_succ,deps];omega
theorem c9:∀ (ds es:List D),((List.range (min ds.length es.length)).all (fun j=>match ds[j]?,es[j]? with | some a,some b=>aJ a b | _,_=>false)&&ds.length == es.length)=dO ds es
 | [],[]=>by simp [dO]
 | [],e::es=>by simp [dO]
 | d::ds,[]=>by simp [dO]
 | d::ds,e::es=>by
  have ih:=c9 ds es
  simp only [dO,<- ih]
  simp only [List.length_cons,Nat.succ_min_succ,List.range_succ_eq_map,List.all_cons,List.all_map,Function.comp_def]
  simp [Bool.and_assoc]
noncomputable def EqB (s:Shared) (d e:D) (u w:Value) (n:Nat):Prop:=∀ A:Around,A.units+n<cLine->SeqAt.RcAt A s u w (aJ d e)/\SeqAt.EqAt A s u w (aJ d e)
theorem in1_units (A:Around):A.in1.units=A.units+1:=rfl
theorem aU:∀ {ds:List D} {i:Nat},az ds=true->∀ (h:i<ds.length),plain ds[i]=true
 | [],i,_,h=>by simp at h
 | d::ds,i,p,h=>by
  simp only [az,Bool.and_eq_true] at p
  cases i with
  | zero=>exact p.1
  | succ i=>simp only [List.length_cons] at h;simpa using aU p.2 (by omega)
theorem eq_data (I:Inv X pins σ H s):∀ (n:Nat) (d e:D) (x y:V) (u w:Value),dep d+dep e<n->DV X.K H d x->DV X.K H e y->plain d=true->plain e=true->RelV x u->RelV y w->EqB s d e u w (min (dep d) (dep e)+1)
 | 0,_,_,_,_,_,_,h,_,_,_,_,_,_=>absurd h (Nat.not_lt_zero _)
 | n+1, d, e, x, y, u, w, hn, hd, he, pd, pe, ru, rw'=>by
  have ih:=eq_data I n
  intro A hA
  have hu:A.units<cLine:=by omega
  cases d with
  | bl _=>simp [plain] at pd
  | dct _ _=>simp [plain] at pd
  | ref _=>simp [plain] at pd
  | ao =>
   simp only [DV] at hd;subst hd;cases (show u=Value.none from ru)
   cases e with
   | bl _=>simp [plain] at pe
   | dct _ _=>simp [plain] at pe
   | ref _=>simp [plain] at pe
   | ao =>
    simp only [DV] at he;subst he;cases (show w=Value.none from rw')
    simp only [aJ];exact ⟨SeqAt.RcAt.none_none,SeqAt.EqAt.same _⟩
   | int j =>
    simp only [DV] at he;subst he;obtain ⟨t',rfl⟩:=(show ∃ t,w=Value.int j t from rw')
    simp only [aJ];exact ⟨SeqAt.RcAt.none_int j t',SeqAt.EqAt.none_int j t'⟩
   | str j =>
    simp only [DV] at he;subst he;obtain ⟨t',rfl⟩:=(show ∃ t,w=Value.str j t from rw')
    simp only [aJ];exact ⟨SeqAt.RcAt.none_str j t',SeqAt.EqAt.none_str j t'⟩
   | tup es =>
    simp only [DV] at he
    obtain ⟨b,ws,rfl,h3,h4⟩:=he
    cases (show w=Value.ref b from rw')
    obtain ⟨its,_,t1,_⟩:=I.tuple h3
    simp only [aJ];exact ⟨SeqAt.RcAt.none_tuple  t1 hu,SeqAt.EqAt.none_tuple  t1 hu⟩
   | lst es =>
    simp only [DV] at he
    obtain ⟨b,ws,rfl,h3,h4⟩:=he
    cases (show w=Value.ref b from rw')
    obtain ⟨its,_,t1,_⟩:=I.list h3
    simp only [aJ];exact ⟨SeqAt.RcAt.none_list  t1.isList hu,SeqAt.EqAt.none_list  t1.isList hu⟩
  | int i =>
   simp only [DV] at hd;subst hd;obtain ⟨t,rfl⟩:=(show ∃ t,u=Value.int i t from ru)
   cases e with
   | bl _=>simp [plain] at pe
   | dct _ _=>simp [plain] at pe
   | ref _=>simp [plain] at pe
   | ao =>
    simp only [DV] at he;subst he;cases (show w=Value.none from rw')
    simp only [aJ];exact ⟨SeqAt.RcAt.int_none i t,SeqAt.EqAt.int_none i t⟩
   | int j =>
    simp only [DV] at he;subst he;obtain ⟨t',rfl⟩:=(show ∃ t,w=Value.int j t from rw')
    have z:aJ (D.int i) (D.int j)=(i == j):=by simp only [aJ];by_cases q:i=j <;> simp [q]
    rw [z];exact ⟨SeqAt.RcAt.int_int i t j t',SeqAt.EqAt.int_int i t j t'⟩
   | str j =>
    simp only [DV] at he;subst he;obtain ⟨t',rfl⟩:=(show ∃ t,w=Value.str j t from rw')
    simp only [aJ];exact ⟨SeqAt.RcAt.int_str i t j t',SeqAt.EqAt.int_str i t j t'⟩
   | tup es =>
    simp only [DV] at he
    obtain ⟨b,ws,rfl,h3,h4⟩:=he
    cases (show w=Value.ref b from rw')
    obtain ⟨its,_,t1,_⟩:=I.tuple h3
    simp only [aJ];exact ⟨SeqAt.RcAt.int_tuple i t t1 hu,SeqAt.EqAt.int_tuple i t t1 hu⟩
   | lst es =>
    simp only [DV] at he
    obtain ⟨b,ws,rfl,h3,h4⟩:=he
    cases (show w=Value.ref b from rw')
    obtain ⟨its,_,t1,_⟩:=I.list h3
    simp only [aJ];exact ⟨SeqAt.RcAt.int_list i t t1.isList hu,SeqAt.EqAt.int_list i t t1.isList hu⟩
  | str i =>
   simp only [DV] at hd;subst hd;obtain ⟨t,rfl⟩:=(show ∃ t,u=Value.str i t from ru)
   cases e with
   | bl _=>simp [plain] at pe
   | dct _ _=>simp [plain] at pe
   | ref _=>simp [plain] at pe
   | ao =>
    simp only [DV] at he;subst he;cases (show w=Value.none from rw')
    simp only [aJ];exact ⟨SeqAt.RcAt.str_none i t,SeqAt.EqAt.str_none i t⟩
   | int j =>
    simp only [DV] at he;subst he;obtain ⟨t',rfl⟩:=(show ∃ t,w=Value.int j t from rw')
    simp only [aJ];exact ⟨SeqAt.RcAt.str_int i t j t',SeqAt.EqAt.str_int i t j t'⟩
   | str j =>
    simp only [DV] at he;subst he;obtain ⟨t',rfl⟩:=(show ∃ t,w=Value.str j t from rw')
    have z:aJ (D.str i) (D.str j)=(i == j):=by simp only [aJ];by_cases q:i=j <;> simp [q]
    rw [z];exact ⟨SeqAt.RcAt.str_str i t j t',SeqAt.EqAt.str_str i t j t'⟩
   | tup es =>
    simp only [DV] at he
    obtain ⟨b,ws,rfl,h3,h4⟩:=he
    cases (show w=Value.ref b from rw')
    obtain ⟨its,_,t1,_⟩:=I.tuple h3
    simp only [aJ];exact ⟨SeqAt.RcAt.str_tuple i t t1 hu,SeqAt.EqAt.str_tuple i t t1 hu⟩
   | lst es =>
    simp only [DV] at he
    obtain ⟨b,ws,rfl,h3,h4⟩:=he
    cases (show w=Value.ref b from rw')
    obtain ⟨its,_,t1,_⟩:=I.list h3
    simp only [aJ];exact ⟨SeqAt.RcAt.str_list i t t1.isList hu,SeqAt.EqAt.str_list i t t1.isList hu⟩
  | tup ds =>
   simp only [DV] at hd
   obtain ⟨a,vs,rfl,h1,h2⟩:=hd
   cases (show u=Value.ref a from ru)
   obtain ⟨its,r1,t1,_⟩:=I.tuple h1
   cases e with
   | bl _=>simp [plain] at pe
   | dct _ _=>simp [plain] at pe
   | ref _=>simp [plain] at pe
   | ao =>
    simp only [DV] at he;subst he;cases (show w=Value.none from rw')
    simp only [aJ];exact ⟨SeqAt.RcAt.tuple_none  t1 hu,SeqAt.EqAt.tuple_none  t1 hu⟩
   | int j =>
    simp only [DV] at he;subst he;obtain ⟨t',rfl⟩:=(show ∃ t,w=Value.int j t from rw')
    simp only [aJ];exact ⟨SeqAt.RcAt.tuple_int j t' t1 hu,SeqAt.EqAt.tuple_int j t' t1 hu⟩
   | str j =>
    simp only [DV] at he;subst he;obtain ⟨t',rfl⟩:=(show ∃ t,w=Value.str j t from rw')
    simp only [aJ];exact ⟨SeqAt.RcAt.tuple_str j t' t1 hu,SeqAt.EqAt.tuple_str j t' t1 hu⟩
   | lst es =>
    simp only [DV] at he
    obtain ⟨b,ws,rfl,h3,h4⟩:=he
    cases (show w=Value.ref b from rw')
    obtain ⟨its2,r2,t2,_⟩:=I.list h3
    simp only [aJ];exact ⟨SeqAt.RcAt.tuple_list t1 t2.isList hu,SeqAt.EqAt.of_refs (Ne.symm (SeqAt.ne_of_list_tuple t2.isList t1)) (SeqAt.RcAt.tuple_list t1 t2.isList hu)⟩
   | tup es =>
    simp only [DV] at he
    obtain ⟨b,ws,rfl,h3,h4⟩:=he
    cases (show w=Value.ref b from rw')
    obtain ⟨its2,r2,t2,_⟩:=I.tuple h3
    have Gi:az ds=true:=by simpa [plain] using pd
    have Gh:az es=true:=by simpa [plain] using pe
    have l1:its.length=ds.length:=by rw [<- r1.length,h2.length]
    have l2:its2.length=es.length:=by rw [<- r2.length,h4.length]
    let f:Nat->Bool:=fun j=>match ds[j]?,es[j]? with | some a,some b=>aJ a b | _,_=>false
    have items:∀ j (h1:j<its.toArray.size) (h2:j<its2.toArray.size),SeqAt.EqAt A.in1 s its.toArray[j] its2.toArray[j] (f j):=by
     intro j j1 j2
     have nR:j<ds.length:=by rw [<- l1];simpa using j1
     have nQ:j<es.length:=by rw [<- l2];simpa using j2
     obtain ⟨v,e1,q1⟩:=h2.get nR
     obtain ⟨v',e2,q2⟩:=h4.get nQ
     obtain ⟨z,e3,q3⟩:=r1.get e1
     obtain ⟨z',e4,q4⟩:=r2.get e2
     have i1:its.toArray[j]=z:=by
      have:its[j]? = some its[j]:=List.getElem?_eq_getElem (by simpa using j1)
      rw [this] at e3;simpa using Option.some.inj e3
     have i2:its2.toArray[j]=z':=by
      have:its2[j]? = some its2[j]:=List.getElem?_eq_getElem (by simpa using j2)
      rw [this] at e4;simpa using Option.some.inj e4
     have g1:=cN nR
     have g2:=cN nQ
     have hf:f j=aJ ds[j] es[j]:=by simp only [f,List.getElem?_eq_getElem nR,List.getElem?_eq_getElem nQ]
     rw [i1,i2,hf]
     simp only [dep] at hn hA
     exact (ih ds[j] es[j] v v' z z' (by omega) q1 q2 (aU Gi nR) (aU Gh nQ) q3 q4 A.in1 (by rw [in1_units];omega)).2
    have xH:its.toArray.size=ds.length:=by simpa using l1
    have Be:its2.toArray.size=es.length:=by simpa using l2
    have rc:SeqAt.RcAt A s (.ref a) (.ref b) (aJ (.tup ds) (.tup es)):=by
     have q:=SeqAt.RcAt.tuples t1 t2 hu items
     rw [xH,Be,c9] at q
     simp only [aJ];exact q
    refine ⟨rc,?_⟩
    by_cases hab:a=b
    ·subst hab
     have i1:DV X.K H (.tup ds) (.ref a):=by simp only [DV];exact ⟨a,vs,rfl,h1,h2⟩
     have i2:DV X.K H (.tup es) (.ref a):=by simp only [DV];exact ⟨a,ws,rfl,h3,h4⟩
     rw [DV.inj I i1 i2,kQ i2]
     exact SeqAt.EqAt.same _
    ·exact SeqAt.EqAt.of_refs hab rc
  | lst ds =>
   simp only [DV] at hd
   obtain ⟨a,vs,rfl,h1,h2⟩:=hd
   cases (show u=Value.ref a from ru)
   obtain ⟨its,r1,t1,_⟩:=I.list h1
   cases e with
   | bl _=>simp [plain] at pe
   | dct _ _=>simp [plain] at pe
   | ref _=>simp [plain] at pe
   | ao =>
    simp only [DV] at he;subst he;cases (show w=Value.none from rw')
    simp only [aJ];exact ⟨SeqAt.RcAt.list_none  t1.isList hu,SeqAt.EqAt.list_none  t1.isList hu⟩
   | int j =>
    simp only [DV] at he;subst he;obtain ⟨t',rfl⟩:=(show ∃ t,w=Value.int j t from rw')
    simp only [aJ];exact ⟨SeqAt.RcAt.list_int j t' t1.isList hu,SeqAt.EqAt.list_int j t' t1.isList hu⟩
   | str j =>
    simp only [DV] at he;subst he;obtain ⟨t',rfl⟩:=(show ∃ t,w=Value.str j t from rw')
    simp only [aJ];exact ⟨SeqAt.RcAt.list_str j t' t1.isList hu,SeqAt.EqAt.list_str j t' t1.isList hu⟩
   | tup es =>
    simp only [DV] at he
    obtain ⟨b,ws,rfl,h3,h4⟩:=he
    cases (show w=Value.ref b from rw')
    obtain ⟨its2,r2,t2,_⟩:=I.tuple h3
    simp only [aJ];exact ⟨SeqAt.RcAt.list_tuple t1.isList t2 hu,SeqAt.EqAt.of_refs (SeqAt.ne_of_list_tuple t1.isList t2) (SeqAt.RcAt.list_tuple t1.isList t2 hu)⟩
   | lst es =>
    simp only [DV] at he
    obtain ⟨b,ws,rfl,h3,h4⟩:=he
    cases (show w=Value.ref b from rw')
    obtain ⟨its2,r2,t2,_⟩:=I.list h3
    have Gi:az ds=true:=by simpa [plain] using pd
    have Gh:az es=true:=by simpa [plain] using pe
    have l1:its.length=ds.length:=by rw [<- r1.length,h2.length]
    have l2:its2.length=es.length:=by rw [<- r2.length,h4.length]
    let f:Nat->Bool:=fun j=>match ds[j]?,es[j]? with | some a,some b=>aJ a b | _,_=>false
    have items:∀ j (h1:j<its.toArray.size) (h2:j<its2.toArray.size),SeqAt.EqAt A.in1 s its.toArray[j] its2.toArray[j] (f j):=by
     intro j j1 j2
     have nR:j<ds.length:=by rw [<- l1];simpa using j1
     have nQ:j<es.length:=by rw [<- l2];simpa using j2
     obtain ⟨v,e1,q1⟩:=h2.get nR
     obtain ⟨v',e2,q2⟩:=h4.get nQ
     obtain ⟨z,e3,q3⟩:=r1.get e1
     obtain ⟨z',e4,q4⟩:=r2.get e2
     have i1:its.toArray[j]=z:=by
      have:its[j]? = some its[j]:=List.getElem?_eq_getElem (by simpa using j1)
      rw [this] at e3;simpa using Option.some.inj e3
     have i2:its2.toArray[j]=z':=by
      have:its2[j]? = some its2[j]:=List.getElem?_eq_getElem (by simpa using j2)
      rw [this] at e4;simpa using Option.some.inj e4
     have g1:=cN nR
     have g2:=cN nQ
     have hf:f j=aJ ds[j] es[j]:=by simp only [f,List.getElem?_eq_getElem nR,List.getElem?_eq_getElem nQ]
     rw [i1,i2,hf]
     simp only [dep] at hn hA
     exact (ih ds[j] es[j] v v' z z' (by omega) q1 q2 (aU Gi nR) (aU Gh nQ) q3 q4 A.in1 (by rw [in1_units];omega)).2
    have xH:its.toArray.size=ds.length:=by simpa using l1
    have Be:its2.toArray.size=es.length:=by simpa using l2
    have rc:SeqAt.RcAt A s (.ref a) (.ref b) (aJ (.lst ds) (.lst es)):=by
     by_cases hz:ds.length=es.length
     ·have q:=SeqAt.RcAt.lists t1.isList t2.isList (by rw [xH,Be,hz]) hu items
      have z:=c9 ds es
      rw [show min ds.length es.length=ds.length by omega,show (ds.length == es.length)=true by simpa using hz,Bool.and_true] at z
      rw [xH,z] at q
      simp only [aJ];exact q
     ·have q:=SeqAt.RcAt.lists_lengths t1.isList t2.isList (by rw [xH,Be];simpa using hz) hu
      have z:=c9 ds es
      rw [show (ds.length == es.length)=false by simpa using hz,Bool.and_false] at z
      simp only [aJ,<- z];exact q
    refine ⟨rc,?_⟩
    by_cases hab:a=b
    ·subst hab
     have i1:DV X.K H (.lst ds) (.ref a):=by simp only [DV];exact ⟨a,vs,rfl,h1,h2⟩
     have i2:DV X.K H (.lst es) (.ref a):=by simp only [DV];exact ⟨a,ws,rfl,h3,h4⟩
     rw [DV.inj I i1 i2,kQ i2]
     exact SeqAt.EqAt.same _
    ·exact SeqAt.EqAt.of_refs hab rc
theorem ne_data (I:Inv X pins σ H s):∀ (d e:D) (x y:V) (u w:Value),DV X.K H d x->DV X.K H e y->plain d=true->plain e=true->RelV x u->RelV y w->∀ A:Around,A.units+(min (dep d) (dep e)+1)<cLine->SeqAt.RcNeAt A s u w (!aJ d e)
 | d, e, x, y, u, w, hd, he, pd, pe, ru, rw'=>by
  have ih:=eq_data I (dep d+dep e)
  intro A hA
  have hu:A.units<cLine:=by omega
  cases d with
  | bl _=>simp [plain] at pd
  | dct _ _=>simp [plain] at pd
  | ref _=>simp [plain] at pd
  | ao =>
   simp only [DV] at hd;subst hd;cases (show u=Value.none from ru)
   cases e with
   | bl _=>simp [plain] at pe
   | dct _ _=>simp [plain] at pe
   | ref _=>simp [plain] at pe
   | ao =>
    simp only [DV] at he;subst he;cases (show w=Value.none from rw')
    simp only [aJ,Bool.not_false,Bool.not_true];exact SeqAt.RcNeAt.none_none
   | int j =>
    simp only [DV] at he;subst he;obtain ⟨t',rfl⟩:=(show ∃ t,w=Value.int j t from rw')
    simp only [aJ,Bool.not_false,Bool.not_true];exact SeqAt.RcNeAt.none_int j t'
   | str j =>
    simp only [DV] at he;subst he;obtain ⟨t',rfl⟩:=(show ∃ t,w=Value.str j t from rw')
    simp only [aJ,Bool.not_false,Bool.not_true];exact SeqAt.RcNeAt.none_str j t'
   | tup es =>
    simp only [DV] at he
    obtain ⟨b,ws,rfl,h3,h4⟩:=he
    cases (show w=Value.ref b from rw')
    obtain ⟨its,_,t1,_⟩:=I.tuple h3
    simp only [aJ,Bool.not_false,Bool.not_true];exact SeqAt.RcNeAt.none_tuple  t1 hu
   | lst es =>
    simp only [DV] at he
    obtain ⟨b,ws,rfl,h3,h4⟩:=he
    cases (show w=Value.ref b from rw')
    obtain ⟨its,_,t1,_⟩:=I.list h3
    simp only [aJ,Bool.not_false,Bool.not_true];exact SeqAt.RcNeAt.none_list  t1.isList hu
  | int i =>
   simp only [DV] at hd;subst hd;obtain ⟨t,rfl⟩:=(show ∃ t,u=Value.int i t from ru)
   cases e with
   | bl _=>simp [plain] at pe
   | dct _ _=>simp [plain] at pe
   | ref _=>simp [plain] at pe
   | ao =>
    simp only [DV] at he;subst he;cases (show w=Value.none from rw')
    simp only [aJ,Bool.not_false,Bool.not_true];exact SeqAt.RcNeAt.int_none i t
   | int j =>
    simp only [DV] at he;subst he;obtain ⟨t',rfl⟩:=(show ∃ t,w=Value.int j t from rw')
    have z:aJ (D.int i) (D.int j)=(i == j):=by simp only [aJ];by_cases q:i=j <;> simp [q]
    rw [z];exact SeqAt.RcNeAt.int_int i t j t'
   | str j =>
    simp only [DV] at he;subst he;obtain ⟨t',rfl⟩:=(show ∃ t,w=Value.str j t from rw')
    simp only [aJ,Bool.not_false,Bool.not_true];exact SeqAt.RcNeAt.int_str i t j t'
   | tup es =>
    simp only [DV] at he
    obtain ⟨b,ws,rfl,h3,h4⟩:=he
    cases (show w=Value.ref b from rw')
    obtain ⟨its,_,t1,_⟩:=I.tuple h3
    simp only [aJ,Bool.not_false,Bool.not_true];exact SeqAt.RcNeAt.int_tuple i t t1 hu
   | lst es =>
    simp only [DV] at he
    obtain ⟨b,ws,rfl,h3,h4⟩:=he
    cases (show w=Value.ref b from rw')
    obtain ⟨its,_,t1,_⟩:=I.list h3
    simp only [aJ,Bool.not_false,Bool.not_true];exact SeqAt.RcNeAt.int_list i t t1.isList hu
  | str i =>
   simp only [DV] at hd;subst hd;obtain ⟨t,rfl⟩:=(show ∃ t,u=Value.str i t from ru)
   cases e with
   | bl _=>simp [plain] at pe
   | dct _ _=>simp [plain] at pe
   | ref _=>simp [plain] at pe
   | ao =>
    simp only [DV] at he;subst he;cases (show w=Value.none from rw')
    simp only [aJ,Bool.not_false,Bool.not_true];exact SeqAt.RcNeAt.str_none i t
   | int j =>
    simp only [DV] at he;subst he;obtain ⟨t',rfl⟩:=(show ∃ t,w=Value.int j t from rw')
    simp only [aJ,Bool.not_false,Bool.not_true];exact SeqAt.RcNeAt.str_int i t j t'
   | str j =>
    simp only [DV] at he;subst he;obtain ⟨t',rfl⟩:=(show ∃ t,w=Value.str j t from rw')
    have z:aJ (D.str i) (D.str j)=(i == j):=by simp only [aJ];by_cases q:i=j <;> simp [q]
    rw [z];exact SeqAt.RcNeAt.str_str i t j t'
   | tup es =>
    simp only [DV] at he
    obtain ⟨b,ws,rfl,h3,h4⟩:=he
    cases (show w=Value.ref b from rw')
    obtain ⟨its,_,t1,_⟩:=I.tuple h3
    simp only [aJ,Bool.not_false,Bool.not_true];exact SeqAt.RcNeAt.str_tuple i t t1 hu
   | lst es =>
    simp only [DV] at he
    obtain ⟨b,ws,rfl,h3,h4⟩:=he
    cases (show w=Value.ref b from rw')
    obtain ⟨its,_,t1,_⟩:=I.list h3
    simp only [aJ,Bool.not_false,Bool.not_true];exact SeqAt.RcNeAt.str_list i t t1.isList hu
  | tup ds =>
   simp only [DV] at hd
   obtain ⟨a,vs,rfl,h1,h2⟩:=hd
   cases (show u=Value.ref a from ru)
   obtain ⟨its,r1,t1,_⟩:=I.tuple h1
   cases e with
   | bl _=>simp [plain] at pe
   | dct _ _=>simp [plain] at pe
   | ref _=>simp [plain] at pe
   | ao =>
    simp only [DV] at he;subst he;cases (show w=Value.none from rw')
    simp only [aJ,Bool.not_false,Bool.not_true];exact SeqAt.RcNeAt.tuple_none  t1 hu
   | int j =>
    simp only [DV] at he;subst he;obtain ⟨t',rfl⟩:=(show ∃ t,w=Value.int j t from rw')
    simp only [aJ,Bool.not_false,Bool.not_true];exact SeqAt.RcNeAt.tuple_int j t' t1 hu
   | str j =>
    simp only [DV] at he;subst he;obtain ⟨t',rfl⟩:=(show ∃ t,w=Value.str j t from rw')
    simp only [aJ,Bool.not_false,Bool.not_true];exact SeqAt.RcNeAt.tuple_str j t' t1 hu
   | lst es =>
    simp only [DV] at he
    obtain ⟨b,ws,rfl,h3,h4⟩:=he
    cases (show w=Value.ref b from rw')
    obtain ⟨its2,r2,t2,_⟩:=I.list h3
    simp only [aJ,Bool.not_false,Bool.not_true];exact SeqAt.RcNeAt.tuple_list t1 t2.isList hu
   | tup es =>
    simp only [DV] at he
    obtain ⟨b,ws,rfl,h3,h4⟩:=he
    cases (show w=Value.ref b from rw')
    obtain ⟨its2,r2,t2,_⟩:=I.tuple h3
    have Gi:az ds=true:=by simpa [plain] using pd
    have Gh:az es=true:=by simpa [plain] using pe
    have l1:its.length=ds.length:=by rw [<- r1.length,h2.length]
    have l2:its2.length=es.length:=by rw [<- r2.length,h4.length]
    let f:Nat->Bool:=fun j=>match ds[j]?,es[j]? with | some a,some b=>aJ a b | _,_=>false
    have items:∀ j (h1:j<its.toArray.size) (h2:j<its2.toArray.size),SeqAt.EqAt A.in1 s its.toArray[j] its2.toArray[j] (f j):=by
     intro j j1 j2
     have nR:j<ds.length:=by rw [<- l1];simpa using j1
     have nQ:j<es.length:=by rw [<- l2];simpa using j2
     obtain ⟨v,e1,q1⟩:=h2.get nR
     obtain ⟨v',e2,q2⟩:=h4.get nQ
     obtain ⟨z,e3,q3⟩:=r1.get e1
     obtain ⟨z',e4,q4⟩:=r2.get e2
     have i1:its.toArray[j]=z:=by
      have:its[j]? = some its[j]:=List.getElem?_eq_getElem (by simpa using j1)
      rw [this] at e3;simpa using Option.some.inj e3
     have i2:its2.toArray[j]=z':=by
      have:its2[j]? = some its2[j]:=List.getElem?_eq_getElem (by simpa using j2)
      rw [this] at e4;simpa using Option.some.inj e4
     have g1:=cN nR
     have g2:=cN nQ
     have hf:f j=aJ ds[j] es[j]:=by simp only [f,List.getElem?_eq_getElem nR,List.getElem?_eq_getElem nQ]
     rw [i1,i2,hf]
     simp only [dep] at ih hA
     exact (ih ds[j] es[j] v v' z z' (by omega) q1 q2 (aU Gi nR) (aU Gh nQ) q3 q4 A.in1 (by rw [in1_units];omega)).2
    have xH:its.toArray.size=ds.length:=by simpa using l1
    have Be:its2.toArray.size=es.length:=by simpa using l2
    have rc:SeqAt.RcNeAt A s (.ref a) (.ref b) (!aJ (.tup ds) (.tup es)):=by
     have q:=SeqAt.RcNeAt.tuples t1 t2 hu items
     rw [xH,Be,c9] at q
     simp only [aJ];exact q
    exact rc
  | lst ds =>
   simp only [DV] at hd
   obtain ⟨a,vs,rfl,h1,h2⟩:=hd
   cases (show u=Value.ref a from ru)
   obtain ⟨its,r1,t1,_⟩:=I.list h1
   cases e with
   | bl _=>simp [plain] at pe
   | dct _ _=>simp [plain] at pe
   | ref _=>simp [plain] at pe
   | ao =>
    simp only [DV] at he;subst he;cases (show w=Value.none from rw')
    simp only [aJ,Bool.not_false,Bool.not_true];exact SeqAt.RcNeAt.list_none  t1.isList hu
   | int j =>
    simp only [DV] at he;subst he;obtain ⟨t',rfl⟩:=(show ∃ t,w=Value.int j t from rw')
    simp only [aJ,Bool.not_false,Bool.not_true];exact SeqAt.RcNeAt.list_int j t' t1.isList hu
   | str j =>
    simp only [DV] at he;subst he;obtain ⟨t',rfl⟩:=(show ∃ t,w=Value.str j t from rw')
    simp only [aJ,Bool.not_false,Bool.not_true];exact SeqAt.RcNeAt.list_str j t' t1.isList hu
   | tup es =>
    simp only [DV] at he
    obtain ⟨b,ws,rfl,h3,h4⟩:=he
    cases (show w=Value.ref b from rw')
    obtain ⟨its2,r2,t2,_⟩:=I.tuple h3
    simp only [aJ,Bool.not_false,Bool.not_true];exact SeqAt.RcNeAt.list_tuple t1.isList t2 hu
   | lst es =>
    simp only [DV] at he
    obtain ⟨b,ws,rfl,h3,h4⟩:=he
    cases (show w=Value.ref b from rw')
    obtain ⟨its2,r2,t2,_⟩:=I.list h3
    have Gi:az ds=true:=by simpa [plain] using pd
    have Gh:az es=true:=by simpa [plain] using pe
    have l1:its.length=ds.length:=by rw [<- r1.length,h2.length]
    have l2:its2.length=es.length:=by rw [<- r2.length,h4.length]
    let f:Nat->Bool:=fun j=>match ds[j]?,es[j]? with | some a,some b=>aJ a b | _,_=>false
    have items:∀ j (h1:j<its.toArray.size) (h2:j<its2.toArray.size),SeqAt.EqAt A.in1 s its.toArray[j] its2.toArray[j] (f j):=by
     intro j j1 j2
     have nR:j<ds.length:=by rw [<- l1];simpa using j1
     have nQ:j<es.length:=by rw [<- l2];simpa using j2
     obtain ⟨v,e1,q1⟩:=h2.get nR
     obtain ⟨v',e2,q2⟩:=h4.get nQ
     obtain ⟨z,e3,q3⟩:=r1.get e1
     obtain ⟨z',e4,q4⟩:=r2.get e2
     have i1:its.toArray[j]=z:=by
      have:its[j]? = some its[j]:=List.getElem?_eq_getElem (by simpa using j1)
      rw [this] at e3;simpa using Option.some.inj e3
     have i2:its2.toArray[j]=z':=by
      have:its2[j]? = some its2[j]:=List.getElem?_eq_getElem (by simpa using j2)
      rw [this] at e4;simpa using Option.some.inj e4
     have g1:=cN nR
     have g2:=cN nQ
     have hf:f j=aJ ds[j] es[j]:=by simp only [f,List.getElem?_eq_getElem nR,List.getElem?_eq_getElem nQ]
     rw [i1,i2,hf]
     simp only [dep] at ih hA
     exact (ih ds[j] es[j] v v' z z' (by omega) q1 q2 (aU Gi nR) (aU Gh nQ) q3 q4 A.in1 (by rw [in1_units];omega)).2
    have xH:its.toArray.size=ds.length:=by simpa using l1
    have Be:its2.toArray.size=es.length:=by simpa using l2
    have rc:SeqAt.RcNeAt A s (.ref a) (.ref b) (!aJ (.lst ds) (.lst es)):=by
     by_cases hz:ds.length=es.length
     ·have q:=SeqAt.RcNeAt.lists t1.isList t2.isList (by rw [xH,Be,hz]) hu items
      have z:=c9 ds es
      rw [show min ds.length es.length=ds.length by omega,show (ds.length == es.length)=true by simpa using hz,Bool.and_true] at z
      rw [xH,z] at q
      simp only [aJ];exact q
     ·have q:=SeqAt.RcNeAt.lists_lengths t1.isList t2.isList (by rw [xH,Be];simpa using hz) hu
      have z:=c9 ds es
      rw [show (ds.length == es.length)=false by simpa using hz,Bool.and_false] at z
      simp only [aJ,<- z,Bool.not_false];exact q
    exact rc
end
end Fg
end
section
namespace Fg
open PySem PySem.Spec L2
section
variable {X:Cx} {B:Bd} {pins:List (Addr×Obj)} {σ:L2.St} {H:Hp} {s:Shared}
noncomputable def lC (B:Bd) (X:Cx):Prop:=∀ a kvs,B.dk a kvs->∀ h:Heap,X.K.In h->kvs.length<=sizeLine/\(a == sysModules)=false/\∃ vs,KV kvs vs/\h.DictOf (aI X.prog X.w) a vs
theorem IP {a:Addr} {kvs:List (Key×V)} (hB:lC B X) (I:Inv X pins σ H s) (h:II B H a kvs):kvs.length<=sizeLine/\(a == sysModules)=false/\∃ vs,KV kvs vs/\s.heap.DictOf (aI X.prog X.w) a vs:=by
 rcases h with h | h
 ·exact EJ I.hok h
 ·exact hB a kvs h s.heap I.gS
noncomputable def Rm (X:Cx):Prop:=X.A.units+150<cLine
theorem Gz (hu:Rm X):eB X (compareOp .Eq) (yo X.K false):=by
 intro pins s σ H x y v u Q I rx ry h
 obtain ⟨d,e,hd,he,hc,q⟩:=h
 simp only [aZ,Bool.and_eq_true,Bool.or_eq_true,decide_eq_true_eq] at hc
 have:=(eq_data I (dep d+dep e+1) d e x y v u (Nat.lt_succ_self _) hd he hc.1.1 hc.1.2 rx ry X.A (by unfold Rm at hu;omega)).1
 exact this X.prog X.w X.xe _ ⟨.bl (aJ d e),H,I,rfl,q⟩
theorem Gq (hu:Rm X):eB X (compareOp .NotEq) (yo X.K true):=by
 intro pins s σ H x y v u Q I rx ry h
 obtain ⟨d,e,hd,he,hc,q⟩:=h
 simp only [aZ,Bool.and_eq_true,Bool.or_eq_true,decide_eq_true_eq] at hc
 have:=ne_data I d e x y v u hd he hc.1.1 hc.1.2 rx ry X.A (by unfold Rm at hu;omega)
 exact this X.prog X.w X.xe _ ⟨.bl (!aJ d e),H,I,rfl,q⟩
theorem GA:eB X (compareOp .Eq) (BO false):=by
 intro pins s σ H x y v u Q I rx ry h
 obtain ⟨a,b,rfl,rfl,q⟩:=h
 refine J9 pins s σ H _ _ v u Q I rx ry ⟨rfl,?_⟩
 have e:decide (V.bl a=V.bl b)=(a == b):=ow
 rw [e];exact q
theorem Gr:eB X (compareOp .NotEq) (BO true):=by
 intro pins s σ H x y v u Q I rx ry h
 obtain ⟨a,b,rfl,rfl,q⟩:=h
 refine J4 pins s σ H _ _ v u Q I rx ry ⟨rfl,?_⟩
 have e:decide (V.bl a=V.bl b)=(a == b):=ow
 rw [e];exact q
theorem Gy (hu:Rm X):eB X (compareOp .Eq) (ym X.K false):=by
 intro pins s σ H x y v u Q I rx ry h
 obtain ⟨l,b,xs,rfl,rfl,hH,hB,q⟩:=h
 cases rx
 cases ry
 have KL:X.A.units<cLine:=by unfold Rm at hu;omega
 obtain ⟨its,r,pl,z⟩:=I.list hH
 obtain ⟨its2,r2,FY,z2⟩:=I.list hB
 cases r2
 cases r with
 | nil=>exact SeqAt.eq_listAt (e:=fun _=>true) pl.isList FY.isList rfl KL (fun j h1=>by simp at h1) ⟨.bl true,H,I,rfl,q⟩
 | cons _ _=>exact SeqAt.eq_list_lengthsAt pl.isList FY.isList (by simp) KL ⟨.bl false,H,I,rfl,q⟩
theorem Gp (hu:Rm X):eB X (compareOp .NotEq) (ym X.K true):=by
 intro pins s σ H x y v u Q I rx ry h
 obtain ⟨l,b,xs,rfl,rfl,hH,hB,q⟩:=h
 cases rx
 cases ry
 have KL:X.A.units<cLine:=by unfold Rm at hu;omega
 obtain ⟨its,r,pl,z⟩:=I.list hH
 obtain ⟨its2,r2,FY,z2⟩:=I.list hB
 cases r2
 cases r with
 | nil=>exact SeqAt.RcNeAt.lists (e:=fun _=>true) pl.isList FY.isList rfl KL (fun j h1=>by simp at h1) X.prog X.w X.xe _ ⟨.bl false,H,I,rfl,q⟩
 | cons _ _=>exact SeqAt.RcNeAt.lists_lengths pl.isList FY.isList (by simp) KL X.prog X.w X.xe _ ⟨.bl true,H,I,rfl,q⟩
theorem Gw (hB:lC B X):eB X (compareOp .In) (yp B false):=by
 intro pins s σ H x y v u Q I rx ry h
 obtain ⟨a,kvs,k,rfl,rfl,hd,q⟩:=h
 obtain rfl:u=Value.ref a:=ry
 obtain ⟨z,hm,vs,rel,dd⟩:=IP hB I hd
 refine wpAny_in_of (mF rx) hm dd.mapOf ?_
 rw [<- (rel.val k).jf]
 exact ⟨.bl (cI kvs k).isSome,H,I.tok _,rfl,q⟩
theorem vX (hB:lC B X):eB X (compareOp .NotIn) (yp B true):=by
 intro pins s σ H x y v u Q I rx ry h
 obtain ⟨a,kvs,k,rfl,rfl,hd,q⟩:=h
 obtain rfl:u=Value.ref a:=ry
 obtain ⟨z,hm,vs,rel,dd⟩:=IP hB I hd
 refine wpAny_notIn_of (mF rx) hm dd.mapOf ?_
 rw [<- (rel.val k).jf]
 exact ⟨.bl (!(cI kvs k).isSome),H,I.tok _,rfl,q⟩
noncomputable def Az:AS->CmpOp
 | .eq=>.Eq | .ne=>.NotEq | .lt=>.Lt | .le=>.LtE | .gt=>.Gt | .ge=>.GtE | .isin=>.In | .p6=>.NotIn | .wo=>.Is | .gQ=>.IsNot
theorem yH (hK:B.K=X.K) (hu:Rm X) (hB:lC B X):∀ o:AS,eB X (compareOp (Az o)) (rH B o)
 | .lt=>J5
 | .le=>J6
 | .gt=>J7
 | .ge=>J8
 | .eq=>by rw [rH,hK];exact GA.or ((Gz hu).or (Gy hu))
 | .ne=>by rw [rH,hK];exact Gr.or ((Gq hu).or (Gp hu))
 | .wo=>Gv
 | .gQ=>B9
 | .isin=>by rw [rH,hK];exact (Gw hB).or vY
 | .p6=>by rw [rH,hK];exact (vX hB).or nH
theorem Ce:eB X (binaryOp .Add) (D0 X.K):=by
 intro pins s σ H x y v u Q I rx ry h
 obtain ⟨l,b,xs,zs,rfl,rfl,hH,hB,hz,q⟩:=h
 cases rx
 cases ry
 obtain ⟨its,r,pl,z⟩:=I.list hH
 obtain ⟨its2,r2,FY,z2⟩:=I.list hB
 obtain ⟨⟨cls,dd,data,sl⟩,ho,hc,n,hd⟩:=id pl.isList
 obtain ⟨⟨LA,dd2,data2,sl2⟩,ho2,hc2,n2,hd2⟩:=id FY.isList
 simp only at hc hd hc2 hd2
 subst hc hd hc2 hd2
 have l1:=r.length
 have l2:=r2.length
 have ea:its.toArray++its2.toArray=(its++its2).toArray:=by simp
 refine PySem.concat_meets ⟨_,ho,rfl⟩ ⟨_,ho2,rfl⟩ PySem.noFill_list_add PySem.seq_list_add PySem.F.slot_list_add PySem.F.entry_list_add (PySem.F.args_list_add_2 _ _) (PyProof.Rows.list_addW l b its.toArray its2.toArray n n2 dd dd2 sl sl2 (by simp only [List.size_toArray];omega)) ⟨ho,ho2,?_⟩
 rw [ea]
 exact ⟨.ref _,_,I.Kr (t':=s.toks) (r.append r2) (by rw [List.length_append];omega),rfl,q _ I.fresh⟩
theorem Cb:eB X (binaryOp .Mult) (DX X.K):=by
 intro pins s σ H x y v u Q I rx ry h
 obtain ⟨l,xs,k,rfl,rfl,hH,hz,hk,q⟩:=h
 cases rx
 obtain ⟨t,rfl⟩:=(show ∃ t,u=Value.int k t from ry)
 obtain ⟨its,r,pl,z⟩:=I.list hH
 obtain ⟨⟨cls,dd,data,sl⟩,ho,hc,n,hd⟩:=id pl.isList
 simp only at hc hd
 subst hc hd
 have l1:=r.length
 rw [l1] at hz
 refine wpAny_binaryOp_repeat_ref (T:="list") (U:="int") (by decide) ⟨_, ho, rfl⟩ (fun s'=>typeIs_int s' k t) noFill_list_mul PySem.F.fills_int_mul PySem.F.slot_int_rmul repeat_list PySem.F.slot_int_index.lookup
  (call_meets PySem.F.slot_int_rmul (typeIs_int s k t) PySem.F.entry_int_rmul (PySem.F.args_int_rmul_2 _ _) (PySem.lm_int_rmul_list_any k t l its.toArray n dd sl)
   ⟨ho,rfl,⟨_,ho,rfl⟩,call_meets PySem.F.slot_list_mul ⟨_,ho,rfl⟩ PySem.F.entry_list_mul (PySem.F.args_list_mul_2 _ _)
    (PySem.lm_list_mul_any l its.toArray n dd sl k t (by simp [Builtin.List.listFitsIndex];omega) (by rw [List.size_toArray];rw [sizeLine_eq] at hz;omega) (by rw [sizeLine_eq] at hz;simp [Builtin.List.listTooLong,sizeLine];omega))
    ⟨ho,?_⟩⟩)
 rw [PyProof.Rows.listMul_foldl_if]
 have rr:Vals (List.replicate k.toNat xs).flatten (List.replicate k.toNat its).flatten:=by
  generalize k.toNat=m
  induction m with
  | zero=>exact .nil
  | succ m ih=>rw [List.replicate_succ,List.replicate_succ,List.flatten_cons,List.flatten_cons];exact r.append ih
 exact ⟨.ref _,_,I.Kr (t':=s.toks) rr (by rw [List.length_flatten];simp [List.sum_replicate_nat];rw [l1,Nat.mul_comm];exact hz),rfl,q _ I.fresh⟩
theorem qe {i:Int} (h:i.natAbs<10 ^ 200):Builtin.Int.intBits i<=2 ^ 20:=by
 unfold Builtin.Int.intBits
 split
 ·exact Nat.zero_le _
 ·have z:i.natAbs.log2<1000:=by
   by_cases h0:i.natAbs=0
   ·rw [h0];decide
   ·exact (Nat.log2_lt h0).mpr (Nat.lt_of_lt_of_le h (by decide +kernel))
  exact Nat.le_trans (Nat.succ_le_of_lt z) (by decide)
theorem Ca:eB X (binaryOp .Mult) (rI L0 fun i j=>.int (i*j)):=Kc fun _ _ _ _ _ _ _ hc q=>PyProof.Rows.mul_int q (.of_bits (qe hc.1) (qe hc.2))
noncomputable def binOp:Dv->Operator
 | .add=>.Add | .sub=>.Sub | .mul=>.Mult | .fdiv=>.FloorDiv | .mod=>.Mod | .pow=>.Pow
theorem GB (hK:B.K=X.K):∀ o:Dv,eB X (binaryOp (binOp o)) (JN B.K o)
 | .add=>by rw [JN,hK];exact GC.or (rN.or (Ce.or Cd))
 | .sub=>Gk
 | .mul=>by rw [JN,hK];exact Gs.or (Ca.or Cb)
 | .fdiv=>Cc
 | .mod=>Gu
 | .pow=>Gn
theorem Hx (hB:lC B X):A4 X (JR B):=by
 intro value slice pins s σ H x y v u Q I rx ry h hs
 obtain ⟨a,kvs,k,w,rfl,rfl,hd,hv,q⟩:=h
 obtain rfl:v=Value.ref a:=rx
 obtain ⟨z,hm,vs,rel,dd⟩:=IP hB I hd
 obtain ⟨w',hw,rw'⟩:=gZ.some_of (v:=w) (o:=valueAt vs k) (by rw [<- hv];exact rel.val k)
 exact PyProof.Rows.tail_any dd.typeIs PySem.F.slot_dict_getitem.lookup (wpAny_getItem_of (mF ry) dd.mapOf hw ⟨w,H,I.tok _,rw',q⟩) hs
theorem Hy (hK:B.K=X.K) (hB:lC B X):A4 X (BN B):=by
 unfold BN;rw [hK];exact CF.or (Hv.or (Hw.or (Hx hB)))
theorem wN (hK:B.K=X.K) (hB:lC B X):cB X (.builtin "len") (FL B):=by
 unfold FL;rw [hK]
 refine oF.or (oG.or ?_)
 intro pins s σ H xs us Q I r h
 obtain ⟨a,kvs,rfl,ha,q⟩:=h
 obtain ⟨u,rfl,ru⟩:=vals1 r
 cases ru
 obtain ⟨z,hd,vs,rel,dd⟩:=IP hB I ha
 refine call_len_dict hd dd (by rw [<- rel.length];rw [sizeLine_eq] at z;omega) ?_
 rw [<- rel.length]
 exact ⟨.int kvs.length,H,I.tok _,⟨_,rfl⟩,q⟩
theorem wM (hK:B.K=X.K):cB X (.type "list") (rF B):=by unfold rF;rw [hK];exact oE
theorem wQ (hB:lC B X):cB X (.type "dict") (yq B):=by
 intro pins s σ H xs us Q I r h
 obtain ⟨p,kvs,rfl,ha,q⟩:=h
 obtain ⟨u,rfl,ru⟩:=vals1 r
 cases ru
 obtain ⟨z,hd,vs,rel,dd⟩:=IP hB I ha
 refine kt_call_dict hd dd (by rw [<- rel.length];exact z) fun h' De hs=>?_
 refine ⟨.ref s.heap.objs.size,_,I.laid (a:=s.heap.objs.size) (o:=.dK kvs) (t':=s.toks) (fun b q hq=>?_) (Nat.le_refl _) (sM z (beq_eq_false_iff_ne.mpr (Ne.symm (Nat.ne_of_lt I.big))) rel De),rfl,q _ (I.hok.fresh (Nat.le_refl _))⟩
 exact (hs.2 b (Nat.ne_of_lt (Heap.lt_size hq))).trans (Heap.get?_push_of_some _ hq)
inductive Ds (B:Bd) (H:Hp):V->String->Prop where
 | ao:Ds B H .ao "NoneType"
 | bl (b:Bool):Ds B H (.bl b) "bool"
 | int (i:Int):Ds B H (.int i) "int"
 | str (x:Str):Ds B H (.str x) "str"
 | lst {a:Addr} {xs:List V}:fK B.K H a xs->Ds B H (.ref a) "list"
 | tup {a:Addr} {xs:List V}:gO B.K H a xs->Ds B H (.ref a) "tuple"
 | dct {a:Addr} {kvs:List (Key×V)}:II B H a kvs->Ds B H (.ref a) "dict"
noncomputable def o6:Ty->String
 | .int=>"int" | .str=>"str" | .bool=>"bool" | .list=>"list" | .tuple=>"tuple" | .dict=>"dict"
noncomputable def tyB (T:String) (t:Ty):Bool:=T == o6 t||(T == "bool"&&match t with | .int=>true | _=>false)
noncomputable def JS (B:Bd):List V->Hp->VK->Prop:=fun xs H Q=>∃ x T t,xs=[x,.ty (o6 t)]/\Ds B H x T/\Q (.bl (tyB T t)) H
theorem Ct (K:W.Frag):∀ t:Ty, W.kitOne K (.type "NoneType") (.type (o6 t))=some (tyB "NoneType" t)/\W.kitOne K (.type "bool") (.type (o6 t))=some (tyB "bool" t)/\W.kitOne K (.type "int") (.type (o6 t))=some (tyB "int" t)/\W.kitOne K (.type "str") (.type (o6 t))=some (tyB "str" t) /\
  W.kitOne K (.type "list") (.type (o6 t))=some (tyB "list" t)/\W.kitOne K (.type "tuple") (.type (o6 t))=some (tyB "tuple" t)/\W.kitOne K (.type "dict") (.type (o6 t))=some (tyB "dict" t):=by
 intro t
 cases t <;> (refine ⟨?_,?_,?_,?_,?_,?_,?_⟩ <;> kernel_rfl)
theorem AB (hK:B.K=X.K) (hB:lC B X):cB X (.builtin "isinstance") (JS B):=by
 intro pins s σ H xs us Q I r h
 obtain ⟨x,T,t,rfl,ty,q⟩:=h
 cases r with
 | cons rx r =>
  cases r with
  | cons rt r =>
   cases r
   obtain rfl:=(show _=Value.type (o6 t) from rt)
   have fin:∀ tk,EP X pins σ Q (.bool (tyB T t)) { s with toks:=tk }:=fun tk=>⟨.bl (tyB T t),H,I.tok _,rfl,q⟩
   obtain ⟨k1,k2,k3,k4,k5,k6,k7⟩:=Ct X.K t
   cases ty with
   | ao=>cases (show _=Value.none from rx);exact W.kia_one W.kitx_none I.gS True.intro k1 (fun z=>nomatch z) fin
   | bl b=>cases (show _=Value.bool b from rx);exact W.kia_one W.kitx_bool I.gS True.intro k2 (fun z=>nomatch z) fin
   | int i=>obtain ⟨tk,q⟩:=(show ∃ t,_=Value.int i t from rx);cases q;exact W.kia_one W.kitx_int I.gS True.intro k3 (fun z=>nomatch z) fin
   | str y=>obtain ⟨tk,q⟩:=(show ∃ t,_=Value.str y t from rx);cases q;exact W.kia_one W.kitx_str I.gS True.intro k4 (fun z=>nomatch z) fin
   | lst hl =>
    cases rx
    rw [hK] at hl
    obtain ⟨its,_,pl,_⟩:=I.list hl
    obtain ⟨o,ho,hc,_⟩:=pl.isList
    exact W.kia_one W.kitx_list I.gS ⟨o,ho,hc⟩ k5 (fun z=>nomatch z) fin
   | tup hl =>
    cases rx
    rw [hK] at hl
    obtain ⟨its,_,pl,_⟩:=I.tuple hl
    obtain ⟨o,ho,hc,_⟩:=pl
    exact W.kia_one W.kitx_tuple I.gS ⟨o,ho,hc⟩ k6 (fun z=>nomatch z) fin
   | dct hd =>
    cases rx
    obtain ⟨z,hm,vs,rel,dd⟩:=IP hB I hd
    obtain ⟨o,ho,hc⟩:=dd.typeIs
    exact W.kia_one W.kitx_dict I.gS ⟨o,ho,hc⟩ k7 (fun z=>nomatch z) fin
end
end Fg
end
section
namespace Fg
open PySem PySem.Spec L2
theorem kD {α:Type} (xs:List α) (a:Nat):∀ c:Nat,((List.range c).map fun k=>a+k).filterMap (fun i=>xs[i]?)=(xs.drop a).take c
 | 0=>by simp
 | c+1=>by
  rw [List.range_succ,List.map_append,List.filterMap_append,kD xs a c,List.take_add_one]
  simp [List.getElem?_drop]
  cases h:xs[a+c]? <;> simp [h]
theorem qE (n d:Nat) (hd:d<=n) (o:Option Int):(match o with
  | none=>((d:Nat):Int)
  | some i=>max 0 (min (if i<0 then i+(n:Int) else i) (n:Int)))=((six n d o:Nat):Int):=by
 cases o with
 | none=>rfl
 | some i=>simp only [six];split <;> omega
theorem Fi (n d:Nat) (hd:d<=n) (o:Option Int):six n d o<=n:=by
 cases o with
 | none=>exact hd
 | some i=>simp only [six];split <;> omega
theorem FD (a b:Nat):sliceRange (a:Int) (b:Int) 1=(List.range (b-a)).map fun k=>a+k:=by
 unfold sliceRange
 simp only [show (1:Int) > 0 by decide,if_true]
 have ec:(if (a:Int)<(b:Int) then ((b:Int)-(a:Int)+1-1) / 1 else 0).toNat=b-a:=by
  split <;> omega
 rw [ec]
 apply List.map_congr_left
 intro k _
 omega
theorem zG (l u:Option Int) (n:Nat):Builtin.Str.strSliceIndices l u 1 n=(List.range (six n n u-six n 0 l)).map fun k=>six n 0 l+k:=by
 rw [<- FD,<- qE n 0 (Nat.zero_le _) l,<- qE n n (Nat.le_refl _) u]
 unfold Builtin.Str.strSliceIndices
 cases l <;> cases u <;> rfl
theorem qY (x:Str) (l u:Option Int):Txt.slice x l u=cuts x l u:=by
 have hn:x.cps.toList.length=x.length:=by simp [Str.length]
 have key:(Builtin.Str.strSliceIndices l u 1 x.length).filterMap (x.cps[·]?)=c7 x.cps.toList l u:=by
  rw [zG]
  have:=kD x.cps.toList (six x.length 0 l) (six x.length x.length u-six x.length 0 l)
  unfold c7
  rw [hn,<- this]
  congr 1
  funext i
  simp
 unfold Txt.slice
 split
 ·rename_i hc
  simp only [Bool.and_eq_true,beq_iff_eq] at hc
  have hc2:=hc.2
  rw [zG] at hc2
  simp only [List.length_map,List.length_range] at hc2
  have b1:=Fi x.length x.length (Nat.le_refl _) u
  unfold cuts c7
  rw [hn]
  by_cases h0:x.length=0
  ·obtain ⟨⟨l⟩⟩:=x
   simp [Str.length] at h0
   subst h0
   simp
  ·have a0:six x.length 0 l=0:=by omega
   rw [a0,List.drop_zero,List.take_of_length_le (by rw [hn];omega)]
 ·show Str.mk _=Str.mk _
  rw [key]
section
variable {X:Cx} {B:Bd}
theorem Fe:Du X JL:=by
 intro pins s σ H x v vl vu lo hi sl Q I rx hs pl pu h
 obtain ⟨z,rfl,hz,q⟩:=h
 obtain ⟨t,rfl⟩:=(show ∃ t,v=Value.str z t from rx)
 refine ⟨"str", _, PySem.F.slot_str_getitem.lookup, typeIs_str _ _ _, ?_⟩
 have fin:∀ (l u:Option Int) (t':Tok) (k:Nat),l=lo->u=hi->EP X pins σ Q (.str (Txt.slice z l u) t') { s with toks:=k }:=by
  intro l u t' k e3 e4
  exact ⟨.str (cuts z lo hi),H,I.tok _,⟨t',by rw [qY,e3,e4]⟩,q⟩
 obtain ⟨o,ho,hc,hd⟩:=hs
 cases pl with
 | none =>
  cases pu with
  | none=>exact wpAny_getItem_str_slice (l:=none) (u:=none) (st:=none) ⟨o,ho,hc,hd⟩ rfl (post_val_or_str ⟨Nat.le_trans (Txt.slice_le z none none) hz,fun t' k=>fin none none t' k rfl rfl⟩)
  | int j tj=>exact wpAny_getItem_str_slice (l:=none) (u:=some (j,tj)) (st:=none) ⟨o,ho,hc,hd⟩ rfl (post_val_or_str ⟨Nat.le_trans (Txt.slice_le z none (some j)) hz,fun t' k=>fin none (some j) t' k rfl rfl⟩)
 | int i ti =>
  cases pu with
  | none=>exact wpAny_getItem_str_slice (l:=some (i,ti)) (u:=none) (st:=none) ⟨o,ho,hc,hd⟩ rfl (post_val_or_str ⟨Nat.le_trans (Txt.slice_le z (some i) none) hz,fun t' k=>fin (some i) none t' k rfl rfl⟩)
  | int j tj=>exact wpAny_getItem_str_slice (l:=some (i,ti)) (u:=some (j,tj)) (st:=none) ⟨o,ho,hc,hd⟩ rfl (post_val_or_str ⟨Nat.le_trans (Txt.slice_le z (some i) (some j)) hz,fun t' k=>fin (some i) (some j) t' k rfl rfl⟩)
theorem Ff (hK:B.K=X.K):Du X (BL B):=by
 unfold BL;rw [hK];exact Bj.or (Fc.or Fe)
end
end Fg
end
section
namespace Fg
open PySem PySem.Spec L2
theorem dZ {α β:Type} (g:β->α->β):∀ {l:List α} {f:α->β->Sem (ForInStep β)} (_:∀ x∈l,∀ c,f x c=pure (.yield (g c x))) (c:β),forIn l c f=pure (l.foldl g c)
 | [],f,_,c=>rfl
 | x::l,f,h,c=>by
  rw [List.forIn_cons,h x List.mem_cons_self,pure_bind]
  exact dZ g (fun y hy=>h y (List.mem_cons_of_mem _ hy)) _
noncomputable def aH (env:Env) (cs:List (Str×Addr)) (x:Str×NameKind):List (Str×Addr):=if x.2 == .free then (x.1,(env.cells.lookup x.1).getD 0)::cs else cs
theorem sR {scope:Scope} {env:Env} (h:∀ x,(x,NameKind.free)∈scope.names->∃ c,env.cells.lookup x=some c):closureFor scope env=pure (scope.names.foldl (aH env) []):=by
 unfold closureFor
 dsimp only
 rw [dZ (aH env) (fun x hx c=>?_)]
 ·rfl
 obtain ⟨n,k⟩:=x
 by_cases hk:k=.free
 ·subst hk
  obtain ⟨a,ha⟩:=h n hx
  simp only [aH,cellOf,ha,beq_self_eq_true,if_true,Option.getD_some]
  rfl
 ·have hb:(k == NameKind.free)=false:=by simpa using hk
  simp only [aH,hb,Bool.false_eq_true,if_false]
theorem oA {env:Env}:∀ (names:List (Str×NameKind)) (cs:List (Str×Addr)) (p:Str×Addr),(∀ x,(x,NameKind.free)∈names->∃ c,env.cells.lookup x=some c)->p∈names.foldl (aH env) cs->p∈cs\/env.cells.lookup p.1=some p.2
 | [],cs,p,_,h=>.inl h
 | (n, k)::r, cs, p, hc, h=>by
  rw [List.foldl_cons] at h
  rcases oA r _ p (fun x hx=>hc x (List.mem_cons_of_mem _ hx)) h with q | q
  ·unfold aH at q
   split at q
   ·rename_i hk
    have hk':k=.free:=by simpa using hk
    subst hk'
    rcases List.mem_cons.mp q with q | q
    ·obtain ⟨a,ha⟩:=hc n List.mem_cons_self
     right
     rw [q]
     show env.cells.lookup n=some ((env.cells.lookup n).getD 0)
     rw [ha];rfl
    ·exact .inl q
   ·exact .inl q
  ·exact .inr q
theorem vh {env:Env}:∀ (names:List (Str×NameKind)) (cs:List (Str×Addr)) (x:Str),(∃ c,(x,c)∈cs)->∃ c,(x,c)∈names.foldl (aH env) cs
 | [],cs,x,h=>h
 | (n,k)::r,cs,x,⟨c,h⟩=>by
  rw [List.foldl_cons]
  refine vh r _ x ⟨c,?_⟩
  unfold aH
  split
  ·exact List.mem_cons_of_mem _ h
  ·exact h
theorem sS {env:Env}:∀ (names:List (Str×NameKind)) (cs:List (Str×Addr)) (x:Str),(x,NameKind.free)∈names->∃ c,(x,c)∈names.foldl (aH env) cs
 | (n, k)::r, cs, x, h=>by
  rw [List.foldl_cons]
  rcases List.mem_cons.mp h with h | h
  ·cases h
   refine vh r _ n ⟨(env.cells.lookup n).getD 0,?_⟩
   unfold aH
   rw [if_pos (by rfl)]
   exact List.mem_cons_self
  ·exact sS r _ x h
theorem dI {β:Type}:∀ {l:List (Str×β)} {x:Str} {c:β},(x,c)∈l->∃ d,l.lookup x=some d
 | (n, k)::r, x, c, h=>by
  rw [List.lookup_cons]
  cases e:x == n with
  | true=>exact ⟨k,rfl⟩
  | false =>
   rcases List.mem_cons.mp h with h | h
   ·cases h;simp at e
   ·exact dI h
theorem cX {env:Env}:∀ {names:List (Str×NameKind)} {x:Str},(names.map fun (n,k)=>if (k == NameKind.free&&env.scope.kind == .function&&env.kindOf n == some .cell) then (n,NameKind.cell) else (n,k)).lookup x =
  (names.lookup x).map fun k=>if (k == NameKind.free&&env.scope.kind == .function&&env.kindOf x == some .cell) then NameKind.cell else k
 | [],x=>rfl
 | (n, k)::r, x=>by
  have ih:=@cX env r x
  show List.lookup x ((if (k == NameKind.free&&env.scope.kind == .function&&env.kindOf n == some .cell)=true then (n,NameKind.cell) else (n,k))::_)=_
  cases hx:x == n with
  | true =>
   have e:x=n:=by simpa using hx
   subst e
   by_cases hc:(k == NameKind.free&&env.scope.kind == .function&&env.kindOf x == some .cell)=true
   ·rw [if_pos hc];simp only [List.lookup_cons,hx,Option.map_some,if_pos hc]
   ·rw [if_neg hc]
    simp only [List.lookup_cons,hx,Option.map_some,if_neg hc]
  | false =>
   by_cases hc:(k == NameKind.free&&env.scope.kind == .function&&env.kindOf n == some .cell)=true
   ·rw [if_pos hc];simp only [List.lookup_cons,hx];exact ih
   ·rw [if_neg hc];simp only [List.lookup_cons,hx];exact ih
noncomputable def EO (X:Cx) (scope:Scope) (cl:List (Str×Addr)) (N:List Str) (fp:List Addr) (s:Shared) (H:Hp) (C:Addr):Cx :=
 { X with N:=N,s₀:=s,H₀:=H,env:=compEnvC scope cl C X.env,outer:=X.stack,stack:=X.stack,ex:=fp,fn:=fun _=>false,pn:=[],xe:=fun _ _=>False }
noncomputable abbrev ef (X:Cx) (scope:Scope) (cl:List (Str×Addr)) (N:List Str) (fp:List Addr) (s:Shared) (H:Hp) (C:Addr) (E:XK):Cx:=(EO X scope cl N fp s H C).bL (iU (EO X scope cl N fp s H C) fun cv x _ H'=>E cv x H')
noncomputable def Jb (X:Cx) (ifs:List Expr) (t:TT):Prop :=
 ∀ (pins:List (Addr×Obj)) (s:Shared) (σ:St) (H:Hp) (Q:Bool->Hp->Prop),Inv X pins σ H s->t σ H Q ->
  wpAny (model X.prog X.w) X.A (forIn ifs true fun c r=>if r=true then do let ok <- isTrue c X.env (eval c X.env);pure (ForInStep.yield ok) else pure (ForInStep.yield r)) (L2.TP X pins σ Q) X.xe s
theorem BQ {X:Cx}:Jb X [] (fun _ H Q=>Q true H):=fun pins s σ H Q I h=>wpAny_tests_nil ⟨H,I,h⟩
theorem BP {X:Cx} {c:Expr} {t:TT} (h:PT X c t):Jb X [c] t:=fun pins s σ H Q I q=>wpAny_tests_one (h pins s σ H Q I q)
noncomputable def qG (cp:List Nat) (n:Nat) (σ:St):St:=cp.map (fun i=>(σ[i]?).join)++List.replicate n none
noncomputable def tH (wi:TI) (g:TG) (tc:St->TT) (te:St->TE) (cp:List Nat) (n:Nat):TE:=fun σ H Q=>wi σ H fun J H1=>∀ D,H1 D=none->∃ W:Nat->Nat->St->Hp->Prop,(∃ m,W 0 m (qG cp n σ) (upd H1 D (.lst [])))/\∀ i m σ' H',W i m σ' H' ->
 (J.stop i H'/\Q (.ref D) H')\/(J.go i H'/\∀ x H2,J.L3 i H' x H2->g x σ' H2 fun σ2 H3=>tc σ σ2 H3 fun b H4 =>
  if b=true then te σ σ2 H4 fun v H5=>∃ ys,H5 D=some (.lst ys)/\ys.length<sizeLine/\∃ m',m'<m/\W (i+1) m' σ2 (upd H5 D (.lst (ys++[v]))) else ∃ m',m'<m/\W (i+1) m' σ2 H4)
theorem gx {prog:Program} {w:World} {A:Around} {R:Result->Shared->Prop} {s:Shared} {elt target iter:Expr} {ifs:List Expr} {scope:Scope} {pos:Pos} {it acc:Value} {env:Env} (I:Nat->Shared->Prop) (EX:Value->Shared->Prop) (hE:∀ e s,EX e s->notedBy (model prog w) A env (fun x s'=>R (.error x) s') e s)
  (turn:∀ n s,I n s->wpAny (model prog w) A (pyNext it) (fun r s₁=>match r with
   | none=>R (.ok .next) s₁
   | some v=>wpAny (model prog w) A (letOwnedTupleGo target it v) (fun _ s₁'=>wpAny (model prog w) A (assign target env v) (fun _ s₂ =>
     wpAny (model prog w) A (forIn ifs true fun c r=>if r=true then do let ok <- isTrue c env (eval c env);pure (ForInStep.yield ok) else pure (ForInStep.yield r)) (fun ok s₃ =>
      if ok=true then wpAny (model prog w) A (eval elt env) (fun x s₄ =>
       wpAny (model prog w) A (call (.builtin "list.append") [acc, x]) (fun _ s₅=>∃ m, m<n/\I m s₅) EX s₄) EX s₃
      else ∃ m,m<n/\I m s₃) EX s₂) EX s₁') EX s₁) EX s)
  (n:Nat) (h:I n s):codeAny (model prog w) A (.compLoop (.ListComp elt [⟨target,iter,ifs,0⟩] scope pos) 0 it acc env) R s:=by
 refine codeAny_loop rfl I (fun n s hI=>?_) n h
 show wpAny _ A ((compTurn (.ListComp elt [⟨target,iter,ifs,0⟩] scope pos) 0 it acc env).onRaise (fun x=>do noteFrame x env;theTreesLotGoes x)) _ _ s
 refine wpAny_noted ?_
 rw [compTurn_list]
 refine wpAny_bind (wpAny_standAt (wpAny_bind (wpAny_mono (turn n s hI) (fun r s₁ h₁=>?_) hE)))
 cases r with
 | none=>exact wpAny_pure h₁
 | some v =>
  refine wpAny_bind (wpAny_mono h₁ (fun _ s₁' h₁'=>?_) hE)
  refine wpAny_bind (wpAny_mono h₁' (fun _ s₂ h₂=>wpAny_bind (wpAny_mono h₂ (fun ok s₃ h₃=>?_) hE)) hE)
  cases ok with
  | false=>exact wpAny_pure ⟨rfl,h₃⟩
  | true =>
   exact wpAny_bind (wpAny_bind (wpAny_mono h₃ (fun x s₄ h₄=>wpAny_bind (wpAny_mono h₄ (fun _ s₅ h₅=>wpAny_pure (wpAny_pure ⟨rfl,h₅⟩)) hE)) hE))
section
variable {X:Cx} {pins:List (Addr×Obj)} {σ:St} {H:Hp} {s:Shared}
structure g7 (X:Cx) (scope:Scope) (N:List Str) (cp:List Nat) (n:Nat):Prop where
 free:∀ x,(x,NameKind.free)∈scope.names->X.env.kindOf x=some .cell\/X.env.kindOf x=some .free
 cell:∀ y∈scope.names,y.2≠.cell
 kind:scope.kind=.function
 names:∀ y∈scope.names,y.2=.local->scope.names.lookup y.1=some .local
 len:N.length=cp.length+n
 cap:∀ (i j:Nat) (x:Str),N[i]? = some x->cp[i]? = some j->X.N[j]? = some x/\scope.names.lookup x=some .free
theorem IA {scope:Scope} {N:List Str} {cp:List Nat} {n:Nat} {fp:List Addr} {C:Addr} (S:g7 X scope N cp n) (I:Inv X pins σ H s) (hf:∀ b∈fp,lA X pins H b) (hC:s.heap.objs.size<C) (HC:∀ b∈fp,b<s.heap.objs.size) :
  (EO X scope (scope.names.foldl (aH X.env) []) N fp s H C).Ok:=by
 have hex:∀ x,(x,NameKind.free)∈scope.names->∃ c,X.env.cells.lookup x=some c:=fun x hx=>I.ok.has x (S.free x hx)
 have hcl:∀ x c,(scope.names.foldl (aH X.env) []).lookup x=some c->X.env.cells.lookup x=some c:=fun x c e=>by
  rcases oA scope.names [] (x,c) hex (PySem.mem_of_lookup e) with q | q
  ·cases q
  ·exact q
 refine ⟨I.ok.mod,S.kind,I.ok.glob,I.ok.blt,Nat.le_of_lt hC,fun x y c h1 h2=>I.ok.inj x y c (hcl x c h1) (hcl y c h2),fun x hx=>?_,fun x c h _=>(Bool.false_ne_true h).elim,I.ok.hd,I.ok.frames,.inl rfl,fun b hb=>⟨Nat.ne_of_lt (Nat.lt_trans (HC b hb) hC),fun x c e=>(hf b hb).2.2.2.2.1 x c (hcl x c e)⟩,
  fun b o e=>I.bs b o e,Nat.le_trans I.ok.wX I.sz,fun b o e hb=>?_,fun b hb hs=>?_,I.stack,I.gb⟩
 ·have q:(x,NameKind.free)∈scope.names:=by
   have hx:(relabel scope X.env).names.lookup x=some .cell\/(relabel scope X.env).names.lookup x=some .free:=hx
   unfold relabel at hx
   dsimp only at hx
   rw [cX] at hx
   cases e:scope.names.lookup x with
   | none=>rw [e] at hx;simp at hx
   | some k =>
    rw [e] at hx
    have hm:=PySem.mem_of_lookup e
    cases k with
    | free=>exact hm
    | cell=>exact (S.cell _ hm rfl).elim
    | «local»=>simp at hx
    | globalImplicit=>simp at hx
    | globalExplicit=>simp at hx
  obtain ⟨c,hc⟩:=sS (env:=X.env) scope.names [] x q
  exact dI hc
 ·rcases (hf b hb).2.2.2.1 with z | z
  ·exact I.ok.p7 b o e z
  ·exact absurd (Nat.lt_of_lt_of_le (Heap.lt_size e) (Nat.le_trans I.ok.wX z)) (Nat.lt_irrefl _)
 ·rcases List.mem_cons.mp (I.eE b hs) with z | z
  ·exact (hf b hb).2.1 z
  ·exact (hf b hb).2.2.1 z
theorem wY {scope:Scope} {N:List Str} {cp:List Nat} {n:Nat} {fp:List Addr} {C D:Addr} {h1:Heap} {t1:Nat} (S:g7 X scope N cp n) (I:Inv X pins σ H s) (hf:∀ b∈fp,lA X pins H b) (HC:∀ b∈fp,b<s.heap.objs.size)
  (hD:D=s.heap.objs.size) (hC:C=s.heap.objs.size+1) {m:Str->Option Value} (hns:h1.Ns C m) (old:∀ b o, s.heap.get? b=some o->h1.get? b=some o) (hacc:h1.get? D=some { cls:=.type "list", data:=.seq ([]:List Value).toArray 0 }) :
  Inv (EO X scope (scope.names.foldl (aH X.env) []) N fp s H C) [] (qG cp n σ) (upd H D (.lst [])) { s with heap:=h1,toks:=t1 }:=by
 have hex:∀ x,(x,NameKind.free)∈scope.names->∃ c,X.env.cells.lookup x=some c:=fun x hx=>I.ok.has x (S.free x hx)
 have hcl:∀ x c,(scope.names.foldl (aH X.env) []).lookup x=some c->X.env.cells.lookup x=some c:=fun x c e=>by
  rcases oA scope.names [] (x,c) hex (PySem.mem_of_lookup e) with q | q
  ·cases q
  ·exact q
 have fD:H D=none:=I.hok.fresh (by rw [hD];exact Nat.le_refl _)
 have fC:H C=none:=I.hok.fresh (by rw [hC];exact Nat.le_succ _)
 have cellK:∀ x c v,X.env.cells.lookup x=some c->s.heap.IsCell c v->h1.IsCell c v:=fun x c v e ⟨o,ho,hd⟩=>⟨o,old c o ho,hd⟩
 refine ⟨IA S I hf (by rw [hC];exact Nat.lt_succ_self _) HC,rfl,I.bare,?_,⟨m,hns,fun i x v e1 e2 e3=>?_⟩,fun x c e=>?_,?_,fun x c e=>?_,fun p hp=>absurd (show p∈([]:List (Addr×Obj)) from hp) (by simp),?_,?_⟩
 ·exact Un.laid (fun b u e=>old b u e) (by rw [hD];exact Nat.le_refl _) fD
 ·-- a LB name
  have hi:i<cp.length:=by
   by_cases hi:i<cp.length
   ·exact hi
   ·unfold qG at e2
    rw [List.getElem?_append_right (by simpa using hi),List.getElem?_replicate] at e2
    split at e2 <;> cases e2
  have hcp:cp[i]? = some cp[i]:=List.getElem?_eq_getElem hi
  obtain ⟨hX,hfr⟩:=S.cap i cp[i] x e1 hcp
  have e2':σ[cp[i]]? = some (some v):=by
   unfold qG at e2
   rw [List.getElem?_append_left (by simpa using hi),List.getElem?_map,hcp] at e2
   simp only [Option.map_some,Option.some.injEq] at e2
   cases q:σ[cp[i]]? with
   | none=>rw [q] at e2;cases e2
   | some o=>rw [q] at e2;simp only [Option.join_some] at e2;rw [e2]
  have hmem:=PySem.mem_of_lookup hfr
  have hk:=S.free x hmem
  obtain ⟨m0,_,hl⟩:=I.loc
  obtain ⟨u,r,lk⟩:=hl cp[i] x v hX e2' (by rcases hk with q | q;exact .inr (.inl q);exact .inr (.inr q))
  refine ⟨u,r,.inr ⟨?_,?_⟩⟩
  ·show (relabel scope X.env).names.lookup x=some .cell\/(relabel scope X.env).names.lookup x=some .free
   unfold relabel
   dsimp only
   rw [cX,hfr]
   simp only [Option.map_some]
   split
   ·exact .inl rfl
   ·exact .inr rfl
  ·obtain ⟨c,hc⟩:=sS (env:=X.env) scope.names [] x hmem
   obtain ⟨d,hd⟩:=dI hc
   refine ⟨d,hd,?_⟩
   rcases lk with ⟨k,_⟩ | ⟨_,c',hc',z⟩
   ·rcases hk with q | q <;> (rw [q] at k;cases k)
   ·have:=hcl x d hd
    rw [hc'] at this;cases this
    exact cellK x d _ hc' z
 ·obtain ⟨v,z⟩:=I.cell x c (hcl x c e)
  exact ⟨v,cellK x c v (hcl x c e) z⟩
 ·show upd H D (.lst []) C=none
  rw [aq (by rw [hC,hD];exact Nat.succ_ne_self _)];exact fC
 ·show upd H D (.lst []) c=none
  rw [aq (ne_of_lt' (I.cell x c (hcl x c e)) hD)]
  exact I.cu x c (hcl x c e)
 ·exact I.hok.laid old (by rw [hD];exact Nat.le_refl _) ⟨Nat.zero_le _,[],0,.nil,hacc⟩
 ·unfold qG
  show _=N.length
  rw [List.length_append,List.length_map,List.length_replicate,S.len]
where
 ne_of_lt' {h:Heap} {c D:Addr} (z:∃ v,h.IsCell c v) (hD:D=h.objs.size):c≠D:=by
  obtain ⟨v,q⟩:=z
  rw [hD]
  exact Nat.ne_of_lt q.lt
variable {elt tg iter:Expr} {ifs:List Expr} {scope:Scope} {pos ppos:Pos} {wi:TI} {g:TG} {tc:St->TT} {te:St->TE} {Ex:XS} {cp:List Nat} {n:Nat} {N:List Str}
theorem mV {use:Option (Value->Sem Unit)} {Q':Value->Shared->Prop} {Q:VK} (hc:X.calm=true) (S:g7 X scope N cp n) (hi:PI X tg iter wi)
  (hfr:qJ X) (hx:∀ e s,iU X Ex e s->X.xe e s) (hb:∀ σ cl fp s H C,PG (ef X scope cl N fp s H C fun cv x H'=>Ex cv x σ H') tg g/\Jb (ef X scope cl N fp s H C fun cv x H'=>Ex cv x σ H') ifs (tc σ)/\PE (ef X scope cl N fp s H C fun cv x H'=>Ex cv x σ H') elt (te σ)) (hs:∀ x,foldedSetIterable iter X.env x=pure x)
  (I:Inv X pins σ H s) (h:tH wi g tc te cp n σ H Q)
  (fin:∀ s' C D H' f,Inv X pins σ H' s'->lA X pins H' C->(∃ m,s'.heap.Ns C m)->Q (.ref D) H'->compPost (model X.prog X.w) X.A X.xe use Q' (.ref D) C (.ok f) s') :
  wpAny (model X.prog X.w) X.A (comprehension (.ListComp elt [⟨tg,iter,ifs,0⟩] scope pos) scope X.env ppos (newList []) false (eval iter X.env) use) Q' X.xe s:=by
 have hex:∀ x,(x,NameKind.free)∈scope.names->∃ c,X.env.cells.lookup x=some c:=fun x hx=>I.ok.has x (S.free x hx)
 refine wpAny_comprehension_free rfl hs (sR hex) S.kind S.names (bq (hi pins s σ H _ I h) fun v s1 h1=>bq h1 fun itv s2 h2=>?_)
 obtain ⟨it,fp,tn,J,H2,e,I2,T,st2,f2,hW⟩:=h2
 subst e
 refine wpAny_newObj_type (wpAny_newFunctionEnv S.cell (by intro y hy;simp at hy) (fun h₁ sf nV=>?_) S.kind)
 dsimp only at sf nV ⊢
 generalize hH2:s2.heap.push { cls:=.type "list", dict:=none, data:=.seq ([]:List Value).toArray }=G at sf nV ⊢
 have hC:G.objs.size=s2.heap.objs.size+1:=by rw [<- hH2,Heap.size_push]
 have HC:∀ b∈fp,b<s2.heap.objs.size:=fun b hb=>by
  obtain ⟨o,e,_⟩:=T.obj _ _ st2 b hb
  exact Heap.lt_size e
 have hDC:s2.heap.objs.size≠G.objs.size:=by rw [hC];exact Nat.ne_of_lt (Nat.lt_succ_self _)
 have old:∀ b o,s2.heap.get? b=some o->h₁.get? b=some o:=fun b o e=>nV.extBut b o (by rw [hC];exact Nat.ne_of_lt (Nat.lt_succ_of_lt (Heap.lt_size e))) (Heap.get?_push_of_some _ (hH2 ▸ Heap.get?_push_of_some _ e))
 have hacc:h₁.get? s2.heap.objs.size=some { cls:=.type "list", data:=.seq ([]:List Value).toArray 0 }:=nV.extBut _ _ hDC (Heap.get?_push_of_some _ (hH2 ▸ Heap.get?_push_size _ rfl))
 have st1:tn 0 h₁:=T.keep _ _ _ st2 fun b hb o e=>old b o e
 obtain ⟨W,⟨m0,w0⟩,turn⟩:=hW s2.heap.objs.size (I2.hok.fresh (Nat.le_refl _))
 have I0':=wY (t1:=s2.toks+([]:List (Str×Value)).length) S I2 f2 HC rfl hC sf old hacc
 have I0:=I0'.bL (iU (EO X scope (scope.names.foldl (aH X.env) []) N fp s2 H2 G.objs.size) fun cv x _ H'=>Ex cv x σ H')
 obtain ⟨hg,ht,he⟩:=hb σ (scope.names.foldl (aH X.env) []) fp s2 H2 G.objs.size
 have fp0:∀ b∈fp,upd H2 s2.heap.objs.size (.lst []) b=none:=fun b hb=>by rw [aq (Nat.ne_of_lt (HC b hb))];exact (f2 b hb).1
 have hex':∀ x c,(scope.names.foldl (aH X.env) []).lookup x=some c->X.env.cells.lookup x=some c:=fun x c e=>by
  rcases oA scope.names [] (x,c) hex (PySem.mem_of_lookup e) with q | q
  ·cases q
  ·exact q
 have stat:∀ {H':Hp},(∀ b∈fp,H' b=none)->∀ b∈fp,lA (ef X scope (scope.names.foldl (aH X.env) []) N fp s2 H2 G.objs.size (fun cv x H'=>Ex cv x σ H')) [] H' b:=fun {H'} hn b hb =>
  ⟨hn b hb,Nat.ne_of_lt (Nat.lt_trans (HC b hb) (by rw [hC];exact Nat.lt_succ_self _)),fun z=>(List.mem_cons.mp (I2.eE b z)).elim (f2 b hb).2.1 (f2 b hb).2.2.1,.inl hb,fun x c e=>(f2 b hb).2.2.2.2.1 x c (hex' x c e),fun p hp=>absurd (show p∈([]:List (Addr×Obj)) from hp) (by simp)⟩
 have loop:∀ s3:Shared,s3={ s2 with heap:=h₁,toks:=s2.toks+([]:List (Str×Value)).length }->codeAny (model X.prog X.w) X.A (.compLoop (.ListComp elt [⟨tg,iter,ifs,0⟩] scope pos) 0 (.ref it) (.ref s2.heap.objs.size) (compEnvC scope (scope.names.foldl (aH X.env) []) G.objs.size X.env))
   (compPost (model X.prog X.w) X.A X.xe use Q' (.ref s2.heap.objs.size) G.objs.size) s3:=by
  rintro s3 rfl
  refine gx (fun n s'=>∃ i σ' H',Inv (ef X scope (scope.names.foldl (aH X.env) []) N fp s2 H2 G.objs.size (fun cv x H'=>Ex cv x σ H')) [] σ' H' s'/\tn i s'.heap/\(∀ b∈fp,H' b=none)/\W i n σ' H') (iU (EO X scope (scope.names.foldl (aH X.env) []) N fp s2 H2 G.objs.size) fun cv x _ H'=>Ex cv x σ H') ?hE ?_ m0 ⟨0,_,_,I0,st1,fp0,w0⟩
  case hE =>
   rintro e s3 ⟨pins3,σ3,H3,a,a0,cv,B,rfl,I3,up,fJ,_,q⟩
   obtain ⟨kR,nG,L,hst,HD,MA⟩:=hfr
   show wpAny (model X.prog X.w) X.A (noteFrame (.ref a) _) _ _ s3
   rw [nI (env:=compEnvC scope (scope.names.foldl (aH X.env) []) G.objs.size X.env) (env':=kR) (MA.trans HD.symm)]
   have up':Up B (kR::nG) a cv a0 s3.heap:=by rw [<- hst];exact up
   refine up'.note (by rw [I.ok.frames,hst]) HD fun h4 held xU=>?_
   obtain ⟨m,hm,_⟩:=id I3.loc
   have hcC:G.objs.size∉frs X.stack:=fun z=>by
    rcases List.mem_cons.mp (I2.eE _ z) with e | z
    ·have z:=I2.lt
     rw [<- e,hC] at z
     exact absurd z (Nat.not_lt.mpr (Nat.le_succ _))
    ·exact I2.Kf (by rw [hC];exact Nat.le_succ _) z
   refine ⟨m,xU.ns hm,fun h5 sb5 cenv _=>?_⟩
   have hm4:=xU.ns hm
   have upH:Up B X.stack a cv a0 h4:=by rw [hst];exact .ur held
   have EZ:=upH.hide sb5 (by
    obtain ⟨o,es,ep,ho,hd,_⟩:=hm4
    exact ⟨o,ho,fun vs z=>by rw [hd] at z;cases z⟩) hcC
   refine EZ.pass fun h6 up6 sm6=>hx _ _ ?_
   have jI:(B.hide G.objs.size).StaysIn s3.heap:=fun b o e=>up.1 b o (Heap.of_hide e)
   have Dl:Calm (B.hide G.objs.size) (frs X.stack) fp H3 s2.heap:=fun b hb hf=>by
    obtain ⟨o,e⟩:=fJ b hb hf
    refine ⟨o,?_⟩
    rw [Heap.hide_ne]
    ·exact e
    ·rintro rfl
     rcases hb with hb | ⟨⟨o',hb⟩,_⟩
     ·exact hb I3.free
     ·have z:=Heap.lt_size hb
      rw [hC] at z
      exact absurd z (Nat.not_lt.mpr (Nat.le_succ _))
   have fru:∀ b∈frs X.stack,∀ o,s3.heap.get? b=some o->∃ sl,h6.get? b=some { o with slots:=sl }:=fun b hb o e=>by
    have hd:=qi I3 b hb o e
    obtain ⟨sl,e4⟩:=xU b o e hd
    have e5:h5.get? b=some { o with slots:=sl }:=by rw [sb5.2 b (by rintro rfl;exact hcC hb)];exact e4
    obtain ⟨DQ,e6⟩:=sm6 b _ e5 hd
    exact ⟨DQ,e6⟩
   have un6:=nY I3.base Dl jI up6.1 fru (fun b hb _=>hb)
   have hok6:=j3 I3.hok Dl jI up6.1 I3.gb
   have J:=I2.AE (s':={ s3 with heap:=h6 }) I3.os un6 hok6 I3.bare fun b hb=>⟨(f2 b hb).2.2.2.1,(f2 b hb).2.1,(f2 b hb).2.2.2.2.1,(f2 b hb).2.2.2.2.2⟩
   have calX:Calm (B.hide G.objs.size) (frs X.stack) X.ex H3 X.s₀.heap:=by
    intro b hb hf
    refine Dl b ?_ hf
    rcases hb with hb | ⟨⟨o,z⟩,nx⟩
    ·exact .inl hb
    ·refine .inr ⟨gg I2 z nx,fun zf=>?_⟩
     rcases (f2 b zf).2.2.2.1 with y | y
     ·exact nx y
     ·exact absurd (Nat.lt_of_lt_of_le (Heap.lt_size z) y) (Nat.lt_irrefl _)
   have pnX:∀ p∈X.pn,(B.hide G.objs.size).get? p.1=some p.2:=by
    intro p hp
    obtain ⟨p1,p2,p3,p4,_⟩:=I2.pin p (List.mem_append_left _ hp)
    have pf:p.1∉fp:=fun z=>(f2 _ z).2.2.2.2.2 p (List.mem_append_left _ hp) rfl
    have ps:p.1∉frs X.stack:=fun z=>by
     rcases List.mem_cons.mp (I2.eE _ z) with e | z
     ·exact p3 e
     ·exact p4 z
    exact Dl.at jI (I3.base.keep p.1 p.2 p1 p2 ps pf) (.inr ⟨⟨_,p1⟩,pf⟩) ps
   exact ⟨pins,σ,H3,a,a0,cv,B.hide G.objs.size,rfl,J,up6,calX,pnX,q⟩
  rintro n s3 ⟨i,σ3,H3,I3,st3,K0,w3⟩
  rcases turn i n σ3 H3 w3 with ⟨stop,qn⟩ | ⟨go,step⟩
  ·refine bq (T.done (ef X scope (scope.names.foldl (aH X.env) []) N fp s2 H2 G.objs.size (fun cv x H'=>Ex cv x σ H')) rfl rfl rfl hc i [] s3 σ3 H3 _ I3 (stat K0) st3 stop) fun r s4 ⟨hr,I4⟩=>?_
   subst hr
   refine fin s4 _ _ H3 _ (I2.AE I4.os I4.base I4.hok I4.bare fun b hb=>⟨(f2 b hb).2.2.2.1,(f2 b hb).2.1,(f2 b hb).2.2.2.2.1,(f2 b hb).2.2.2.2.2⟩) (I2.qj (by rw [hC];exact Nat.le_succ _) I4.free) ?_ qn
   obtain ⟨m,hm,_⟩:=I4.loc
   exact ⟨m,hm⟩
  ·refine bq (T.item (ef X scope (scope.names.foldl (aH X.env) []) N fp s2 H2 G.objs.size (fun cv x H'=>Ex cv x σ H')) rfl rfl rfl hc i [] s3 σ3 H3 _ I3 (stat K0) st3 go) fun r s4 ⟨u,hr,h4⟩=>?_
   subst hr
   refine bq h4 fun _ s5 ⟨x,H5,I5,r5,y5,Fb,fr5⟩=>?_
   have I5':=I5.pinned (stat fr5) (T.obj _ _ Fb)
   refine bq (hg _ s5 σ3 H5 x u _ I5' r5 (step x H5 y5)) fun _ s6 ⟨σ6,H6,I6,q6⟩=>?_
   refine bq (ht _ s6 σ6 H6 _ I6 q6) fun ok s7 ⟨H7,I7,q7⟩=>?_
   have again:∀ {σ8:St} {H8:Hp} {s8:Shared} {m':Nat},Inv (ef X scope (scope.names.foldl (aH X.env) []) N fp s2 H2 G.objs.size (fun cv x H'=>Ex cv x σ H')) ([]++kB fp s5.heap) σ8 H8 s8->m'<n->W (i+1) m' σ8 H8 ->
     ∃ m,m<n/\∃ i σ' H',Inv (ef X scope (scope.names.foldl (aH X.env) []) N fp s2 H2 G.objs.size (fun cv x H'=>Ex cv x σ H')) [] σ' H' s8/\tn i s8.heap/\(∀ b∈fp,H' b=none)/\W i m σ' H':=fun {σ8 H8 s8 m'} I8 hm w8=>by
    refine ⟨m',hm,i+1,σ8,H8,I8.ia,T.keep _ _ _ Fb fun b hb o e=>(I8.pin (b,o) (List.mem_append_right _ (List.mem_append_right _ (eO hb e)))).1,fun b hb=>?_,w8⟩
    obtain ⟨o,e,d⟩:=T.obj _ _ Fb b hb
    exact (I8.pin (b,o) (List.mem_append_right _ (List.mem_append_right _ (eO hb e)))).2.1
   cases ok with
   | false =>
    rw [if_neg Bool.false_ne_true] at q7 ⊢
    obtain ⟨m',hm,w7⟩:=q7
    exact again I7 hm w7
   | true =>
    rw [if_pos rfl] at q7 ⊢
    refine bq (he _ s7 σ6 H7 _ I7 q7) fun xv s8 ⟨v,H8,I8,r8,ys,hy,hz,m',hm,w8⟩=>?_
    refine bq (mC (X:=(ef X scope (scope.names.foldl (aH X.env) []) N fp s2 H2 G.objs.size (fun cv x H'=>Ex cv x σ H'))) _ s8 σ6 H8 (.ref s2.heap.objs.size) [v] (.ref s2.heap.objs.size) [xv] (fun _ H'=>H'=upd H8 s2.heap.objs.size (.lst (ys++[v]))) I8 rfl (.cons r8 .nil) ⟨_,ys,v,rfl,rfl,hy,hz,rfl⟩) fun a s9 ⟨_,H9,I9,_,e9⟩=>?_
    subst e9
    exact again I9 hm w8
 exact codeAny_compStart_list (loop _ rfl) (T.self X.A 0 _ _ _ st1 (loop _ rfl))
theorem B4 (hc:X.calm=true) (S:g7 X scope N cp n) (hi:PI X tg iter wi)
  (hfr:qJ X) (hx:∀ e s,iU X Ex e s->X.xe e s) (hb:∀ σ cl fp s H C,PG (ef X scope cl N fp s H C fun cv x H'=>Ex cv x σ H') tg g/\Jb (ef X scope cl N fp s H C fun cv x H'=>Ex cv x σ H') ifs (tc σ)/\PE (ef X scope cl N fp s H C fun cv x H'=>Ex cv x σ H') elt (te σ)) (hs:∀ x,foldedSetIterable iter X.env x=pure x) :
  PE X (.ListComp elt [⟨tg,iter,ifs,0⟩] scope pos) (tH wi g tc te cp n):=by
 intro pins s σ H Q I h
 rw [eval_ListComp]
 refine mV (use:=none) hc S hi hfr hx hb hs I h fun s' C D H' f I' fC ⟨m,hm⟩ q=>⟨m,hm,fun h' hs'=>?_⟩
 exact ⟨.ref D,H',I'.turned (fun b o hb e=>(hs'.2 b hb).trans e) fC.1 fC.2.1 fC.2.2.2.1 fC.2.2.2.2.1 fC.2.2.2.2.2,rfl,q⟩
theorem BS {i:Nat} {y:Str} {py spos:Pos} (hN:X.N.Nodup) (hy:X.N[i]? = some y) (hk:X.env.scope.names.lookup y=some .local) (hc:X.calm=true) (S:g7 X scope N cp n) (hi:PI X tg iter wi)
  (hfr:qJ X) (hx:∀ e s,iU X Ex e s->X.xe e s) (hb:∀ σ cl fp s H C,PG (ef X scope cl N fp s H C fun cv x H'=>Ex cv x σ H') tg g/\Jb (ef X scope cl N fp s H C fun cv x H'=>Ex cv x σ H') ifs (tc σ)/\PE (ef X scope cl N fp s H C fun cv x H'=>Ex cv x σ H') elt (te σ)) (hs:∀ x,foldedSetIterable iter X.env x=pure x)
  (hsw:swapsWith (.ListComp elt [⟨tg,iter,ifs,0⟩] scope pos) (some (.Name y py)) spos.line X.env=pure true) :
  PS X (.Assign [.Name y py] (.ListComp elt [⟨tg,iter,ifs,0⟩] scope pos) spos) (E5 (tH wi g tc te cp n) (kM i)):=by
 intro pins s σ H Dn I h
 rw [exec_Assign_Name_used _ _ _ _ hsw]
 refine wpAny_bind (wpAny_standAt (wpAny_bind ?_))
 show wpAny _ X.A (do let _ <- comprehension (.ListComp elt [⟨tg,iter,ifs,0⟩] scope pos) scope X.env _ (newList []) false (eval iter X.env) (some (assign (.Name y py) X.env))) _ _ s
 refine wpAny_bind (wpAny_mono (mV (use:=some (assign (.Name y py) X.env)) (Q':=fun _ s'=>SP X pins Dn .next s') hc S hi hfr hx hb hs I h fun s' C D H' f I' fC ⟨m,hm⟩ q=>?_) (fun _ s' hq=>wpAny_pure (wpAny_pure hq)) fun _ _ e=>e)
 show wpAny _ X.A (assign (.Name y py) X.env (.ref D)) _ _ s'
 refine wpAny_assign_Name (lY I' hN hy (.inl hk) (v:=.ref D) rfl (fun s2 I2 ⟨a,hsb,ha⟩=>?_) (.inr hk))
 have hCa:C≠a:=by
  rcases ha with rfl | ha
  ·exact fC.2.1
  ·exact fun z=>fC.2.2.2.2.1 _ _ ha z.symm
 refine ⟨m,hm.sameBut hsb hCa,fun h' hs'=>⟨_,H',I2.turned (fun b o hb e=>(hs'.2 b hb).trans e) fC.1 fC.2.1 fC.2.2.2.1 fC.2.2.2.2.1 fC.2.2.2.2.2,q⟩⟩
end
end Fg
end
section
namespace Fg
open PySem L2
noncomputable def LY (a:Addr) (o:Obj) (kvs:List (Key×V)):It :=
 ⟨fun i H=>H a=some (.gh o (.dK kvs))/\i<kvs.length,fun i H x H'=>H'=H/\∃ kv,kvs[i]? = some kv/\x=kV kv.1,fun i H=>H a=some (.gh o (.dK kvs))/\kvs.length<=i⟩
noncomputable def KJ (B:Bd) (th:Addr->Prop) (tl:TE):TI:=fun σ H R=>tl σ H fun x H1 =>
 (∃ a,x=.ref a/\(∃ xs,fK B.K H1 a xs)/\R (Itl B.K a) H1)\/(∃ a,x=.ref a/\(∃ xs,gO B.K H1 a xs)/\R (Itt B.K a) H1) \/
 (∃ a kvs,x=.ref a/\H1 a=some (.dK kvs)/\∀ o,th a->R (LY a o kvs) (upd H1 a (.gh o (.dK kvs)))) \/
 (∃ a o kvs,x=.ref a/\H1 a=some (.gh o (.dK kvs))/\R (LY a o kvs) H1)
section
variable {B:Bd} {Φ:bF} {E:Gx} {F F' F0 F1:Addr->Prop} {ρ ρ' ρ0 ρ1:List Addr} {H H' H0 H1:Hp} {M M' M0:MH} {σD:Sg} {σ:L2.St} {Q:VK} {Dn:Ends}
theorem lS {a:Addr} {src:D} {ds:List D} (h:∀ F ρ M H,Ext F0 ρ0 H0 F ρ H->SR B F ρ M H->aP M0 src M=true->∃ vs,fK B.K H a vs/\ai B F ρ H ds vs):Walks B (Itl B.K a) src ds F0 ρ0 M0 H0:=by
 intro i F ρ M H e S st
 obtain ⟨vs,q,rd⟩:=h F ρ M H e S st
 refine ⟨fun d hd=>?_,fun hl=>⟨vs,q,by rw [<- ai.length rd];exact hl⟩⟩
 obtain ⟨v,hv,rv⟩:=ai.get rd hd
 refine ⟨⟨vs,v,q,hv⟩,fun x H' ⟨e',hy⟩=>?_⟩
 subst e'
 have z:=hy vs q
 rw [hv] at z;cases z
 exact ⟨F,S.refl,S,rv⟩
theorem vt {a:Addr} {src:D} {ds:List D} (h:∀ F ρ M H,Ext F0 ρ0 H0 F ρ H->SR B F ρ M H->aP M0 src M=true->∃ vs,gO B.K H a vs/\ai B F ρ H ds vs):Walks B (Itt B.K a) src ds F0 ρ0 M0 H0:=by
 intro i F ρ M H e S st
 obtain ⟨vs,q,rd⟩:=h F ρ M H e S st
 refine ⟨fun d hd=>?_,fun hl=>⟨vs,q,by rw [<- ai.length rd];exact hl⟩⟩
 obtain ⟨v,hv,rv⟩:=ai.get rd hd
 refine ⟨⟨vs,v,q,hv⟩,fun x H' ⟨e',hy⟩=>?_⟩
 subst e'
 have z:=hy vs q
 rw [hv] at z;cases z
 exact ⟨F,S.refl,S,rv⟩
theorem GO {k:Key}:RD B F ρ H (Mr k) (kV k):=by cases k <;> simp only [Mr,kV,RD]
theorem lU {a:Addr} {o:Obj} {src:D} {cD:List (Ky×D)} {kws:List (Key×V)} (hz:H0 a=some (.gh o (.dK kws))) (hk:kws.map (·.1)=cD.map (·.1)):Walks B (LY a o kws) src (cD.map fun kv=>Mr kv.1) F0 ρ0 M0 H0:=by
 intro i F ρ M H e S st
 have hl:kws.length=cD.length:=by have:=congrArg List.length hk;simpa using this
 have hH:=e.z a o _ hz
 refine ⟨fun d hd=>?_,fun hi=>⟨hH,by rw [hl];simpa using hi⟩⟩
 rw [List.getElem?_map] at hd
 cases hx:cD[i]? with
 | none=>rw [hx] at hd;cases hd
 | some kd =>
  rw [hx] at hd
  simp only [Option.map_some,Option.some.injEq] at hd
  subst hd
  obtain ⟨hi,_⟩:=List.getElem?_eq_some_iff.mp hx
  refine ⟨⟨hH,by rw [hl];exact hi⟩,fun x H' ⟨e',kw,hkw,hx'⟩=>?_⟩
  subst e' hx'
  have e1:(kws.map (·.1))[i]? = some kw.1:=by rw [List.getElem?_map,hkw];rfl
  rw [hk,List.getElem?_map,hx] at e1
  simp only [Option.map_some,Option.some.injEq] at e1
  rw [<- e1]
  exact ⟨F,S.refl,S,GO⟩
theorem Fq {a:Fg.E} {Rr:It->Hp->Prop} (h:Dt B Φ E (.e a) σ H Rr):KJ B E.th (T B Φ E a) σ H Rr:=by
 obtain ⟨σD,M,F,ρ,S,r,h⟩:=h
 refine ⟨σD,M,F,ρ,S,r,?_⟩
 cases hx:ev Φ a σD M with
 | exc c M1 =>
  have he:aX Φ (.e a) σD M=.exc c M1:=by simp only [aX,hx,R.ek]
  rw [he] at h;exact h
 | bad =>
  have he:aX Φ (.e a) σD M=.bad:=by simp only [aX,hx,R.ez]
  rw [he] at h;exact h
 | ok d M1 =>
  intro F1 ρ1 H1 v e1 S1 rd
  cases hi:itemsOf M1 d with
  | none =>
   have he:aX Φ (.e a) σD M=.bad:=by simp only [aX,hx,R.af,hi]
   rw [he] at h;exact h.elim
  | some ds =>
   have he:aX Φ (.e a) σD M=.ok (d,ds,wk M1 d) (walk M1 d):=by simp only [aX,hx,R.af,hi]
   rw [he] at h
   cases d with
   | ao=>simp [itemsOf,vw] at hi
   | bl _=>simp [itemsOf,vw] at hi
   | int _=>simp [itemsOf,vw] at hi
   | str _=>simp [itemsOf] at hi
   | dct _ _=>simp [itemsOf] at hi
   | lst xs =>
    simp only [itemsOf,vw,Option.some.injEq] at hi;subst hi
    simp only [RD] at rd
    obtain ⟨b,vs,rfl,z,q⟩:=id rd
    refine .inl ⟨b,rfl,⟨vs,z.sq⟩,h F1 ρ1 H1 _ e1 S1 fun M' eq S'=>⟨?_,fun z=>by simp [wk] at z⟩⟩
    refine lS fun F ρ M H e S st=>?_
    have JJ:=RD.mono e (.lst xs) (.ref b) (by simp only [RD];exact rd)
    simp only [RD] at JJ
    obtain ⟨b',vs',eb,z',q'⟩:=JJ
    cases eb
    exact ⟨vs',z'.sq,q'⟩
   | tup xs =>
    simp only [itemsOf,vw,Option.some.injEq] at hi;subst hi
    simp only [RD] at rd
    obtain ⟨b,vs,rfl,z,q⟩:=id rd
    refine .inr (.inl ⟨b,rfl,⟨vs,z.sq⟩,h F1 ρ1 H1 _ e1 S1 fun M' eq S'=>⟨?_,fun z=>by simp [wk] at z⟩⟩)
    refine vt fun F ρ M H e S st=>?_
    have JJ:=RD.mono e (.tup xs) (.ref b) (by simp only [RD];exact rd)
    simp only [RD] at JJ
    obtain ⟨b',vs',eb,z',q'⟩:=JJ
    cases eb
    exact ⟨vs',z'.sq,q'⟩
   | ref n =>
    simp only [RD] at rd
    obtain ⟨b,hb,rfl⟩:=rd
    cases hM:M1[n]? with
    | none=>simp [itemsOf,vw,hM] at hi
    | some o =>
     cases o with
     | ins _ _=>simp [itemsOf,vw,hM] at hi
     | lst xs =>
      simp only [itemsOf,vw,hM,Option.some.injEq] at hi;subst hi
      have hw:walk M1 (.ref n)=M1:=by simp only [walk,hM]
      have hk:wk M1 (.ref n)=false:=by simp only [wk,hM]
      rw [hw,hk] at h
      obtain ⟨vs,h1,q⟩:=S1.obj n b _ hb hM
      refine .inl ⟨b,rfl,⟨vs,.inl (.inl h1)⟩,h F1 ρ1 H1 _ e1 S1 fun M' eq S'=>⟨?_,fun z=>by simp at z⟩⟩
      injection eq with eq1 eq2
      subst eq2
      refine lS fun F ρ M H e S st=>?_
      simp only [aP,decide_eq_true_eq] at st
      obtain ⟨vs',MF,q'⟩:=S.obj n b _ (e.at hb) (st.trans hM)
      exact ⟨vs',.inl (.inl MF),q'⟩
     | dct cD =>
      simp only [itemsOf,vw,hM,Option.some.injEq] at hi;subst hi
      have hw:walk M1 (.ref n)=M1.set n (.oX cD):=by simp only [walk,hM]
      have hk:wk M1 (.ref n)=true:=by simp only [wk,hM]
      rw [hw,hk] at h
      obtain ⟨kws,h1,h2,q⟩:=S1.obj n b _ hb hM
      refine .inr (.inr (.inl ⟨b,kws,rfl,h1,fun ob hth=>?_⟩))
      obtain ⟨S2,e2⟩:=S1.wk ob hb hM h1
      refine h F1 ρ1 _ _ (e1.trans e2) S2 fun M' eq S'=>⟨lU ay h2,fun _=>⟨n,b,rfl,hb,hth,fun w v z=>?_⟩⟩
      have:=e1.z b w v z
      rw [h1] at this;cases this
     | oX cD =>
      simp only [itemsOf,vw,hM,Option.some.injEq] at hi;subst hi
      have hw:walk M1 (.ref n)=M1:=by simp only [walk,hM]
      have hk:wk M1 (.ref n)=false:=by simp only [wk,hM]
      rw [hw,hk] at h
      obtain ⟨ob,kws,h1,h2,q⟩:=S1.obj n b _ hb hM
      exact .inr (.inr (.inr ⟨b,ob,kws,rfl,h1,h F1 ρ1 H1 _ e1 S1 fun M' eq S'=>⟨lU h1 h2,fun z=>by simp at z⟩⟩))
theorem vv {lo:Int} {n:Nat} {src:D}:Walks B (M9 lo n) src ((List.range n).map fun (i:Nat)=>D.int (lo+(i:Int))) F0 ρ0 M0 H0:=by
 intro i F ρ M H e S st
 refine ⟨fun d hd=>?_,fun hi=>(show n<=i by simpa using hi)⟩
 have hi:i<n:=by
  obtain ⟨q,_⟩:=List.getElem?_eq_some_iff.mp hd
  simpa using q
 refine ⟨hi,fun x H' ⟨e',hx⟩=>?_⟩
 subst e' hx
 simp [hi] at hd
 subst hd
 exact ⟨F,S.refl,S,by simp only [RD]⟩
theorem yL {j:Int} (h:i9 j=true):-(2 ^ 62)<=j/\j<2 ^ 62:=by
 simp only [i9,decide_eq_true_eq] at h;omega
theorem Bp {a:Fg.E} {Rr:It->Hp->Prop} (h:Dt B Φ E (.g8 a) σ H Rr):Eh (cG (T B Φ E a) iY) σ H Rr:=by
 obtain ⟨σD,M,F,ρ,S,r,h⟩:=h
 refine ⟨σD,M,F,ρ,S,r,?_⟩
 cases hx:ev Φ a σD M with
 | exc c M1 =>
  have he:aX Φ (.g8 a) σD M=.exc c M1:=by simp only [aX,hx,R.ek]
  rw [he] at h;exact h
 | bad =>
  have he:aX Φ (.g8 a) σD M=.bad:=by simp only [aX,hx,R.ez]
  rw [he] at h;exact h
 | ok d M1 =>
  intro F1 ρ1 H1 v e1 S1 rd
  cases d with
  | int j =>
   simp only [RD] at rd;subst rd
   cases hr:i9 j with
   | false =>
    have he:aX Φ (.g8 a) σD M=.bad:=by simp [aX,hx,hr]
    rw [he] at h;exact h.elim
   | true =>
    have he:aX Φ (.g8 a) σD M=.ok (.ao,i7 0 j,false) M1:=by simp [aX,hx,hr]
    rw [he] at h
    obtain ⟨b1,b2⟩:=yL hr
    refine ⟨j,rfl,b1,b2,h F1 ρ1 H1 _ e1 S1 fun M' eq S'=>⟨?_,fun z=>by simp at z⟩⟩
    have q:i7 0 j=(List.range j.toNat).map fun (i:Nat)=>D.int (0+(i:Int)):=by simp [i7]
    dsimp only
    rw [q]
    exact vv
  | ao =>
   have he:aX Φ (.g8 a) σD M=.bad:=by simp [aX,hx]
   rw [he] at h;exact h.elim
  | bl _ =>
   have he:aX Φ (.g8 a) σD M=.bad:=by simp [aX,hx]
   rw [he] at h;exact h.elim
  | str _ =>
   have he:aX Φ (.g8 a) σD M=.bad:=by simp [aX,hx]
   rw [he] at h;exact h.elim
  | tup _ =>
   have he:aX Φ (.g8 a) σD M=.bad:=by simp [aX,hx]
   rw [he] at h;exact h.elim
  | lst _ =>
   have he:aX Φ (.g8 a) σD M=.bad:=by simp [aX,hx]
   rw [he] at h;exact h.elim
  | dct _ _ =>
   have he:aX Φ (.g8 a) σD M=.bad:=by simp [aX,hx]
   rw [he] at h;exact h.elim
  | ref _ =>
   have he:aX Φ (.g8 a) σD M=.bad:=by simp [aX,hx]
   rw [he] at h;exact h.elim
end
end Fg
end
section
namespace Fg
open PySem L2
noncomputable def EB (E:Gx) (σ:L2.St):Gx:=⟨fun cv x _ H=>E.e cv x σ H,fun _=>False,fun cv x _ H H' t h=>by
 rcases t with rfl | ⟨_,_,_,z,_⟩
 ·exact h
 ·exact z.elim⟩
noncomputable def TBo (B:Bd) (Φ:bF) (E:Gx):O->TT
 | .none=>fun _ H Q=>Q true H
 | .some e=>TB B Φ E e
section
variable {B:Bd} {Φ:bF} {E:Gx} {F F' F0 F1:Addr->Prop} {ρ ρ' ρ0 ρ1:List Addr} {H H' H0 H1:Hp} {M M' M0:MH} {σD:Sg} {σ:L2.St} {Q:VK} {Dn:Ends}
theorem Ext.fresh (S:SR B F ρ M H) {p:Addr} (h:H p=none) (o:HO):Ext F ρ H F ρ (upd H p o) :=
 ⟨⟨S.sep,fun _ q=>q,fun a q _=>aq (by rintro rfl;exact q h),List.prefix_refl _,fun _ q=>.inl q,fun _ q=>.inl q⟩,fun b w u q=>by rw [aq (by rintro rfl;rw [h] at q;cases q)];exact q⟩
theorem Ext.over (e:Ext F ρ H F' ρ' H') {p:Addr} (h:H p=none) (o:HO):Ext F ρ H F' ρ' (upd H' p o) :=
 ⟨⟨e.s,e.f,fun a q nb=>by rw [aq (by rintro rfl;exact q h)];exact e.h a q nb,e.r,e.n,e.g⟩,fun b w u q=>by rw [aq (by rintro rfl;rw [h] at q;cases q)];exact e.z b w u q⟩
theorem RS.cap (r:RS B F ρ H σD σ) (caps:List Nat) (n:Nat):RS B F ρ H (oB σD caps++List.replicate n none) (qG caps n σ):=by
 refine ⟨by simp [oB,qG],fun i d q=>?_⟩
 by_cases hi:i<caps.length
 ·have hc:caps[i]? = some caps[i]:=List.getElem?_eq_getElem hi
  rw [List.getElem?_append_left (by simpa [oB] using hi)] at q
  simp only [oB,List.getElem?_map,hc,Option.map_some,Option.some.injEq] at q
  cases hs:σD[caps[i]]? with
  | none=>rw [hs] at q;cases q
  | some o =>
   rw [hs] at q
   simp only [Option.join_some] at q
   subst q
   obtain ⟨v,h1,h2⟩:=r.get _ _ hs
   refine ⟨v,?_,h2⟩
   unfold qG
   rw [List.getElem?_append_left (by simpa using hi),List.getElem?_map,hc]
   simp [h1]
 ·rw [List.getElem?_append_right (by simpa [oB] using Nat.le_of_not_lt hi),List.getElem?_replicate] at q
  split at q <;> cases q
theorem RS.aY (e:qL F ρ H F' ρ' H') (h:RS B F ρ H σD σ):RS B F' ρ' H' σD σ :=
 ⟨h.len,fun i d q=>let ⟨v,h1,h2⟩:=h.get i d q;⟨v,h1,RD.aY e d v h2⟩⟩
theorem pK {fz:Bool} {caps tg:List Nat} {elt:Fg.E} {it:Src} {cond:O} (h:T B Φ E (.comp fz caps tg elt it cond) σ H Q) :
  tH (Dt B Φ E it) (KW tg B.K) (fun σ=>TBo B Φ (EB E σ) cond) (fun σ=>T B Φ (EB E σ) elt) caps tg.length σ H (fun v H'=>∃ sY,A2 E.th H' sY/\Q v sY):=by
 obtain ⟨σD,M,F,ρ,S,r,h⟩:=h
 simp only [ev] at h
 refine ⟨σD,M,F,ρ,S,r,?_⟩
 cases hx:aX Φ it σD M with
 | exc c M1=>rw [hx] at h;exact h
 | bad=>rw [hx] at h;exact h
 | ok p M0 =>
  rw [hx] at h
  simp only [R.af] at h
  intro F0 ρ0 H0 J e0 S0 hw
  obtain ⟨W,wz⟩:=hw M0 rfl S0
  obtain ⟨src,ds,fl⟩:=p
  dsimp only at h W wz
  intro Da MD
  obtain ⟨nD,nF⟩:=S0.new MD
  have MC:H Da=none:=by
   cases q:H Da with
   | none=>rfl
   | some u =>
    exfalso
    by_cases hr:Da∈ρ
    ·exact nD (e0.r.subset hr)
    ·have:=e0.h Da (by rw [q];simp) hr
     rw [MD,q] at this;cases this
  let loop:=fun (i:Nat) (σ':Sg) (M':MH) (acc:List D)=>((bG (oW Φ cond) (ev Φ elt) tg (aP M0 src) (ds.drop i) σ' M' acc).fin (fL fl src)).bind fun ds M2=>cU fz ds M2
  let WW:Nat->Nat->L2.St->Hp->Prop:=fun i m σ' H'=>m+i=ds.length/\∃ (Jd:Sg) (M1:MH) (F1:Addr->Prop) (ρ1:List Addr) (acc:List D) (vs:List V),Ext F ρ H F1 ρ1 H'/\Ext F0 ρ0 H0 F1 ρ1 H'/\SR B F1 ρ1 M1 H'/\RS B F1 ρ1 H' Jd σ'/\aP M0 src M1=true/\Da∉ρ1/\¬ F1 Da/\H' Da=some (.lst vs)/\ai B F1 ρ1 H' acc vs /\
   Post B (loop i Jd M1 acc) F ρ H Q (fun cv x H'=>E.e cv x σ H')
  have x0:=qL.side (ρ:=ρ0) (H:=H0) nF (.lst [])
  refine ⟨WW,⟨ds.length,by simp,_,M0,F0,ρ0,[],[],e0.over MC _,Ext.fresh S0 MD _,S0.side nD nF _,((r.mono e0).cap caps tg.length).aY x0,?_,nD,nF,ay,ai.nil,h⟩,?_⟩
  ·unfold aP;split <;> simp
  rintro i m σ1 H1 ⟨hm,A5,M1,F1,ρ1,acc,vs,eo,e1,S1,r1,st1,d1,f1,ME,ra,p1⟩
  obtain ⟨wgo,wst⟩:=W i F1 ρ1 M1 H1 e1 S1 st1
  by_cases hi:i<ds.length
  ·have hd:ds.drop i=ds[i]::ds.drop (i+1):=List.drop_eq_getElem_cons hi
   simp only [loop] at p1
   rw [hd] at p1
   unfold bG at p1
   obtain ⟨go,yl⟩:=wgo ds[i] (List.getElem?_eq_getElem hi)
   refine .inr ⟨go,fun x H2 hy=>?_⟩
   obtain ⟨F2,e2,S2,rd⟩:=yl x H2 hy
   have keep:∀ {F3:Addr->Prop} {ρ3:List Addr} {H3:Hp},Ext F1 ρ1 H1 F3 ρ3 H3->Da∉ρ3/\¬ F3 Da/\H3 Da=some (.lst vs)/\ai B F3 ρ3 H3 acc vs:=fun {F3 ρ3 H3} e=>by
    have hne:H1 Da≠none:=by rw [ME];simp
    refine ⟨fun z=>(e.n Da z).elim d1 hne,fun z=>?_,(e.h Da hne d1).trans ME,ai.mono e _ _ ra⟩
    rcases e.g Da z with q | q | q
    ·exact f1 q
    ·exact hne q
    ·exact d1 q
   split at p1
   ·exact p1.elim
   ·rename_i σ2 hs
    refine pM (r1.mono e2) rd hs fun σ' r'=>?_
    have Lk:∀ {F3:Addr->Prop} {ρ3:List Addr} {H3:Hp} {M3:MH},Ext F1 ρ1 H1 F3 ρ3 H3->SR B F3 ρ3 M3 H3->RS B F3 ρ3 H3 σ2 σ' ->
      Post B ((((ev Φ elt σ2 M3).bind fun x M2=>if aP M0 src M2=true then (if decide (acc.length<line)=true then bG (oW Φ cond) (ev Φ elt) tg (aP M0 src) (ds.drop (i+1)) σ2 M2 (acc++[x]) else .bad) else .bad).fin (fL fl src)).bind fun ds M2=>cU fz ds M2) F ρ H Q (fun cv x H'=>E.e cv x σ H') ->
      T B Φ (EB E σ) elt σ' H3 fun v H5=>∃ ys,H5 Da=some (.lst ys)/\ys.length<sizeLine/\∃ m',m'<m/\WW (i+1) m' σ' (upd H5 Da (.lst (ys++[v]))):=by
     intro F3 ρ3 H3 M3 e3 S3 r3 p3
     refine ⟨σ2,M3,F3,ρ3,S3,r3,?_⟩
     cases hv:ev Φ elt σ2 M3 with
     | bad=>rw [hv] at p3;exact p3
     | exc c M4 =>
      rw [hv] at p3
      intro F4 ρ4 H4 cv x e4 S4 q4
      obtain ⟨H5,t5,S5,e5,x5⟩:=cR S4 ((eo.trans e3).trans e4) ((e1.trans e3).trans e4).r wz
      exact E.cl _ _ _ _ _ t5 (p3 F4 ρ4 H5 cv x e5 S5 q4)
     | ok d M4 =>
      rw [hv] at p3
      simp only [R.af] at p3
      intro F4 ρ4 H4 v e4 S4 q4
      split at p3
      ·rename_i hst
       split at p3
       ·rename_i hlt
        obtain ⟨k1,k2,k3,k4⟩:=keep (e3.trans e4)
        have hl4:=ai.length k4
        have x4:=qL.side (ρ:=ρ4) (H:=H4) k2 (.lst (vs++[v]))
        refine ⟨vs,k3,by rw [<- hl4];exact Nat.lt_of_lt_of_le (of_decide_eq_true hlt) bO,m-1,by omega,by omega,σ2,M4,F4,ρ4,acc++[d],vs++[v],((eo.trans e3).trans e4).over MC _,((e1.trans e3).trans e4).over MD _,S4.side k1 k2 _,((r3.mono e4)).aY x4,hst,k1,k2,ay,ai.aY x4 _ _ (k4.append (ai.cons q4 ai.nil)),p3⟩
       ·exact p3.elim
      ·exact p3.elim
    cases cond with
    | none =>
     have hc:oW Φ .none σ2 M1=.ok (.bl true) M1:=by simp only [oW]
     rw [hc] at p1
     simp only [R.af] at p1
     unfold TBo
     dsimp only
     rw [if_pos rfl]
     exact Lk e2 S2 r' p1
    | some c =>
     have hc0:oW Φ (.some c) σ2 M1=ev Φ c σ2 M1:=by simp only [oW]
     rw [hc0] at p1
     refine ⟨σ2,M1,F2,ρ1,S2,r',?_⟩
     cases hc:ev Φ c σ2 M1 with
     | bad=>rw [hc] at p1;exact p1
     | exc k M4 =>
      rw [hc] at p1
      intro F4 ρ4 H4 cv x e4 S4 q4
      obtain ⟨H5,t5,S5,e5,x5⟩:=cR S4 ((eo.trans e2).trans e4) ((e1.trans e2).trans e4).r wz
      exact E.cl _ _ _ _ _ t5 (p1 F4 ρ4 H5 cv x e5 S5 q4)
     | ok t M4 =>
      rw [hc] at p1
      simp only [R.af] at p1
      intro F4 ρ4 H4 v e4 S4 q4
      split at p1
      ·simp only [RD] at q4;subst q4
       refine ⟨true,rfl,?_⟩
       dsimp only
       rw [if_pos rfl]
       exact Lk (e2.trans e4) S4 (r'.mono e4) p1
      ·simp only [RD] at q4;subst q4
       refine ⟨false,rfl,?_⟩
       dsimp only
       rw [if_neg Bool.false_ne_true]
       split at p1
       ·rename_i hst
        obtain ⟨k1,k2,k3,k4⟩:=keep (e2.trans e4)
        exact ⟨m-1,by omega,by omega,σ2,M4,F4,ρ4,acc,vs,(eo.trans e2).trans e4,(e1.trans e2).trans e4,S4,r'.mono e4,hst,k1,k2,k3,k4,p1⟩
       ·exact p1.elim
      ·exact p1.elim
  ·have hd:ds.drop i=[]:=List.drop_eq_nil_of_le (Nat.le_of_not_lt hi)
   simp only [loop] at p1
   rw [hd] at p1
   unfold bG at p1
   obtain ⟨H4,t4,S4,e4,x4⟩:=cR S1 eo e1.r wz
   refine .inl ⟨wst (Nat.le_of_not_lt hi),H4,t4,?_⟩
   have p2:Post B (cU fz acc (fL fl src M1)) F ρ H Q (fun cv x H'=>E.e cv x σ H'):=p1
   have ra4:=ai.bE x4 _ _ ra
   have hD4:H4 Da=some (.lst vs):=by
    have:=x4.h Da (by rw [ME];simp) d1
    exact this.trans ME
   cases fz with
   | true =>
    simp only [cU,if_true] at p2
    have xt:qL F1 ρ1 H4 (fun a=>F1 a\/a=Da) ρ1 H4:=⟨fun _ q=>.inl q,fun _ _ _=>rfl,List.prefix_refl _⟩
    refine p2 (fun a=>F1 a\/a=Da) ρ1 H4 (.ref Da) ⟨⟨e4.s,fun a q=>.inl (e4.f a q),e4.h,e4.r,e4.n,fun a q=>q.elim (e4.g a) fun z=>.inr (.inl (z ▸ MC))⟩,e4.z⟩ (S4.take d1 (by rw [hD4];simp)) ?_
    simp only [RD]
    exact ⟨Da,vs,rfl,.inl ⟨.inr rfl,.inl hD4⟩,ai.aY xt _ _ ra4⟩
   | false =>
    simp only [cU,Bool.false_eq_true,if_false] at p2
    have xt:qL F1 ρ1 H4 F1 (ρ1++[Da]) H4:=⟨fun _ q=>q,fun _ _ _=>rfl,List.prefix_append _ _⟩
    refine p2 F1 (ρ1++[Da]) H4 (.ref Da) ⟨⟨e4.s,e4.f,e4.h,e4.r.trans (List.prefix_append _ _),fun a q=>(List.mem_append.mp q).elim (e4.n a) fun z=>.inr (by rw [List.mem_singleton.mp z];exact MC),e4.g⟩,e4.z⟩ (S4.hold (u:=.lst acc) d1 f1 ⟨vs,hD4,ai.aY xt _ _ ra4⟩) ?_
    simp only [RD]
    refine ⟨Da,?_,rfl⟩
    rw [<- S4.len,List.getElem?_append_right (Nat.le_refl _),Nat.sub_self];rfl
end
end Fg
end
section
namespace Fg
open PySem L2
section
variable {B:Bd} {Φ:bF} {E:Gx} {F F' F0 F1:Addr->Prop} {ρ ρ' ρ0 ρ1:List Addr} {H H' H0 H1:Hp} {M M' M0:MH} {σD:Sg} {σ:L2.St} {Q:VK} {Dn:Ends}
theorem JF {i:Nat} {v:V} (hg:∀ d,Φ.glob i=some d->∀ F ρ H,RD B F ρ H d v) (h:T B Φ E (.g i) σ H Q):tC v σ H Q:=by
 obtain ⟨σD,M,F,ρ,S,r,h⟩:=h
 simp only [ev] at h
 split at h
 ·rename_i d hd
  exact ah.run h S (hg d hd F ρ H)
 ·exact h.elim
noncomputable def xS (B:Bd) (Φ:bF) (f n:Nat):Sp:=fun vs H Q E=>vs.length=n/\∃ ds M F ρ,SR B F ρ M H/\ai B F ρ H ds vs/\Post B (Φ.call f ds M) F ρ H Q E
theorem pL {f n:Nat} {es:Es} (hn:∀ {σ:Sg} {M:MH} {ds:List D} {M':MH},cM Φ es σ M=.ok ds M'->ds.length=n) (h:T B Φ E (.call f es) σ H Q)  :qU (xS B Φ f n) E.e (TL B Φ E es) σ H Q:=by
 obtain ⟨σD,M,F,ρ,S,r,h⟩:=h
 simp only [ev] at h
 refine ⟨σD,M,F,ρ,S,r,?_⟩
 cases hx:cM Φ es σD M with
 | exc c M1=>rw [hx] at h;exact h
 | bad=>rw [hx] at h;exact h
 | ok ds M1 =>
  rw [hx] at h
  simp only [R.af] at h
  intro F1 ρ1 H1 vs e1 S1 q1
  exact ⟨by rw [<- ai.length q1];exact hn hx,ds,M1,F1,ρ1,S1,q1,ah.weak e1 h⟩
theorem vI {f n:Nat} {es:Es} {d:Int} (hn:∀ {σ:Sg} {M:MH} {ds:List D} {M':MH},cM Φ es σ M=.ok ds M'->ds.length+1=n) (h:T B Φ E (.gM f es d) σ H Q):xG (xS B Φ f n) (.int d) E.e (TL B Φ E es) σ H Q:=by
 obtain ⟨σD,M,F,ρ,S,r,h⟩:=h
 simp only [ev] at h
 refine ⟨σD,M,F,ρ,S,r,?_⟩
 cases hx:cM Φ es σD M with
 | exc c M1=>rw [hx] at h;exact h
 | bad=>rw [hx] at h;exact h
 | ok ds M1 =>
  rw [hx] at h
  simp only [R.af] at h
  intro F1 ρ1 H1 vs e1 S1 q1
  exact ⟨by rw [List.length_append,<- ai.length q1];exact hn hx,ds++[.int d],M1,F1,ρ1,S1,q1.append (ai.cons (by simp only [RD]) ai.nil),ah.weak e1 h⟩
theorem E1 {x:D} {v:V} {t:Ty} (S:SR B F ρ M H) (rx:RD B F ρ H x v) (ho:yK M x=true):∃ T,Ds B H v T/\tyB T t=Hz M t x:=by
 cases x with
 | ao=>simp only [RD] at rx;subst rx;exact ⟨_,.ao,by cases t <;> rfl⟩
 | bl b=>simp only [RD] at rx;subst rx;exact ⟨_,.bl b,by cases t <;> rfl⟩
 | int i=>simp only [RD] at rx;subst rx;exact ⟨_,.int i,by cases t <;> rfl⟩
 | str x=>simp only [RD] at rx;subst rx;exact ⟨_,.str x,by cases t <;> rfl⟩
 | tup ds=>simp only [RD] at rx;obtain ⟨a,vs,rfl,z,_⟩:=rx;exact ⟨_,.tup z.sq,by cases t <;> rfl⟩
 | lst ds=>simp only [RD] at rx;obtain ⟨a,vs,rfl,z,_⟩:=rx;exact ⟨_,.lst z.sq,by cases t <;> rfl⟩
 | dct ks ds =>
  simp only [RD] at rx;obtain ⟨a,vs,rfl,z,_⟩:=rx
  refine ⟨_,.dct (kvs:=vs) ?_,by cases t <;> rfl⟩
  rcases z with ⟨_,z⟩ | z
  ·exact .inl z
  ·exact .inr z
 | ref n =>
  simp only [RD] at rx
  obtain ⟨a,h1,rfl⟩:=rx
  cases hM:M[n]? with
  | none=>simp [yK,hM] at ho
  | some o =>
   cases o with
   | lst ds=>obtain ⟨vs,h3,_⟩:=S.obj n a _ h1 hM;exact ⟨_,.lst (.inl (.inl h3)),by simp only [Hz,hM];cases t <;> rfl⟩
   | dct kvs=>obtain ⟨kws,h3,_⟩:=S.obj n a _ h1 hM;exact ⟨_,.dct (.inl (.inl h3)),by simp only [Hz,hM];cases t <;> rfl⟩
   | oX kvs=>obtain ⟨o,kws,h3,_⟩:=S.obj n a _ h1 hM;exact ⟨_,.dct (.inl (.inr ⟨o,h3⟩)),by simp only [Hz,hM];cases t <;> rfl⟩
   | ins _ _=>simp [yK,hM] at ho
theorem Bx {a:Fg.E} {t:Ty} (h:T B Φ E (.r9 a t) σ H Q):E4 (JS B) (cG (T B Φ E a) (cG (tC (.ty (o6 t))) iY)) σ H Q:=by
 obtain ⟨σD,M,F,ρ,S,r,h⟩:=h
 simp only [ev] at h
 refine T.one S r rfl h fun x M1 F1 ρ1 H1 v e1 S1 r1 rx h1=>?_
 split at h1
 ·rename_i ho
  obtain ⟨T',ty,e⟩:=E1 (t:=t) S1 rx ho
  refine ⟨v,T',t,rfl,ty,?_⟩
  rw [e]
  exact ah.run h1 S1 (by simp only [RD])
 ·exact h1.elim
theorem rj {fz:Bool} {a:Fg.E} {es:Es} (h:T B Φ E (.dH .append fz a es) σ H Q):tBM B.K "list" nE (T B Φ E a) (TL B Φ E es) σ H Q:=by
 obtain ⟨σD,M,F,ρ,S,r,h⟩:=h
 simp only [ev] at h
 refine T.one S r rfl h fun x M1 F1 ρ1 H1 v e1 S1 r1 rx h1=>?_
 split at h1
 ·rename_i ho
  refine ⟨?_,TL.one S1 r1 rfl h1 fun ds M2 F2 ρ2 H2 vs e2 S2 r2 rds h2=>sV S2 (RD.mono e2 _ _ rx) rds h2⟩
  have h0:=((Bool.and_eq_true _ _).mp ho).1
  cases hl:gF M1 x with
  | none=>rw [hl] at h0;cases h0
  | some p =>
   obtain ⟨rfl,hM⟩:=jX hl
   simp only [RD] at rx
   obtain ⟨b,hb,rfl⟩:=rx
   obtain ⟨vs,h3,_⟩:=S1.obj p.1 b _ hb hM
   exact .inl ⟨rfl,vs,.inl (.inl h3)⟩
 ·exact h1.elim
noncomputable def DW (x y v:V) (H:Hp) (Q:Hp->Prop):Prop:=DU x y v H Q\/∃ a H4,x=.ref a/\sZ H a y v H4/\Q H4
noncomputable def DR (to ti tv:TE):TS:=fun D σ H=>tv σ H fun v H1=>to σ H1 fun x H2=>ti σ H2 fun y H3=>DW x y v H3 fun H4=>D.nx σ H4
theorem BF {x y d:D} {v w u:V} (S:SR B F ρ M H) (rx:RD B F ρ H x v) (ry:RD B F ρ H y w) (rd:RD B F ρ H d u) {K:Hp->Prop} (h:∀ M',nv M x y d=.ok () M'->∀ H',Ext F ρ H F ρ H'->SR B F ρ M' H'->K H') (hb:∃ M',nv M x y d=.ok () M'):DW v w u H K:=by
 obtain ⟨M',hb⟩:=hb
 have hK:=h M' hb
 unfold nv at hb
 split at hb
 ·rename_i n
  simp only [RD] at rx
  obtain ⟨a,h1,rfl⟩:=rx
  split at hb
  ·rename_i xs i hM
   split at hb
   ·rename_i j hj
    cases hb
    simp only [RD] at ry;subst ry
    obtain ⟨vs,h2,h3⟩:=S.obj n a _ h1 hM
    refine .inl ⟨a,vs,i,j,rfl,rfl,h2,by rw [<- ai.length h3,<- zA];exact hj,?_⟩
    obtain ⟨S',e⟩:=S.st (o:=.lst (vs.set j u)) (u:=.lst (xs.set j d)) h1 (fun _ _ q=>by rw [h2] at q;cases q) ⟨_,ay,ai.bE (Ext0.at_ S h1) _ _ (h3.set j rd)⟩
    exact hK _ e S'
   ·cases hb
  ·rename_i kvs hM
   split at hb
   ·rename_i k hk
    split at hb
    ·rename_i hl
     cases hb
     obtain ⟨kws,h2,h3,h4⟩:=S.obj n a _ h1 hM
     have hlen:kws.length=kvs.length:=by have:=congrArg List.length h3;simpa using this
     rw [nO hk ry]
     refine .inr ⟨a,_,rfl,sZ.k h2 (by rw [hlen];exact Nat.lt_of_lt_of_le (of_decide_eq_true hl) bO),?_⟩
     obtain ⟨p1,p2⟩:=yr (k:=k) rd h3 h4
     obtain ⟨S',e⟩:=S.st (o:=.dK (putK kws k u)) (u:=.dct (put kvs k d)) h1 (fun _ _ q=>by rw [h2] at q;cases q) ⟨_,ay,p1,ai.bE (Ext0.at_ S h1) _ _ p2⟩
     exact hK _ e S'
    ·cases hb
   ·cases hb
  ·cases hb
 ·cases hb
theorem BH {x y d:D}:(∃ M',nv M x y d=.ok () M')\/nv M x y d=.bad:=by
 unfold nv
 split
 ·split
  ·split
   ·exact .inl ⟨_,rfl⟩
   ·exact .inr rfl
  ·split
   ·split
    ·exact .inl ⟨_,rfl⟩
    ·exact .inr rfl
   ·exact .inr rfl
  ·exact .inr rfl
 ·exact .inr rfl
theorem xX {a b e:Fg.E} (h:TC B Φ E (.rA a b e) Dn σ H):DR (T B Φ E a) (T B Φ E b) (T B Φ E e) Dn σ H:=by
 obtain ⟨σD,M,F,ρ,S,r,h⟩:=h
 simp only [ex] at h
 refine TC.one S r h fun x M1 F1 ρ1 H1 v e1 S1 r1 rx h1=>?_
 refine TC.one S1 r1 h1 fun y M2 F2 ρ2 H2 w e2 S2 r2 ry h2=>?_
 refine TC.one S2 r2 h2 fun z M3 F3 ρ3 H3 u e3 S3 r3 rz h3=>?_
 have Mc:=RD.mono e3 _ _ (RD.mono e2 _ _ rx)
 have Mb:=RD.mono e3 _ _ ry
 rcases BH (M:=M3) (x:=y) (y:=z) (d:=x) with ⟨M',hb⟩ | hb
 ·refine BF S3 Mb rz Mc (fun M4 hq H4 e4 S4=>?_) ⟨M',hb⟩
  rw [hq] at h3
  exact h3 F3 ρ3 H4 e4 S4 σ (r3.mono e4)
 ·rw [hb] at h3;exact h3.elim
end
end Fg
end
section
namespace Fg
open PySem PySem.Spec L2
noncomputable def su:F1->V->Option V
 | .abs,.int i=>some (.int (if i<0 then -i else i))
 | .int,.bl b=>some (.int (if b then 1 else 0))
 | .int,.int i=>some (.int i)
 | _,_=>none
noncomputable def rF1 (f:F1):List V->Hp->VK->Prop:=fun xs H Q=>∃ x y,xs=[x]/\su f x=some y/\Q y H
section
variable {X:Cx}
theorem wR:cB X (.builtin "abs") (rF1 .abs):=by
 intro pins s σ H xs us Q I r h
 obtain ⟨x,y,rfl,hf,q⟩:=h
 obtain ⟨u,rfl,ru⟩:=vals1 r
 cases x with
 | int i =>
  simp only [su] at hf
  cases hf
  obtain ⟨t,rfl⟩:=(show ∃ t,u=Value.int i t from ru)
  exact PyProof.Rows.call_abs_int fun u tk=>⟨.int _,H,I.tok _,⟨_,rfl⟩,q⟩
 | _=>simp [su] at hf
theorem wO:cB X (.type "int") (rF1 .int):=by
 intro pins s σ H xs us Q I r h
 obtain ⟨x,y,rfl,hf,q⟩:=h
 obtain ⟨u,rfl,ru⟩:=vals1 r
 cases x with
 | int i =>
  simp only [su] at hf
  cases hf
  obtain ⟨t,rfl⟩:=(show ∃ t,u=Value.int i t from ru)
  exact call_int_int ⟨.int _,H,I,⟨_,rfl⟩,q⟩
 | bl b =>
  simp only [su] at hf
  cases hf
  cases ru
  exact call_int_bool ⟨.int _,H,I.tok _,⟨_,rfl⟩,q⟩
 | _=>simp [su] at hf
end
section
variable {B:Bd} {Φ:bF} {E:Gx} {F F' F0 F1:Addr->Prop} {ρ ρ' ρ0 ρ1:List Addr} {H H' H0 H1:Hp} {M M' M0:MH} {σD:Sg} {σ:L2.St} {Q:VK}
theorem HK {f:Fg.F1} {x d:D} {v:V} (h:wF f x=some d) (r:RD B F ρ H x v):∃ w,su f v=some w/\RD B F ρ H d w:=by
 cases x with
 | int i=>simp only [RD] at r;subst r;cases f <;> simp only [wF] at h <;> cases h <;> exact ⟨_,rfl,by simp only [RD]⟩
 | bl b=>simp only [RD] at r;subst r;cases f <;> simp only [wF] at h <;> cases h <;> exact ⟨_,rfl,by simp only [RD]⟩
 | _=>cases f <;> simp [wF] at h
theorem tR {f:Fg.F1} {a:Fg.E} (h:T B Φ E (.iT f a) σ H Q):E4 (rF1 f) (cG (T B Φ E a) iY) σ H Q:=by
 obtain ⟨σD,M,F,ρ,S,r,h⟩:=h
 simp only [ev] at h
 refine T.one S r rfl h fun x M1 F1 ρ1 H1 v e1 S1 r1 rx h1=>?_
 split at h1
 ·rename_i d hd
  obtain ⟨w,hw,rw'⟩:=HK hd rx
  exact ⟨v,w,rfl,hw,ah.run h1 S1 rw'⟩
 ·exact h1.elim
end
end Fg
end
section
namespace Fg
open PySem L2
section
variable {X:Cx}
theorem CP (l:Addr) (items:Array Value) (n:Nat) (b:Addr) (items2:Array Value) (n2:Nat) (dd2:Option Addr) (sl2:Array (Option Value)) (hs0:¬(!items.isEmpty&&Builtin.List.listTooLong (items.size+items2.size))=true) (hs1:items.size<=sizeLine) (hs2:items.size+items2.size<=sizeLine+1) :
  Meets (Builtin.«list.extend» ⟨[.ref l, .ref b], []⟩) (fun _ R s=>s.heap.get? l=some { cls:=.type "list", dict:=none, data:=.seq items n, slots:=#[] }/\s.heap.get? b=some { cls:=.type "tuple", dict:=dd2, data:=.seq items2 n2, slots:=sl2 }/\R (.ok (.ret Value.none)) { s with heap:=s.heap.update l (Obj.mapSeq fun x=>x++items2), toks:=s.toks }) :=
 .of_wp fun prog w A R s h=>by
  obtain ⟨hp,g,d,tk,os⟩:=s;obtain ⟨hl,hb,h⟩:=h;have f1:=AutoSeq1.idx_int;have f2:=AutoSeq1.sub_tuple_tuple;have f3:=AutoSeq1.sub_list_list;have f4:=AutoSeq1.sub_tuple_list;have f5:=AutoSeq1.sub_list_tuple
  have hz':(items++items2).size<=sizeLine+1:=by rw [Array.size_append];exact hs2
  wp_walk using (wpAny_updateSeq hl rfl (hz:=hs1) (_hz':=hz')),AutoSeq1.wpAny_loadPart' hl,AutoSeq1.wpAny_loadPart' hb;exact ⟨_,rfl,h⟩
noncomputable def DY (K:W.Frag):V->List V->Hp->VK->Prop:=fun x vs H Q=>∃ l b xs zs,x=.ref l/\vs=[.ref b]/\H l=some (.lst xs)/\gO K H b zs/\xs.length+zs.length<=sizeLine/\Q .ao (upd H l (.lst (xs++zs)))
theorem Cn:M7 X "list.extend" (DY X.K):=by
 intro pins s σ H x vs v us Q I rx rv h
 obtain ⟨l,b,xs,zs,rfl,rfl,hH,hB,hz,q⟩:=h
 cases rx
 obtain ⟨u,rfl,ru⟩:=rv.one
 cases ru
 obtain ⟨z,its,n,r,hl,e⟩:=I.Cp hH
 obtain ⟨its2,r2,p2,z2⟩:=I.tuple hB
 obtain ⟨⟨LA,dd2,data2,sl2⟩,e2,hc2,n2,hd2⟩:=p2
 simp only at hc2 hd2
 subst hc2 hd2
 have l2:=r2.length
 have hsz:its.toArray.size+its2.toArray.size<=sizeLine:=by rw [List.size_toArray,List.size_toArray];omega
 have KN:¬ (!its.toArray.isEmpty&&Builtin.List.listTooLong (its.toArray.size+its2.toArray.size))=true:=by
  rw [yO hsz,Bool.and_false]
  exact Bool.false_ne_true
 refine call_meets PySem.F.slot_list_extend ⟨_,e,rfl⟩ PySem.F.entry_list_extend (PySem.F.args_list_extend_2 _ _)
  (CP l its.toArray n b its2.toArray n2 dd2 sl2 KN (by rw [List.size_toArray];omega) (by omega)) ⟨e,e2,?_⟩
 refine ⟨.ao,_,I.Cq (its':=its++its2) hH e (by simp) (r.append r2) ?_,rfl,q⟩
 rw [List.length_append]
 omega
end
section
variable {B:Bd} {Φ:bF} {E:Gx} {F F' F0 F1:Addr->Prop} {ρ ρ' ρ0 ρ1:List Addr} {H H' H0 H1:Hp} {M M' M0:MH} {σD:Sg} {σ:L2.St} {Q:VK}
theorem ai.rev:∀ {ds:List D} {vs:List V},ai B F ρ H ds vs->ai B F ρ H ds.reverse vs.reverse
 | [],vs,h=>by
  have:=ai.length h
  cases vs with
  | nil=>exact ai.nil
  | cons _ _=>simp at this
 | d::ds,vs,h=>by
  cases vs with
  | nil=>have:=ai.length h;simp at this
  | cons v vs =>
   obtain ⟨w,ws,h1,h2,h3⟩:∃ w ws,v::vs=w::ws/\RD B F ρ H d w/\ai B F ρ H ds ws:=by simpa only [ai] using h
   cases h1
   rw [List.reverse_cons,List.reverse_cons]
   exact ai.append (ai.rev h3) (ai.cons h2 ai.nil)
theorem ai.dropLast {ds:List D} {vs:List V} (h:ai B F ρ H ds vs):ai B F ρ H ds.dropLast vs.dropLast:=by
 rw [List.dropLast_eq_take,List.dropLast_eq_take,<- ai.length h];exact ai.take _ h
theorem yj {x:D} {v:V} {m:Mt} (S:SR B F ρ M H) (rx:RD B F ρ H x v) (ho:nL m M x=true):∃ n xs, x=.ref n/\M[n]? = some (.lst xs)/\L6 B.K "list" v H:=by
 have h0:=((Bool.and_eq_true _ _).mp ho).1
 cases hl:gF M x with
 | none=>rw [hl] at h0;cases h0
 | some p =>
  obtain ⟨rfl,hM⟩:=jX hl
  simp only [RD] at rx
  obtain ⟨b,hb,rfl⟩:=rx
  obtain ⟨vs,h3,_⟩:=S.obj p.1 b _ hb hM
  exact ⟨p.1,p.2,rfl,hM,.inl ⟨rfl,vs,.inl (.inl h3)⟩⟩
theorem BW {fz:Bool} {n:Nat} {xs:List D} {v:V} {X:XK} (S:SR B F ρ M H) (hx:M[n]? = some (.lst xs)) (rx:RD B F ρ H (.ref n) v) (h:Post B (gR .pop fz M (.ref n) []) F ρ H Q X):FJ v [] H Q:=by
 simp only [gR,ck hx,qb,List.isEmpty_nil,if_true] at h
 split at h
 ·rename_i d hd
  simp only [RD] at rx
  obtain ⟨a,h1,rfl⟩:=rx
  obtain ⟨ws,h2,h3⟩:=S.obj n a _ h1 hx
  obtain ⟨w,hw,rw'⟩:=ai.get h3 hd
  refine ⟨a,ws,w,rfl,rfl,h2,by rw [<- ai.length h3];exact hw,?_⟩
  obtain ⟨S',e⟩:=S.st (o:=.lst ws.dropLast) (u:=.lst xs.dropLast) h1 (fun _ _ q=>by rw [h2] at q;cases q) ⟨_,ay,ai.bE (Ext0.at_ S h1) _ _ h3.dropLast⟩
  exact h _ _ _ _ e S' (RD.mono e _ _ rw')
 ·exact h.elim
theorem pU {fz:Bool} {n:Nat} {xs:List D} {v:V} {X:XK} (S:SR B F ρ M H) (hx:M[n]? = some (.lst xs)) (rx:RD B F ρ H (.ref n) v) (h:Post B (gR .reverse fz M (.ref n) []) F ρ H Q X):kr v [] H Q:=by
 simp only [gR,ck hx,qb,List.isEmpty_nil,if_true] at h
 simp only [RD] at rx
 obtain ⟨a,h1,rfl⟩:=rx
 obtain ⟨ws,h2,h3⟩:=S.obj n a _ h1 hx
 refine ⟨a,ws,rfl,rfl,h2,?_⟩
 obtain ⟨S',e⟩:=S.st (o:=.lst ws.reverse) (u:=.lst xs.reverse) h1 (fun _ _ q=>by rw [h2] at q;cases q) ⟨_,ay,ai.bE (Ext0.at_ S h1) _ _ h3.rev⟩
 exact h _ _ _ _ e S' (by simp only [RD])
theorem qZ {fz:Bool} {a:Fg.E} {es:Es} (h:T B Φ E (.dH .extend fz a es) σ H Q):tBM B.K "list" (DY B.K) (T B Φ E a) (TL B Φ E es) σ H Q:=by
 obtain ⟨σD,M,F,ρ,S,r,h⟩:=h
 simp only [ev] at h
 refine T.one S r rfl h fun x M1 F1 ρ1 H1 v e1 S1 r1 rx h1=>?_
 split at h1
 ·rename_i ho
  obtain ⟨n,xs,rfl,hM,ty⟩:=yj S1 rx ho
  refine ⟨ty,TL.one S1 r1 rfl h1 fun ds M2 F2 ρ2 H2 vs e2 S2 r2 rds h2=>?_⟩
  have IQ:=RD.mono e2 _ _ rx
  unfold gR at h2
  cases hl:gF M2 (.ref n) with
  | none=>rw [hl] at h2;exact h2.elim
  | some q =>
   rw [hl] at h2
   obtain ⟨e0,hy⟩:=jX hl
   cases e0
   cases ds with
   | nil=>exact h2.elim
   | cons d ds=>cases ds with
    | cons _ _=>exact h2.elim
    | nil =>
     simp only [qb,yI] at h2
     split at h2
     ·rename_i zs hz
      split at h2
      ·rename_i hlen
       simp only [RD] at IQ
       obtain ⟨a',h3,rfl⟩:=IQ
       obtain ⟨ws,h4,h5⟩:=S2.obj _ a' _ h3 hy
       obtain ⟨w,us,rfl,rw',ru⟩:∃ w us,vs=w::us/\RD B F2 ρ2 H2 d w/\ai B F2 ρ2 H2 [] us:=by simpa only [ai] using rds
       have eu:us=[]:=List.eq_nil_of_length_eq_zero (ai.length ru).symm
       subst eu
       cases Bb hz
       simp only [RD] at rw'
       obtain ⟨b,zs',rfl,z1,r3⟩:=rw'
       refine ⟨a',b,ws,zs',rfl,rfl,h4,z1.sq,?_,?_⟩
       ·rw [<- ai.length h5,<- ai.length r3];exact Nat.le_trans (of_decide_eq_true hlen) bO
       ·obtain ⟨S',e⟩:=S2.st (o:=.lst (ws++zs')) (u:=.lst (q.2++zs)) h3 (fun _ _ q=>by rw [h4] at q;cases q) ⟨_,ay,ai.bE (Ext0.at_ S2 h3) _ _ (h5.append r3)⟩
        exact h2 _ _ _ _ e S' (by simp only [RD])
      ·exact h2.elim
     ·exact h2.elim
 ·exact h1.elim
theorem pJ {m:Mt} {fz:Bool} {a:Fg.E} {r:V->List V->Hp->VK->Prop}
  (hs:∀ (F:Addr->Prop) (ρ:List Addr) (H:Hp) (M:MH) (n:Nat) (xs:List D) (v:V) (Q:VK) (X:XK),SR B F ρ M H->M[n]? = some (.lst xs)->RD B F ρ H (.ref n) v->Post B (gR m fz M (.ref n) []) F ρ H Q X->r v [] H Q)
  (h:T B Φ E (.dH m fz a .nil) σ H Q):Bc B.K "list" r (T B Φ E a) σ H Q:=by
 obtain ⟨σD,M,F,ρ,S,r,h⟩:=h
 simp only [ev] at h
 refine T.one S r rfl h fun x M1 F1 ρ1 H1 v e1 S1 r1 rx h1=>?_
 split at h1
 ·rename_i ho
  obtain ⟨n,xs,rfl,hM,ty⟩:=yj S1 rx ho
  simp only [cM,R.af] at h1
  exact ⟨ty,hs _ _ _ _ n xs v _ _ S1 hM rx h1⟩
 ·exact h1.elim
theorem Bs {fz:Bool} {a:Fg.E} (h:T B Φ E (.dH .pop fz a .nil) σ H Q):Bc B.K "list" FJ (T B Φ E a) σ H Q:=pJ (fun _ _ _ _ _ _ _ _ _ S hx rx h=>BW S hx rx h) h
theorem pH {fz:Bool} {a:Fg.E} (h:T B Φ E (.dH .reverse fz a .nil) σ H Q):Bc B.K "list" kr (T B Φ E a) σ H Q:=pJ (fun _ _ _ _ _ _ _ _ _ S hx rx h=>pU S hx rx h) h
end
end Fg
end
section
namespace Fg
open PySem PySem.Spec L2
section
variable {B:Bd} {Φ:bF} {E:Gx} {F F' F0 F1:Addr->Prop} {ρ ρ' ρ0 ρ1:List Addr} {H H' H0 H1:Hp} {M M' M0:MH} {σD:Sg} {σ:L2.St} {Q:VK} {Dn:Ends}
theorem nZ {f:Str}:∀ {fs:List (Str×D)} {fm:List (Str×V)},fm.map (·.1)=fs.map (·.1)->ai B F ρ H (fs.map (·.2)) (fm.map (·.2)) ->
  (∀ d,fs.lookup f=some d->∃ v,fm.lookup f=some v/\RD B F ρ H d v)/\(fs.lookup f=none->fm.lookup f=none)
 | [],fm,h1,h2=>by
  have:fm=[]:=by cases fm with | nil=>rfl | cons _ _=>simp at h1
  subst this
  exact ⟨fun d h=>by simp at h,fun _=>rfl⟩
 | (g, d')::fs, fm, h1, h2=>by
  cases fm with
  | nil=>simp at h1
  | cons p fm =>
   obtain ⟨pk,pv⟩:=p
   simp only [List.map_cons,List.cons.injEq] at h1
   simp only [List.map_cons,ai] at h2
   obtain ⟨v,ws,e,r1,r2⟩:=h2
   cases e
   obtain ⟨e1,e2⟩:=h1
   subst e1
   have ih:=nZ (f:=f) e2 r2
   by_cases hk:f=pk
   ·subst hk
    simp only [List.lookup,beq_self_eq_true]
    exact ⟨fun d h=>by cases h;exact ⟨_,rfl,r1⟩,fun h=>by cases h⟩
   ·have hb:(f == pk)=false:=beq_eq_false_iff_ne.mpr hk
    simp only [List.lookup,hb]
    exact ih
theorem t9 {f:Str} {d:D} {v:V} (r:RD B F ρ H d v):∀ {fs:List (Str×D)} {fm:List (Str×V)},fm.map (·.1)=fs.map (·.1)->ai B F ρ H (fs.map (·.2)) (fm.map (·.2)) ->
  (dF f v fm).map (·.1)=(eK f d fs).map (·.1)/\ai B F ρ H ((eK f d fs).map (·.2)) ((dF f v fm).map (·.2))
 | [],fm,h1,h2=>by
  have:fm=[]:=by cases fm with | nil=>rfl | cons _ _=>simp at h1
  subst this
  exact ⟨rfl,ai.cons r ai.nil⟩
 | (g, d')::fs, fm, h1, h2=>by
  cases fm with
  | nil=>simp at h1
  | cons p fm =>
   obtain ⟨pk,pv⟩:=p
   simp only [List.map_cons,List.cons.injEq] at h1
   simp only [List.map_cons,ai] at h2
   obtain ⟨w,ws,e,r1,r2⟩:=h2
   cases e
   obtain ⟨e1,e2⟩:=h1
   subst e1
   obtain ⟨i1,i2⟩:=t9 (f:=f) r e2 r2
   by_cases hk:pk=f
   ·simp only [dF,eK,if_pos hk,List.map_cons]
    exact ⟨by rw [e2],ai.cons r r2⟩
   ·simp only [dF,eK,if_neg hk,List.map_cons]
    exact ⟨by rw [i1],ai.cons r1 i2⟩
theorem BD {K:W.Frag} {a:Fg.E} {f:Str} (hC:∀ c C,B.cls c=some C->w6 K C/\dQ K C f) (h:T B Φ E (.fld a f) σ H Q):Jy K (T B Φ E a) f σ H Q:=by
 obtain ⟨σD,M,F,ρ,S,r,h⟩:=h
 simp only [ev] at h
 refine T.one S r rfl h fun x M1 F1 ρ1 H1 v e1 S1 r1 rx h1=>?_
 split at h1
 ·rename_i n
  split at h1
  ·rename_i c fs hM
   split at h1
   ·rename_i d hd
    simp only [RD] at rx
    obtain ⟨b,hb,rfl⟩:=rx
    obtain ⟨C,dx,fm,hc,hH,hk,hr⟩:=S1.obj n b _ hb hM
    obtain ⟨w,hw,rw⟩:=(nZ hk hr).1 d hd
    exact ⟨b,C,dx,fm,w,rfl,hH,(hC c C hc).1,(hC c C hc).2,hw,ah.run h1 S1 rw⟩
   ·exact h1.elim
  ·exact h1.elim
 ·exact h1.elim
theorem xY {K:W.Frag} {a e:Fg.E} {f:Str} (hC:∀ c C,B.cls c=some C->w6 K C/\dQ K C f) (h:TC B Φ E (.eF a f e) Dn σ H):JI K (T B Φ E a) (T B Φ E e) f Dn σ H:=by
 obtain ⟨σD,M,F,ρ,S,r,h⟩:=h
 simp only [ex] at h
 refine TC.one S r h fun x M1 F1 ρ1 H1 v e1 S1 r1 rx h1=>?_
 refine TC.one S1 r1 h1 fun y M2 F2 ρ2 H2 w e2 S2 r2 ry h2=>?_
 have IQ:=RD.mono e2 _ _ rx
 split at h2
 ·rename_i n
  split at h2
  ·rename_i c fs hM
   split at h2
   ·rename_i hl
    simp only [RD] at ry
    obtain ⟨b,hb,rfl⟩:=ry
    obtain ⟨C,dx,fm,hc,hH,hk,hr⟩:=S2.obj n b _ hb hM
    have hlen:fm.length=fs.length:=by have:=congrArg List.length hk;simpa using this
    obtain ⟨p1,p2⟩:=t9 (f:=f) IQ hk hr
    obtain ⟨S',e⟩:=S2.st (o:=.ins C dx (dF f v fm)) (u:=.ins c (eK f x fs)) hb (fun _ _ q=>by rw [hH] at q;cases q) ⟨C,dx,_,hc,ay,p1,ai.bE (Ext0.at_ S2 hb) _ _ p2⟩
    exact ⟨b,C,dx,fm,rfl,hH,(hC c C hc).1,(hC c C hc).2,by rw [hlen];exact of_decide_eq_true hl,h2 F2 ρ2 _ e S' σ (r2.mono e)⟩
   ·exact h2.elim
  ·exact h2.elim
 ·exact h2.elim
noncomputable def qS (C:Addr) (m:Str) (sp:Sp) (Ex:XS) (ta:TE) (t:TA):TE:=fun σ H Q=>ta σ H fun x H1=>∃ a dx fs,x=.ref a/\H1 a=some (.ins C dx fs)/\fs.lookup m=none /\
 t σ H1 fun vs H2=>sp (x::vs) H2 Q fun cv y H'=>Ex cv y σ H'
noncomputable def qT (C:Addr) (sp:Sp) (Ex:XS) (t:TA):TE:=fun σ H Q=>t σ H fun vs H1=>∀ x dx,H1 x=none->H1 dx=none->dx≠x ->
 sp (.ref x::vs) (upd (upd H1 dx (.own x)) x (.ins C dx [])) (fun v H2=>v=.ao/\Q (.ref x) H2) fun cv y H'=>Ex cv y σ H'
theorem tN {c m n:Nat} {nm:Str} {a:Fg.E} {es:Es} {C:Addr} (hC:B.cls c=some C) (hn:∀ {σ:Sg} {M:MH} {ds:List D} {M':MH},cM Φ es σ M=.ok ds M'->ds.length+1=n) (h:T B Φ E (.dc c m nm a es) σ H Q) :
  qS C nm (xS B Φ m n) E.e (T B Φ E a) (TL B Φ E es) σ H Q:=by
 obtain ⟨σD,M,F,ρ,S,r,h⟩:=h
 simp only [ev] at h
 refine T.one S r rfl h fun x M1 F1 ρ1 H1 v e1 S1 r1 rx h1=>?_
 split at h1
 ·rename_i i
  split at h1
  ·rename_i c' fs hM
   split at h1
   ·rename_i hq
    simp only [Bool.and_eq_true,decide_eq_true_eq,Option.isNone_iff_eq_none] at hq
    obtain ⟨rfl,hno⟩:=hq
    have rx0:=rx
    simp only [RD] at rx
    obtain ⟨b,hb,rfl⟩:=rx
    obtain ⟨C',dx,fm,hc,hH,hk,hr⟩:=S1.obj i b _ hb hM
    rw [hC] at hc;cases hc
    refine ⟨b,dx,fm,rfl,hH,(nZ hk hr).2 hno,σD,M1,F1,ρ1,S1,r1,?_⟩
    cases hx:cM Φ es σD M1 with
    | exc c M2=>rw [hx] at h1;exact h1
    | bad=>rw [hx] at h1;exact h1
    | ok ds M2 =>
     rw [hx] at h1
     simp only [R.af] at h1
     intro F2 ρ2 H2 vs e2 S2 q2
     exact ⟨by rw [List.length_cons,<- ai.length q2];exact hn hx,.ref i::ds,M2,F2,ρ2,S2,ai.cons (RD.mono e2 _ _ rx0) q2,ah.weak e2 h1⟩
   ·exact h1.elim
  ·exact h1.elim
 ·exact h1.elim
noncomputable def spI (B:Bd) (Φ:bF) (f n:Nat):Sp:=fun vs H Q E=>vs.length=n/\∃ ds M F ρ,SR B F ρ M H/\ai B F ρ H ds vs/\Post B (Φ.ini f ds M) F ρ H Q E
theorem SR.own (S:SR B F ρ M H) {p:Addr} (h:H p=none) (o:HO):SR B F ρ M (upd H p o)/\Ext F ρ H F ρ (upd H p o):=by
 obtain ⟨np,nf⟩:=S.new h
 exact ⟨S.side np nf o,⟨⟨S.sep,fun a q=>q,fun a q _=>aq (by rintro rfl;exact q h),List.prefix_refl _,fun a q=>.inl q,fun a q=>.inl q⟩,fun b w u q=>by rw [aq (by rintro rfl;rw [h] at q;cases q)];exact q⟩⟩
theorem tP {c i n:Nat} {es:Es} {C:Addr} (hC:B.cls c=some C) (hn:∀ {σ:Sg} {M:MH} {ds:List D} {M':MH},cM Φ es σ M=.ok ds M'->ds.length+1=n) (h:T B Φ E (.new c i es) σ H Q) :
  qT C (spI B Φ i n) E.e (TL B Φ E es) σ H Q:=by
 obtain ⟨σD,M,F,ρ,S,r,h⟩:=h
 simp only [ev] at h
 refine ⟨σD,M,F,ρ,S,r,?_⟩
 cases hx:cM Φ es σD M with
 | exc c M1=>rw [hx] at h;exact h
 | bad=>rw [hx] at h;exact h
 | ok ds M1 =>
  rw [hx] at h
  simp only [R.af] at h
  intro F1 ρ1 H1 vs e1 S1 q1 x dx hx0 hdx hne
  obtain ⟨S2,e2⟩:=S1.own hdx (.own x)
  have hx2:upd H1 dx (.own x) x=none:=by rw [aq (Ne.symm hne)];exact hx0
  obtain ⟨S3,e3⟩:=S2.lv (o:=.ins C dx []) (u:=.ins c []) hx2 ⟨C,dx,[],hC,ay,rfl,ai.nil⟩
  have at_:(ρ1++[x])[M1.length]? = some x:=by rw [<- S1.len,List.getElem?_append_right (Nat.le_refl _),Nat.sub_self];rfl
  have MZ:=e2.trans e3
  refine ⟨by rw [List.length_cons,<- ai.length q1];exact hn hx,.ref M1.length::ds,M1++[.ins c []],F1,ρ1++[x],S3,ai.cons (by simp only [RD];exact ⟨x,at_,rfl⟩) (ai.mono MZ _ _ q1),?_⟩
  refine ah.imp (ah.bind (rel:=RD B) (ah.weak (e1.trans MZ) h)) fun v H' ⟨d,M',F',ρ',ext,S',rd,h2⟩=>?_
  split at h2
  ·simp only [RD] at rd
   exact ⟨rd,ah.run h2 S' (by simp only [RD];exact ⟨x,ext.at at_,rfl⟩)⟩
  ·exact h2.elim
theorem pI {c i:Nat} {es:Es} (hb:∀ ds M,Φ.ini i ds M=.bad) (h:T B Φ E (.new c i es) σ H Q):TL B Φ E es σ H fun _ _=>False:=by
 obtain ⟨σD,M,F,ρ,S,r,h⟩:=h
 simp only [ev] at h
 refine ⟨σD,M,F,ρ,S,r,?_⟩
 cases hx:cM Φ es σD M with
 | exc c M1=>rw [hx] at h;exact h
 | bad=>rw [hx] at h;exact h
 | ok ds M1 =>
  rw [hx] at h
  simp only [R.af,hb,R.ez] at h
  exact h.elim
theorem Bv {a b:Fg.E} (h:T B Φ E (.mx true a b) σ H Q):E4 (fun xs H Q=>∃ i j,xs=[.int i,.int j]/\Q (.int (if j > i then j else i)) H) (cG (T B Φ E a) (cG (T B Φ E b) iY)) σ H Q:=by
 obtain ⟨σD,M,F,ρ,S,r,h⟩:=h
 simp only [ev] at h
 refine T.two S r rfl h fun x y M2 F2 ρ2 H2 v w S2 _ rx ry h2=>?_
 split at h2
 ·rename_i i j
  simp only [RD] at rx ry
  subst rx ry
  exact ⟨i,j,rfl,ah.run h2 S2 (by simp only [RD,if_true])⟩
 ·exact h2.elim
theorem Bu {a b:Fg.E} (h:T B Φ E (.mx false a b) σ H Q):E4 (fun xs H Q=>∃ i j,xs=[.int i,.int j]/\Q (.int (if j<i then j else i)) H) (cG (T B Φ E a) (cG (T B Φ E b) iY)) σ H Q:=by
 obtain ⟨σD,M,F,ρ,S,r,h⟩:=h
 simp only [ev] at h
 refine T.two S r rfl h fun x y M2 F2 ρ2 H2 v w S2 _ rx ry h2=>?_
 split at h2
 ·rename_i i j
  simp only [RD] at rx ry
  subst rx ry
  exact ⟨i,j,rfl,ah.run h2 S2 (by simp only [RD,Bool.false_eq_true,if_false])⟩
 ·exact h2.elim
end
section
variable {X:Cx} {Ex:XS} {k:Nat} {f C:Addr} {fd:FuncData} {ps:List Str} {sp:Sp} {x m:Str} {p pos apos:Pos} {e o:Expr} {es:List Expr} {ta:TE} {t:TA}
theorem yy {pl:Sem Bool} (he:PE X o ta) (c:w6 X.K C) (hm:Meth X.K C m f) (F:cz X.prog X.w X.K X.mg X.base (g9 X.prog X.w) k f fd ps sp) (hr:bW k X.A) (hb:Binds X.K fd ps []) (hx:∀ e s,iU X Ex e s->X.xe e s) (ha:PA X (e::es) t)
  (hst:starEach (e::es) X.env=(false,eval e X.env)::starEach es X.env) (hpl:(backTo pos (starEach es X.env)).any (·.1)=false)
  (ht:eval (.Call (.Attribute o m apos) (e::es) [] pos) X.env=(do
   let ov <- eval o X.env
   standAt apos.atName
   let (f,first) <- holding [ov] (getMethod ov m pl)
   callWith pos f first (backTo pos (starEach (e::es) X.env)) (backToKw pos (keywordEach [] X.env)))) :
  PE X (.Call (.Attribute o m apos) (e::es) [] pos) (qS C m sp Ex ta t):=by
 intro pins s σ H Q I h
 refine PySem.W.methodCall_KW (pl:=pl) (bq (he pins s σ H _ I h) fun u s1 ⟨x,H1,I1,rx,a,dx,fs,ex,ea,l,q⟩=>?_) ht
 subst ex
 obtain rfl:u=Value.ref a:=rx
 refine kL I1 ea c hm l ?_
 refine PySem.W.callWith_K (first:=[.ref a]) (h₀:=X.base) I.ok.mod.Cu hm.kp (bq (ha pos pins s1 σ H1 _ I1 q) fun us s2 ⟨vs,H2,I2,r,q2⟩=>⟨I2.gS,?_⟩) hst hpl
 exact BJ (us:=.ref a::us) (vs:=.ref a::vs) F hr hb hx I2 (.cons rfl r) q2
theorem vU {pl:Sem Bool} (he:PE X o ta) (c:w6 X.K C) (hm:Meth X.K C m f) (F:cz X.prog X.w X.K X.mg X.base (g9 X.prog X.w) k f fd ps sp) (hr:bW k X.A) (hb:Binds X.K fd ps []) (hx:∀ e s,iU X Ex e s->X.xe e s)
  (ht:eval (.Call (.Attribute o m apos) [] [] pos) X.env=(do
   let ov <- eval o X.env
   standAt apos.atName
   let (f,first) <- holding [ov] (getMethod ov m pl)
   callWith pos f first (backTo pos (starEach [] X.env)) (backToKw pos (keywordEach [] X.env)))) :
  PE X (.Call (.Attribute o m apos) [] [] pos) (qS C m sp Ex ta iY):=by
 intro pins s σ H Q I h
 refine PySem.W.methodCall_KW (pl:=pl) (bq (he pins s σ H _ I h) fun u s1 ⟨x,H1,I1,rx,a,dx,fs,ex,ea,l,q⟩=>?_) ht
 subst ex
 obtain rfl:u=Value.ref a:=rx
 refine kL I1 ea c hm l ?_
 exact PySem.W.callWith_K0 (first:=[.ref a]) I1.gS hm.kp (BJ (us:=[.ref a]) (vs:=[.ref a]) F hr hb hx I1 (.cons rfl .nil) q)
theorem l9 {pins:List (Addr×Obj)} {σ:L2.St} {H:Hp} {s:Shared} {Q:VK} {us:List Value} {vs:List V} (M:Mk X.K C f) (F:cz X.prog X.w X.K X.mg X.base (g9 X.prog X.w) k f fd ps sp) (hr:bW (k+1) X.A) (hb:Binds X.K fd ps [])
  (hx:∀ e s,iU X Ex e s->X.xe e s) (I:Inv X pins σ H s) (r:Vals vs us)
  (h:∀ x dx,H x=none->H dx=none->dx≠x->sp (.ref x::vs) (upd (upd H dx (.own x)) x (.ins C dx [])) (fun v H2=>v=.ao/\Q (.ref x) H2) fun cv y H'=>Ex cv y σ H') :
  wpAny (model X.prog X.w) X.A (call (.ref C) us) (EP X pins σ Q) X.xe s:=by
 have hq:=h (s.heap.objs.size+1) s.heap.objs.size (I.hok.fresh (Nat.le_succ _)) (I.hok.fresh (Nat.le_refl _)) (Nat.ne_of_lt (Nat.lt_succ_self _))
 have I2:=Inv.made (C:=C) I
 have r2:Vals (V.ref (s.heap.objs.size+1)::vs) (Value.ref (s.heap.objs.size+1)::us):=.cons rfl r
 have hl:((Value.ref (s.heap.objs.size+1)::us)++[]).length=ps.length:=by
  rw [List.append_nil,<- r2.length];exact F.len _ _ _ _ hq
 have bd:=hb _ (Value.ref (s.heap.objs.size+1)::us) I2.gS hl
 rw [List.append_nil] at bd
 refine wpAny_call (yY (f:=f) I.gS M.makes M.init (beq_iff_eq.mp M.fn) (codeAny_mono (F.run _ X.stack _ _ ⟨Value.ref (s.heap.objs.size+1)::us,[]⟩ (Value.ref (s.heap.objs.size+1)::us) _ _ _ (hr.make C us [])
  (I2.kR.make C us []) bd r2 hq) fun r s' hq'=>?_))
 match r,hq' with
 | .error e,hq'=>exact passes hx pins σ _ _ e s' I2 hq'
 | .ok (.ret u),hq' =>
  obtain ⟨v,H',I3,rv,ev,q3⟩:=I2.after hq'
  subst ev
  exact ⟨rv,⟨V.ref (s.heap.objs.size+1),H',I3,rfl,q3⟩⟩
 | .ok .next,hq'=>exact hq'.elim
 | .ok .brk,hq'=>exact hq'.elim
 | .ok .cont,hq'=>exact hq'.elim
theorem yC (M:Mk X.K C f) (F:cz X.prog X.w X.K X.mg X.base (g9 X.prog X.w) k f fd ps sp) (hr:bW (k+1) X.A) (hg:Gl X x) (hm:X.mg x=some (.ref C)) (hb:Binds X.K fd ps []) (hx:∀ e s,iU X Ex e s->X.xe e s)
  (ha:PA X (e::es) t) (hdb:(x == ("__debug__" : Str))=false) (he:starEach (e::es) X.env=(false, eval e X.env)::starEach es X.env) (hpl:(backTo pos (starEach es X.env)).any (·.1)=false) :
  PE X (.Call (.Name x p) (e::es) [] pos) (qT C sp Ex t):=by
 intro pins s σ H Q I h
 refine wpAny_Call_Name_kw (eU I hg hm ?_ hdb)
 refine PySem.W.callWith_K (h₀:=X.base) I.ok.mod.Cu M.kp (bq (ha pos pins s σ H _ I h) fun us s1 ⟨vs,H1,I1,r,q⟩=>⟨I1.gS,?_⟩) he hpl
 exact l9 M F hr hb hx I1 r q
theorem vV (M:Mk X.K C f) (F:cz X.prog X.w X.K X.mg X.base (g9 X.prog X.w) k f fd ps sp) (hr:bW (k+1) X.A) (hg:Gl X x) (hm:X.mg x=some (.ref C)) (hb:Binds X.K fd ps []) (hx:∀ e s, iU X Ex e s->X.xe e s) (hdb:(x == ("__debug__" : Str))=false) :
  PE X (.Call (.Name x p) [] [] pos) (qT C sp Ex iY):=by
 intro pins s σ H Q I h
 refine wpAny_Call_Name_kw (eU I hg hm ?_ hdb)
 exact PySem.W.callWith_K0 I.gS M.kp (l9 (us:=[]) M F hr hb hx I .nil h)
theorem yz {f:Addr} (M:Mk X.K C f) (hg:Gl X x) (hm:X.mg x=some (.ref C)) (ha:PA X (e::es) t) (hdb:(x == ("__debug__" : Str))=false) (he:starEach (e::es) X.env=(false, eval e X.env)::starEach es X.env) (hpl:(backTo pos (starEach es X.env)).any (·.1)=false) :
  PE X (.Call (.Name x p) (e::es) [] pos) (fun σ H _=>t σ H fun _ _=>False):=by
 intro pins s σ H Q I h
 refine wpAny_Call_Name_kw (eU I hg hm ?_ hdb)
 exact PySem.W.callWith_K (h₀:=X.base) I.ok.mod.Cu M.kp (bq (ha pos pins s σ H _ I h) fun us s1 ⟨vs,H1,I1,r,q⟩=>q.elim) he hpl
end
end Fg
end
section
namespace Fg
open PySem PySem.Spec L2
section
variable {B:Bd} {Φ:bF} {E:Gx} {F F' F0 F1:Addr->Prop} {ρ ρ' ρ0 ρ1:List Addr} {H H' H0 H1:Hp} {M M' M0:MH} {σD:Sg} {σ:L2.St} {Q:VK} {Dn:Ends}
end
end Fg
end
section
namespace Fg
open PySem PySem.Spec L2
section
variable {X:Cx} {B:Bd} {pins:List (Addr×Obj)} {σ:L2.St} {H H':Hp} {s:Shared}
noncomputable def DH (X:Cx):Addr->Prop:=fun a=>∀ o u,X.H₀ a≠some (.gh o u)
theorem dY (I:Inv X pins σ H s) (h:A2 (DH X) H H'):Inv X pins σ H' s:=by
 rcases h with rfl | ⟨a,o,kvs,th,ha,rfl⟩
 ·exact I
 have ne:∀ b,H b=none->b≠a:=fun b q z=>by subst z;rw [ha] at q;cases q
 refine ⟨I.ok,I.os,I.bare,⟨I.base.keep,I.base.slot,fun b ob e n hx=>?_,I.base.there,fun b xs e=>?_,fun b ob u e=>?_,fun b ps e=>?_⟩,I.loc,I.cell,?_,fun x c e=>?_,fun p hp=>?_,fun b u e=>?_,I.len⟩
 ·have:=I.base.free b ob e n hx
  rw [aq (ne b this)];exact this
 ·have:=I.base.tups b xs e
  rw [aq (by rintro rfl;rw [ha] at this;cases this)];exact this
 ·have:=I.base.gq b ob u e
  rw [aq (by rintro rfl;exact th ob u e)];exact this
 ·obtain ⟨more,q⟩:=I.base.ic b ps e
  exact ⟨more,by rw [aq (by rintro rfl;rw [ha] at q;cases q)];exact q⟩
 ·rw [aq (ne _ I.free)];exact I.free
 ·rw [aq (ne _ (I.cu x c e))];exact I.cu x c e
 ·obtain ⟨h1,h2,h3⟩:=I.pin p hp
  exact ⟨h1,by rw [aq (ne _ h2)];exact h2,h3⟩
 ·by_cases hb:b=a
  ·subst hb
   rw [ay] at e;cases e
   exact (I.hok b _ ha).2
  ·rw [aq hb] at e
   exact (I.hok b u e).stay (fun _ _ _ q=>q) (fun c q=>by rw [aq (by rintro rfl;rw [ha] at q;cases q)];exact q) fun c xs q=>by rw [aq (by rintro rfl;rw [ha] at q;cases q)];exact q
theorem B0 {e:Expr} {t:TE} (h:PE X e t):PE X e (fun σ H Q=>t σ H fun v H'=>∃ sY,A2 (DH X) H' sY/\Q v sY):=by
 intro pins s σ H Q I q
 refine bq (h pins s σ H _ I q) fun u s' ⟨v,H',I',r,sY,t',q'⟩=>⟨v,sY,dY I' t',r,q'⟩
theorem ud {st:Stmt} {t:TS} (h:PS X st t):PS X st (fun D σ H=>t (thE (DH X) D) σ H):=by
 intro pins s σ H D I q
 refine bq (h pins s σ H _ I q) fun f s' q'=>?_
 cases f with
 | next=>obtain ⟨σ',H',I',sY,t',q'⟩:=q';exact ⟨σ',sY,dY I' t',q'⟩
 | brk=>obtain ⟨σ',H',I',sY,t',q'⟩:=q';exact ⟨σ',sY,dY I' t',q'⟩
 | cont=>obtain ⟨σ',H',I',sY,t',q'⟩:=q';exact ⟨σ',sY,dY I' t',q'⟩
 | ret u=>obtain ⟨v,σ',H',I',r,sY,t',q'⟩:=q';exact ⟨v,σ',sY,dY I' t',r,q'⟩
theorem Cv {k:Key} {u:Value} (h:kH k u=true):RelV (kV k) u:=by
 rcases aK h with ⟨i,t,rfl,rfl⟩ | ⟨x,t,rfl,rfl⟩
 ·exact ⟨t,rfl⟩
 ·exact ⟨t,rfl⟩
theorem GP {kvs:List (Key×V)} {vs:List (Key×Value)} (h:KV kvs vs) {i:Nat} {kv:Key×V} (e:kvs[i]? = some kv):∃ w,vs[i]? = some (kv.1,w):=by
 induction h generalizing i with
 | nil=>simp at e
 | @cons p q ps qs hpq _ ih =>
  cases i with
  | zero =>
   simp only [List.getElem?_cons_zero,Option.some.injEq] at e ⊢
   subst e
   exact ⟨q.2,by rw [hpq.1]⟩
  | succ i=>simpa using ih (by simpa using e)
noncomputable def epO (o:Obj) (n:Nat):Prop:=∃ es,o.data=.dict es n
theorem vC {P:Program} {w:World} {K:PySem.W.Frag} {tg:Expr} (a it:Addr) (o:Obj) (kvs:List (Key×V)) (ep:Nat) (he:epO o ep):Turn P w K tg (LY a o kvs) [it] it (fun i h=>h.IsKeyIter it a i kvs.length ep) where
 mem:=by simp
 obj:=fun i h st b hb=>by
  have e:b=it:=by simpa using hb
  subst e
  obtain ⟨o,e,c,d⟩:=st
  exact ⟨o,e,fun v z=>by rw [d] at z;cases z⟩
 keep:=fun i h h' st k=>st.at fun o e=>k it (by simp) o e
 item:=by
  intro X hP hw hK hc i pins s σ H E I hf st hg
  subst hP hw hK
  obtain ⟨hH,hi⟩:=hg
  obtain ⟨ho,z,hm,vs,rel,dd⟩:=(show bh X.prog X.w H s.heap a (.gh o (.dK kvs)) from I.hok a _ hH)
  obtain ⟨o',es,Lh,h1,h2,h3,h4⟩:=id dd
  rw [ho] at h1;cases h1
  obtain ⟨es',hd'⟩:=he
  rw [hd'] at h3;cases h3
  have dat:s.heap.DictAt (aI X.prog X.w) a vs ep:=⟨o,es,ho,h2,hd',h4⟩
  have hx:kvs[i]? = some kvs[i]:=List.getElem?_eq_getElem hi
  obtain ⟨wv,hv⟩:=GP rel hx
  obtain ⟨f0,f1,f2,f3,f4,f5⟩:=hf it (by simp)
  have hl:kvs.length=vs.length:=rel.length
  rw [hl] at st
  refine wpAny_pyNext_dict_item st dat hv fun key h' hk st' sb=>?_
  have I1:Inv X pins σ H { s with heap:=h' }:=I.turned (t':=s.toks) (fun b o hb e=>(sb.2 b hb).trans e) f0 f1 f3 f4 f5
  obtain ⟨oi,e,c,d⟩:=id st'
  refine ⟨key,rfl,kK (s:={ s with heap:=h' }) e c d (by decide) ⟨kV kvs[i].1,H,I1,Cv hk,⟨rfl,kvs[i],hx,rfl⟩,by rw [hl];exact st',fun b hb=>(hf b hb).1⟩⟩
 done:=by
  intro X hP hw hK hc i pins s σ H E I hf st hg
  subst hP hw hK
  obtain ⟨hH,hi⟩:=hg
  obtain ⟨ho,z,hm,vs,rel,dd⟩:=(show bh X.prog X.w H s.heap a (.gh o (.dK kvs)) from I.hok a _ hH)
  obtain ⟨o',es,Lh,h1,h2,h3,h4⟩:=id dd
  rw [ho] at h1;cases h1
  obtain ⟨es',hd'⟩:=he
  rw [hd'] at h3;cases h3
  have dat:s.heap.DictAt (aI X.prog X.w) a vs ep:=⟨o,es,ho,h2,hd',h4⟩
  have hl:kvs.length=vs.length:=rel.length
  rw [hl] at st
  obtain ⟨f0,f1,f2,f3,f4,f5⟩:=hf it (by simp)
  exact wpAny_pyNext_dict_end (I.ok.hd hc) st dat (List.getElem?_eq_none_iff.mpr (by omega)) fun h' eb=>⟨rfl,I.turned (t':=s.toks) (fun b o hb e=>eb b o hb e) f0 f1 f3 f4 f5⟩
 self:=fun _ _ _ _ _ st h=>wpAny_pyIter_keyiter st h
theorem u0 {tg:Expr} {R:It->Hp->Prop} {a:Addr} {o:Obj} {kvs:List (Key×V)} {E:Value->Shared->Prop} (I:Inv X pins σ H s) (hH:H a=some (.gh o (.dK kvs))) (q:R (LY a o kvs) H):wpAny (model X.prog X.w) X.A (pyIter (.ref a)) (M6 X pins σ tg R) E s:=by
 obtain ⟨ho,z,hm,vs,rel,dd⟩:=(show bh X.prog X.w H s.heap a (.gh o (.dK kvs)) from I.hok a _ hH)
 obtain ⟨o',es,ep,h1,h2,h3,h4⟩:=id dd
 rw [ho] at h1;cases h1
 have dat:s.heap.DictAt (aI X.prog X.w) a vs ep:=⟨o,es,ho,h2,h3,h4⟩
 have hl:kvs.length=vs.length:=rel.length
 refine wpAny_pyIter_dict hm dat ?_
 refine ⟨s.heap.objs.size,[s.heap.objs.size],_,_,H,rfl,I.kept (t':=s.toks) fun b o e=>Heap.get?_push_of_some _ e,vC a _ o kvs ep ⟨es,h3⟩,⟨_,Heap.get?_push_size _ rfl,rfl,by rw [hl];rfl⟩,fun b hb=>?_,q⟩
 have e:b=s.heap.objs.size:=by simpa using hb
 subst e
 exact I.qj (Nat.le_refl _) (I.hok.fresh (Nat.le_refl _))
theorem F5 {tg l:Expr} {tl:TE} (hK:B.K=X.K) (hl:PE X l tl):PI X tg l (KJ B (DH X) tl):=by
 intro pins s σ H R I h
 refine bq (hl pins s σ H _ I h) fun v s1 ⟨x,H1,I1,r1,q1⟩=>?_
 rw [hK] at q1
 rcases q1 with ⟨a,e,⟨xs,hq⟩,q⟩ | ⟨a,e,⟨xs,hq⟩,q⟩ | ⟨a,kvs,e,hq,q⟩ | ⟨a,o,kvs,e,hq,q⟩
 ·subst e
  cases r1
  obtain ⟨its,rv,p,hz⟩:=I1.list hq
  refine wpAny_pyIter_list p.isList ?_
  refine ⟨s1.heap.objs.size,[s1.heap.objs.size],_,_,H1,rfl,I1.kept (t':=s1.toks) fun b o e=>Heap.get?_push_of_some _ e,vA a _,⟨_,Heap.get?_push_size _ rfl,rfl,rfl⟩,fun b hb=>?_,q⟩
  have e:b=s1.heap.objs.size:=by simpa using hb
  subst e
  exact I1.qj (Nat.le_refl _) (I1.hok.fresh (Nat.le_refl _))
 ·subst e
  cases r1
  obtain ⟨its,rv,p,hz⟩:=I1.tuple hq
  refine wpAny_pyIter_tuple (show s1.heap.IsTuple a its.toArray from p) ?_
  refine ⟨s1.heap.objs.size,[s1.heap.objs.size],_,_,H1,rfl,I1.kept (t':=s1.toks) fun b o e=>Heap.get?_push_of_some _ e,qQ a _,⟨_,Heap.get?_push_size _ rfl,rfl,rfl⟩,fun b hb=>?_,q⟩
  have e:b=s1.heap.objs.size:=by simpa using hb
  subst e
  exact I1.qj (Nat.le_refl _) (I1.hok.fresh (Nat.le_refl _))
 ·subst e
  cases r1
  have ob:=(show bh X.prog X.w H1 s1.heap a (.dK kvs) from I1.hok a _ hq)
  obtain ⟨z,hm,vs,rel,dd⟩:=id ob
  obtain ⟨o,es,ep,h1,h2,h3,h4⟩:=id dd
  have th:DH X a:=fun w u hz=>by
   have:=I1.base.gq a w u hz
   rw [hq] at this;cases this
  have I2:Inv X pins σ (upd H1 a (.gh o (.dK kvs))) s1:=I1.write (x:=a) (e:=a) (t':=s1.toks) (h':=s1.heap) (by rw [hq];trivial) (.inl rfl) (fun b u _ e=>e) ⟨o,h1⟩ ⟨h1,ob⟩
  exact u0 I2 ay (q o th)
 ·subst e
  cases r1
  exact u0 I1 hq q
theorem BU {o i value:Expr} {to ti tv:TE} {pos pos':Pos} (hu:Rm X) (ho:PE X o to) (hi:PE X i ti) (hv:PE X value tv) (hs:swapsWith value (some (.Subscript o i pos')) pos.line X.env=pure false) :
  PS X (.Assign [.Subscript o i pos'] value pos) (DR to ti tv):=by
 intro pins s σ H D I h
 refine wpAny_Assign_Subscript (bq (hv pins s σ H _ I h) fun r s1 ⟨v,H1,I1,rv,q1⟩=>bq (ho pins s1 σ H1 _ I1 q1) fun u s2 ⟨x,H2,I2,rx,q2⟩=>bq (hi pins s2 σ H2 _ I2 q2) fun iv s3 ⟨y,H3,I3,ry,q3⟩=>?_) hs
 rcases q3 with q3 | ⟨a,H4,ex,g,q3⟩
 ·exact bq (set_list pins s3 σ H3 x y v u iv r _ I3 rx ry rv q3) fun _ s4 ⟨H4,I4,q4⟩=>⟨σ,H4,I4,q4⟩
 ·subst ex
  obtain rfl:u=Value.ref a:=rx
  exact wJ (by unfold Rm at hu;omega) I3 g ry rv fun s4 I4=>⟨σ,H4,I4,q3⟩
end
end Fg
end
section
namespace Fg
open PySem PySem.Spec L2
noncomputable def TM (B:Bd) (Φ:bF) (E:Gx) (c:Es):L2.St->Hp->(Hp->Prop)->Prop:=fun σ H Q=>∃ (σD:Sg) (M:MH) (F:Addr->Prop) (ρ:List Addr),
 SR B F ρ M H/\RS B F ρ H σD σ/\ah (fun _ _ _ (_:Unit) (_:Unit)=>True) B (CU Φ c σD M) F ρ H (fun _ H'=>Q H') (fun cv x H'=>E.e cv x σ H')
section
variable {B:Bd} {Φ:bF} {E:Gx} {F F' F0 F1:Addr->Prop} {ρ ρ' ρ0 ρ1:List Addr} {H H' H0 H1:Hp} {M M' M0:MH} {σD:Sg} {σ:L2.St} {Dn:Ends}
theorem TM.nil {Q:Hp->Prop} (h:TM B Φ E .nil σ H Q):Q H:=by
 obtain ⟨σD,M,F,ρ,S,r,h⟩:=h
 simp only [CU] at h
 exact ah.run (v:=()) h S True.intro
theorem TM.cons {e:Fg.E} {es:Es} {Q:Hp->Prop} (h:TM B Φ E (.cons e es) σ H Q):T B Φ E e σ H fun v H1=>((∃ x:Str,v=.str x/\x.length<=100000)\/∃ i:Int,v=.int i/\i.natAbs<18446744073709551616)/\TM B Φ E es σ H1 Q:=by
 obtain ⟨σD,M,F,ρ,S,r,h⟩:=h
 simp only [CU] at h
 refine ⟨σD,M,F,ρ,S,r,ah.imp (ah.bind (rel:=RD B) h) fun v H1 ⟨x,M1,F1,ρ1,e1,S1,rx,h1⟩=>?_⟩
 split at h1
 ·rename_i hs
  cases x with
  | str y =>
   simp only [RD] at rx
   simp only [bY,decide_eq_true_eq] at hs
   exact ⟨.inl ⟨y,rx,hs⟩,σD,M1,F1,ρ1,S1,r.mono e1,h1⟩
  | ao=>simp [bY] at hs
  | bl _=>simp [bY] at hs
  | int i =>
   simp only [RD] at rx
   simp only [bY,decide_eq_true_eq] at hs
   exact ⟨.inr ⟨i,rx,hs⟩,σD,M1,F1,ρ1,S1,r.mono e1,h1⟩
  | tup _=>simp [bY] at hs
  | lst _=>simp [bY] at hs
  | dct _ _=>simp [bY] at hs
  | ref _=>simp [bY] at hs
 ·exact h1.elim
end
inductive PJ (X:Cx) (B:Bd) (Φ:bF) (E:Gx):List Expr->Es->Prop
 | nil:PJ X B Φ E [] .nil
 | lit {y:Str} {j:Nat} {p:Pos} {r:List Expr} {es:Es}:y.length<=100000->PJ X B Φ E r es->PJ X B Φ E (.Constant (.str y) j p::r) es
 | fld {v:Expr} {p:Pos} {r:List Expr} {e:Fg.E} {es:Es}:PE X v (T B Φ E e)->PJ X B Φ E r es->PJ X B Φ E (.FormattedValue v (-1) none p::r) (.cons e es)
theorem mE {i:Int} (h:i.natAbs<18446744073709551616):i.natAbs.log2<1920:=by
 by_cases h0:i.natAbs=0
 ·rw [h0];decide
 ·exact Nat.lt_of_lt_of_le ((Nat.log2_lt h0).mpr (show i.natAbs<2 ^ 64 from h)) (by decide)
theorem wB {i:Int} (h:i.natAbs<18446744073709551616):(Str.ofString (toString i)).length<=100000:=by
 have e:=int_text_length_le (k:=1920) (by decide) (mE h)
 rw [ofString_length];omega
section
variable {X:Cx} {B:Bd} {Φ:bF} {E:Gx}
theorem PJ.run {ps:List Expr} {es:Es} (h:PJ X B Φ E ps es):∀ {pins:List (Addr×Obj)} {s:Shared} {σ:L2.St} {H:Hp} {Q:Hp->Prop} {out:Str},Inv X pins σ H s->out.length+100000*ps.length<=sizeLine->TM B Φ E es σ H Q ->
  wpAny (model X.prog X.w) X.A (joinParts out (evalEach ps X.env)) (EP X pins σ fun v H'=>∃ y,v=.str y/\Q H') X.xe s:=by
 induction h with
 | nil =>
  intro pins s σ H Q out I hl q
  refine PyProof.Rows.joinParts_nil ⟨.str out,H,I.tok _,⟨_,rfl⟩,out,rfl,q.nil⟩ (by simpa using hl)
 | lit hy _ ih =>
  rename_i y j p r es _
  intro pins s σ H Q out I hl q
  simp only [List.length_cons] at hl
  refine PyProof.Rows.joinParts_cons ?_
  refine bq (rK pins s σ H (fun v H'=>v=.str y/\H'=H) I ⟨rfl,rfl⟩) fun u s1 ⟨v,H1,I1,rv,e1,e2⟩=>?_
  subst e1 e2
  obtain ⟨t,rfl⟩:=rv
  have hlen:(out++y).length<=out.length+100000:=by rw [strLen_append];omega
  exact ⟨by omega,ih I1 (by omega) q⟩
 | fld hv _ ih =>
  intro pins s σ H Q out I hl q
  simp only [List.length_cons] at hl
  refine PyProof.Rows.joinParts_cons (PyProof.Rows.FormattedValue_plain ?_)
  refine bq (hv pins s σ H _ I q.cons) fun u s1 ⟨v,H1,I1,rv,e0,q1⟩=>?_
  rcases e0 with ⟨x,e1,e2⟩ | ⟨i,e1,e2⟩
  ·subst e1
   obtain ⟨t,rfl⟩:=rv
   refine PyProof.Rows.formatField_str (fun t' tk=>?_) (by omega)
   have hlen:(out++x).length<=out.length+100000:=by rw [strLen_append];omega
   exact ⟨by omega,ih (I1.tok tk) (by omega) q1⟩
  ·subst e1
   obtain ⟨t,rfl⟩:=rv
   refine PyProof.Rows.formatField_int_small (mE e2) ?_
   have hlen:(out++Str.ofString (toString i)).length<=out.length+100000:=by rw [strLen_append];have:=wB e2;omega
   exact ⟨by omega,ih (I1.tok _) (by omega) q1⟩
theorem Gb {ps:List Expr} {es:Es} {pos:Pos} (h:PJ X B Φ E ps es) (h2:2<=ps.length) (hl:ps.length<=100):PE X (.JoinedStr ps pos) (fun σ H Q=>TM B Φ E es σ H fun H'=>∀ y:Str,Q (.str y) H'):=by
 intro pins s σ H Q I q
 match ps,h2,h,hl with
 | v₁::v₂::rest,_,h,hl =>
  refine PyProof.Rows.JoinedStr_many ?_
  refine wpAny_mono (h.run (Q:=fun H'=>∀ y:Str,Q (.str y) H') I (by
   show 0+100000*(v₁::v₂::rest).length<=2 ^ 24
   omega) q) (fun u s1 ⟨v,H1,I1,rv,y,e,q1⟩=>⟨v,H1,I1,rv,by rw [e];exact q1 y⟩) fun _ _ z=>z
end
section
variable {B:Bd} {Φ:bF} {E:Gx} {F F' F0 F1:Addr->Prop} {ρ ρ' ρ0 ρ1:List Addr} {H H' H0 H1:Hp} {M M' M0:MH} {σD:Sg} {σ:L2.St} {Dn:Ends}
theorem l7 {c:Nat} {es:Es} {C:Addr} (hc:B.exc c (.ref C)) (h:TC B Φ E (.raise c es) Dn σ H):TM B Φ E es σ H fun H'=>E.e (.ref C) none σ H':=by
 obtain ⟨σD,M,F,ρ,S,r,h⟩:=h
 simp only [ex] at h
 refine ⟨σD,M,F,ρ,S,r,ah.imp (aM.use (rel:=fun _ _ _ (_:Unit) (_:Unit)=>True) r h) fun v H1 ⟨x,M1,F1,ρ1,e,S1,rx,h1⟩=>?_⟩
 exact aM.run h1 S1 σ _ none (r.mono e) hc
noncomputable def Jc (B:Bd) (Φ:bF) (E:Gx) (adr:Nat->Option Addr):Hs->Option (List (Addr×TS))
 | .nil=>some []
 | .cons [c] b hs=>match adr c,Jc B Φ E adr hs with
  | some C,some r=>some ((C,xj B Φ E b)::r)
  | _,_=>none
 | .cons _ _ _=>none
theorem tS {adr:Nat->Option Addr} {mro:List Value} {c:Nat} (hsub:∀ d D,adr d=some D->mro.contains (.ref D)=Φ.sub c d):∀ {hs:Hs} {rs:List (Addr×TS)},Jc B Φ E adr hs=some rs->SR B F ρ M H->RS B F ρ H σD σ->aM B (A0 Φ hs c σD M) F ρ H Dn E ->
  ∃ t,pick mro rs=some t/\t Dn σ H
 | .nil,rs,h,S,r,p=>by simp only [A0] at p;exact p.elim
 | .cons cs b hs,rs,h,S,r,p=>by
  unfold Jc at h
  split at h
  ·rename_i heq;cases heq
  ·rename_i c' b' hs' heq
   cases heq
   split at h
   ·rename_i C r' hC hr
    cases h
    simp only [A0,List.any_cons,List.any_nil,Bool.or_false] at p
    simp only [pick,hsub _ _ hC]
    split at p
    ·rename_i hq
     rw [if_pos hq]
     exact ⟨_,rfl,σD,M,F,ρ,S,r,p⟩
    ·rename_i hq
     rw [if_neg hq]
     exact tS hsub hr S r p
   ·cases h
  ·cases h
end
end Fg
end
section
namespace Fg
open PySem PySem.Spec L2
noncomputable def gB (l:Bool) (h:Heap) (it a:Addr) (k:Nat):Prop:=match l with | true=>h.IsListIter it a k | false=>h.IsTupleIter it a k
noncomputable def dR (l:Bool) (h:Heap) (a:Addr) (xs:Array Value):Prop:=match l with | true=>h.IsList a xs | false=>h.IsTuple a xs
theorem gB.at {l:Bool} {h h':Heap} {it a:Addr} {k:Nat} (x:gB l h it a k) (e:∀ o,h.get? it=some o->h'.get? it=some o):gB l h' it a k:=by
 cases l <;> (obtain ⟨o,h1,h2⟩:=x;exact ⟨o,e o h1,h2⟩)
theorem dR.at {l:Bool} {h h':Heap} {a:Addr} {xs:Array Value} (x:dR l h a xs) (e:∀ o,h.get? a=some o->h'.get? a=some o):dR l h' a xs:=by
 cases l <;> (obtain ⟨o,h1,h2⟩:=x;exact ⟨o,e o h1,h2⟩)
section
variable {prog:Program} {w:World} {A:Around} {E:Value->Shared->Prop} {s:Shared}
theorem xA {it t:Addr} {i:Nat} {xs:Array Value} {v:Value} {Q:Value->Shared->Prop} (wm:s.heap.IsTupleIter it t i) (tp:s.heap.IsTuple t xs) (hv:xs[i]? = some v)
  (k:∀ h',h'.IsTupleIter it t (i+1)->Heap.SameBut it s.heap h'->Q v { s with heap:=h' }):wpAny (model prog w) A (Builtin.SmallTypes.nextOf (.ref it)) Q E s:=by
 obtain ⟨oi,gi,ci,di⟩:=id wm
 obtain ⟨ot,gt,_,nt,dt⟩:=tp
 unfold Builtin.SmallTypes.nextOf;refine wpAny_bind (wpAny_callSpecial?_slot (name:=Str.ofString "__next__") wm.typeIs F.slot_tuple_iterator_next (wpAny_call_entry F.slot_tuple_iterator_next wm.typeIs F.entry_tuple_iterator_next ?_ (F.args_tuple_iterator_next_1 _)))
 show wpAny _ _ (field (.ref it) 0 >>= _) _ _ s;refine wpAny_bind (wpAny_field gi di (x:=.ref t) rfl ?_)
 show wpAny _ _ (if (Value.ref t == Value.none)=true then _ else _) _ _ s;rw [if_neg (show ¬ ((Value.ref t == Value.none)=true) from Bool.false_ne_true)]
 show wpAny _ _ (field (.ref it) 1 >>= _) _ _ s;refine wpAny_bind (wpAny_field gi di (x:=.int i 0) rfl ?_)
 show wpAny _ _ (seqItems? (.ref t) >>= _) _ _ s;refine wpAny_bind (wpAny_seqItems gt dt ?_)
 simp only [Int.toNat_natCast,hv];refine wpAny_bind (wpAny_setField gi di (by simp) (wpAny_pure ⟨v,rfl,wpAny_pure (k _ ?_ (Heap.SameBut.update ..))⟩))
 exact ⟨_,Heap.get?_update_self _ gi (Obj.isFreed_of_fields (Obj.data_mapFields di _)),(Obj.cls_mapFields ..).trans ci,by rw [Obj.data_mapFields di];simp [rawInt]⟩
theorem xy {it t:Addr} {i:Nat} {xs:Array Value} {Q:Value->Shared->Prop} (hh:A.handled=none) (wm:s.heap.IsTupleIter it t i) (tp:s.heap.IsTuple t xs) (hv:xs[i]? = none)
  (k:∀ h' e, Heap.ExtBut it s.heap h'->(∃ o, h'.get? e=some o/\o.cls=.type "StopIteration")->E (.ref e) { s with heap:=h' }):wpAny (model prog w) A (Builtin.SmallTypes.nextOf (.ref it)) Q E s:=by
 obtain ⟨oi,gi,ci,di⟩:=id wm
 obtain ⟨ot,gt,_,nt,dt⟩:=tp
 unfold Builtin.SmallTypes.nextOf;refine wpAny_bind (wpAny_callSpecial?_slot (name:=Str.ofString "__next__") wm.typeIs F.slot_tuple_iterator_next (wpAny_call_entry F.slot_tuple_iterator_next wm.typeIs F.entry_tuple_iterator_next ?_ (F.args_tuple_iterator_next_1 _)))
 show wpAny _ _ (field (.ref it) 0 >>= _) _ _ s;refine wpAny_bind (wpAny_field gi di (x:=.ref t) rfl ?_)
 show wpAny _ _ (if (Value.ref t == Value.none)=true then _ else _) _ _ s;rw [if_neg (show ¬ ((Value.ref t == Value.none)=true) from Bool.false_ne_true)]
 show wpAny _ _ (field (.ref it) 1 >>= _) _ _ s;refine wpAny_bind (wpAny_field gi di (x:=.int i 0) rfl ?_)
 show wpAny _ _ (seqItems? (.ref t) >>= _) _ _ s;refine wpAny_bind (wpAny_seqItems gt dt ?_)
 simp only [Int.toNat_natCast,hv];refine wpAny_bind (wpAny_rule (wpAny_bind (wpAny_setField gi di (by simp) ?_)))
 show wpAny _ _ (newExc (.type "StopIteration") [] >>= _) _ _ _;refine wpAny_bind ?_
 simp only [newExc,newTuple];refine wpAny_bind (wpAny_newObj_type ?_ (by size_fits))
 refine wpAny_bind (m:=firstArgMember _ _) (wpAny_of_eq (a:=Value.none) (by first | rfl | (simp only [firstArgMember];rfl)) ?_);refine wpAny_newObj_type ?_ (by size_fits)
 simp only [raiseNew];refine wpAny_bind (wpAny_handled ?_)
 first | rw [show A.in1.handled=none from hh] | rw [hh]
 refine wpAny_bind (wpAny_pure (wpAny_throw ?_));exact k _ _ (((Heap.SameBut.update ..).extBut.push _).push _) ⟨_,Heap.get?_push_size _ rfl,rfl⟩
theorem gf {l:Bool} {it a:Addr} {i:Nat} {xs:Array Value} {v:Value} {Q:Value->Shared->Prop} (wm:gB l s.heap it a i) (sq:dR l s.heap a xs) (hv:xs[i]? = some v)
  (k:∀ h',gB l h' it a (i+1)->Heap.SameBut it s.heap h'->Q v { s with heap:=h' }):wpAny (model prog w) A (Builtin.SmallTypes.nextOf (.ref it)) Q E s:=by
 cases l with
 | true=>exact wpAny_nextOf_list_item wm sq hv k
 | false=>exact xA wm sq hv k
theorem jW {l:Bool} {it a:Addr} {i:Nat} {xs:Array Value} {Q:Value->Shared->Prop} (hh:A.handled=none) (wm:gB l s.heap it a i) (sq:dR l s.heap a xs) (hv:xs[i]? = none)
  (k:∀ h' e, Heap.ExtBut it s.heap h'->(∃ o, h'.get? e=some o/\o.cls=.type "StopIteration")->E (.ref e) { s with heap:=h' }):wpAny (model prog w) A (Builtin.SmallTypes.nextOf (.ref it)) Q E s:=by
 cases l with
 | true=>exact wpAny_nextOf_list_end hh wm sq hv k
 | false=>exact xy hh wm sq hv k
structure Zp (l m:Bool) (h:Heap) (z TI TO i j a b:Addr) (n:Nat) (xs ys:Array Value) (f:Value):Prop where
 z:IsZip h z TI TO f
 ti:IsPair h TI (.ref i) (.ref j)
 to:∃ u v,IsPair h TO u v
 i1:gB l h i a n
 i2:gB m h j b n
 s1:dR l h a xs
 s2:dR m h b ys
theorem xq {l m:Bool} {z TI TO i j a b:Addr} {n:Nat} {xs ys:Array Value} {x y:Value} {Q:Value->Shared->Prop} (D:ZipApart z TI TO i j a b) (Z:Zp l m s.heap z TI TO i j a b n xs ys .none) (hx:xs[n]? = some x) (hy:ys[n]? = some y)
  (k:∀ h',Zp l m h' z TI TO i j a b (n+1) xs ys (rawInt s.heap.objs.size)->IsPair h' s.heap.objs.size x y->h'.objs.size=s.heap.objs.size+1->(∀ c o,c≠z->c≠TO->c≠i->c≠j->s.heap.get? c=some o->h'.get? c=some o)->Q (.ref s.heap.objs.size) { s with heap:=h' }) :
  wpAny (model prog w) A (Builtin.«zip.__next__» ⟨[.ref z], []⟩) (fun fin s'=>∃ v, fin=.done (.ret v)/\Q v s') E s:=by
 obtain ⟨gz,gi,⟨u,v,go⟩,t1,t2,q1,q2⟩:=Z
 show wpAny _ _ (field (.ref z) 2 >>= _) _ _ _;refine wpAny_bind (wpAny_field gz rfl (x:=.bool false) rfl ?_)
 show wpAny _ _ (field (.ref z) 3 >>= _) _ _ _;refine wpAny_bind (wpAny_field gz rfl (x:=.ref TI) rfl (wpAny_bind (wpAny_seqItems gi rfl ?_)))
 show wpAny _ _ (Builtin.SmallTypes.ownedTupleIsFree (.ref z) >>= _) _ _ _;refine wpAny_bind ?_
 unfold Builtin.SmallTypes.ownedTupleIsFree;refine wpAny_bind (wpAny_field gz rfl (x:=.none) rfl (wpAny_pure ?_))
 simp only [if_true];refine wpAny_bind (wpAny_rule (wpAny_bind (wpAny_field gz rfl (x:=.ref TO) rfl (wpAny_bind (wpAny_setField_rec gz (by simp) fun h1 z1 b1=>?_)))))
 replace z1:IsZip h1 z TI TO .ellipsis:=z1
 refine wpAny_bind ?_;simp only [List.zipIdx_cons,List.zipIdx_nil,List.forIn_cons,List.forIn_nil]
 refine wpAny_bind (wpAny_bind (wpAny_onRaise ?_));show wpAny _ _ (Builtin.SmallTypes.nextOf (.ref i) >>= _) _ _ _
 refine wpAny_bind (gf (t1.at fun o e=>b1.extBut _ _ D.i1z e) (q1.at fun o e=>b1.extBut _ _ D.l1z e) hx fun h2 t1' b2=>wpAny_pure ?_)
 have go2:IsPair h2 TO u v:=b2.extBut _ _ D.TOi1 (b1.extBut _ _ D.TOz go)
 refine wpAny_bind (wpAny_seqItems go2 rfl (wpAny_bind (wpAny_updateSeq_pair go2 fun h3 MI b3=>wpAny_bind (wpAny_letGo (wpAny_pure ?_)))))
 replace MI:IsPair h3 TO x v:=MI
 refine wpAny_bind (wpAny_bind (wpAny_onRaise ?_));show wpAny _ _ (Builtin.SmallTypes.nextOf (.ref j) >>= _) _ _ _
 refine wpAny_bind (gf (t2.at fun o e=>b3.extBut _ _ D.TOi2.symm (b2.extBut _ _ D.i12.symm (b1.extBut _ _ D.i2z e))) (q2.at fun o e=>b3.extBut _ _ D.l2TO (b2.extBut _ _ D.l2i1 (b1.extBut _ _ D.l2z e))) hy fun h4 t2' b4=>wpAny_pure ?_)
 have go4:IsPair h4 TO x v:=b4.extBut _ _ D.TOi2 MI
 refine wpAny_bind (wpAny_seqItems go4 rfl (wpAny_bind (wpAny_updateSeq_pair go4 fun h5 MG b5=>wpAny_bind (wpAny_letGo (wpAny_pure (wpAny_pure ?_))))))
 replace MG:IsPair h5 TO x y:=MG
 refine wpAny_bind (wpAny_seqItems MG rfl (wpAny_bind (wpAny_newTuple ?_)))
 have sz:h5.objs.size=s.heap.objs.size:=by rw [b5.1,b4.1,b3.1,b2.1,b1.1]
 have z5:IsZip h5 z TI TO .ellipsis:=b5.extBut _ _ D.TOz.symm (b4.extBut _ _ D.i2z.symm (b3.extBut _ _ D.TOz.symm (b2.extBut _ _ D.i1z.symm z1)))
 have k5:∀ c o,c≠z->c≠TO->c≠i->c≠j->s.heap.get? c=some o->h5.get? c=some o:=fun c o c1 c2 c3 c4 e=>b5.extBut _ _ c2 (b4.extBut _ _ c4 (b3.extBut _ _ c2 (b2.extBut _ _ c3 (b1.extBut _ _ c1 e))))
 have e1:gB l h5 i a (n+1):=t1'.at fun o e=>b5.extBut _ _ D.TOi1.symm (b4.extBut _ _ D.i12 (b3.extBut _ _ D.TOi1.symm e))
 have e2:gB m h5 j b (n+1):=t2'.at fun o e=>b5.extBut _ _ D.TOi2.symm e
 show wpAny _ _ (Builtin.SmallTypes.ownedTupleHandOut (.ref z) (.ref h5.objs.size) >>= _) _ _ _;refine wpAny_bind ?_
 unfold Builtin.SmallTypes.ownedTupleHandOut
 have z6:IsZip (h5.push { cls:=.type "tuple", data:=.seq #[x, y] }) z TI TO .ellipsis:=Heap.get?_push_of_some _ z5
 refine wpAny_bind (wpAny_setField_rec z6 (by simp) fun h7 z7 b7=>?_)
 replace z7:IsZip h7 z TI TO (rawInt h5.objs.size):=z7
 refine wpAny_setField_rec z7 (by simp) fun h8 z8 b8=>?_
 replace z8:IsZip h8 z TI TO (rawInt h5.objs.size):=z8
 have zl:z<h5.objs.size:=Heap.lt_size z5
 have up:∀ c o,c≠z->h5.get? c=some o->h8.get? c=some o:=fun c o c1 e=>b8.extBut _ _ c1 (b7.extBut _ _ c1 (Heap.get?_push_of_some _ e))
 have p8:IsPair h8 h5.objs.size x y:=b8.extBut _ _ (Nat.ne_of_gt zl) (b7.extBut _ _ (Nat.ne_of_gt zl) (Heap.get?_push_size _ rfl))
 have s8:h8.objs.size=h5.objs.size+1:=by rw [b8.1,b7.1,Heap.size_push]
 rw [sz] at z8 p8 s8
 refine wpAny_pure ⟨_,rfl,?_⟩
 show Q (.ref h5.objs.size) _
 rw [sz]
 exact k h8 ⟨z8,up _ _ D.TIz (k5 _ _ D.TIz D.TITO D.TIi1 D.TIi2 gi),⟨_,_,up _ _ D.TOz MG⟩,e1.at fun o e=>up _ _ D.i1z e,e2.at fun o e=>up _ _ D.i2z e,q1.at fun o e=>up _ _ D.l1z (k5 _ _ D.l1z D.l1TO D.l1i1 D.l1i2 e),q2.at fun o e=>up _ _ D.l2z (k5 _ _ D.l2z D.l2TO D.l2i1 D.l2i2 e)⟩ p8 s8 fun c o c1 c2 c3 c4 e=>up c o c1 (k5 c o c1 c2 c3 c4 e)
theorem xm {l m:Bool} {z TI TO i j a b:Addr} {n:Nat} {xs ys:Array Value} {Q:PySem.Fin->Shared->Prop} (hh:A.handled=none) (D:ZipApart z TI TO i j a b) (Z:Zp l m s.heap z TI TO i j a b n xs ys .none) (hn:xs[n]? = none\/ys[n]? = none)
  (k:∀ h' e, (∀ c o, c≠z->c≠TO->c≠i->c≠j->s.heap.get? c=some o->h'.get? c=some o)->(∃ o, h'.get? e=some o/\o.cls=.type "StopIteration")->E (.ref e) { s with heap:=h' }) :
  wpAny (model prog w) A (Builtin.«zip.__next__» ⟨[.ref z], []⟩) Q E s:=by
 obtain ⟨gz,gi,⟨u,v,go⟩,t1,t2,q1,q2⟩:=Z
 show wpAny _ _ (field (.ref z) 2 >>= _) _ _ _;refine wpAny_bind (wpAny_field gz rfl (x:=.bool false) rfl ?_)
 show wpAny _ _ (field (.ref z) 3 >>= _) _ _ _;refine wpAny_bind (wpAny_field gz rfl (x:=.ref TI) rfl (wpAny_bind (wpAny_seqItems gi rfl ?_)))
 show wpAny _ _ (Builtin.SmallTypes.ownedTupleIsFree (.ref z) >>= _) _ _ _;refine wpAny_bind ?_
 unfold Builtin.SmallTypes.ownedTupleIsFree;refine wpAny_bind (wpAny_field gz rfl (x:=.none) rfl (wpAny_pure ?_))
 simp only [if_true];refine wpAny_bind (wpAny_rule (wpAny_bind (wpAny_field gz rfl (x:=.ref TO) rfl (wpAny_bind (wpAny_setField_rec gz (by simp) fun h1 z1 b1=>?_)))))
 replace z1:IsZip h1 z TI TO .ellipsis:=z1
 refine wpAny_bind ?_;simp only [List.zipIdx_cons,List.zipIdx_nil,List.forIn_cons,List.forIn_nil]
 refine wpAny_bind (wpAny_bind (wpAny_onRaise ?_));show wpAny _ _ (Builtin.SmallTypes.nextOf (.ref i) >>= _) _ _ _
 have off:∀ {h:Heap} {e:Addr}, IsZip h z TI TO .ellipsis->(∃ o, h.get? e=some o/\o.cls=.type "StopIteration")->e≠z:=fun g ⟨o, g1, g2⟩ q=>by subst q;rw [g] at g1;cases g1;simp at g2
 cases hx:xs[n]? with
 | none =>
  refine wpAny_bind (jW hh (t1.at fun o e=>b1.extBut _ _ D.i1z e) (q1.at fun o e=>b1.extBut _ _ D.l1z e) hx fun h2 e b2 he=>?_)
  have z2:IsZip h2 z TI TO .ellipsis:=b2 _ _ D.i1z.symm z1
  obtain ⟨oe,he1,he2⟩:=id he
  exact wpAny_setField_rec z2 (by simp) fun h3 _ b3=>k h3 e (fun c o c1 _ c3 _ q=>b3.extBut _ _ c1 (b2 _ _ c3 (b1.extBut _ _ c1 q))) ⟨oe,b3.extBut _ _ (off z2 he) he1,he2⟩
 | some x =>
  have hy:ys[n]? = none:=hn.resolve_left (by rw [hx];simp)
  refine wpAny_bind (gf (t1.at fun o e=>b1.extBut _ _ D.i1z e) (q1.at fun o e=>b1.extBut _ _ D.l1z e) hx fun h2 t1' b2=>wpAny_pure ?_)
  have go2:IsPair h2 TO u v:=b2.extBut _ _ D.TOi1 (b1.extBut _ _ D.TOz go)
  refine wpAny_bind (wpAny_seqItems go2 rfl (wpAny_bind (wpAny_updateSeq_pair go2 fun h3 MI b3=>wpAny_bind (wpAny_letGo (wpAny_pure ?_)))))
  refine wpAny_bind (wpAny_bind (wpAny_onRaise ?_));show wpAny _ _ (Builtin.SmallTypes.nextOf (.ref j) >>= _) _ _ _
  refine wpAny_bind (jW hh (t2.at fun o e=>b3.extBut _ _ D.TOi2.symm (b2.extBut _ _ D.i12.symm (b1.extBut _ _ D.i2z e))) (q2.at fun o e=>b3.extBut _ _ D.l2TO (b2.extBut _ _ D.l2i1 (b1.extBut _ _ D.l2z e))) hy fun h4 e b4 he=>?_)
  have z4:IsZip h4 z TI TO .ellipsis:=b4 _ _ D.i2z.symm (b3.extBut _ _ D.TOz.symm (b2.extBut _ _ D.i1z.symm z1))
  obtain ⟨oe,he1,he2⟩:=id he
  exact wpAny_setField_rec z4 (by simp) fun h5 _ b5=>k h5 e (fun c o c1 c2 c3 c4 q=>b5.extBut _ _ c1 (b4 _ _ c4 (b3.extBut _ _ c2 (b2.extBut _ _ c3 (b1.extBut _ _ c1 q))))) ⟨oe,b5.extBut _ _ (off z4 he) he1,he2⟩
end
end Fg
end
section
namespace Fg
open PySem PySem.Spec L2
section
variable {X:Cx} {pins:List (Addr×Obj)} {σ:L2.St} {H:Hp} {s:Shared} {h':Heap}
theorem tF {t':Nat} {ch:List Addr} (I:Inv X pins σ H s) (f:∀ b∈ch,lA X pins H b) (k:∀ b o,b∉ch->s.heap.get? b=some o->h'.get? b=some o):Inv X pins σ H { s with heap:=h',toks:=t' }:=by
 have off:∀ b u,H b=some u->b∉ch:=fun b u e z=>by rw [(f b z).1] at e;cases e
 refine I.step (g':=s.gens) (d':=s.drawn) (ch:=ch) (fun b hb=>?_) (fun b o _ _ hc e _=>k b o hc e) (fun b o _ _ hc e _=>⟨o.slots,k b o hc e⟩) (fun _ _ _ _ n=>n) (fun b o hc e=>⟨o,k b o hc e⟩) (fun _ _ e=>e) (fun _ _ _ e=>e) (fun b ps e=>⟨#[],by rw [e];simp⟩) (fun m hm=>?_) (fun b u e=>?_) I.bare
 ·obtain ⟨_,f1,_,f3,f4,f5⟩:=f b hb
  exact ⟨f3,f1,f4,f5⟩
 ·obtain ⟨o,es,ep,ho,r⟩:=hm
  exact ⟨o,es,ep,k _ o (fun z=>(f _ z).2.1 rfl) ho,r⟩
 ·refine (I.hok b u e).stay (fun c v hc q=>k c v ?_ q) (fun _ q=>q) fun _ _ q=>q
  rcases hc with z | z
  ·rw [z];exact off b u e
  ·exact off c _ z
end
noncomputable def AY (l:Bool) (a:Addr):Obj:={ cls:=.type (match l with | true=>"list_iterator" | false=>"tuple_iterator"), data:=.fields #[.ref a, .int 0 0] }
noncomputable abbrev Jh (h:Heap) (l m:Bool) (a b:Addr):Heap:=(h.push (AY l a)).push (AY m b)
noncomputable abbrev Jg (h:Heap) (l m:Bool) (a b:Addr):Heap:=(Jh h l m a b).push { cls:=.type "tuple", data:=.seq #[.ref h.objs.size, .ref (h.push (AY l a)).objs.size] }
noncomputable abbrev Jf (h:Heap) (l m:Bool) (a b:Addr):Heap:=(Jg h l m a b).push { cls:=.type "tuple", data:=.seq #[.none, .none] }
noncomputable abbrev DE (h:Heap) (l m:Bool) (a b:Addr):Heap:=(Jf h l m a b).push { cls:=.type "zip", data:=.fields #[.none, .bool false, .bool false, .ref (Jh h l m a b).objs.size, .ref (Jg h l m a b).objs.size] }
set_option maxHeartbeats 4000000 in
theorem vq (l m:Bool) (a b:Addr) (xs ys:Array Value):Meets (Builtin.«zip.__new__» ⟨[.type "zip", .ref a, .ref b], []⟩) (fun _ R s=>dR l s.heap a xs/\dR m s.heap b ys/\R (.ok (.ret (.ref (Jf s.heap l m a b).objs.size))) { s with heap:=DE s.heap l m a b }) :=
 .of_wp fun prog w A R s h=>by
  obtain ⟨hp,g,d,tk,os⟩:=s
  obtain ⟨q1,q2,h⟩:=h
  have hsub:=sub_zip
  have D3:dR m (hp.push (AY l a)) b ys:=q2.at fun o e=>Heap.get?_push_of_some _ e
  rcases l with _ | _ <;> rcases m with _ | _ <;> simp only [DE,Jf,Jg,Jh,AY] at h
  ·have u1:Heap.IsTuple (Shared.heap ⟨hp,g,d,tk,os⟩) a xs:=q1
   have u2:Heap.IsTuple (Shared.heap ⟨hp.push { cls:=.type "tuple_iterator", data:=.fields #[.ref a, .int 0 0] }, g, d, tk, os⟩) b ys:=D3
   wp_walk using wpAny_pyIter_tuple u1,wpAny_pyIter_tuple u2
   exact ⟨_,rfl,h⟩
  ·have u1:Heap.IsTuple (Shared.heap ⟨hp,g,d,tk,os⟩) a xs:=q1
   have u2:Heap.IsList (Shared.heap ⟨hp.push { cls:=.type "tuple_iterator", data:=.fields #[.ref a, .int 0 0] }, g, d, tk, os⟩) b ys:=D3
   wp_walk using wpAny_pyIter_tuple u1,wpAny_pyIter_list u2
   exact ⟨_,rfl,h⟩
  ·have u1:Heap.IsList (Shared.heap ⟨hp,g,d,tk,os⟩) a xs:=q1
   have u2:Heap.IsTuple (Shared.heap ⟨hp.push { cls:=.type "list_iterator", data:=.fields #[.ref a, .int 0 0] }, g, d, tk, os⟩) b ys:=D3
   wp_walk using wpAny_pyIter_list u1,wpAny_pyIter_tuple u2
   exact ⟨_,rfl,h⟩
  ·have u1:Heap.IsList (Shared.heap ⟨hp,g,d,tk,os⟩) a xs:=q1
   have u2:Heap.IsList (Shared.heap ⟨hp.push { cls:=.type "list_iterator", data:=.fields #[.ref a, .int 0 0] }, g, d, tk, os⟩) b ys:=D3
   wp_walk using wpAny_pyIter_list u1,wpAny_pyIter_list u2
   exact ⟨_,rfl,h⟩
structure Zt (l m:Bool) (z TI TO i j a b:Addr) (n:Nat) (h:Heap):Prop where
 z:IsZip h z TI TO .none
 ti:IsPair h TI (.ref i) (.ref j)
 to:∃ u v,IsPair h TO u v
 i1:gB l h i a n
 i2:gB m h j b n
section
variable {prog:Program} {w:World} {A:Around} {E:Value->Shared->Prop} {s:Shared}
theorem xu {l m:Bool} {a b:Addr} {xs ys:Array Value} {Q:Value->Shared->Prop} (q1:dR l s.heap a xs) (q2:dR m s.heap b ys)
  (k:∀ h',Zt l m (s.heap.objs.size+4) (s.heap.objs.size+2) (s.heap.objs.size+3) s.heap.objs.size (s.heap.objs.size+1) a b 0 h'->(∀ c o,s.heap.get? c=some o->h'.get? c=some o)->Q (.ref (s.heap.objs.size+4)) { s with heap:=h' }) :
  wpAny (model prog w) A (call (.type "zip") [.ref a, .ref b]) Q E s:=by
 refine callType_new F.called_zip (by decide) (F.typeCall_zip_2 _ _) (F.newCall_zip_2 _ _) (fun obj=>F.args_object_init_3 obj _ _) F.entry_zip_new (vq l m a b xs ys) ⟨q1,q2,?_⟩
 have n1:(s.heap.push (AY l a)).objs.size=s.heap.objs.size+1:=Heap.size_push ..
 have n2:(Jh s.heap l m a b).objs.size=s.heap.objs.size+2:=by rw [Heap.size_push,n1]
 have n3:(Jg s.heap l m a b).objs.size=s.heap.objs.size+3:=by rw [Heap.size_push,n2]
 have n4:(Jf s.heap l m a b).objs.size=s.heap.objs.size+4:=by rw [Heap.size_push,n3]
 have g5:(DE s.heap l m a b).get? (Jf s.heap l m a b).objs.size=some _:=Heap.get?_push_size _ rfl
 have g4:(DE s.heap l m a b).get? (Jg s.heap l m a b).objs.size=some _:=Heap.get?_push_of_some _ (Heap.get?_push_size _ rfl)
 have g3:(DE s.heap l m a b).get? (Jh s.heap l m a b).objs.size=some _:=Heap.get?_push_of_some _ (Heap.get?_push_of_some _ (Heap.get?_push_size _ rfl))
 have g2:(DE s.heap l m a b).get? (s.heap.push (AY l a)).objs.size=some (AY m b):=Heap.get?_push_of_some _ (Heap.get?_push_of_some _ (Heap.get?_push_of_some _ (Heap.get?_push_size _ rfl)))
 have g1:(DE s.heap l m a b).get? s.heap.objs.size=some (AY l a):=Heap.get?_push_of_some _ (Heap.get?_push_of_some _ (Heap.get?_push_of_some _ (Heap.get?_push_of_some _ (Heap.get?_push_size _ rfl))))
 show _/\_
 rw [n2,n3,n4] at g5
 rw [n1,n2] at g3
 rw [n3] at g4
 rw [n1] at g2
 rw [n4]
 have mk:∀ (l:Bool) (it c:Addr),(DE s.heap l m a b).get? it=some (AY l c)->True:=fun _ _ _ _=>trivial
 refine ⟨⟨_,g5,rfl⟩,k _ ⟨g5,g3,⟨_,_,g4⟩,?_,?_⟩ fun c o x=>Heap.get?_push_of_some _ (Heap.get?_push_of_some _ (Heap.get?_push_of_some _ (Heap.get?_push_of_some _ (Heap.get?_push_of_some _ x))))⟩
 ·cases l <;> exact ⟨_,g1,rfl,rfl⟩
 ·cases m <;> exact ⟨_,g2,rfl,rfl⟩
theorem xo {l m:Bool} {z TI TO i j a b:Addr} {n:Nat} {xs ys:Array Value} {x y:Value} {Q:Option Value->Shared->Prop} (D:ZipApart z TI TO i j a b) (Z:Zt l m z TI TO i j a b n s.heap) (q1:dR l s.heap a xs) (q2:dR m s.heap b ys) (hx:xs[n]? = some x) (hy:ys[n]? = some y)
  (k:∀ h',Zp l m h' z TI TO i j a b (n+1) xs ys (rawInt s.heap.objs.size)->IsPair h' s.heap.objs.size x y->h'.objs.size=s.heap.objs.size+1->(∀ c o,c≠z->c≠TO->c≠i->c≠j->s.heap.get? c=some o->h'.get? c=some o)->Q (some (.ref s.heap.objs.size)) { s with heap:=h' }) :
  wpAny (model prog w) A (pyNext (.ref z)) Q E s:=by
 have ty:s.TypeIs (.ref z) "zip":=⟨_, Z.z, rfl⟩
 unfold pyNext;exact wpAny_bind (wpAny_attempt (wpAny_callSpecial?_slot (name:=Str.ofString "__next__") ty F.slot_zip_next (wpAny_call_entry F.slot_zip_next ty F.entry_zip_next (xq D ⟨Z.z, Z.ti, Z.to, Z.i1, Z.i2, q1, q2⟩ hx hy fun h' c1 c2 c3 c4=>wpAny_pure (k h' c1 c2 c3 c4)) (F.args_zip_next_1 _))))
theorem xr {l m:Bool} {z TI TO i j a b:Addr} {n:Nat} {xs ys:Array Value} {Q:Option Value->Shared->Prop} (hh:A.handled=none) (D:ZipApart z TI TO i j a b) (Z:Zt l m z TI TO i j a b n s.heap) (q1:dR l s.heap a xs) (q2:dR m s.heap b ys) (hn:xs[n]? = none\/ys[n]? = none)
  (k:∀ h',(∀ c o,c≠z->c≠TO->c≠i->c≠j->s.heap.get? c=some o->h'.get? c=some o)->Q none { s with heap:=h' }):wpAny (model prog w) A (pyNext (.ref z)) Q E s:=by
 have ty:s.TypeIs (.ref z) "zip":=⟨_, Z.z, rfl⟩
 unfold pyNext;refine wpAny_bind (wpAny_attempt (wpAny_callSpecial?_slot (name:=Str.ofString "__next__") ty F.slot_zip_next (wpAny_call_entry F.slot_zip_next ty F.entry_zip_next (xm hh D ⟨Z.z, Z.ti, Z.to, Z.i1, Z.i2, q1, q2⟩ hn fun h' e hk he=>?_) (F.args_zip_next_1 _))))
 obtain ⟨o,ho,hc⟩:=he
 exact wpAny_bind (wpAny_isInstance (T:="StopIteration") (b:=true) ⟨o, ho, hc⟩ isSubtype_stop (wpAny_pure (k _ hk)))
end
noncomputable def LR (l:Bool) (K:W.Frag) (H:Hp) (a:Addr) (xs:List V):Prop:=match l with | true=>fK K H a xs | false=>gO K H a xs
theorem LR.at {l:Bool} {X:Cx} {pins:List (Addr×Obj)} {σ:L2.St} {H:Hp} {s:Shared} {a:Addr} {xs:List V} (I:Inv X pins σ H s) (q:LR l X.K H a xs):∃ its:List Value,Vals xs its/\dR l s.heap a its.toArray:=by
 cases l with
 | true=>obtain ⟨its,rv,p,_⟩:=I.list q;exact ⟨its,rv,p.isList⟩
 | false=>obtain ⟨its,rv,p,_⟩:=I.tuple q;exact ⟨its,rv,p⟩
theorem xR {l:Bool} {h:Heap} {a:Addr} {xs:Array Value} (q:dR l h a xs):a<h.objs.size:=by
 cases l <;> (obtain ⟨o,e,_⟩:=q;exact Heap.lt_size e)
theorem AM {n c d:Nat} (h1:c<n) (h2:d<n):ZipApart (n+4) (n+2) (n+3) n (n+1) c d:=by
 constructor <;> (intro (e:(_:Nat)=_);omega)
section
variable {B:Bd} {Φ:bF} {E:Gx} {F F' F0 F1:Addr->Prop} {ρ ρ' ρ0 ρ1:List Addr} {H H' H0 H1:Hp} {M M' M0:MH} {σD:Sg} {σ:L2.St} {Q:VK} {Dn:Ends}
end
end Fg
end
section
namespace Fg
open PySem PySem.Spec L2
theorem ny:Slot "reversed" "__init__" "object.__init__" :=
 .of (owner:="object") (n:="__init__") (by rw [typeLookup_type, builtinLookup_eq_fast];kernel_rfl) (by decide +kernel) (by decide +kernel) (by decide +kernel)
  (by first | exact .inl (by decide +kernel) | exact .inr (by decide +kernel)) (by rw [isSubtype_type];kernel_rfl)
theorem bN:Slot "reversed" "__next__" "reversed.__next__" :=
 .of (owner:="reversed") (n:="__next__") (by rw [typeLookup_type, builtinLookup_eq_fast];kernel_rfl) (by decide +kernel) (by decide +kernel) (by decide +kernel)
  (by first | exact .inl (by decide +kernel) | exact .inr (by decide +kernel)) (by rw [isSubtype_type];kernel_rfl)
theorem iu:Slot "reversed" "__iter__" "reversed.__iter__" :=
 .of (owner:="reversed") (n:="__iter__") (by rw [typeLookup_type, builtinLookup_eq_fast];kernel_rfl) (by decide +kernel) (by decide +kernel) (by decide +kernel)
  (by first | exact .inl (by decide +kernel) | exact .inr (by decide +kernel)) (by rw [isSubtype_type];kernel_rfl)
theorem pS:Manifest.owners.lookup (String.ofList ['d','e','s','r','e','v','e','r'].reverse)=some Manifest.sig_reversed:=by kernel_rfl
theorem iw (a:Value):argsOk "reversed.__next__" ⟨[a], []⟩:=by
 unfold argsOk;rw [signature?_of (id:="reversed.__next__") (n:=['_', '_', 't', 'x', 'e', 'n', '_', '_']) (o:=['d', 'e', 's', 'r', 'e', 'v', 'e', 'r']) (by kernel_rfl) pS];kernel_rfl
theorem nB (a:Value):argsOk "reversed.__iter__" ⟨[a], []⟩:=by
 unfold argsOk;rw [signature?_of (id:="reversed.__iter__") (n:=['_', '_', 'r', 'e', 't', 'i', '_', '_']) (o:=['d', 'e', 's', 'r', 'e', 'v', 'e', 'r']) (by kernel_rfl) pS];kernel_rfl
theorem nC (a b:Value):argsOk "object.__init__" ⟨[a, b], []⟩:=by
 unfold argsOk;rw [signature?_of (id:="object.__init__") (n:=['_', '_', 't', 'i', 'n', 'i', '_', '_']) (o:=['t', 'c', 'e', 'j', 'b', 'o']) (by kernel_rfl) F.owner_object];kernel_rfl
theorem gE:entryFor table "reversed.__next__" = some Builtin.«reversed.__next__»:=entryFor_of_tree (by kernel_rfl)
theorem lG:entryFor table "reversed.__iter__" = some Builtin.«dict_keyiterator.__iter__» :=
 entryFor_alias (id':="dict_keyiterator.__iter__") (by kernel_rfl) (by first | rfl | decide +kernel | (unfold String.splitOn;simp +decide [String.splitOnAux])) (by decide +kernel) (by kernel_rfl)
theorem vM:TypeCalled "reversed" "reversed.__new__" "object.__init__" :=
 ⟨by decide +kernel,by decide +kernel,⟨_,_,F.mro_reversed⟩,F.made_reversed,by decide +kernel,F.sub_reversed_self,ny⟩
theorem vL:typeLookup (.type "tuple") "__reversed__" = pure none:=by rw [typeLookup_type, builtinLookup_eq_fast];kernel_rfl
theorem rE:isSubtype (.type "tuple") (.type "dict")=pure false:=by rw [isSubtype_type];kernel_rfl
noncomputable def mh (l:Addr) (i:Int):Obj:={ cls:=.type "reversed", data:=.fields #[.ref l, rawInt i] }
noncomputable def jS (h:Heap) (a l:Addr) (i:Int):Prop:=∃ o, h.get? a=some o/\o.cls=.type "reversed"/\o.data=.fields #[.ref l, rawInt i]
theorem jS.typeIs {s:Shared} {a l:Addr} {i:Int} (x:jS s.heap a l i):s.TypeIs (.ref a) "reversed":=let ⟨o, ho, hc, _⟩:=x;⟨o, ho, hc⟩
theorem jS.at {h h':Heap} {a l:Addr} {i:Int} (x:jS h a l i) (e:∀ o,h.get? a=some o->h'.get? a=some o):jS h' a l i:=let ⟨o,ho,r⟩:=x;⟨o,e _ ho,r⟩
section
variable {prog:Program} {w:World} {A:Around} {E:Value->Shared->Prop} {s:Shared}
theorem yf (l:Addr) (items:Array Value) (hfit:(items.size:Int)<2 ^ 63) :
  Meets (Builtin.«reversed.__new__» ⟨[.type "reversed", .ref l], []⟩) (fun _ R s=>s.heap.IsTuple l items /\
   R (.ok (.ret (.ref s.heap.objs.size))) { s with heap:=s.heap.push (mh l ((items.size:Int)-1)),toks:=s.toks+1+1 }) :=
 .of_wp fun prog w A R s h=>by
  obtain ⟨hl,h⟩:=h
  have hT:s.TypeIs (.ref l) "tuple":=hl.typeIs
  unfold Builtin.«reversed.__new__»
  refine wpAny_bind (wpAny_of_eq (newClass_reversed _) ?_)
  try dsimp only
  refine wpAny_bind (wpAny_of_eq (a:=()) (by first | rfl | kernel_rfl) ?_)
  refine wpAny_bind (wpAny_of_eq (a:=()) (by first | rfl | kernel_rfl) ?_)
  try dsimp only
  refine wpAny_bind (wpAny_specialOf hT vL ?_)
  try dsimp only
  refine wpAny_bind ?_
  show wpAny _ _ (isInstance (.ref l) (.type "dict") >>= _) _ _ _
  refine wpAny_bind (wpAny_isInstance hT rE ?_)
  simp only [Bool.false_eq_true,if_false]
  refine wpAny_bind (wpAny_specialOf hT F.slot_tuple_getitem.lookup ?_)
  show wpAny _ _ (if (["tuple.__getitem__", "str.__getitem__", "bytes.__getitem__", "bytearray.__getitem__", "memoryview.__getitem__", "numpy.ndarray.__getitem__", "sqlite3.Row.__getitem__"].contains "tuple.__getitem__")=true then pure true else _) _ _ _
  rw [if_pos (by decide +kernel)]
  refine wpAny_pure ?_
  simp only [Bool.not_true,Bool.false_eq_true,if_false]
  refine wpAny_bind (PyProof.Rows.len_tuple hl hfit ?_)
  refine wpAny_bind (wpAny_of_eq (a:=some (items.size:Int)) rfl ?_)
  try dsimp only
  refine wpAny_bind ?_
  unfold Builtin.SmallTypes.newRecord
  refine wpAny_newObj_type ?_ (by size_fits)
  exact wpAny_pure ⟨_,rfl,h⟩
theorem Dj {l:Addr} {items:Array Value} {Q:Value->Shared->Prop} (hl:s.heap.IsTuple l items) (hfit:(items.size:Int)<2 ^ 63)
  (h:Q (.ref s.heap.objs.size) { s with heap:=s.heap.push (mh l ((items.size:Int)-1)), toks:=s.toks+1+1 }):wpAny (model prog w) A (call (.type "reversed") [.ref l]) Q E s :=
 callType_new vM (by decide) (F.typeCall_reversed_1 _) (F.newCall_reversed_1 _) (fun obj=>nC obj _) F.entry_reversed_new (yf l items hfit) ⟨hl,⟨_,Heap.get?_push_size _ rfl,rfl⟩,h⟩
theorem nA {it l:Addr} {i:Nat} {items:Array Value} {x:Value} {Q:Option Value->Shared->Prop} (hit:jS s.heap it l (i:Int)) (hl:s.heap.IsTuple l items) (hi:(i:Int)<2 ^ 62) (hx:items[i]? = some x)
  (hQ:∀ h',jS h' it l ((i:Int)-1)->Heap.SameBut it s.heap h'->Q (some x) { s with heap:=h',toks:=s.toks+1 }):wpAny (model prog w) A (pyNext (.ref it)) Q E s:=by
 obtain ⟨o,ho,hc,hd⟩:=id hit
 have hT:s.TypeIs (.ref l) "tuple":=hl.typeIs
 unfold pyNext
 refine wpAny_bind (wpAny_attempt (wpAny_callSpecial?_slot (name:=Str.ofString "__next__") hit.typeIs bN
  (wpAny_call_entry bN hit.typeIs gE ?_ (iw _))))
 unfold Builtin.«reversed.__next__»
 refine wpAny_bind (wpAny_of_eq (a:=(Value.ref it,[])) rfl ?_)
 try dsimp only
 refine wpAny_bind (wpAny_field ho hd (x:=.ref l) rfl ?_)
 refine wpAny_bind (wpAny_field ho hd (x:=rawInt (i:Int)) rfl ?_)
 show wpAny _ _ (if (i:Int)<0 then _ else _) _ _ s
 rw [if_neg (by omega)]
 refine wpAny_bind (wpAny_specialOf hT F.slot_tuple_getitem.lookup ?_)
 simp only [Option.isNone_some,Bool.false_eq_true,if_false]
 refine wpAny_bind (wpAny_mkInt ?_)
 refine wpAny_bind (wpAny_attempt ?_)
 have hl1:Heap.IsTuple (Shared.heap { s with toks:=s.toks+1 }) l items:=hl
 have hsz:i<items.size:=by
  rcases Nat.lt_or_ge i items.size with q | q
  ·exact q
  ·rw [Array.getElem?_eq_none q] at hx;cases hx
 refine PyProof.Rows.getItem_tuple hl1 (by omega) (by omega) (j:=i) (by rw [seqIndex_of (by omega) (by omega),Int.toNat_natCast]) hx ?_
 show wpAny _ _ (field (.ref it) 1 >>= _) _ _ _
 refine wpAny_bind (wpAny_field (s:={ s with toks:=s.toks+1 }) ho hd (x:=rawInt (i:Int)) rfl ?_)
 show wpAny _ _ (setField (.ref it) 1 (rawInt ((i:Int)-1)) >>= _) _ _ _
 refine wpAny_bind (wpAny_setField (s:={ s with toks:=s.toks+1 }) ho hd (by simp) ?_)
 refine wpAny_pure ⟨x,rfl,wpAny_pure (hQ _ ?_ (Heap.SameBut.update ..))⟩
 exact ⟨_,Heap.get?_update_self _ ho (Obj.isFreed_of_fields (Obj.data_mapFields hd _)),(Obj.cls_mapFields ..).trans hc,by rw [Obj.data_mapFields hd];simp⟩
theorem pT {it l:Addr} {Q:Option Value->Shared->Prop} (hh:A.handled=none) (hit:jS s.heap it l (-1))
  (hQ:∀ h',Heap.ExtBut it s.heap h'->Q none { s with heap:=h' }):wpAny (model prog w) A (pyNext (.ref it)) Q E s:=by
 obtain ⟨o,ho,hc,hd⟩:=id hit
 unfold pyNext
 refine wpAny_bind (wpAny_attempt (wpAny_callSpecial?_slot (name:=Str.ofString "__next__") hit.typeIs bN
  (wpAny_call_entry bN hit.typeIs gE ?_ (iw _))))
 unfold Builtin.«reversed.__next__»
 refine wpAny_bind (wpAny_of_eq (a:=(Value.ref it,[])) rfl ?_)
 try dsimp only
 refine wpAny_bind (wpAny_field ho hd (x:=.ref l) rfl ?_)
 refine wpAny_bind (wpAny_field ho hd (x:=rawInt (-1)) rfl ?_)
 show wpAny _ _ (if (-1:Int)<0 then _ else _) _ _ s
 rw [if_pos (by decide)]
 refine wpAny_bind (wpAny_rule ?_)
 refine wpAny_bind ?_
 show wpAny _ _ (setField (.ref it) 1 (rawInt (-1)) >>= _) _ _ _
 refine wpAny_bind (wpAny_setField ho hd (by simp) ?_)
 refine wpAny_setField (Heap.get?_update_self _ ho (Obj.isFreed_of_fields (Obj.data_mapFields hd _))) (Obj.data_mapFields hd _) (by simp) ?_
 refine wpAny_bind ?_
 show wpAny _ _ (newExc (.type "StopIteration") [] >>= _) _ _ _
 refine wpAny_bind ?_
 simp only [newExc,newTuple]
 refine wpAny_bind (wpAny_newObj_type ?_ (by size_fits))
 refine wpAny_bind (m:=firstArgMember _ _) (wpAny_of_eq (a:=Value.none) (by first | rfl | (simp only [firstArgMember];rfl)) ?_)
 refine wpAny_newObj_type ?_ (by size_fits)
 simp only [raiseNew]
 refine wpAny_bind (wpAny_handled ?_)
 first | rw [show A.in1.handled=none from hh] | rw [hh]
 refine wpAny_bind (wpAny_pure (wpAny_throw ?_))
 refine wpAny_bind (wpAny_isInstance (T:="StopIteration") (b:=true) ⟨_, Heap.get?_push_size _ rfl, rfl⟩ isSubtype_stop ?_)
 exact wpAny_pure (hQ _ fun c x hc e=>Heap.get?_push_of_some _ (Heap.get?_push_of_some _ ((Heap.SameBut.update ..).extBut c x hc ((Heap.SameBut.update ..).extBut c x hc e))))
theorem t7 {it l:Addr} {i:Int} {Q:Value->Shared->Prop} (hit:jS s.heap it l i) (h:Q (.ref it) s):wpAny (model prog w) A (pyIter (.ref it)) Q E s:=by
 refine wpAny_pyIter_slot hit.typeIs iu (wpAny_call_entry iu hit.typeIs lG ?_ (nB _))
 show wpAny _ _ (ret (.ref it)) _ _ s
 exact wpAny_pure ⟨_, rfl, "reversed", _, hit.typeIs, bN.lookup, h⟩
end
noncomputable def IK (K:W.Frag) (a:Addr) (n:Nat):It :=
 ⟨fun i H=>i<n/\∃ xs x,gO K H a xs/\xs.length=n/\xs[n-1-i]? = some x,fun i H x H'=>H'=H/\∀ xs,gO K H a xs->xs[n-1-i]? = some x,fun i H=>n<=i⟩
theorem Ba {P:Program} {w:World} {K:W.Frag} {tg:Expr} {a it:Addr} {n:Nat} (hn62:(n:Int)<2 ^ 62):Turn P w K tg (IK K a n) [it] it (fun i h=>i<=n/\jS h it a ((n:Int)-1-(i:Int))) where
 mem:=by simp
 obj:=fun i h st b hb=>by
  have e:b=it:=by simpa using hb
  subst e
  obtain ⟨_,o,e,c,d⟩:=st
  exact ⟨o,e,fun v z=>by rw [d] at z;cases z⟩
 keep:=fun i h h' st k=>⟨st.1,st.2.at fun o e=>k it (by simp) o e⟩
 item:=by
  intro X hP hw hK hc i pins s σ H E I hf st hg
  subst hP hw hK
  obtain ⟨hi,xs,x,q1,hn,hx⟩:=hg
  obtain ⟨its,rv,pl,z⟩:=I.tuple q1
  obtain ⟨u,hu,ru⟩:=rv.get hx
  have e:(n:Int)-1-(i:Int)=((n-1-i:Nat):Int):=by omega
  obtain ⟨_,st⟩:=st
  rw [e] at st
  refine nA st (show s.heap.IsTuple a its.toArray from pl) (by omega) (x:=u) (by simpa using hu) fun h' hit b=>⟨u,rfl,?_⟩
  have e2:((n-1-i:Nat):Int)-1=(n:Int)-1-((i+1:Nat):Int):=by omega
  rw [e2] at hit
  obtain ⟨o,ho,hcl,hd⟩:=id hit
  have I1:Inv X pins σ H { s with heap:=h',toks:=s.toks+1 }:=tF (t':=s.toks+1) I (ch:=[it]) (fun c hc=>hf c hc) fun c o hc e=>b.extBut c o (by simpa using hc) e
  refine kK ho hcl hd (by decide) ⟨x,H,I1,ru,⟨rfl,fun ys q=>?_⟩,⟨by omega,hit⟩,fun c hc=>(hf c hc).1⟩
  rw [I.iW q q1];exact hx
 done:=by
  intro X hP hw hK hc i pins s σ H E I hf st hg
  subst hP hw hK
  obtain ⟨hi,st⟩:=st
  have hg':n<=i:=hg
  have e:(n:Int)-1-(i:Int)=-1:=by omega
  rw [e] at st
  exact pT (I.ok.hd hc) st fun h' b=>⟨rfl,tF (t':=s.toks) I (ch:=[it]) (fun c hc=>hf c hc) fun c o hc e=>b c o (by simpa using hc) e⟩
 self:=fun _ _ _ _ _ st h=>t7 st.2 h
end Fg
end
section
namespace Fg
open PySem PySem.Spec L2
noncomputable def IJ (K:W.Frag) (a:Addr) (n:Nat):It :=
 ⟨fun i H=>i<n/\∃ xs x,fK K H a xs/\xs.length=n/\xs[n-1-i]? = some x,fun i H x H'=>H'=H/\∀ xs,fK K H a xs->xs[n-1-i]? = some x,fun i H=>n<=i⟩
theorem xx {P:Program} {w:World} {K:W.Frag} {tg:Expr} {a it:Addr} {n:Nat}:Turn P w K tg (IJ K a n) [it] it (fun i h=>i<=n/\h.IsRevIter it a ((n:Int)-1-(i:Int))) where
 mem:=by simp
 obj:=fun i h st b hb=>by
  have e:b=it:=by simpa using hb
  subst e
  obtain ⟨_,o,e,c,d⟩:=st
  exact ⟨o,e,fun v z=>by rw [d] at z;cases z⟩
 keep:=fun i h h' st k=>⟨st.1,st.2.at fun o e=>k it (by simp) o e⟩
 item:=by
  intro X hP hw hK hc i pins s σ H E I hf st hg
  subst hP hw hK
  obtain ⟨hi,xs,x,q1,hn,hx⟩:=hg
  obtain ⟨its,rv,pl,z⟩:=I.list q1
  obtain ⟨u,hu,ru⟩:=rv.get hx
  have e:(n:Int)-1-(i:Int)=((n-1-i:Nat):Int):=by omega
  obtain ⟨_,st⟩:=st
  rw [e] at st
  refine wpAny_pyNext_rev_item st pl.isList (x:=u) (by simpa using hu) fun h' hit b=>⟨u,rfl,?_⟩
  have e2:((n-1-i:Nat):Int)-1=(n:Int)-1-((i+1:Nat):Int):=by omega
  rw [e2] at hit
  obtain ⟨o,ho,hcl,hd⟩:=id hit
  have I1:Inv X pins σ H { s with heap:=h' }:=tF (t':=s.toks) I (ch:=[it]) (fun c hc=>hf c hc) fun c o hc e=>b.extBut c o (by simpa using hc) e
  refine kK ho hcl hd (by decide) ⟨x,H,I1,ru,⟨rfl,fun ys q=>?_⟩,⟨by omega,hit⟩,fun c hc=>(hf c hc).1⟩
  rw [I.kG q q1];exact hx
 done:=by
  intro X hP hw hK hc i pins s σ H E I hf st hg
  subst hP hw hK
  obtain ⟨hi,st⟩:=st
  have hg':n<=i:=hg
  have e:(n:Int)-1-(i:Int)=-1:=by omega
  rw [e] at st
  exact wpAny_pyNext_rev_end (I.ok.hd hc) st fun h' b=>⟨rfl,tF (t':=s.toks) I (ch:=[it]) (fun c hc=>hf c hc) fun c o hc e=>b c o (by simpa using hc) e⟩
 self:=fun _ _ _ _ _ st h=>wpAny_pyIter_revIter st.2 h
noncomputable def KI (K:W.Frag) (t:TA):TI:=fun σ H R=>t σ H fun vs H1=>∃ a,vs=[.ref a]/\((∃ xs,fK K H1 a xs/\R (IJ K a xs.length) H1)\/∃ xs,gO K H1 a xs/\R (IK K a xs.length) H1)
theorem FZ {X:Cx} {tg a:Expr} {t:TA} {p pos:Pos} (hg:Gl X "reversed") (hm:X.mg "reversed" = none) (ha:PA X [a] t) (hs:starEach [a] X.env=[(false, eval a X.env)]) :
  PI X tg (.Call (.Name "reversed" p) [a] [] pos) (KI X.K t):=by
 intro pins s σ H R I h
 refine PyProof.Rows.Call_ (fS I hg hm (show bootBuiltins ("reversed" : Str)=some (.type "reversed") by decide +kernel) (PyProof.Rows.callWith_type1 (bq (ha pos pins s σ H _ I h) fun us s1 ⟨vs, H1, I1, r1, q1⟩=>?_) (by rw [hs];rfl) (by rfl)))
 obtain ⟨c,e,q1⟩:=q1
 subst e
 obtain ⟨u,rfl,ru⟩:=vals1 r1
 cases ru
 rcases q1 with ⟨xs,q,q2⟩ | ⟨xs,q,q2⟩
 ·obtain ⟨its,rv,pl,z⟩:=I1.list q
  have l1:=rv.length
  refine call_reversed_list pl.isList ?_
  have I2:Inv X pins σ H1 { s1 with heap:=s1.heap.push (revObj c ((its.toArray.size:Int)-1)) }:=I1.kept (t':=s1.toks) fun c o e=>Heap.get?_push_of_some _ e
  have g0:(s1.heap.push (revObj c ((its.toArray.size:Int)-1))).IsRevIter s1.heap.objs.size c ((its.toArray.size:Int)-1):=⟨_,Heap.get?_push_size _ rfl,rfl,rfl⟩
  have g1:(s1.heap.push (revObj c ((its.toArray.size:Int)-1))).IsRevIter s1.heap.objs.size c ((xs.length:Int)-1-((0:Nat):Int)):=by
   have e:(xs.length:Int)-1-((0:Nat):Int)=(its.toArray.size:Int)-1:=by rw [List.size_toArray,l1];omega
   rw [e];exact g0
  refine wpAny_pyIter_revIter g0 ⟨_,[s1.heap.objs.size],_,_,H1,rfl,I2,xx,⟨Nat.zero_le _,g1⟩,fun x hx=>?_,q2⟩
  have e:x=s1.heap.objs.size:=by simpa using hx
  subst e
  exact I1.qj (Nat.le_refl _) (I1.hok.fresh (Nat.le_refl _))
 ·obtain ⟨its,rv,pl,z⟩:=I1.tuple q
  have l1:=rv.length
  have hz:(xs.length:Int)<2 ^ 62:=by
   have:sizeLine<2 ^ 62:=by decide
   have z':xs.length<=sizeLine:=by simpa using z
   omega
  have hfit:(its.toArray.size:Int)<2 ^ 63:=by rw [List.size_toArray,<- l1];omega
  refine Dj (show s1.heap.IsTuple c its.toArray from pl) hfit ?_
  have I2:Inv X pins σ H1 { s1 with heap:=s1.heap.push (mh c ((its.toArray.size:Int)-1)),toks:=s1.toks+1+1 }:=I1.kept (t':=s1.toks+1+1) fun c o e=>Heap.get?_push_of_some _ e
  have g0:jS (s1.heap.push (mh c ((its.toArray.size:Int)-1))) s1.heap.objs.size c ((its.toArray.size:Int)-1):=⟨_,Heap.get?_push_size _ rfl,rfl,rfl⟩
  have g1:jS (s1.heap.push (mh c ((its.toArray.size:Int)-1))) s1.heap.objs.size c ((xs.length:Int)-1-((0:Nat):Int)):=by
   have e:(xs.length:Int)-1-((0:Nat):Int)=(its.toArray.size:Int)-1:=by rw [List.size_toArray,l1];omega
   rw [e];exact g0
  refine t7 (s:={ s1 with heap:=s1.heap.push (mh c ((its.toArray.size:Int)-1)),toks:=s1.toks+1+1 }) g0 ⟨_,[s1.heap.objs.size],_,_,H1,rfl,I2,Ba hz,⟨Nat.zero_le _,g1⟩,fun x hx=>?_,q2⟩
  have e:x=s1.heap.objs.size:=by simpa using hx
  subst e
  exact I1.qj (Nat.le_refl _) (I1.hok.fresh (Nat.le_refl _))
section
variable {B:Bd} {Φ:bF} {E:Gx} {F F' F0 F1:Addr->Prop} {ρ ρ' ρ0 ρ1:List Addr} {H H' H0 H1:Hp} {M M' M0:MH} {σD:Sg} {σ:L2.St} {Q:VK} {Dn:Ends}
theorem HG {d:D} {ds:List D} (h:qg d=some ds):d=.lst ds\/d=.tup ds:=by
 cases d <;> first | (cases h;first | exact .inl rfl | exact .inr rfl) | cases h
theorem Bq {a:Fg.E} {Rr:It->Hp->Prop} (h:Dt B Φ E (.rev a) σ H Rr):KI B.K (cG (T B Φ E a) iY) σ H Rr:=by
 obtain ⟨σD,M,F,ρ,S,r,h⟩:=h
 show T B Φ E a σ H fun v H1=>∃ c,[v]=[.ref c]/\((∃ xs,fK B.K H1 c xs/\Rr (IJ B.K c xs.length) H1)\/∃ xs,gO B.K H1 c xs/\Rr (IK B.K c xs.length) H1)
 refine ⟨σD,M,F,ρ,S,r,?_⟩
 cases hx:ev Φ a σD M with
 | exc c M1 =>
  have he:aX Φ (.rev a) σD M=.exc c M1:=by simp only [aX,hx,R.ek]
  rw [he] at h;exact h
 | bad =>
  have he:aX Φ (.rev a) σD M=.bad:=by simp only [aX,hx,R.ez]
  rw [he] at h;exact h
 | ok x M1 =>
  intro F1 ρ1 H1 v e1 S1 rx
  cases hfx:qg x with
  | none =>
   have he:aX Φ (.rev a) σD M=.bad:=by simp only [aX,hx,R.af,hfx]
   rw [he] at h;exact h.elim
  | some ds =>
   have he:aX Φ (.rev a) σD M=.ok (.ao,ds.reverse,false) M1:=by simp only [aX,hx,R.af,hfx]
   rw [he] at h
   rcases HG hfx with rfl | rfl
   ·simp only [RD] at rx
    obtain ⟨c,xs,rfl,z,q⟩:=rx
    have l1:=ai.length q
    refine ⟨c,rfl,.inl ⟨xs,z.sq,h F1 ρ1 H1 _ e1 S1 fun M' hM S'=>?_⟩⟩
    cases hM
    refine ⟨fun i F ρ M H ex S _=>⟨fun d0 hd=>?_,fun hl=>?_⟩,fun z=>by cases z⟩
    ·have zq:fK B.K H c xs:=by
      rcases z with ⟨f,z⟩ | z
      ·exact .inl (ex.toExt0.IZ.rd f z)
      ·exact .inr z
     have hi:i<ds.length:=by
      have:=(List.getElem?_eq_some_iff.mp hd).1
      simpa using this
     rw [List.getElem?_reverse hi,l1] at hd
     obtain ⟨v,hv,rv⟩:=ai.get (ai.mono ex _ _ q) hd
     refine ⟨⟨by omega,xs,v,zq,rfl,hv⟩,fun x H' ⟨e',hy⟩=>?_⟩
     subst e'
     have z2:=hy xs zq
     rw [hv] at z2
     cases z2
     exact ⟨F,S.refl,S,rv⟩
    ·rw [List.length_reverse,l1] at hl
     exact hl
   ·simp only [RD] at rx
    obtain ⟨c,xs,rfl,z,q⟩:=rx
    have l1:=ai.length q
    refine ⟨c,rfl,.inr ⟨xs,z.sq,h F1 ρ1 H1 _ e1 S1 fun M' hM S'=>?_⟩⟩
    cases hM
    refine ⟨fun i F ρ M H ex S _=>⟨fun d0 hd=>?_,fun hl=>?_⟩,fun z=>by cases z⟩
    ·have zq:gO B.K H c xs:=by
      rcases z with ⟨f,z⟩ | z
      ·exact .inl (ex.toExt0.IZ.rd f z)
      ·exact .inr z
     have hi:i<ds.length:=by
      have:=(List.getElem?_eq_some_iff.mp hd).1
      simpa using this
     rw [List.getElem?_reverse hi,l1] at hd
     obtain ⟨v,hv,rv⟩:=ai.get (ai.mono ex _ _ q) hd
     refine ⟨⟨by omega,xs,v,zq,rfl,hv⟩,fun x H' ⟨e',hy⟩=>?_⟩
     subst e'
     have z2:=hy xs zq
     rw [hv] at z2
     cases z2
     exact ⟨F,S.refl,S,rv⟩
    ·rw [List.length_reverse,l1] at hl
     exact hl
end
end Fg
end
section
namespace Fg
open PySem PySem.Spec L2
section
variable {B:Bd} {Φ:bF} {E:Gx} {F F' F1:Addr->Prop} {ρ ρ' ρ1:List Addr} {H H' H1:Hp} {M M':MH} {σD:Sg} {σ:St} {Q:VK}
end
section
variable {X:Cx} {t:TA} {te ts:TE} {e st:Expr} {pos p2:Pos}
end
end Fg
end
section
namespace Fg
open PySem PySem.Spec L2
noncomputable def Dw (hi:Int) (n:Nat):It:=⟨fun i _=>i<n,fun i H x H'=>H'=H/\x=.int (hi-i),fun i _=>n<=i⟩
theorem vB {P:Program} {w:World} {K:W.Frag} {tg:Expr} (it:Addr) (hi:Int) (n:Nat):Turn P w K tg (Dw hi n) [it] it (fun i h=>IsRangeIter h it (hi+(i:Nat)*(-1)) ((n:Int)-(i:Nat)) (-1)) where
 mem:=by simp
 obj:=fun i h st b hb=>by
  have e:b=it:=by simpa using hb
  subst e
  exact ⟨_,st,fun v z=>by
   have z':Data.fields _=Data.cell v:=z
   cases z'⟩
 keep:=fun i h h' st k=>k it (by simp) _ st
 item:=by
  intro X hP hw hK hc i pins s σ H E I hf st hg
  subst hP hw hK
  obtain ⟨f0,f1,f2,f3,f4,f5⟩:=hf it (by simp)
  have W:=Walks.range (prog:=X.prog) (w:=X.w) (I.ok.hd hc) it hi (-1) n
  refine W.item i s _ _ hg st fun v h' tk hv st' kk=>?_
  obtain ⟨t,rfl⟩:=hv
  have I1:Inv X pins σ H { s with heap:=h',toks:=tk }:=I.turned (fun b o hb e=>kk b o (by simpa using hb) e) f0 f1 f3 f4 f5
  refine ⟨_, rfl, kK (s:={ s with heap:=h', toks:=tk }) (n:="range_iterator") st' rfl rfl (by decide) ⟨.int (hi-i), H, I1, ⟨t, ?_⟩, ⟨rfl, rfl⟩, st', fun b hb=>(hf b hb).1⟩⟩
  rw [show hi+(i:Int)*(-1)=hi-i by omega]
 done:=by
  intro X hP hw hK hc i pins s σ H E I hf st hg
  subst hP hw hK
  obtain ⟨f0,f1,f2,f3,f4,f5⟩:=hf it (by simp)
  exact wpAny_pyNext_range_end (I.ok.hd hc) st (by have:n<=i:=hg;omega) fun h' eb=>⟨rfl,I.turned (t':=s.toks) (fun b o hb e=>eb b o hb e) f0 f1 f3 f4 f5⟩
 self:=fun _ _ _ _ _ st h=>wpAny_pyIter_rangeiter st h
theorem C9 {X:Cx} {tg:Expr} {pins:List (Addr×Obj)} {σ:L2.St} {H:Hp} {s:Shared} {R:It->Hp->Prop} {E:Value->Shared->Prop} {hi lo:Int} {t u v:Tok} {tk:Nat} (I:Inv X pins σ H s) (h1:-(2 ^ 62)<=hi) (h2:hi<2 ^ 62) (h3:-(2 ^ 62)<=lo) (h4:lo<2 ^ 62)
  (q:R (Dw hi (hi-lo).toNat) H):wpAny (model X.prog X.w) X.A (pyIter (.ref s.heap.objs.size)) (M6 X pins σ tg R) E { s with heap:=s.heap.push { cls:=.type "range", data:=.fields #[.int hi t, .int lo u, .int (-1) v] }, toks:=tk }:=by
 refine wpAny_pyIter_range (IsRange.new ..) (W.small_down h1 h2 h3 h4) ?_
 have I1:Inv X pins σ H { s with heap:=s.heap.push { cls:=.type "range", data:=.fields #[.int hi t, .int lo u, .int (-1) v] }, toks:=tk }:=I.kept fun b o e=>Heap.get?_push_of_some _ e
 refine ⟨(s.heap.push { cls:=.type "range", data:=.fields #[.int hi t, .int lo u, .int (-1) v] }).objs.size, [(s.heap.push { cls:=.type "range", data:=.fields #[.int hi t, .int lo u, .int (-1) v] }).objs.size], _, _, H, rfl,
  I1.kept (t':=tk) fun b o e=>Heap.get?_push_of_some _ e,vB _ hi (hi-lo).toNat,?_,fun b hb=>?_,q⟩
 ·have e1:hi+((0:Nat):Int)*(-1)=hi:=by simp
  have e2:(((hi-lo).toNat:Nat):Int)-((0:Nat):Int)=Builtin.Range.rangeSize hi lo (-1):=by rw [W.rangeSize_downNat];omega
  show IsRangeIter _ _ (hi+((0:Nat):Int)*(-1)) ((((hi-lo).toNat:Nat):Int)-((0:Nat):Int)) (-1)
  rw [e1,e2]
  exact Heap.get?_push_size _ rfl
 ·have e:b=(s.heap.push { cls:=.type "range", data:=.fields #[.int hi t, .int lo u, .int (-1) v] }).objs.size:=by simpa using hb
  subst e
  exact I1.qj (Nat.le_refl _) (I1.hok.fresh (Nat.le_refl _))
noncomputable def Eg (ta:TA):TI:=fun σ H R=>ta σ H fun vs H1=>∃ i j:Int,vs=[.int i,.int j,.int (-1)]/\(-(2 ^ 62)<=i/\i<2 ^ 62/\-(2 ^ 62)<=j/\j<2 ^ 62)/\R (Dw i (i-j).toNat) H1
theorem vR {X:Cx} {tg a b c:Expr} {ta:TA} {p pos:Pos} (hg:Gl X "range") (hm:X.mg "range" = none) (ha:PA X [a, b, c] ta) (hs:starEach [a, b, c] X.env=(false, eval a X.env)::starEach [b, c] X.env) (hs2:(backTo pos (starEach [b, c] X.env)).any (·.1)=false) :
  PI X tg (.Call (.Name "range" p) [a, b, c] [] pos) (Eg ta):=by
 intro pins s σ H R I h
 refine PyProof.Rows.Call_ (fS I hg hm PyProof.Rows.boot_range (PyProof.Rows.callWith_type1 (bq (ha pos pins s σ H _ I h) fun us s1 ⟨vs,H1,I1,r1,q1⟩=>?_) hs hs2))
 obtain ⟨i,j,e,⟨q1,q2,q3,q4⟩,q⟩:=q1
 subst e
 cases r1 with
 | cons r rr =>
  cases rr with
  | cons r' rr =>
   cases rr with
   | cons r'' rr =>
    cases rr
    obtain ⟨t,rfl⟩:=r
    obtain ⟨t',rfl⟩:=r'
    obtain ⟨t'',rfl⟩:=r''
    exact call_range_3 (by decide) (C9 I1 q1 q2 q3 q4 q) (.inl (PyProof.noPylong_small (by omega)))
section
variable {B:Bd} {Φ:bF} {E:Gx} {F F' F0 F1:Addr->Prop} {ρ ρ' ρ0 ρ1:List Addr} {H H' H0 H1:Hp} {M M' M0:MH} {σD:Sg} {σ:L2.St} {Q:VK} {Dn:Ends}
theorem qP {hi:Int} {n:Nat} {src:D}:Walks B (Dw hi n) src ((List.range n).map fun (i:Nat)=>D.int (hi-(i:Int))) F0 ρ0 M0 H0:=by
 intro i F ρ M H e S st
 refine ⟨fun d hd=>?_,fun hi=>(show n<=i by simpa using hi)⟩
 have hi:i<n:=by
  obtain ⟨q,_⟩:=List.getElem?_eq_some_iff.mp hd
  simpa using q
 refine ⟨hi,fun x H' ⟨e',hx⟩=>?_⟩
 subst e' hx
 simp [hi] at hd
 subst hd
 exact ⟨F,S.refl,S,by simp only [RD]⟩
theorem xZ {a b:Fg.E} {Rr:It->Hp->Prop} (h:Dt B Φ E (.fE a b) σ H Rr):Eg (cG (T B Φ E a) (cG (T B Φ E b) (cG (T B Φ E (.neg (.k (.int 1)))) iY))) σ H Rr:=by
 obtain ⟨σD,M,F,ρ,S,r,h⟩:=h
 refine ⟨σD,M,F,ρ,S,r,?_⟩
 cases hx:ev Φ a σD M with
 | exc c M1 =>
  have he:aX Φ (.fE a b) σD M=.exc c M1:=by simp only [aX,hx,R.ek]
  rw [he] at h;exact h
 | bad =>
  have he:aX Φ (.fE a b) σD M=.bad:=by simp only [aX,hx,R.ez]
  rw [he] at h;exact h
 | ok x M1 =>
  intro F1 ρ1 H1 v e1 S1 rx
  refine ⟨σD,M1,F1,ρ1,S1,r.mono e1,?_⟩
  cases hy:ev Φ b σD M1 with
  | exc c M2 =>
   have he:aX Φ (.fE a b) σD M=.exc c M2:=by simp only [aX,hx,hy,R.af,R.ek]
   rw [he] at h
   exact fun F' ρ' H' cv x e' S r=>h F' ρ' H' cv x (e1.trans e') S r
  | bad =>
   have he:aX Φ (.fE a b) σD M=.bad:=by simp only [aX,hx,hy,R.af,R.ez]
   rw [he] at h;exact h.elim
  | ok y M2 =>
   intro F2 ρ2 H2 w e2 S2 ry
   have IQ:=RD.mono e2 _ _ rx
   refine ⟨σD,M2,F2,ρ2,S2,(r.mono e1).mono e2,?_⟩
   simp only [ev,R.af]
   show ah (RD B) B (R.ok (D.int (-1)) M2) F2 ρ2 H2 _ _
   intro F3 ρ3 H3 z e3 S3 rz
   have Mc:=RD.mono e3 _ _ IQ
   have Mb:=RD.mono e3 _ _ ry
   cases hi:fB x with
   | none =>
    have he:aX Φ (.fE a b) σD M=.bad:=by simp only [aX,hx,hy,R.af,hi]
    rw [he] at h;exact h.elim
   | some i =>
    cases hj:fB y with
    | none =>
     have he:aX Φ (.fE a b) σD M=.bad:=by simp only [aX,hx,hy,R.af,hi,hj]
     rw [he] at h;exact h.elim
    | some j =>
     cases hr:i9 i&&i9 j with
     | false =>
      have he:aX Φ (.fE a b) σD M=.bad:=by simp only [aX,hx,hy,R.af,hi,hj,hr,Bool.false_eq_true,if_false]
      rw [he] at h;exact h.elim
     | true =>
      have he:aX Φ (.fE a b) σD M=.ok (.ao,jt i j,false) M2:=by simp only [aX,hx,hy,R.af,hi,hj,hr,if_true]
      rw [he] at h
      cases vn hi
      cases vn hj
      simp only [RD] at Mc Mb rz
      subst Mc Mb rz
      obtain ⟨r1,r2⟩:=(Bool.and_eq_true _ _).mp hr
      obtain ⟨b1,b2⟩:=yL r1
      obtain ⟨b3,b4⟩:=yL r2
      exact ⟨i,j,rfl,⟨b1,b2,b3,b4⟩,h F3 ρ3 H3 _ (e1.trans (e2.trans e3)) S3 fun M' eq S'=>⟨qP,fun z=>by simp at z⟩⟩
end
end Fg
end
section
namespace Fg
open PySem PySem.Spec L2
theorem Lw:entryFor table "zip.__getattribute__" = some Builtin.«object.__getattribute__» :=
 entryFor_alias (id':="object.__getattribute__") (by kernel_rfl) (by first | rfl | decide +kernel) (by decide +kernel) (by kernel_rfl)
theorem C7:typeLookup (.type "zip") "keys" = pure none:=by rw [typeLookup_type, builtinLookup_eq_fast];kernel_rfl
theorem C8:typeLookup (.type "zip") "__getattr__" = pure none:=by rw [typeLookup_type, builtinLookup_eq_fast];kernel_rfl
theorem An (a:Addr) (xs:Array Value) (u:Tok) :
  Meets (Builtin.«object.__getattribute__» ⟨[.ref a, .str "keys" u], []⟩) (fun A R s=>s.heap.get? a=some { cls:=.type "zip", dict:=none, data:=.fields xs, slots:=#[] }/\raisesAttr (.ref a) "keys" A R s) :=
 Meets.of_wp fun prog w A R s hs=>by
  obtain ⟨hp,g,d,tk,os⟩:=s
  obtain ⟨hx,hs⟩:=hs
  have hT:(⟨hp, g, d, tk, os⟩:Shared).TypeIs (.ref a) "zip":=⟨_, hx, rfl⟩
  have f0:=C7
  unfold Builtin.«object.__getattribute__»
  repeat (any_goals (first | assumption | wp_step))
  exact wpAny_raiseAttrError hs.1 hs.2 (attrMsg_fits (by decide +kernel) (by decide +kernel))
theorem C6 {prog:Program} {w:World} {A:Around} {E:Value->Shared->Prop} {s:Shared} {a:Addr} {xs:Array Value} {Q:Option Value->Shared->Prop}
  (hx:s.heap.get? a=some { cls:=.type "zip", dict:=none, data:=.fields xs, slots:=#[] }) (hA:A.handled=none)
  (h:∀ h' tk,(∀ b o,s.heap.get? b=some o->h'.get? b=some o)->Q none { s with heap:=h',toks:=tk }) :
  wpAny (model prog w) A (getAttr? (.ref a) "keys") Q E s:=by
 obtain ⟨hp,g,d,tk,os⟩:=s
 have hT:∀ tk', (⟨hp, g, d, tk', os⟩:Shared).TypeIs (.ref a) "zip":=fun _=>⟨_, hx, rfl⟩
 have f1:=sub_AttributeError
 have f3:=F.slot_zip_getattribute.lookup
 have f4:=F.slot_zip_getattribute.bind (.ref a)
 have f5:=C8
 unfold getAttr? getAttrBy? getAttrBy
 repeat (any_goals (first | assumption | exact hT _ | ((with_reducible show wpAny _ _ (call (Value.builtin "zip.__getattribute__") _ _) _ _ _);refine call_meets F.slot_zip_getattribute (hT _) Lw (F.args_zip_getattribute_2 _ _) (An a xs _) ⟨hx, hA, fun h' tk' e hx'=>?_⟩) | wp_step))
 obtain ⟨t',u',he⟩:=hx'.there
 show wpAny _ _ (getattributeRaised _ _ _ _ _ _ _) _ _ _
 unfold getattributeRaised
 repeat (any_goals (first | assumption | wp_step))
 all_goals exact h _ _ hx'.keeps
end Fg
end
section
namespace Fg
open PySem PySem.Spec L2
noncomputable def Dy (h:Heap) (z TI TO i j:Addr):Prop:=∃ (T:Addr) (b:Bool) (o:Obj), h.get? T=some o/\(T≠z/\T≠i/\T≠j)/\h.get? z=some { cls:=.type "zip", dict:=none, data:=.fields #[rawInt T, .bool b, .bool false, .ref TI, .ref TO], slots:=#[] }
structure Zu (l m:Bool) (h:Heap) (z TI TO i j a b:Addr) (n:Nat) (xs ys:Array Value):Prop where
 z:Dy h z TI TO i j
 ti:IsPair h TI (.ref i) (.ref j)
 i1:gB l h i a n
 i2:gB m h j b n
 s1:dR l h a xs
 s2:dR m h b ys
section
variable {prog:Program} {w:World} {A:Around} {E:Value->Shared->Prop} {s:Shared}
theorem tD {z TI TO i j:Addr} {Q:Bool->Shared->Prop} (Z:Dy s.heap z TI TO i j)
  (k:∀ h',Dy h' z TI TO i j->Heap.SameBut z s.heap h'->Q false { s with heap:=h' }):wpAny (model prog w) A (Builtin.SmallTypes.ownedTupleIsFree (.ref z)) Q E s:=by
 obtain ⟨T,b,o,gT,ne,gz⟩:=id Z
 unfold Builtin.SmallTypes.ownedTupleIsFree
 refine wpAny_bind (wpAny_field gz rfl (x:=rawInt T) rfl ?_)
 show wpAny _ _ (loadIfAlive ((T:Int).toNat) >>= _) _ _ _
 rw [Int.toNat_natCast]
 refine wpAny_bind (PySem.W.kdx_alive gT ?_)
 simp only [Option.isNone_some,Bool.false_eq_true,if_false]
 refine wpAny_bind (wpAny_field gz rfl (x:=.bool b) rfl ?_)
 cases b with
 | true =>
  rw [if_neg (show ¬ ((Value.bool true != Value.bool true)=true) from Bool.false_ne_true)]
  exact wpAny_pure (k s.heap Z (Heap.SameBut.refl _ _))
 | false =>
  rw [if_pos (show (Value.bool false != Value.bool true)=true from rfl)]
  refine wpAny_bind (wpAny_setField_rec gz (by simp) fun h1 z1 b1=>wpAny_pure (k h1 ⟨T,true,o,b1.extBut _ _ ne.1 gT,ne,z1⟩ b1))
theorem A7 {l m:Bool} {z TI TO i j a b:Addr} {n:Nat} {xs ys:Array Value} {x y:Value} {Q:Value->Shared->Prop} (D:ZipApart z TI TO i j a b) (Z:Zu l m s.heap z TI TO i j a b n xs ys) (hx:xs[n]? = some x) (hy:ys[n]? = some y)
  (k:∀ h',Zu l m h' z TI TO i j a b (n+1) xs ys->IsPair h' s.heap.objs.size x y->h'.objs.size=s.heap.objs.size+1->(∀ c o,c≠z->c≠TO->c≠i->c≠j->s.heap.get? c=some o->h'.get? c=some o)->Q (.ref s.heap.objs.size) { s with heap:=h' }) :
  wpAny (model prog w) A (Builtin.«zip.__next__» ⟨[.ref z], []⟩) (fun fin s'=>∃ v, fin=.done (.ret v)/\Q v s') E s:=by
 obtain ⟨gz,gi,t1,t2,q1,q2⟩:=Z
 obtain ⟨T,b0,o,gT,ne,KU⟩:=id gz
 show wpAny _ _ (field (.ref z) 2 >>= _) _ _ _;refine wpAny_bind (wpAny_field KU rfl (x:=.bool false) rfl ?_)
 show wpAny _ _ (field (.ref z) 3 >>= _) _ _ _;refine wpAny_bind (wpAny_field KU rfl (x:=.ref TI) rfl (wpAny_bind (wpAny_seqItems gi rfl ?_)))
 show wpAny _ _ (Builtin.SmallTypes.ownedTupleIsFree (.ref z) >>= _) _ _ _
 refine wpAny_bind (tD gz fun h1 z1 b1=>?_)
 simp only [Bool.false_eq_true,if_false]
 refine wpAny_bind ?_
 rw [<- Array.forIn_toList]
 simp only [List.forIn_cons,List.forIn_nil]
 refine wpAny_bind (wpAny_bind (wpAny_holding ?_))
 show wpAny _ _ (Builtin.SmallTypes.nextOf (.ref i) >>= _) _ _ _
 refine wpAny_bind (gf (t1.at fun o e=>b1.extBut _ _ D.i1z e) (q1.at fun o e=>b1.extBut _ _ D.l1z e) hx fun h2 t1' b2=>wpAny_pure (wpAny_pure ?_))
 refine wpAny_bind (wpAny_bind (wpAny_holding ?_))
 show wpAny _ _ (Builtin.SmallTypes.nextOf (.ref j) >>= _) _ _ _
 refine wpAny_bind (gf (t2.at fun o e=>b2.extBut _ _ D.i12.symm (b1.extBut _ _ D.i2z e)) (q2.at fun o e=>b2.extBut _ _ D.l2i1 (b1.extBut _ _ D.l2z e)) hy fun h3 t2' b3=>wpAny_pure (wpAny_pure (wpAny_pure ?_)))
 show wpAny _ _ (newTuple [x,y] >>= _) _ _ _
 refine wpAny_bind (wpAny_newTuple (wpAny_pure ⟨_,rfl,?_⟩))
 have sz:h3.objs.size=s.heap.objs.size:=by rw [b3.1,b2.1,b1.1]
 have k3:∀ c o,c≠z->c≠TO->c≠i->c≠j->s.heap.get? c=some o->h3.get? c=some o:=fun c o c1 c2 c3 c4 e=>b3.extBut _ _ c4 (b2.extBut _ _ c3 (b1.extBut _ _ c1 e))
 have up:∀ c o, h3.get? c=some o->(h3.push { cls:=.type "tuple", data:=.seq #[x, y] }).get? c=some o:=fun c o e=>Heap.get?_push_of_some _ e
 obtain ⟨T1,bb,o1,g1,ne1,gz1⟩:=id z1
 have z3:Dy (h3.push { cls:=.type "tuple", data:=.seq #[x, y] }) z TI TO i j:=⟨T1, bb, o1, up _ _ (b3.extBut _ _ ne1.2.2 (b2.extBut _ _ ne1.2.1 g1)), ne1, up _ _ (b3.extBut _ _ D.i2z.symm (b2.extBut _ _ D.i1z.symm gz1))⟩
 have p3:IsPair (h3.push { cls:=.type "tuple", data:=.seq #[x, y] }) h3.objs.size x y:=Heap.get?_push_size _ rfl
 show Q (.ref h3.objs.size) _
 rw [sz] at p3 ⊢
 exact k _ ⟨z3,up _ _ (k3 _ _ D.TIz D.TITO D.TIi1 D.TIi2 gi),t1'.at fun o e=>up _ _ (b3.extBut _ _ D.i12 e),t2'.at fun o e=>up _ _ e,q1.at fun o e=>up _ _ (k3 _ _ D.l1z D.l1TO D.l1i1 D.l1i2 e),q2.at fun o e=>up _ _ (k3 _ _ D.l2z D.l2TO D.l2i1 D.l2i2 e)⟩ p3 (by rw [Heap.size_push,sz]) fun c o c1 c2 c3 c4 e=>up _ _ (k3 c o c1 c2 c3 c4 e)
theorem A6 {l m:Bool} {z TI TO i j a b:Addr} {n:Nat} {xs ys:Array Value} {Q:PySem.Fin->Shared->Prop} (hh:A.handled=none) (D:ZipApart z TI TO i j a b) (Z:Zu l m s.heap z TI TO i j a b n xs ys) (hn:xs[n]? = none\/ys[n]? = none)
  (k:∀ h' e, (∀ c o, c≠z->c≠TO->c≠i->c≠j->s.heap.get? c=some o->h'.get? c=some o)->(∃ o, h'.get? e=some o/\o.cls=.type "StopIteration")->E (.ref e) { s with heap:=h' }) :
  wpAny (model prog w) A (Builtin.«zip.__next__» ⟨[.ref z], []⟩) Q E s:=by
 obtain ⟨gz,gi,t1,t2,q1,q2⟩:=Z
 obtain ⟨T,b0,o,gT,ne,KU⟩:=id gz
 show wpAny _ _ (field (.ref z) 2 >>= _) _ _ _;refine wpAny_bind (wpAny_field KU rfl (x:=.bool false) rfl ?_)
 show wpAny _ _ (field (.ref z) 3 >>= _) _ _ _;refine wpAny_bind (wpAny_field KU rfl (x:=.ref TI) rfl (wpAny_bind (wpAny_seqItems gi rfl ?_)))
 show wpAny _ _ (Builtin.SmallTypes.ownedTupleIsFree (.ref z) >>= _) _ _ _
 refine wpAny_bind (tD gz fun h1 z1 b1=>?_)
 simp only [Bool.false_eq_true,if_false]
 refine wpAny_bind ?_
 rw [<- Array.forIn_toList]
 simp only [List.forIn_cons,List.forIn_nil]
 refine wpAny_bind (wpAny_bind (wpAny_holding ?_))
 show wpAny _ _ (Builtin.SmallTypes.nextOf (.ref i) >>= _) _ _ _
 cases hx:xs[n]? with
 | none =>
  refine wpAny_bind (jW hh (t1.at fun o e=>b1.extBut _ _ D.i1z e) (q1.at fun o e=>b1.extBut _ _ D.l1z e) hx fun h2 e b2 he=>?_)
  exact k h2 e (fun c o c1 _ c3 _ q=>b2 _ _ c3 (b1.extBut _ _ c1 q)) he
 | some x =>
  have hy:ys[n]? = none:=hn.resolve_left (by rw [hx];simp)
  refine wpAny_bind (gf (t1.at fun o e=>b1.extBut _ _ D.i1z e) (q1.at fun o e=>b1.extBut _ _ D.l1z e) hx fun h2 t1' b2=>wpAny_pure (wpAny_pure ?_))
  refine wpAny_bind (wpAny_bind (wpAny_holding ?_))
  show wpAny _ _ (Builtin.SmallTypes.nextOf (.ref j) >>= _) _ _ _
  refine wpAny_bind (jW hh (t2.at fun o e=>b2.extBut _ _ D.i12.symm (b1.extBut _ _ D.i2z e)) (q2.at fun o e=>b2.extBut _ _ D.l2i1 (b1.extBut _ _ D.l2z e)) hy fun h3 e b3 he=>?_)
  exact k h3 e (fun c o c1 _ c3 c4 q=>b3 _ _ c4 (b2.extBut _ _ c3 (b1.extBut _ _ c1 q))) he
end
end Fg
end
section
namespace Fg
open PySem PySem.Spec L2
theorem gK:entryFor table "dict.update.loop" = some Builtin.«dict.update.loop»:=by first | exact entryFor_of_fast (by kernel_rfl) | exact entryFor_of_tree (by kernel_rfl)
theorem gJ:plainId "dict.update.loop" = true:=by decide +kernel
noncomputable def ZS (l m:Bool) (h:Heap) (z TI TO i j a b:Addr) (n:Nat) (xs ys:Array Value):Prop:=Zp l m h z TI TO i j a b n xs ys .none\/Zu l m h z TI TO i j a b n xs ys
section
variable {prog:Program} {w:World} {A:Around} {E:Value->Shared->Prop} {s:Shared}
theorem ZS.push {l m:Bool} {h:Heap} {z TI TO i j a b:Addr} {n:Nat} {xs ys:Array Value} (Z:ZS l m h z TI TO i j a b n xs ys) {h':Heap} (k:∀ c o,c≠z\/True->h.get? c=some o->h'.get? c=some o):ZS l m h' z TI TO i j a b n xs ys:=by
 have k':∀ c o,h.get? c=some o->h'.get? c=some o:=fun c o e=>k c o (.inr trivial) e
 rcases Z with ⟨h1,h2,⟨u,v,h3⟩,h4,h5,h6,h7⟩ | ⟨⟨T,bb,o,g1,g2,g3⟩,h2,h4,h5,h6,h7⟩
 ·exact .inl ⟨k' _ _ h1,k' _ _ h2,⟨u,v,k' _ _ h3⟩,h4.at fun o e=>k' _ _ e,h5.at fun o e=>k' _ _ e,h6.at fun o e=>k' _ _ e,h7.at fun o e=>k' _ _ e⟩
 ·exact .inr ⟨⟨T,bb,o,k' _ _ g1,g2,k' _ _ g3⟩,k' _ _ h2,h4.at fun o e=>k' _ _ e,h5.at fun o e=>k' _ _ e,h6.at fun o e=>k' _ _ e,h7.at fun o e=>k' _ _ e⟩
theorem A8 {l m:Bool} {z TI TO i j a b:Addr} {n:Nat} {xs ys:Array Value} {x y:Value} {Q:Option Value->Shared->Prop} (D:ZipApart z TI TO i j a b) (Z:ZS l m s.heap z TI TO i j a b n xs ys) (hx:xs[n]? = some x) (hy:ys[n]? = some y)
  (k:∀ h',ZS l m h' z TI TO i j a b (n+1) xs ys->IsPair h' s.heap.objs.size x y->(∀ c o,c≠z->c≠TO->c≠i->c≠j->s.heap.get? c=some o->h'.get? c=some o)->Q (some (.ref s.heap.objs.size)) { s with heap:=h' }) :
  wpAny (model prog w) A (pyNext (.ref z)) Q E s:=by
 rcases Z with Z | Z
 ·have lt:∀ {c:Addr} {o:Obj},s.heap.get? c=some o->c≠s.heap.objs.size:=fun e=>Nat.ne_of_lt (Heap.lt_size e)
  have li:∀ {l:Bool} {c d:Addr} {q:Nat},gB l s.heap c d q->c≠s.heap.objs.size:=fun {l c d q} e=>by
   cases l <;> (obtain ⟨o,e,_⟩:=e;exact lt e)
  refine xo D ⟨Z.z,Z.ti,Z.to,Z.i1,Z.i2⟩ Z.s1 Z.s2 hx hy fun h' Z' p _ kp=>k h' (.inr ⟨⟨s.heap.objs.size,false,_,p,⟨(lt Z.z).symm,(li Z.i1).symm,(li Z.i2).symm⟩,Z'.z⟩,Z'.ti,Z'.i1,Z'.i2,Z'.s1,Z'.s2⟩) p kp
 ·obtain ⟨T,bb,o,g1,g2,g3⟩:=id Z.z
  have ty:s.TypeIs (.ref z) "zip":=⟨_, g3, rfl⟩
  unfold pyNext;exact wpAny_bind (wpAny_attempt (wpAny_callSpecial?_slot (name:=Str.ofString "__next__") ty F.slot_zip_next (wpAny_call_entry F.slot_zip_next ty F.entry_zip_next (A7 D Z hx hy fun h' c1 c2 c3 c4=>wpAny_pure (k h' (.inr c1) c2 c4)) (F.args_zip_next_1 _))))
theorem A9 {l m:Bool} {z TI TO i j a b:Addr} {n:Nat} {xs ys:Array Value} {Q:Option Value->Shared->Prop} (hh:A.handled=none) (D:ZipApart z TI TO i j a b) (Z:ZS l m s.heap z TI TO i j a b n xs ys) (hn:xs[n]? = none\/ys[n]? = none)
  (k:∀ h',(∀ c o,c≠z->c≠TO->c≠i->c≠j->s.heap.get? c=some o->h'.get? c=some o)->Q none { s with heap:=h' }):wpAny (model prog w) A (pyNext (.ref z)) Q E s:=by
 rcases Z with Z | Z
 ·exact xr hh D ⟨Z.z,Z.ti,Z.to,Z.i1,Z.i2⟩ Z.s1 Z.s2 hn k
 ·obtain ⟨T,bb,o,g1,g2,g3⟩:=id Z.z
  have ty:s.TypeIs (.ref z) "zip":=⟨_, g3, rfl⟩
  unfold pyNext;refine wpAny_bind (wpAny_attempt (wpAny_callSpecial?_slot (name:=Str.ofString "__next__") ty F.slot_zip_next (wpAny_call_entry F.slot_zip_next ty F.entry_zip_next (A6 hh D Z hn fun h' e hk he=>?_) (F.args_zip_next_1 _))))
  obtain ⟨o,ho,hc⟩:=he
  exact wpAny_bind (wpAny_isInstance (T:="StopIteration") (b:=true) ⟨o, ho, hc⟩ isSubtype_stop (wpAny_pure (k _ hk)))
variable {K:Type} [DecidableEq K] {knd:KeyKind prog w K}
structure EW (D z TI TO i j a b:Addr):Prop where
 z:D≠z
 ti:D≠TI
 to:D≠TO
 i:D≠i
 j:D≠j
 a:D≠a
 b:D≠b
theorem uX {l m:Bool} {D z TI TO i j a b:Addr} {xs ys:Array Value} (Ap:ZipApart z TI TO i j a b) (O:EW D z TI TO i j a b) (hh:A.handled=none) {R:Result->Shared->Prop}:∀ (ps:List (K×Value)) (n:Nat) (s:Shared) (vs:List (K×Value)),
  ZS l m s.heap z TI TO i j a b n xs ys->s.heap.DictOf knd D vs->vs.length+ps.length<=100000->(∀ (q:Nat) p,ps[q]? = some p->∃ x,xs[n+q]? = some x/\knd.is p.1 x=true/\ys[n+q]? = some p.2)->(xs[n+ps.length]? = none\/ys[n+ps.length]? = none) ->
  (∀ h' tk,h'.DictOf knd D (ps.foldl (fun v p=>stored v p.1 p.2) vs)->(∀ c o,c≠z->c≠TO->c≠i->c≠j->c≠D->s.heap.get? c=some o->h'.get? c=some o)->R (.ok (.ret .none)) { s with heap:=h',toks:=tk }) ->
  codeAny (model prog w) A (.builtin "dict.update.loop" ⟨[.ref D, .ref z, rawInt (n:Int), .none], []⟩) R s
 | [],n,s,vs,Z,hd,hl,hp,he,hR=>by
  refine codeAny_builtin gK ?_
  rw [Around.under_plainId gJ _]
  show wpAny _ A.in1 (pyNext (.ref z) >>= _) _ _ s
  refine wpAny_bind (A9 hh Ap Z (by simpa using he) fun h' kp=>?_)
  refine wpAny_bind (wpAny_pure ?_)
  refine wpAny_pure ?_
  obtain ⟨o,es,ep,ho,r⟩:=hd
  exact hR h' s.toks ⟨o,es,ep,kp _ _ O.z O.to O.i O.j ho,r⟩ fun c o c1 c2 c3 c4 _ e=>kp c o c1 c2 c3 c4 e
 | p::ps,n,s,vs,Z,hd,hl,hp,he,hR=>by
  obtain ⟨x,hx,hk,hy⟩:=hp 0 p rfl
  simp only [List.length_cons] at hl
  refine codeAny_builtin gK ?_
  rw [Around.under_plainId gJ _]
  show wpAny _ A.in1 (pyNext (.ref z) >>= _) _ _ s
  refine wpAny_bind (A8 Ap Z hx hy fun h1 Z1 pr kp=>?_)
  have hd1:h1.DictOf knd D vs:=by
   obtain ⟨o,es,ep,ho,r⟩:=hd
   exact ⟨o,es,ep,kp _ _ O.z O.to O.i O.j ho,r⟩
  have hT:({ s with heap:=h1 }:Shared).TypeIs (.ref s.heap.objs.size) "tuple":=⟨_, pr, rfl⟩
  refine wpAny_bind (wpAny_holding (wpAny_bind (wpAny_tryCatch ?_)))
  unfold Builtin.Dict.pairItems
  refine wpAny_bind (wpAny_typeOf hT ?_)
  rw [if_pos (by decide +kernel)]
  refine wpAny_bind (wpAny_seqItems (s:={ s with heap:=h1 }) pr rfl (wpAny_pure ?_))
  show wpAny _ _ (holding [x,p.2] (dictSet D x p.2)) _ _ _
  refine wpAny_holding (wpAny_dictSet_pairs (s:={ s with heap:=h1 }) hk hd1 (fun h2 hd2 sb=>?_) (Nat.le_trans (by omega:vs.length<=100000) (by decide)))
  have lenS:(stored vs p.1 p.2).length<=vs.length+1:=by unfold stored;split <;> simp
  have Z2:ZS l m h2 z TI TO i j a b (n+1) xs ys:=by
   rcases Z1 with ⟨e1,e2,⟨u,v,e3⟩,e4,e5,e6,e7⟩ | ⟨⟨T,bb,o,g1,g2,g3⟩,e2,e4,e5,e6,e7⟩
   ·exact .inl ⟨sb.extBut _ _ O.z.symm e1,sb.extBut _ _ O.ti.symm e2,⟨u,v,sb.extBut _ _ O.to.symm e3⟩,e4.at fun o e=>sb.extBut _ _ O.i.symm e,e5.at fun o e=>sb.extBut _ _ O.j.symm e,e6.at fun o e=>sb.extBut _ _ O.a.symm e,e7.at fun o e=>sb.extBut _ _ O.b.symm e⟩
   ·refine .inr ⟨?_,sb.extBut _ _ O.ti.symm e2,e4.at fun o e=>sb.extBut _ _ O.i.symm e,e5.at fun o e=>sb.extBut _ _ O.j.symm e,e6.at fun o e=>sb.extBut _ _ O.a.symm e,e7.at fun o e=>sb.extBut _ _ O.b.symm e⟩
    by_cases hTD:T=D
    ·obtain ⟨o',_,_,ho',_⟩:=hd2
     exact ⟨T,bb,o',by rw [hTD];exact ho',g2,sb.extBut _ _ O.z.symm g3⟩
    ·exact ⟨T,bb,o,sb.extBut _ _ hTD g1,g2,sb.extBut _ _ O.z.symm g3⟩
  refine wpAny_pure ⟨Code.quiet_builtin _ (by decide +kernel),?_⟩
  have ih:=uX Ap O hh ps (n+1) { s with heap:=h2,toks:=s.toks+1 } (stored vs p.1 p.2) Z2 hd2 (by omega) (fun q p' hq=>by
   have:=hp (q+1) p' (by simpa using hq)
   rw [show n+(q+1)=n+1+q by omega] at this;exact this) (by rw [show n+1+ps.length=n+(p::ps).length by simp;omega];exact he) (fun h' tk hd' kp'=>hR h' tk hd' fun c o c1 c2 c3 c4 c5 e=>kp' c o c1 c2 c3 c4 c5 (sb.extBut _ _ c5 (kp c o c1 c2 c3 c4 e)))
  exact ih
end
end Fg
end
section
namespace Fg
open PySem PySem.Spec L2
section
variable {prog:Program} {w:World} {A:Around} {E:Value->Shared->Prop} {s:Shared} {K:Type} [DecidableEq K] {knd:KeyKind prog w K}
theorem Dk {l m:Bool} {z TI TO i j a b:Addr} {xs ys:Array Value} {Q:Value->Shared->Prop} (hh:A.handled=none) (Ap:ZipApart z TI TO i j a b) (Z:Zp l m s.heap z TI TO i j a b 0 xs ys .none) (ps:List (K×Value)) (hl:ps.length<=100000)
  (hp:∀ (q:Nat) p,ps[q]? = some p->∃ x,xs[q]? = some x/\knd.is p.1 x=true/\ys[q]? = some p.2) (he:xs[ps.length]? = none\/ys[ps.length]? = none)
  (k:∀ h' tk,h'.DictOf knd s.heap.objs.size (ps.foldl (fun v p=>stored v p.1 p.2) [])->(∀ c o,c≠z->c≠TO->c≠i->c≠j->s.heap.get? c=some o->h'.get? c=some o)->Q (.ref s.heap.objs.size) { s with heap:=h',toks:=tk }) :
  wpAny (model prog w) A (call (.type "dict") [.ref z]) Q E s:=by
 refine callType_codes (Q₁:=fun obj s₁=>obj=.ref s.heap.objs.size/\s₁={ s with heap:=s.heap.push { cls:=.type "dict", data:=.dict #[] } }) F.kt_called_dict (F.kt_typeCall_dict_1 _) F.entry_dict_init (kt_code_dict_new _ ⟨rfl, rfl⟩) ?_
 rintro obj s₁ ⟨rfl,rfl⟩
 have hnew:(s.heap.push { cls:=.type "dict", data:=.dict #[] }).DictOf knd s.heap.objs.size []:=Heap.DictOf.new s.heap
 have lt:∀ {c:Addr} {o:Obj},s.heap.get? c=some o->s.heap.objs.size≠c:=fun e=>Nat.ne_of_gt (Heap.lt_size e)
 have li:∀ {l:Bool} {c d:Addr} {q:Nat},gB l s.heap c d q->s.heap.objs.size≠c:=fun {l c d q} e=>by cases l <;> (obtain ⟨o,e,_⟩:=e;exact lt e)
 have ls:∀ {l:Bool} {c:Addr} {q:Array Value},dR l s.heap c q->s.heap.objs.size≠c:=fun {l c q} e=>Nat.ne_of_gt (xR e)
 obtain ⟨u,v,to⟩:=Z.to
 have O:EW s.heap.objs.size z TI TO i j a b:=⟨lt Z.z,lt Z.ti,lt to,li Z.i1,li Z.i2,ls Z.s1,ls Z.s2⟩
 have Z1:ZS l m (s.heap.push { cls:=.type "dict", data:=.dict #[] }) z TI TO i j a b 0 xs ys:=ZS.push (.inl Z) fun c o _ e=>Heap.get?_push_of_some _ e
 have gz:(s.heap.push { cls:=.type "dict", data:=.dict #[] }).get? z=some { cls:=.type "zip", dict:=none, data:=.fields #[.none, .bool false, .bool false, .ref TI, .ref TO], slots:=#[] }:=Heap.get?_push_of_some _ Z.z
 have hT:({ s with heap:=s.heap.push { cls:=.type "dict", data:=.dict #[] } }:Shared).TypeIs (.ref z) "zip":=⟨_, gz, rfl⟩
 refine ⟨hnew.typeIs,F.args_dict_init_2 _ _,?_⟩
 unfold Builtin.«dict.__init__»
 refine wpAny_bind ?_
 unfold Builtin.Dict.selfAndRest
 refine wpAny_bind (wpAny_notOrdered_dict hnew.typeIs ?_)
 show wpAny _ _ (pure (s.heap.objs.size,[Value.ref z])) _ _ _
 refine wpAny_pure ?_
 show wpAny _ _ (Builtin.Dict.updateFrom "dict.__init__" s.heap.objs.size (.ref z) [] .none) _ _ _
 unfold Builtin.Dict.updateFrom
 refine wpAny_bind (wpAny_typeOf hT ?_)
 rw [if_pos (by decide +kernel)]
 refine wpAny_bind (C6 (s:={ s with heap:=s.heap.push { cls:=.type "dict", data:=.dict #[] } }) gz hh fun h1 t1 Ms=>?_)
 rw [if_pos (show Option.isNone (none:Option Value)=true from rfl)]
 refine wpAny_bind (wpAny_rule ?_)
 have gz1:IsZip h1 z TI TO .none:=Ms _ _ gz
 refine wpAny_bind (wpAny_pyIter_zip (s:={ s with heap:=h1,toks:=t1 }) gz1 ?_)
 refine wpAny_pure ⟨Code.quiet_builtin _ (by decide +kernel),?_⟩
 have hd1:h1.DictOf knd s.heap.objs.size []:=by
  obtain ⟨o,es,ep,ho,r⟩:=hnew
  exact ⟨o,es,ep,Ms _ _ ho,r⟩
 exact uX (A:=A.in1) (R:=wants (fun r s₂=>r=Value.none/\Q (.ref s.heap.objs.size) s₂) E) (knd:=knd) Ap O hh ps 0 { s with heap:=h1,toks:=t1 } [] (Z1.push fun c o _ e=>Ms _ _ e) hd1 (by simpa using hl) (fun q p hq=>by rw [Nat.zero_add];exact hp q p hq) (by rw [Nat.zero_add];exact he) fun h' tk hd' kp'=>⟨rfl,k h' tk hd' fun c o c1 c2 c3 c4 e=>kp' c o c1 c2 c3 c4 (Ne.symm (lt e)) (Ms _ _ (Heap.get?_push_of_some _ e))⟩
end
noncomputable def tDz (K:W.Frag) (t:TA):TE:=fun σ H Q=>t σ H fun vs H1=>∃ (l m:Bool) (c d:Addr) (xs ys:List V) (ps:List (Key×V)),vs=[.ref c,.ref d]/\LR l K H1 c xs/\LR m K H1 d ys/\ps.length<=1000 /\
 (∀ (q:Nat) p,ps[q]? = some p->xs[q]? = some (kV p.1)/\ys[q]? = some p.2)/\(xs[ps.length]? = none\/ys[ps.length]? = none)/\∀ p,H1 p=none->Q (.ref p) (upd H1 p (.dK (cW [] ps)))
theorem qA:∀ (ps:List (Key×V)) {xs ys:List V} {its KA:List Value},Vals xs its->Vals ys KA->(∀ (q:Nat) p,ps[q]? = some p->xs[q]? = some (kV p.1)/\ys[q]? = some p.2) ->
  ∃ ps':List (Key×Value),KV ps ps'/\∀ (q:Nat) p,ps'[q]? = some p->∃ x,its[q]? = some x/\RelV (kV p.1) x/\KA[q]? = some p.2
 | [],_,_,_,_,_,_,_=>⟨[],.nil,fun q p h=>by simp at h⟩
 | p::ps,xs,ys,its,KA,r1,r2,h=>by
  obtain ⟨h1,h2⟩:=h 0 p rfl
  cases r1 with
  | nil=>simp at h1
  | @cons x u xs its rx r1 =>
   cases r2 with
   | nil=>simp at h2
   | @cons y w ys KA ry r2 =>
    obtain ⟨ps',k,f⟩:=qA ps r1 r2 fun q p' hq=>by simpa using h (q+1) p' (by simpa using hq)
    have e1:x=kV p.1:=by simpa using h1
    have e2:y=p.2:=by simpa using h2
    subst e1 e2
    refine ⟨(p.1,w)::ps',.cons ⟨rfl,ry⟩ k,fun q p' hq=>?_⟩
    cases q with
    | zero=>cases hq;exact ⟨u,rfl,rx,rfl⟩
    | succ q=>simpa using f q p' (by simpa using hq)
section
variable {X:Cx} {t:TA}
theorem J2 {a b:Expr} {p1 p2 q1 q2:Pos} (hc:X.calm=true) (hgd:Gl X "dict") (hmd:X.mg "dict" = none) (hgz:Gl X "zip") (hmz:X.mg "zip" = none) (ha:PA X [a, b] t) (hs:starEach [a, b] X.env=[(false, eval a X.env), (false, eval b X.env)]) (hs2:starEach [b] X.env=[(false, eval b X.env)]) :
  PE X (.Call (.Name "dict" p1) [.Call (.Name "zip" p2) [a, b] [] q2] [] q1) (tDz X.K t):=by
 intro pins s σ H Q I h
 refine wpAny_Call_Name_kw (fS I hgd hmd (show bootBuiltins ("dict" : Str)=some (.type "dict") by decide +kernel) ?_ (by decide) (by decide))
 refine PyProof.Rows.callWith_type1 ?_ rfl rfl
 show wpAny _ _ (spliced ((false, eval (.Call (.Name "zip" p2) [a, b] [] q2) X.env)::backTo q1 (starEach [] X.env))) _ _ s
 refine Calls.spliced_cons ?_
 refine wpAny_Call_Name_kw (fS I hgz hmz (show bootBuiltins ("zip" : Str)=some (.type "zip") by decide +kernel) (PyProof.Rows.callWith_type1 (bq (ha q2 pins s σ H _ I h) fun us s1 ⟨vs, H1, I1, r1, q1⟩=>?_) (by rw [hs, hs2]) (by rw [hs2];rfl)) (by decide) (by decide))
 obtain ⟨l,m,c,d,xs,ys,ps,e,s1',s2',hl,hp,he,q⟩:=q1
 subst e
 cases r1 with
 | cons r rr =>
  cases rr with
  | cons r' rr =>
   cases rr
   cases r
   cases r'
   obtain ⟨its,rv,p1⟩:=s1'.at I1
   obtain ⟨KA,rw_,p2⟩:=s2'.at I1
   have c1:=xR p1
   have c2:=xR p2
   obtain ⟨ps',kv,f⟩:=qA ps rv rw_ hp
   have hlen:ps'.length=ps.length:=kv.length.symm
   refine xu p1 p2 fun h' Z kp=>?_
   refine Calls.spliced_nil ?_
   have I2:Inv X pins σ H1 { s1 with heap:=h' }:=I1.kept (t':=s1.toks) kp
   have lv:=rv.length
   have lw:=rw_.length
   refine Dk (s:={ s1 with heap:=h' }) (knd:=aI X.prog X.w) (I2.ok.hd hc) (AM c1 c2) ⟨Z.z,Z.ti,Z.to,Z.i1,Z.i2,p1.at fun o e=>kp _ _ e,p2.at fun o e=>kp _ _ e⟩ ps' (by omega) (fun q p hq=>?_) ?_ fun h2 tk hd kp2=>?_
   ·obtain ⟨x,g1,g2,g3⟩:=f q p hq
    exact ⟨x,by simpa using g1,mF g2,by simpa using g3⟩
   ·rw [hlen]
    rcases he with he | he
    ·left;rw [List.getElem?_eq_none_iff] at he;simp;omega
    ·right;rw [List.getElem?_eq_none_iff] at he;simp;omega
   ·have hz:(cW [] ps).length<=sizeLine:=Nat.le_trans (gG ps []) (Nat.le_trans (by simpa using hl:([]:List (Key×V)).length+ps.length<=1000) (by decide))
    have old:∀ c o,s1.heap.get? c=some o->h2.get? c=some o:=fun c o e=>by
     have lt:c<s1.heap.objs.size:=Heap.lt_size e
     have lt':∀ n:Nat,c≠s1.heap.objs.size+n:=fun n=>Nat.ne_of_lt (Nat.lt_of_lt_of_le lt (Nat.le_add_right _ n))
     exact kp2 c o (lt' _) (lt' _) (lt' 0) (lt' _) (kp _ _ e)
    have I3:Inv X pins σ (upd H1 h'.objs.size (.dK (cW [] ps))) { s1 with heap:=h2,toks:=tk }:=I1.laid (a:=h'.objs.size) (o:=.dK (cW [] ps)) (t':=tk) old (by
     have:s1.heap.objs.size+4<h'.objs.size:=Heap.lt_size Z.z
     omega) (sM hz (beq_eq_false_iff_ne.mpr (Ne.symm (Nat.ne_of_lt I2.big))) (KV.merge kv .nil) hd)
    exact ⟨.ref h'.objs.size,_,I3,rfl,q _ (I1.hok.fresh (by
     have:s1.heap.objs.size+4<h'.objs.size:=Heap.lt_size Z.z
     omega))⟩
end
section
variable {B:Bd} {Φ:bF} {E:Gx} {F F' F1:Addr->Prop} {ρ ρ' ρ1:List Addr} {H H' H1:Hp} {M M':MH} {σD:Sg} {σ:L2.St} {Q:VK}
theorem xQ {d:D} {v:V} {ds:List D} (S:SR B F ρ M H) (r:RD B F ρ H d v) (h:AW M d=some ds):∃ l a vs,v=.ref a/\LR l B.K H a vs/\ai B F ρ H ds vs:=by
 unfold AW at h
 split at h
 ·rename_i xs hv
  cases h
  obtain ⟨a,vs,e,q,rr⟩:=bH S r hv
  exact ⟨true,a,vs,e,q,rr⟩
 ·rename_i xs hv
  cases h
  obtain ⟨a,vs,e,q,rr⟩:=iV S r hv
  exact ⟨false,a,vs,e,q,rr⟩
 ·cases h
theorem Am:∀ (ds es:List D) (xs ys:List V) (cD rX:List (Ky×D)) (kvs:List (Key×V)),xg cD ds es=some rX->ai B F ρ H ds xs->ai B F ρ H es ys->kvs.map (·.1)=cD.map (·.1)->ai B F ρ H (cD.map (·.2)) (kvs.map (·.2)) ->
  ∃ ps:List (Key×V),ps.length<=ds.length/\(∀ (q:Nat) p,ps[q]? = some p->xs[q]? = some (kV p.1)/\ys[q]? = some p.2)/\(xs[ps.length]? = none\/ys[ps.length]? = none)/\(cW kvs ps).map (·.1)=rX.map (·.1)/\ai B F ρ H (rX.map (·.2)) ((cW kvs ps).map (·.2))
 | [],es,xs,ys,cD,rX,kvs,h,r1,r2,e1,e2=>by
  simp only [ai] at r1
  subst r1
  simp only [xg] at h
  cases h
  exact ⟨[],Nat.le_refl _,fun q p hq=>by simp at hq,.inl rfl,e1,e2⟩
 | d::ds,[],xs,ys,cD,rX,kvs,h,r1,r2,e1,e2=>by
  simp only [ai] at r2
  subst r2
  simp only [xg] at h
  cases h
  exact ⟨[],Nat.zero_le _,fun q p hq=>by simp at hq,.inr rfl,e1,e2⟩
 | d::ds,e::es,xs,ys,cD,rX,kvs,h,r1,r2,e1,e2=>by
  simp only [ai] at r1 r2
  obtain ⟨x,xs',rfl,rx,r1⟩:=r1
  obtain ⟨y,ys',rfl,ry,r2⟩:=r2
  simp only [xg] at h
  cases hk:keyOf d with
  | none=>rw [hk] at h;cases h
  | some k =>
   rw [hk] at h
   obtain ⟨p1,p2⟩:=yr (k:=k) ry e1 e2
   obtain ⟨ps,g1,g2,g3,g4,g5⟩:=Am ds es xs' ys' _ rX (putK kvs k y) h r1 r2 p1 p2
   refine ⟨(k,y)::ps,by simp;omega,fun q p hq=>?_,by simpa using g3,g4,g5⟩
   cases q with
   | zero=>cases hq;exact ⟨by simp [nO hk rx],by simp⟩
   | succ q=>simpa using g2 q p (by simpa using hq)
theorem Fv {a b:Fg.E} (h:T B Φ E (.dz a b) σ H Q):tDz B.K (cG (T B Φ E a) (cG (T B Φ E b) iY)) σ H Q:=by
 obtain ⟨σD,M,F,ρ,S,r,h⟩:=h
 simp only [ev] at h
 refine T.two S r rfl h fun x y M2 F2 ρ2 H2 v w S2 _ rx ry h2=>?_
 split at h2
 ·rename_i ds es hx hy
  split at h2
  ·rename_i hl
   split at h2
   ·rename_i cD hz
    obtain ⟨l,c,xs,rfl,q1,rr1⟩:=xQ S2 rx hx
    obtain ⟨m,d,ys,rfl,q2,rr2⟩:=xQ S2 ry hy
    obtain ⟨ps,g1,g2,g3,g4,g5⟩:=Am ds es xs ys [] cD [] hz rr1 rr2 rfl ai.nil
    have hl':ds.length<=1000:=of_decide_eq_true hl
    refine ⟨l,m,c,d,xs,ys,ps,rfl,q1,q2,by omega,g2,g3,fun p hp=>?_⟩
    have e0:Ext F2 ρ2 H2 F2 (ρ2++[p]) (upd H2 p (.dK (cW [] ps))):=⟨⟨S2.sep,fun _ q=>q,fun a q _=>aq (by rintro rfl;exact q hp),List.prefix_append _ _,fun a q=>by
     rcases List.mem_append.mp q with q | q
     ·exact .inl q
     ·rw [List.mem_singleton.mp q];exact .inr hp,fun _ q=>.inl q⟩,fun b w u q=>by rw [aq (by rintro rfl;rw [hp] at q;cases q)];exact q⟩
    obtain ⟨S',e⟩:=S2.lv (o:=.dK (cW [] ps)) (u:=.dct cD) hp ⟨_,ay,g4,ai.mono e0 _ _ g5⟩
    refine h2 _ _ _ _ e S' ?_
    simp only [RD]
    exact ⟨p,by rw [<- S2.len];simp,rfl⟩
   ·exact h2.elim
  ·exact h2.elim
 ·exact h2.elim
end
end Fg
end
section
namespace Fg
open PySem PySem.Spec L2
structure Gm where
 fns:List (Str×Nat×Nat)
 cst:List (Str×Nat)
 jQ:List Str
 cls:List (Str×Nat×Nat×Nat):=[]
 Cm:List ((Nat×Str)×Nat×Nat):=[]
 CL:List Str:=[]
 exc:List (Str×Nat):=[]
 Dd:List (Str×Nat×Nat×Int):=[]
 rz:Bool:=true
inductive Nd where
 | e (a:Expr) (c:E)
 | t (a:Expr) (c:E)
 | es (a:List Expr) (c:Es)
 | o (a:Option Expr) (c:O)
 | i (a:Expr) (c:Src)
 | s (a:Stmt) (c:S)
 | ss (a:List Stmt) (c:Ss)
 | m (a:List Expr) (c:Es)
noncomputable def nD (x:Str):Bool:=!(x == ("__debug__" : Str))&&!(x == ("__classdict__" : Str))
noncomputable def EY (sc:Scope) (x:Str):Bool:=match sc.names.lookup x with | some .local=>true | some .cell=>true | some .free=>true | _=>false
noncomputable def Cr (sc:Scope) (x:Str):Bool:=match sc.names.lookup x with | some .local=>true | some .cell=>true | _=>false
noncomputable def fF (sc:Scope) (x:Str):Bool:=match sc.names.lookup x with | some .globalImplicit=>true | _=>false
noncomputable def bz:Expr->Bool | .Starred _ _=>false | _=>true
noncomputable def mz:Expr->Bool | .ListComp _ _ _ _=>false | .SetComp _ _ _ _=>false | .DictComp _ _ _ _ _=>false | _=>true
noncomputable def yR:Expr->Bool | .Set _ _ _=>false | _=>true
noncomputable def nSl:Expr->Bool | .Slice _ _ _ _=>false | _=>true
noncomputable def rP:Expr->Bool | .UnaryOp _ _ _=>false | .BoolOp _ _ _=>false | .IfExp _ _ _ _=>false | .Compare _ _ _ _=>false | _=>true
noncomputable def yS:Expr->Bool | .Call (.Name _ _) _ _ _=>false | _=>true
noncomputable def Dh:Const->D->Bool
 | .int i,.int j=>decide (i=j)
 | .str x,.str y=>decide (x=y)
 | .bool a,.bl b=>decide (a=b)
 | .none,.ao=>true
 | _,_=>false
noncomputable def f1S:F1->Str
 | .abs=>"abs" | .int=>"int"
noncomputable def D7:Mt->Option Str
 | .pop=>some "pop" | .reverse=>some "reverse" | _=>none
noncomputable def LK:Bl->Option Str
 | .len=>some "len" | .list=>some "list" | .dict=>some "dict" | _=>none
noncomputable def yi (scope sc:Scope):Scope :=
 { scope with names:=scope.names.map fun (n,k)=>if (k == .free&&sc.kind == .function&&sc.names.lookup n == some .cell) then (n,.cell) else (n,k) }
noncomputable def Cs (sc:Scope) (x:Str):Bool:=match sc.names.lookup x with | some .local=>true | _=>false
theorem aG {P:Prop} (h:false=true):P:=Bool.noConfusion h
@[irreducible] noncomputable def fk (a:Expr) (k:Str->Bool):Bool:=match a with | .Name x _=>k x | _=>false
theorem bQ {a:Expr} {k:Str->Bool} (h:fk a k=true):∃ x p,a=.Name x p/\k x=true:=by
 unfold fk at h
 cases a <;> first | exact ⟨_,_,rfl,h⟩ | exact aG h
@[irreducible] noncomputable def kNm (a:Expr) (k:Str->Pos->Bool):Bool:=match a with | .Name x p=>k x p | _=>false
theorem Kw {a:Expr} {k:Str->Pos->Bool} (h:kNm a k=true):∃ x p,a=.Name x p/\k x p=true:=by
 unfold kNm at h
 cases a <;> first | exact ⟨_,_,rfl,h⟩ | exact aG h
@[irreducible] noncomputable def Cy (a:Expr) (k:Const->Bool):Bool:=match a with | .Constant c _ _=>k c | _=>false
theorem zu {a:Expr} {k:Const->Bool} (h:Cy a k=true):∃ c j p,a=.Constant c j p/\k c=true:=by
 unfold Cy at h
 cases a <;> first | exact ⟨_,_,_,rfl,h⟩ | exact aG h
@[irreducible] noncomputable def zm (a:Expr) (k:List Expr->Bool):Bool:=match a with | .Tuple as _ _=>k as | _=>false
theorem kI {a:Expr} {k:List Expr->Bool} (h:zm a k=true):∃ as c p,a=.Tuple as c p/\k as=true:=by
 unfold zm at h
 cases a <;> first | exact ⟨_,_,_,rfl,h⟩ | exact aG h
@[irreducible] noncomputable def G9 (a:Expr) (k:List Expr->Bool):Bool:=match a with | .List as _=>k as | _=>false
theorem G8 {a:Expr} {k:List Expr->Bool} (h:G9 a k=true):∃ as p,a=.List as p/\k as=true:=by
 unfold G9 at h
 cases a <;> first | exact ⟨_,_,rfl,h⟩ | exact aG h
@[irreducible] noncomputable def Hr (a:Expr) (k:Expr->Operator->Expr->Bool):Bool:=match a with | .BinOp l p r _=>k l p r | _=>false
theorem Hq {a:Expr} {k:Expr->Operator->Expr->Bool} (h:Hr a k=true):∃ l o r p,a=.BinOp l o r p/\k l o r=true:=by
 unfold Hr at h
 cases a <;> first | exact ⟨_,_,_,_,rfl,h⟩ | exact aG h
@[irreducible] noncomputable def se:UnaryOp->Bool | .USub=>true | _=>false
@[irreducible] noncomputable def uE:UnaryOp->Bool | .Not=>true | _=>false
@[irreducible] noncomputable def Kv (a:Expr) (k:UnaryOp->Expr->Bool):Bool:=match a with | .UnaryOp o l _=>k o l | _=>false
theorem zk {a:Expr} {k:UnaryOp->Expr->Bool} (h:Kv a k=true):∃ o l p,a=.UnaryOp o l p/\k o l=true:=by
 unfold Kv at h
 cases a <;> first | exact ⟨_,_,_,rfl,h⟩ | exact aG h
theorem zD {o:UnaryOp} (h:se o=true):o=.USub:=by
 unfold se at h
 cases o <;> first | rfl | exact aG h
theorem uD {o:UnaryOp} (h:uE o=true):o=.Not:=by
 unfold uE at h
 cases o <;> first | rfl | exact aG h
@[irreducible] noncomputable def jy:BoolOp->Bool | .And=>true | .Or=>false
theorem uF {o:BoolOp} (h:jy o=true):o=.And:=by
 unfold jy at h
 cases o <;> first | rfl | exact aG h
theorem zE {o:BoolOp} (h:jy o=false):o=.Or:=by
 unfold jy at h
 cases o <;> first | rfl | cases h
@[irreducible] noncomputable def IU (a:Expr) (k:BoolOp->Expr->Expr->Bool):Bool:=match a with
 | .BoolOp o vs p=>(match vs with
  | v::ws=>(match ws with
   | w::r=>k o v (.BoolOp o (w::r) p)
   | []=>false)
  | []=>false)
 | _=>false
theorem uB {a:Expr} {k:BoolOp->Expr->Expr->Bool} (h:IU a k=true):∃ o v w r p,a=.BoolOp o (v::w::r) p/\k o v (.BoolOp o (w::r) p)=true:=by
 unfold IU at h
 cases a with
 | BoolOp o vs p =>
  cases vs with
  | nil=>exact aG h
  | cons v ws=>cases ws with
   | nil=>exact aG h
   | cons w r=>exact ⟨_,_,_,_,_,rfl,h⟩
 | _=>exact aG h
@[irreducible] noncomputable def uo (a:Expr) (k:Expr->Bool) (d:Bool):Bool:=match a with
 | .BoolOp _ vs _=>(match vs with
  | v::ws=>(match ws with
   | []=>k v
   | _::_=>d)
  | []=>d)
 | _=>d
theorem um {a:Expr} {k:Expr->Bool} {d:Bool} (h:uo a k d=true):(∃ o v p,a=.BoolOp o [v] p/\k v=true)\/d=true:=by
 unfold uo at h
 cases a with
 | BoolOp o vs p =>
  cases vs with
  | nil=>exact .inr h
  | cons v ws=>cases ws with
   | nil=>exact .inl ⟨_,_,_,rfl,h⟩
   | cons w r=>exact .inr h
 | _=>exact .inr h
@[irreducible] noncomputable def k1 {α:Type} (as:List α) (k:α->Bool):Bool:=match as with | l::r=>r.isEmpty&&k l | []=>false
theorem gU {α:Type} {as:List α} {k:α->Bool} (h:k1 as k=true):∃ l,as=[l]/\k l=true:=by
 unfold k1 at h
 cases as with
 | nil=>exact aG h
 | cons l r=>cases r with
  | nil=>exact ⟨_,rfl,h⟩
  | cons _ _=>exact aG h
@[irreducible] noncomputable def k2 {α:Type} (as:List α) (k:α->α->Bool):Bool:=match as with | l::r=>k1 r (k l) | []=>false
theorem wj {α:Type} {as:List α} {k:α->α->Bool} (h:k2 as k=true):∃ l r,as=[l,r]/\k l r=true:=by
 unfold k2 at h
 cases as with
 | nil=>exact aG h
 | cons l r =>
  replace h:=gU h
  obtain ⟨x,rfl,h⟩:=h
  exact ⟨_,_,rfl,h⟩
@[irreducible] noncomputable def k3 {α:Type} (as:List α) (k:α->α->α->Bool):Bool:=match as with | l::r=>k2 r (k l) | []=>false
theorem k3_t {α:Type} {as:List α} {k:α->α->α->Bool} (h:k3 as k=true):∃ l r q,as=[l,r,q]/\k l r q=true:=by
 unfold k3 at h
 cases as with
 | nil=>exact aG h
 | cons l r =>
  replace h:=wj h
  obtain ⟨u,q,rfl,h⟩:=h
  exact ⟨_,_,_,rfl,h⟩
@[irreducible] noncomputable def CA (a:Expr) (k:Expr->CmpOp->Expr->Bool):Bool:=match a with | .Compare l ps rs _=>k1 ps fun p=>k1 rs fun r=>k l p r | _=>false
theorem zv {a:Expr} {k:Expr->CmpOp->Expr->Bool} (h:CA a k=true):∃ l o r p,a=.Compare l [o] [r] p/\k l o r=true:=by
 unfold CA at h
 cases a with
 | Compare l ps rs p =>
  replace h:=gU h
  obtain ⟨o,rfl,h⟩:=h
  replace h:=gU h
  obtain ⟨r,rfl,h⟩:=h
  exact ⟨_,_,_,_,rfl,h⟩
 | _=>exact aG h
@[irreducible] noncomputable def Hi (a:Expr) (k:Expr->Expr->Expr->Bool):Bool:=match a with | .IfExp u l r _=>k u l r | _=>false
theorem Hh {a:Expr} {k:Expr->Expr->Expr->Bool} (h:Hi a k=true):∃ u l r p,a=.IfExp u l r p/\k u l r=true:=by
 unfold Hi at h
 cases a <;> first | exact ⟨_,_,_,_,rfl,h⟩ | exact aG h
@[irreducible] noncomputable def zo (a:Expr) (k:Expr->Expr->Bool):Bool:=match a with | .Subscript l r _=>k l r | _=>false
theorem rY {a:Expr} {k:Expr->Expr->Bool} (h:zo a k=true):∃ l r p,a=.Subscript l r p/\k l r=true:=by
 unfold zo at h
 cases a <;> first | exact ⟨_,_,_,rfl,h⟩ | exact aG h
@[irreducible] noncomputable def GZ (a:Expr) (k:Option Expr->Option Expr->Bool):Bool:=match a with | .Slice u v s _=>s.isNone&&k u v | _=>false
theorem GY {a:Expr} {k:Option Expr->Option Expr->Bool} (h:GZ a k=true):∃ u v p,a=.Slice u v none p/\k u v=true:=by
 unfold GZ at h
 cases a with
 | Slice u v s p=>cases s with
  | none=>exact ⟨_,_,_,rfl,h⟩
  | some _=>exact aG h
 | _=>exact aG h
@[irreducible] noncomputable def CB (a:Expr) (k:Expr->List Expr->Pos->Bool):Bool:=match a with | .Call f as kw p=>kw.isEmpty&&k f as p | _=>false
theorem zw {a:Expr} {k:Expr->List Expr->Pos->Bool} (h:CB a k=true):∃ f as p,a=.Call f as [] p/\k f as p=true:=by
 unfold CB at h
 cases a with
 | Call f as kw p=>cases kw with
  | nil=>exact ⟨_,_,_,rfl,h⟩
  | cons _ _=>exact aG h
 | _=>exact aG h
@[irreducible] noncomputable def rZ (a:Expr) (k:Str->List Expr->Bool):Bool:=CB a fun f as _=>fk f fun x=>k x as
theorem dX {a:Expr} {k:Str->List Expr->Bool} (h:rZ a k=true):∃ x q as p,a=.Call (.Name x q) as [] p/\k x as=true:=by
 unfold rZ at h
 replace h:=zw h
 obtain ⟨f,as,p,rfl,h⟩:=h
 replace h:=bQ h
 obtain ⟨x,q,rfl,h⟩:=h
 exact ⟨_,_,_,_,rfl,h⟩
@[irreducible] noncomputable def zx (a:Expr) (k:Expr->Str->Pos->Bool):Bool:=match a with | .Attribute o y p=>k o y p | _=>false
theorem r6 {a:Expr} {k:Expr->Str->Pos->Bool} (h:zx a k=true):∃ o y p,a=.Attribute o y p/\k o y p=true:=by
 unfold zx at h
 cases a <;> first | exact ⟨_,_,_,rfl,h⟩ | exact aG h
@[irreducible] noncomputable def Mv (a:Expr) (k:Expr->Str->Pos->List Expr->Pos->Bool):Bool:=CB a fun f as p=>zx f fun o y q=>k o y q as p
theorem Ec {a:Expr} {k:Expr->Str->Pos->List Expr->Pos->Bool} (h:Mv a k=true):∃ o y q as p,a=.Call (.Attribute o y q) as [] p/\k o y q as p=true:=by
 unfold Mv at h
 replace h:=zw h
 obtain ⟨f,as,p,rfl,h⟩:=h
 replace h:=r6 h
 obtain ⟨o,y,q,rfl,h⟩:=h
 exact ⟨_,_,_,_,_,rfl,h⟩
@[irreducible] noncomputable def Mu (a:Expr) (k:Expr->Expr->Expr->List Expr->Scope->Pos->Bool):Bool:=match a with
 | .ListComp el gs scope p=>k1 gs fun g=>decide (g.is_async=0)&&k el g.target g.iter g.ifs scope p
 | _=>false
theorem Eb {a:Expr} {k:Expr->Expr->Expr->List Expr->Scope->Pos->Bool} (h:Mu a k=true):∃ el tn it ifs sc p,a=.ListComp el [⟨tn,it,ifs,0⟩] sc p/\k el tn it ifs sc p=true:=by
 unfold Mu at h
 cases a with
 | ListComp el gs sc p =>
  replace h:=gU h
  obtain ⟨g,rfl,h⟩:=h
  obtain ⟨tn,it,ifs,j⟩:=g
  have h:=(Bool.and_eq_true _ _).mp h
  have e:j=0:=of_decide_eq_true h.1
  subst e
  exact ⟨_,_,_,_,_,_,rfl,h.2⟩
 | _=>exact aG h
@[irreducible] noncomputable def G7 (a:Expr) (d:Bool) (k:List Expr->Bool):Bool:=match a with
 | .Constant c _ _=>(match c with | .str _=>d | _=>false)
 | .JoinedStr vs _=>k vs
 | _=>false
theorem G6 {a:Expr} {d:Bool} {k:List Expr->Bool} (h:G7 a d k=true):(∃ x j p,a=.Constant (.str x) j p/\d=true)\/∃ vs p,a=.JoinedStr vs p/\k vs=true:=by
 unfold G7 at h
 cases a with
 | Constant c j p=>cases c with
  | str x=>exact .inl ⟨_,_,_,rfl,h⟩
  | _=>exact aG h
 | JoinedStr vs p=>exact .inr ⟨_,_,rfl,h⟩
 | _=>exact aG h
@[irreducible] noncomputable def G5 (a:Expr) (s:Str->Bool) (k:Expr->Int->Bool):Bool:=match a with
 | .Constant c _ _=>(match c with | .str y=>s y | _=>false)
 | .FormattedValue v j f _=>f.isNone&&k v j
 | _=>false
theorem G4 {a:Expr} {s:Str->Bool} {k:Expr->Int->Bool} (h:G5 a s k=true):(∃ y j p,a=.Constant (.str y) j p/\s y=true)\/∃ v j p,a=.FormattedValue v j none p/\k v j=true:=by
 unfold G5 at h
 cases a with
 | Constant c j p=>cases c with
  | str x=>exact .inl ⟨_,_,_,rfl,h⟩
  | _=>exact aG h
 | FormattedValue v j f p=>cases f with
  | none=>exact .inr ⟨_,_,_,rfl,h⟩
  | some _=>exact aG h
 | _=>exact aG h
@[irreducible] noncomputable def wg (a:Stmt) (k:Expr->Expr->Bool):Bool:=match a with | .Assign ts e _=>k1 ts fun t=>k t e | _=>false
theorem nP {a:Stmt} {k:Expr->Expr->Bool} (h:wg a k=true):∃ t e p,a=.Assign [t] e p/\k t e=true:=by
 unfold wg at h
 cases a with
 | Assign ts e p =>
  replace h:=gU h
  obtain ⟨t,rfl,h⟩:=h
  exact ⟨_,_,_,rfl,h⟩
 | _=>exact aG h
@[irreducible] noncomputable def Ho (a:Stmt) (k:Expr->Bool):Bool:=match a with | .Expr e _=>k e | _=>false
theorem Hl {a:Stmt} {k:Expr->Bool} (h:Ho a k=true):∃ e p,a=.Expr e p/\k e=true:=by
 unfold Ho at h
 cases a <;> first | exact ⟨_,_,rfl,h⟩ | exact aG h
@[irreducible] noncomputable def G1 (a:Stmt) (d:Bool) (k:Expr->Bool):Bool:=match a with
 | .Return o _=>(match o with | some e=>k e | none=>d)
 | _=>false
theorem G0 {a:Stmt} {d:Bool} {k:Expr->Bool} (h:G1 a d k=true):(∃ p,a=.Return none p/\d=true)\/∃ e p,a=.Return (some e) p/\k e=true:=by
 unfold G1 at h
 cases a with
 | Return o p=>cases o with
  | none=>exact .inl ⟨_,rfl,h⟩
  | some e=>exact .inr ⟨_,_,rfl,h⟩
 | _=>exact aG h
@[irreducible] noncomputable def Hg (a:Stmt) (k:Expr->List Stmt->List Stmt->Bool):Bool:=match a with | .If t l r _=>k t l r | _=>false
theorem Hf {a:Stmt} {k:Expr->List Stmt->List Stmt->Bool} (h:Hg a k=true):∃ t l r p,a=.If t l r p/\k t l r=true:=by
 unfold Hg at h
 cases a <;> first | exact ⟨_,_,_,_,rfl,h⟩ | exact aG h
@[irreducible] noncomputable def kFor (a:Stmt) (k:Expr->Expr->List Stmt->Bool):Bool:=match a with | .For t i b e _=>e.isEmpty&&k t i b | _=>false
theorem Hj {a:Stmt} {k:Expr->Expr->List Stmt->Bool} (h:kFor a k=true):∃ t i b p,a=.For t i b [] p/\k t i b=true:=by
 unfold kFor at h
 cases a with
 | For t i b e p=>cases e with
  | nil=>exact ⟨_,_,_,_,rfl,h⟩
  | cons _ _=>exact aG h
 | _=>exact aG h
@[irreducible] noncomputable def kWh (a:Stmt) (k:Expr->List Stmt->Bool):Bool:=match a with | .While t b e _=>e.isEmpty&&k t b | _=>false
theorem Ku {a:Stmt} {k:Expr->List Stmt->Bool} (h:kWh a k=true):∃ t b p,a=.While t b [] p/\k t b=true:=by
 unfold kWh at h
 cases a with
 | While t b e p=>cases e with
  | nil=>exact ⟨_,_,_,rfl,h⟩
  | cons _ _=>exact aG h
 | _=>exact aG h
@[irreducible] noncomputable def G3 (a:Stmt) (k:Expr->Bool):Bool:=match a with
 | .Raise o c _=>c.isNone&&(match o with | some e=>k e | none=>false)
 | _=>false
theorem G2 {a:Stmt} {k:Expr->Bool} (h:G3 a k=true):∃ e p,a=.Raise (some e) none p/\k e=true:=by
 unfold G3 at h
 cases a with
 | Raise o c p=>cases c with
  | none=>cases o with
   | none=>exact aG h
   | some e=>exact ⟨_,_,rfl,h⟩
  | some _=>exact aG h
 | _=>exact aG h
@[irreducible] noncomputable def GW (a:Stmt) (k:List Stmt->List ExceptHandler->Bool):Bool:=match a with
 | .Try bd hs e f _=>e.isEmpty&&(f.isEmpty&&(!hs.isEmpty&&k bd hs))
 | _=>false
theorem GV {a:Stmt} {k:List Stmt->List ExceptHandler->Bool} (h:GW a k=true):∃ bd h₀ hr p,a=.Try bd (h₀::hr) [] [] p/\k bd (h₀::hr)=true:=by
 unfold GW at h
 cases a with
 | Try bd hs e f p=>cases e with
  | nil=>cases f with
   | nil=>cases hs with
    | nil=>exact aG h
    | cons _ _=>exact ⟨_,_,_,_,rfl,h⟩
   | cons _ _=>exact aG h
  | cons _ _=>exact aG h
 | _=>exact aG h
@[irreducible] noncomputable def kHd (a:ExceptHandler) (k:Expr->List Stmt->Bool):Bool:=match a with
 | .ExceptHandler t n b _=>n.isNone&&(match t with | some t=>k t b | none=>false)
theorem Kz {a:ExceptHandler} {k:Expr->List Stmt->Bool} (h:kHd a k=true):∃ t b p,a=.ExceptHandler (some t) none b p/\k t b=true:=by
 unfold kHd at h
 cases a with
 | ExceptHandler t n b p=>cases n with
  | none=>cases t with
   | none=>exact aG h
   | some t=>exact ⟨_,_,_,rfl,h⟩
  | some _=>exact aG h
@[irreducible] noncomputable def mO:Es->Bool | .nil=>true | .cons _ _=>false
theorem iK {c:Es} (h:mO c=true):c=.nil:=by
 unfold mO at h
 cases c <;> first | rfl | exact aG h
@[irreducible] noncomputable def pC:Ss->Bool | .nil=>true | .cons _ _=>false
theorem nh {c:Ss} (h:pC c=true):c=.nil:=by
 unfold pC at h
 cases c <;> first | rfl | exact aG h
@[irreducible] noncomputable def zK:Hs->Bool | .nil=>true | .cons _ _ _=>false
theorem CG {c:Hs} (h:zK c=true):c=.nil:=by
 unfold zK at h
 cases c <;> first | rfl | exact aG h
@[irreducible] noncomputable def Mx (c:Es) (k:E->Es->Bool):Bool:=match c with | .cons e es=>k e es | .nil=>false
theorem zy {c:Es} {k:E->Es->Bool} (h:Mx c k=true):∃ e es,c=.cons e es/\k e es=true:=by
 unfold Mx at h
 cases c <;> first | exact ⟨_,_,rfl,h⟩ | exact aG h
@[irreducible] noncomputable def Mw (c:Ss) (k:S->Ss->Bool):Bool:=match c with | .cons e es=>k e es | .nil=>false
theorem Ed {c:Ss} {k:S->Ss->Bool} (h:Mw c k=true):∃ e es,c=.cons e es/\k e es=true:=by
 unfold Mw at h
 cases c <;> first | exact ⟨_,_,rfl,h⟩ | exact aG h
@[irreducible] noncomputable def jHs (c:Hs) (k:List Nat->Ss->Hs->Bool):Bool:=match c with | .cons a b d=>k a b d | .nil=>false
theorem KC {c:Hs} {k:List Nat->Ss->Hs->Bool} (h:jHs c k=true):∃ a b d,c=.cons a b d/\k a b d=true:=by
 unfold jHs at h
 cases c <;> first | exact ⟨_,_,_,rfl,h⟩ | exact aG h
@[irreducible] noncomputable def Hu (c:S) (k:Nat->E->Bool):Bool:=match c with | .set i e=>k i e | _=>false
theorem Ht {c:S} {k:Nat->E->Bool} (h:Hu c k=true):∃ i e,c=.set i e/\k i e=true:=by
 unfold Hu at h
 cases c <;> first | exact ⟨_,_,rfl,h⟩ | exact aG h
@[irreducible] noncomputable def jK (c:E) (k:D->Bool):Bool:=match c with | .k d=>k d | _=>false
theorem jK_t {c:E} {k:D->Bool} (h:jK c k=true):∃ d,c=.k d/\k d=true:=by
 unfold jK at h
 cases c <;> first | exact ⟨_,rfl,h⟩ | exact aG h
@[irreducible] noncomputable def zz (c:E) (k:List Nat->List Nat->E->Src->O->Bool) (d:Bool):Bool:=match c with | .comp _ caps tg elt it cond=>k caps tg elt it cond | _=>d
theorem CC {c:E} {k:List Nat->List Nat->E->Src->O->Bool} {d:Bool} (h:zz c k d=true):(∃ fz caps tg elt it cond,c=.comp fz caps tg elt it cond/\k caps tg elt it cond=true)\/d=true:=by
 unfold zz at h
 cases c <;> first | exact .inl ⟨_,_,_,_,_,_,rfl,h⟩ | exact .inr h
noncomputable def Kh (N:List Str) (sc:Scope) (i:Nat) (x:Str):Bool:=decide (N[i]? = some x)&&Cs sc x
noncomputable def Ck (N:List Str) (sc:Scope):List Expr->List Nat->Bool
 | [],[]=>true
 | a::as,i::is=>fk a (fun x=>Kh N sc i x)&&Ck N sc as is
 | _,_=>false
noncomputable def L8 (N:List Str) (sc:Scope) (t:Expr) (is:List Nat):Bool:=match is with
 | []=>false
 | i::r=>match r with
  | []=>fk t fun x=>Kh N sc i x
  | j::r=>match r with
   | []=>zm t fun as=>k2 as fun l r=>fk l fun x=>fk r fun y=>Kh N sc i x&&Kh N sc j y
   | l::r=>zm t fun as=>Ck N sc as (i::j::l::r)
noncomputable def My:Src->Bool | .zip _ _=>true | _=>false
noncomputable def isTup:Expr->Bool | .Tuple _ _ _=>true | _=>false
noncomputable def fu (N:List Str) (caps:List Nat) (tn:List Str):List Str:=(caps.map fun i=>(N[i]?).getD ("" : Str))++tn
noncomputable def nmOf:Expr->Str
 | .Name x _=>x
 | _=>""
noncomputable def cQ:Expr->List Str
 | .Name x _=>[x]
 | .Tuple as _ _=>as.map nmOf
 | _=>[]
noncomputable def Ay (N:List Str) (sc scope:Scope) (caps:List Nat) (tn:List Str):Bool :=
 (scope.names.all fun y=>match y.2 with
  | .free=>(match sc.names.lookup y.1 with | some .cell=>true | some .free=>true | _=>false)
  | .cell=>false
  | .local=>(match scope.names.lookup y.1 with | some .local=>true | _=>false)
  | _=>true)&&(scope.kind == .function) &&
 (caps.all fun i=>match N[i]? with
  | some x=>(match scope.names.lookup x with | some .free=>true | _=>false)
  | none=>false)&&decide ((fu N caps tn).Nodup)
noncomputable def xJ (sc scope:Scope) (x:Str) (px pv:Pos):Bool :=
 ((if sc.kind.isAnnotationScope then .function else sc.kind) == .function)&&sc.names.lookup x == some .local&&px.line == pv.line&&!(scope.names.any fun (n,k)=>n == x&&(k == .local||k == .cell))
noncomputable def hdB (G:Gm) (N:List Str) (sc:Scope):List ExceptHandler->Hs->Bool
 | [],hs=>zK hs
 | h::r,hs=>kHd h fun t bd=>fk t fun x=>k1 bd fun st=>wg st fun ty e=>fk ty fun y=>Cy e fun k=>jHs hs fun cs b hs=>k1 cs fun c=>Mw b fun s ss=>pC ss&&Hu s fun i v=>jK v fun d =>
  fF sc x&&nD x&&decide (G.exc.lookup x=some c)&&decide (N[i]? = some y)&&Cr sc y&&Dh k d&&hdB G N sc r hs
noncomputable abbrev Rec:=Gm->Bool->List Str->Scope->Nd->Bool
noncomputable def ifsB (ifs:List Expr) (cond:O) (k:Expr->E->Bool):Bool:=match cond with
 | .none=>ifs.isEmpty
 | .some d=>k1 ifs fun c=>k c d
noncomputable def Mq (r:Rec) (G:Gm) (b:Bool) (N:List Str) (sc:Scope) (caps tg:List Nat) (elt:E) (it:Src) (cond:O) (el tn iter:Expr) (ifs:List Expr) (scope:Scope):Bool :=
 (!My it||isTup tn)&&yR iter&&Ay N sc scope caps (cQ tn)&&r G b N sc (.i iter it) &&
  L8 (fu N caps (cQ tn)) (yi scope sc) tn tg&&r G true (fu N caps (cQ tn)) (yi scope sc) (.e el elt) &&
  ifsB ifs cond fun c d=>r G true (fu N caps (cQ tn)) (yi scope sc) (.t c d)
noncomputable def KG:Mt->Bool | .append=>true | .extend=>true | _=>false
noncomputable def Kn:Mt->Str | .append=>"append" | _=>"extend"
noncomputable def chkE (r:Rec) (G:Gm) (b:Bool) (N:List Str) (sc:Scope) (a:Expr) (c:E):Bool:=match c with
 | .bad=>true
 | .v i=>fk a fun x=>decide (N[i]? = some x)&&EY sc x&&nD x
 | .k d=>Cy a fun k=>Dh k d
 | .g i=>fk a fun x=>fF sc x&&decide (G.cst.lookup x=some i)&&nD x
 | .tup cs=>zm a fun as=>decide (as.length<=100)&&r G b N sc (.es as cs)
 | .lst _ cs=>G9 a fun as=>decide (as.length<=100)&&r G b N sc (.es as cs)
 | .op o _ x y=>Hr a fun l p q=>decide (p=binOp o)&&r G b N sc (.e l x)&&r G b N sc (.e q y)
 | .neg x=>Kv a fun o l=>se o&&r G b N sc (.e l x)
 | .not x=>Kv a fun o l=>uE o&&r G b N sc (.e l x)
 | .and x y=>IU a fun o v w=>jy o&&r G b N sc (.e v x)&&r G b N sc (.e w y)
 | .or x y=>IU a fun o v w=>!jy o&&r G b N sc (.e v x)&&r G b N sc (.e w y)
 | .cmp o x y=>CA a fun l p q=>decide (p=Az o)&&!(behindInMarks p q)&&r G b N sc (.e l x)&&r G b N sc (.e q y)
 | .AZ t x y=>Hi a fun u l q=>r G b N sc (.t u t)&&r G b N sc (.e l x)&&r G b N sc (.e q y)
 | .idx x y=>zo a fun l q=>nSl q&&r G b N sc (.e l x)&&r G b N sc (.e q y)
 | .sl _ x lo hi=>zo a fun l q=>GZ q fun u v=>r G b N sc (.e l x)&&r G b N sc (.o u lo)&&r G b N sc (.o v hi)
 | .call f cs=>rZ a fun x as=>fF sc x&&nD x&&decide (G.fns.lookup x=some (f,as.length))&&as.all bz&&r G b N sc (.es as cs)
 | .gM f cs d=>rZ a fun x as=>fF sc x&&nD x&&decide (G.Dd.lookup x=some (f,as.length+1,d))&&!as.isEmpty&&as.all bz&&r G b N sc (.es as cs)
 | .r9 x t=>rZ a fun y as=>k2 as fun l z'=>fk z' fun z=>decide (y = "isinstance")&&decide (z=Str.ofString (o6 t))&&fF sc y&&fF sc z&&G.jQ.contains y&&G.jQ.contains z&&bz l&&r G b N sc (.e l x)
 | .blt k _ cs=>rZ a fun y as=>k1 as fun l=>decide (LK k=some y)&&fF sc y&&G.jQ.contains y&&bz l&&r G b N sc (.es [l] cs)
 | .dH m _ x cs=>Mv a fun o y ap as cp=>yS o&&(ap.endLine == cp.line)&&r G b N sc (.e o x) &&
  bif KG m then decide (Kn m=y)&&k1 as fun l=>bz l&&r G b N sc (.es [l] cs)
  else decide (D7 m=some y)&&as.isEmpty&&mO cs
 | .comp _ caps tg elt it cond=>!b&&Mu a fun el tn iter ifs scope _=>Mq r G b N sc caps tg elt it cond el tn iter ifs scope
 | .fld x f=>zx a fun l y _=>decide (y=f)&&G.CL.contains f&&yS l&&r G b N sc (.e l x)
 | .dc c m nm x cs=>Mv a fun o y ap as cp=>decide (y=nm)&&yS o&&(ap.endLine == cp.line)&&decide (as.length<29)&&decide (G.Cm.lookup (c,nm)=some (m,as.length+1))&&as.all bz&&r G b N sc (.e o x)&&r G b N sc (.es as cs)
 | .new c i cs=>rZ a fun x as=>fF sc x&&nD x&&decide (G.cls.lookup x=some (c,i,as.length+1))&&as.all bz&&r G b N sc (.es as cs)
 | .mx hi x y=>rZ a fun z as=>k2 as fun l q=>decide (z=if hi then "max" else "min")&&fF sc z&&G.jQ.contains z&&bz l&&bz q&&r G b N sc (.e l x)&&r G b N sc (.e q y)
 | .iT f x=>rZ a fun y as=>k1 as fun l=>decide (f1S f=y)&&fF sc y&&G.jQ.contains y&&bz l&&r G b N sc (.e l x)
 | .dz x y=>rZ a fun z as=>k1 as fun a'=>rZ a' fun u as=>k2 as fun l q=>decide (z = "dict")&&decide (u = "zip")&&fF sc z&&fF sc u&&G.jQ.contains z&&G.jQ.contains u&&bz l&&bz q&&r G b N sc (.e l x)&&r G b N sc (.e q y)
 | _=>false
noncomputable def chkT (r:Rec) (G:Gm) (b:Bool) (N:List Str) (sc:Scope) (a:Expr) (c:E):Bool:=match c with
 | .bad=>true
 | .cmp o x y=>CA a fun l p q=>decide (p=Az o)&&!(behindInMarks p q)&&r G b N sc (.e l x)&&r G b N sc (.e q y)
 | .not x=>Kv a fun o l=>uE o&&r G b N sc (.t l x)
 | .and x y=>IU a fun o v w=>jy o&&r G b N sc (.t v x)&&r G b N sc (.t w y)
 | .or x y=>IU a fun o v w=>!jy o&&r G b N sc (.t v x)&&r G b N sc (.t w y)
 | c=>rP a&&r G b N sc (.e a c)
noncomputable def chkI (r:Rec) (G:Gm) (b:Bool) (N:List Str) (sc:Scope) (a:Expr) (c:Src):Bool:=match c with
 | .e c=>yR a&&r G b N sc (.e a c)
 | .g8 c=>rZ a fun y as=>k1 as fun l=>decide (y = "range")&&fF sc y&&G.jQ.contains y&&bz l&&r G b N sc (.e l c)
 | .fE c d=>rZ a fun y as=>k3 as fun l q u=>decide (y = "range")&&fF sc y&&G.jQ.contains y&&bz l&&bz q&&bz u&&r G b N sc (.e l c)&&r G b N sc (.e q d)&&r G b N sc (.e u (.neg (.k (.int 1))))
 | .rev c=>rZ a fun y as=>k1 as fun l=>decide (y = "reversed")&&fF sc y&&G.jQ.contains y&&bz l&&r G b N sc (.e l c)
 | _=>false
noncomputable def chkS (r:Rec) (G:Gm) (b:Bool) (N:List Str) (sc:Scope) (a:Stmt) (c:S):Bool:=match c with
 | .bad=>true
 | .set i c=>wg a fun t e=>kNm t fun x px=>!b&&decide (N[i]? = some x)&&Cr sc x&&zz c (fun caps tg elt it cond=>Mu e fun el tn iter ifs scope lp =>
    bif xJ sc scope x px lp then Mq r G b N sc caps tg elt it cond el tn iter ifs scope&&Cs sc x else r G b N sc (.e e c)) (mz e&&r G b N sc (.e e c))
 | .rA x y c=>wg a fun t e=>zo t fun o i=>mz e&&r G b N sc (.e e c)&&r G b N sc (.e o x)&&r G b N sc (.e i y)
 | .eF x f c=>wg a fun t e=>zx t fun o y _=>decide (y=f)&&G.CL.contains f&&mz e&&r G b N sc (.e e c)&&r G b N sc (.e o x)
 | .ex c=>Ho a fun e=>mz e&&r G b N sc (.e e c)
 | .ret c=>G1 a false fun e=>r G b N sc (.e e c)
 | .ifs c x y=>Hg a fun t l q=>r G b N sc (.t t c)&&r G b N sc (.ss l x)&&r G b N sc (.ss q y)
 | .for tg it x=>kFor a fun tn iter body=>!b&&(!My it||isTup tn)&&yR iter&&r G b N sc (.i iter it)&&L8 N sc tn tg&&r G b N sc (.ss body x)
 | .while c x=>kWh a fun t body=>r G b N sc (.t t c)&&r G b N sc (.ss body x)
 | .raise c es=>!b&&G.rz&&G3 a fun e=>rZ e fun x as=>k1 as fun m=>fF sc x&&nD x&&decide (G.exc.lookup x=some c) &&
   G7 m (mO es) fun vs=>decide (2<=vs.length)&&decide (vs.length<=100)&&r G b N sc (.m vs es)
 | .try x hs els=>!b&&pC els&&GW a fun bd hds=>r { G with rz:=false } b N sc (.ss bd x)&&hdB G N sc hds hs
 | _=>false
noncomputable def stp (r:Rec) (G:Gm) (b:Bool) (N:List Str) (sc:Scope) (nd:Nd):Bool:=match nd with
 | .e a c=>uo a (fun v=>r G b N sc (.e v c)) (chkE r G b N sc a c)
 | .t a c=>uo a (fun v=>r G b N sc (.t v c)) (chkT r G b N sc a c)
 | .es as cs=>(match as with
  | []=>mO cs
  | a::as=>Mx cs fun c cs=>bz a&&r G b N sc (.e a c)&&r G b N sc (.es as cs))
 | .o a c=>(match c with
  | .none=>a.isNone
  | .some c=>(match a with
   | some a=>r G b N sc (.e a c)
   | none=>false))
 | .i a c=>chkI r G b N sc a c
 | .s a c=>chkS r G b N sc a c
 | .ss as cs=>(match as with
  | []=>pC cs
  | a::as=>Mw cs fun c cs=>r G b N sc (.s a c)&&r G b N sc (.ss as cs))
 | .m as cs=>(match as with
  | []=>mO cs
  | a::as=>G5 a (fun y=>decide (y.length<=100000)&&r G b N sc (.m as cs)) fun v k=>Mx cs fun e es=>decide (k=-1)&&r G b N sc (.e v e)&&r G b N sc (.m as es))
noncomputable def Im:Nat->Rec
 | 0=>fun _ _ _ _ _=>false
 | n+1=>stp (Im n)
noncomputable abbrev gY (G:Gm) (n:Nat) (b:Bool) (N:List Str) (sc:Scope) (nd:Nd):Bool:=Im n G b N sc nd
end Fg
end
section
namespace Fg
open PySem PySem.Spec L2
section
variable {X:Cx}
theorem PE.weak {e:Expr} {t t':TE} (h:PE X e t) (w:∀ σ H Q,t' σ H Q->t σ H Q):PE X e t':=fun pins s σ H Q I q=>h pins s σ H Q I (w σ H Q q)
theorem PT.weak {e:Expr} {t t':TT} (h:PT X e t) (w:∀ σ H Q,t' σ H Q->t σ H Q):PT X e t':=fun pins s σ H Q I q=>h pins s σ H Q I (w σ H Q q)
theorem PW.weak {e:Expr} {t t':TT} (h:PW X e t) (w:∀ σ H Q,t' σ H Q->t σ H Q):PW X e t':=fun wh pins s σ H Q I q=>h wh pins s σ H Q I (w σ H Q q)
theorem PA.weak {e:List Expr} {t t':TA} (h:PA X e t) (w:∀ σ H Q,t' σ H Q->t σ H Q):PA X e t':=fun pos pins s σ H Q I q=>h pos pins s σ H Q I (w σ H Q q)
theorem PO.weak {e:Option Expr} {t t':TO} (h:PO X e t) (w:∀ σ H Q,t' σ H Q->t σ H Q):PO X e t':=fun pins s σ H Q I q=>h pins s σ H Q I (w σ H Q q)
theorem PI.weak {tg e:Expr} {t t':TI} (h:PI X tg e t) (w:∀ σ H Q,t' σ H Q->t σ H Q):PI X tg e t':=fun pins s σ H Q I q=>h pins s σ H Q I (w σ H Q q)
theorem PS.weak {e:Stmt} {t t':TS} (h:PS X e t) (w:∀ D σ H,t' D σ H->t D σ H):PS X e t':=fun pins s σ H D I q=>h pins s σ H D I (w D σ H q)
theorem j8.weak {e:List Stmt} {t t':TS} (h:j8 X e t) (w:∀ D σ H,t' D σ H->t D σ H):j8 X e t':=fun pins s σ H D I q=>h pins s σ H D I (w D σ H q)
end
theorem ak {e:Expr} {es:List Expr} {env:Env} (h:bz e=true):starEach (e::es) env=(false,eval e env)::starEach es env:=by
 cases e <;> first | rfl | (simp [bz] at h)
theorem cj {env:Env} {pos:Pos}:∀ {es:List Expr},es.all bz=true->(backTo pos (starEach es env)).any (·.1)=false
 | [],_=>rfl
 | e::es,h=>by
  simp only [List.all_cons,Bool.and_eq_true] at h
  rw [ak h.1]
  have:=cj (env:=env) (pos:=pos) h.2
  simpa [backTo] using this
theorem o9 {env:Env} {pos:Pos}:∀ {es:List Expr},es.all bz=true->(backTo pos (starEach es env)).all (fun x=>!x.1)=true
 | [],_=>rfl
 | e::es,h=>by
  simp only [List.all_cons,Bool.and_eq_true] at h
  rw [ak h.1]
  have:=o9 (env:=env) (pos:=pos) h.2
  simpa [backTo] using this
theorem mD {o:Expr} {name:Str} {apos pos:Pos} {args:List Expr} {env:Env} (hbase:attributeBase o name env (eval o env)=eval o env) (hst:args.all bz=true) (hl:args.length<29) (hline:(apos.endLine == pos.line)=true) :
  eval (.Call (.Attribute o name apos) args [] pos) env=(do
   let ov <- eval o env
   standAt apos.atName
   let (f,first) <- holding [ov] (getMethod ov name (do return (<- importBound o env).getD true))
   callWith pos f first (backTo pos (starEach args env)) (backToKw pos (keywordEach [] env))):=by
 have KR:methodCallForm (args.length+([]:List Keyword).length) (backTo pos (starEach args env)) (backToKw pos (keywordEach [] env))=true:=by
  unfold methodCallForm
  rw [o9 hst]
  simp [backToKw,keywordEach]
  omega
 have hpos:methodCallPos true o env apos pos=pure pos:=by unfold methodCallPos;simp [hline]
 rw [arm_eval_Call,hbase]
 unfold methodCall
 rw [KR]
 simp only [hpos]
 rfl
theorem set_plain {e:Expr} {env:Env} (h:yR e=true):∀ x,foldedSetIterable e env x=pure x:=by
 intro x;cases e <;> first | rfl | (simp [yR] at h)
theorem xV {e:Expr} (h:nSl e=true):vp e:=by
 intro o i;cases e <;> first | rfl | (simp [nSl] at h)
theorem iz {e:Expr} {t:Option Expr} {l:Nat} {env:Env} (h:mz e=true):swapsWith e t l env=pure false:=by
 cases e <;> first | rfl | (simp [mz] at h)
theorem vD {e:Expr} {env:Env} (h:rP e=true):∀ whole,isTrue e env whole=(do let v <- whole;standAt e.pos;holding [v] (truthy v)):=by
 intro w;cases e <;> first | rfl | (simp [rP] at h)
theorem bI {e:Expr} {n:Str} {env:Env} (h:yS e=true):attributeBase e n env (eval e env)=eval e env:=by
 cases e <;> first | rfl | (rename_i f _ _ _;cases f <;> first | rfl | (simp [yS] at h))
theorem boot_list:bootBuiltins ("list" : Str)=some (.type "list"):=by decide +kernel
theorem boot_dict:bootBuiltins ("dict" : Str)=some (.type "dict"):=by decide +kernel
theorem boot_isinstance:bootBuiltins ("isinstance" : Str)=some (.builtin "isinstance"):=by decide +kernel
theorem Dp:∀ t:Ty,bootBuiltins (Str.ofString (o6 t))=some (.type (o6 t)):=by
 intro t;cases t <;> decide +kernel
theorem DF:∀ t:Ty, Str.ofString (o6 t)≠("__name__" : Str)/\(Str.ofString (o6 t) == ("__debug__" : Str))=false:=by
 intro t;cases t <;> decide
noncomputable def jD:Es->Nat
 | .nil=>0
 | .cons _ es=>jD es+1
theorem bu {Φ:bF}:∀ {es:Es} {σ:Sg} {M:MH} {ds:List D} {M':MH},cM Φ es σ M=.ok ds M'->ds.length=jD es
 | .nil,σ,M,ds,M',h=>by simp only [cM] at h;cases h;rfl
 | .cons e es,σ,M,ds,M',h=>by
  simp only [cM] at h
  cases h1:ev Φ e σ M with
  | ok x M1 =>
   rw [h1] at h
   simp only [R.af] at h
   cases h2:cM Φ es σ M1 with
   | ok xs M2 =>
    rw [h2] at h
    simp only [R.af] at h
    cases h
    simp [jD,bu h2]
   | exc c M2=>rw [h2] at h;cases h
   | bad=>rw [h2] at h;cases h
  | exc c M1=>rw [h1] at h;cases h
  | bad=>rw [h1] at h;cases h
theorem aF {a b:Bool} (h:(a&&b)=true):a=true/\b=true:=(Bool.and_eq_true a b).mp h
theorem fh {G:Gm} {b:Bool} {N:List Str} {sc:Scope}:∀ {n:Nat} {as:List Expr} {cs:Es},gY G n b N sc (.es as cs)=true->jD cs=as.length/\as.all bz=true
 | 0,_,_,h=>by cases h
 | n+1,[],cs,h=>by
  have:=iK (c:=cs) h
  subst this
  exact ⟨rfl,rfl⟩
 | n+1,a::as,cs,h=>by
  replace h:=zy (c:=cs) h
  obtain ⟨c,cs,rfl,h⟩:=h
  replace h:=aF h
  obtain ⟨h,h3⟩:=h
  replace h:=aF h
  obtain ⟨h1,h2⟩:=h
  obtain ⟨q1,q2⟩:=fh h3
  exact ⟨congrArg (·+1) q1,by rw [List.all_cons,h1,q2];rfl⟩
inductive wZ (th:Addr->Prop):Hp->Hp->Prop
 | refl (H:Hp):wZ th H H
 | step {H H1 H2:Hp}:A2 th H H1->wZ th H1 H2->wZ th H H2
noncomputable def GX:Bool->Cx->XS->Gx
 | true,_,w=>⟨w,fun _=>False,fun cv x σ H H' t h=>by
  rcases t with rfl | ⟨_,_,_,z,_⟩
  ·exact h
  ·exact z.elim⟩
 | false,X,w=>⟨fun cv x σ H=>∃ H',wZ (DH X) H H'/\w cv x σ H',DH X,fun cv x σ H H' t ⟨H2,h1,h2⟩=>⟨H2,.step t h1,h2⟩⟩
theorem o7 {X:Cx} {pins:List (Addr×Obj)} {σ:L2.St} {H H':Hp} {s:Shared} (I:Inv X pins σ H s) (t:wZ (DH X) H H'):Inv X pins σ H' s:=by
 induction t with
 | refl=>exact I
 | step t _ ih=>exact ih (dY I t)
theorem vG {th:Addr->Prop} {H H':Hp} (t:wZ th H H') {b:Addr} (h:H' b≠none):H b≠none:=by
 induction t with
 | refl=>exact h
 | step t _ ih =>
  have:=ih h
  rcases t with rfl | ⟨a,o,kvs,_,h1,rfl⟩
  ·exact this
  ·by_cases e:b=a
   ·subst e;rw [h1];simp
   ·rw [aq e] at this;exact this
theorem qp {X:Cx} {w:XS} {e:Value} {s:Shared} (h:iU X (GX false X w).e e s):iU X w e s:=by
 obtain ⟨pins,σ,H,a,a0,C,B,h1,I,up,fJ,hp,H',t,q⟩:=h
 exact ⟨pins,σ,H',a,a0,C,B,h1,o7 I t,up,fun b hb hf=>fJ b (hb.imp (vG t) id) hf,hp,q⟩
theorem yP {X:Cx} {w:XS} {e:Value} {s:Shared} (h:EU X (GX false X w).e e s):EU X w e s:=by
 obtain ⟨pins,σ,H,a,C,vs,hh,h1,I,made,H',t,q⟩:=h
 exact ⟨pins,σ,H',a,C,vs,hh,h1,o7 I t,made,q⟩
structure fH (G:Gm) (B:Bd) (Φ:bF) (k:Nat) (X:Cx) (N:List Str) (sc:Scope) (b:Bool) (w:XS):Prop where
 hN:X.N=N
 nd:N.Nodup
 hsc:X.env.scope=sc
 K:B.K=X.K
 calm:X.calm=true
 rm:bW k X.A
 dk:lC B X
 fo:∀ e s,X.xe e s->iU X (GX b X w).e e s\/EU X (GX b X w).e e s
 fx:∀ e s,iU X (GX b X w).e e s->X.xe e s
 nx:b=false->G.rz=true->∀ e s,EU X (GX b X w).e e s->X.xe e s
 fr:qJ X
 fn:b=false->∀ x,X.fn x=true
 fns:∀ f i m,G.fns.lookup f=some (i,m)->∃ fa fd ps,X.mg f=some (.ref fa)/\W.keepIn X.K (.ref fa)=true/\Binds X.K fd ps []/\cz X.prog X.w X.K X.mg X.base (g9 X.prog X.w) k fa fd ps (xS B Φ i m)
 cst:∀ x i,G.cst.lookup x=some i->∃ v u,X.mg x=some u/\RelV v u/\∀ d,Φ.glob i=some d->∀ F ρ H,RD B F ρ H d v
 blt:∀ x,G.jQ.contains x=true->X.mg x=none
 cls:∀ c C,B.cls c=some C->w6 X.K C/\∀ f,G.CL.contains f=true->dQ X.K C f
 Cm:∀ c nm i m,G.Cm.lookup (c,nm)=some (i,m)->∃ C fa fd ps,B.cls c=some C/\Meth X.K C nm fa/\Binds X.K fd ps []/\cz X.prog X.w X.K X.mg X.base (g9 X.prog X.w) k fa fd ps (xS B Φ i m)
 Ko:∀ x c i m,G.cls.lookup x=some (c,i,m)->∃ C fa fd ps,X.mg x=some (.ref C)/\B.cls c=some C/\Mk X.K C fa/\Binds X.K fd ps [] /\
  ((∃ j,k=j+1/\cz X.prog X.w X.K X.mg X.base (g9 X.prog X.w) j fa fd ps (spI B Φ i m))\/∀ ds M,Φ.ini i ds M=.bad)
 exc:∀ x c, G.exc.lookup x=some c->∃ C bmB newId bm base initId, X.mg x=some (.ref C)/\B.L4 c=some C/\B.exc c (.ref C)/\qK X.K C bmB newId bm/\ExcBaseFacts base newId initId bmB/\bm.contains (.type "BaseException")=true
 IY:∀ c cv,B.exc c cv->∃ C bmB newId bm,cv=.ref C/\qK X.K C bmB newId bm/\∀ d D,B.L4 d=some D->(Value.ref C::bm).contains (.ref D)=Φ.sub c d
 Dd:∀ x f m d,G.Dd.lookup x=some (f,m,d)->∃ fa fd ps du,X.mg x=some (.ref fa)/\W.keepIn X.K (.ref fa)=true/\Binds X.K fd ps [du]/\RelV (.int d) du/\cz X.prog X.w X.K X.mg X.base (g9 X.prog X.w) k fa fd ps (xS B Φ f m)
 st:b=false->X.stack=X.env::X.outer/\X.env.frame=some X.env.locals
section
variable {G:Gm} {B:Bd} {Φ:bF} {k:Nat} {X:Cx} {N:List Str} {sc:Scope} {b:Bool} {w:XS}
theorem fH.rm' (O:fH G B Φ k X N sc b w):Rm X:=by have:=O.rm.un;unfold Rm;omega
theorem fH.jZ (O:fH G B Φ k X N sc b w) {x:Str} (h:fF sc x=true):Gl X x:=by
 show X.env.scope.names.lookup x=some .globalImplicit
 rw [O.hsc]
 unfold fF at h
 split at h
 ·assumption
 ·cases h
theorem fH.vis (O:fH G B Φ k X N sc b w) {x:Str} (h:EY sc x=true):M5 X.env.scope x:=by
 unfold M5
 rw [O.hsc]
 unfold EY at h
 split at h
 ·rename_i q;exact .inl q
 ·rename_i q;exact .inr (.inl q)
 ·rename_i q;exact .inr (.inr q)
 ·cases h
theorem fH.loc (O:fH G B Φ k X N sc b w) {x:Str} (h:Cr sc x=true):L2.Loc X.env.scope x:=by
 unfold L2.Loc
 rw [O.hsc]
 unfold Cr at h
 split at h
 ·rename_i q;exact .inl q
 ·rename_i q;exact .inr q
 ·cases h
theorem fj {x:Str} (h:nD x=true):(x == ("__debug__" : Str))=false/\(x == ("__classdict__" : Str))=false:=by
 simp only [nD,Bool.and_eq_true,Bool.not_eq_true'] at h;exact h
theorem fH.EO (O:fH G B Φ k X N sc b w) {scope:Scope} {N':List Str} (hn:N'.Nodup) (cl:List (Str×Addr)) (fp:List Addr) (s:Shared) (H:Hp) (C:Addr) (E:XK):fH G B Φ k (ef X scope cl N' fp s H C E) N' (yi scope sc) true (fun cv x _ H'=>E cv x H') :=
 ⟨rfl,hn,by show relabel scope X.env=yi scope sc;rw [<- O.hsc];rfl,O.K,O.calm,O.rm,O.dk,(fun e s ⟨p,σ,H,a,a0,C,B,h1,I,h⟩=>.inl ⟨p,σ,H,a,a0,C,B,h1,I.bL _,h⟩),(fun e s ⟨p,σ,H,a,a0,C,B,h1,I,h⟩=>⟨p,σ,H,a,a0,C,B,h1,I.bw,h⟩),(fun h=>by cases h),(by
  obtain ⟨env,outer,L,h1,h2,h3⟩:=O.fr
  exact ⟨env,outer,L,h1,h2,h3⟩),(fun h=>by cases h),O.fns,O.cst,O.blt,O.cls,O.Cm,O.Ko,O.exc,O.IY,O.Dd,(fun h=>by cases h)⟩
theorem fH.comp (O:fH G B Φ k X N sc b w) {scope:Scope} {caps:List Nat} {tn:List Str} {n:Nat} (h:Ay N sc scope caps tn=true) (hn:tn.length=n):g7 X scope (fu N caps tn) caps n/\(fu N caps tn).Nodup:=by
 simp only [Ay,Bool.and_eq_true,List.all_eq_true,decide_eq_true_eq] at h
 obtain ⟨⟨⟨h1,h2⟩,h3⟩,h4⟩:=h
 refine ⟨⟨fun x hx=>?_,fun y hy z=>?_,by simpa using h2,fun y hy z=>?_,by simp [fu,hn],fun i j x e1 e2=>?_⟩,h4⟩
 ·have:=h1 _ hx
  show X.env.scope.names.lookup x=some .cell\/X.env.scope.names.lookup x=some .free
  rw [O.hsc]
  simp only at this
  split at this
  ·rename_i q;exact .inl q
  ·rename_i q;exact .inr q
  ·cases this
 ·have:=h1 _ hy
  rw [z] at this
  simp at this
 ·have:=h1 _ hy
  rw [z] at this
  simp only at this
  split at this
  ·assumption
  ·cases this
 ·have hj:j∈caps:=List.mem_of_getElem? e2
  have:=h3 j hj
  have hi:i<caps.length:=(List.getElem?_eq_some_iff.mp e2).1
  unfold fu at e1
  rw [List.getElem?_append_left (by simpa using hi),List.getElem?_map,e2] at e1
  simp only [Option.map_some,Option.some.injEq] at e1
  split at this
  ·rename_i y hy
   rw [hy] at e1
   simp only [Option.getD_some] at e1
   subst e1
   rw [O.hN]
   refine ⟨hy,?_⟩
   split at this
   ·assumption
   ·cases this
  ·cases this
theorem zc {x:Str} (h:Cs sc x=true):sc.names.lookup x=some .local:=by
 unfold Cs at h
 split at h
 ·assumption
 ·cases h
theorem fH.nm (O:fH G B Φ k X N sc b w) {i:Nat} {x:Str} {p:Pos} (h:Kh N sc i x=true):PG X (.Name x p) (kM i):=by
 replace h:=aF h
 obtain ⟨h1,h2⟩:=h
 have hl:X.env.scope.names.lookup x=some .local:=by rw [O.hsc];exact zc h2
 exact BZ (by rw [O.hN];exact O.nd) (by rw [O.hN];exact of_decide_eq_true h1) (.inl hl) (.inr hl)
noncomputable def gNs:List Nat->ET
 | []=>KY
 | i::is=>El (kM i) (gNs is)
theorem zN:∀ {is:List Nat} {xs:List V} {σ:St} {H:Hp} {Q:St->Hp->Prop},xs.length=is.length->Q (i0 is xs σ) H->gNs is xs σ H Q
 | [],[],σ,H,Q,_,q=>⟨rfl,q⟩
 | [],_::_,_,_,_,h,_=>by cases h
 | _::_,[],_,_,_,h,_=>by cases h
 | i::is,x::xs,σ,H,Q,h,q=>⟨x,xs,rfl,zN (is:=is) (xs:=xs) (σ:=σ.set i (some x)) (by simpa using h) q⟩
theorem fH.nms (O:fH G B Φ k X N sc b w):∀ {as:List Expr} {is:List Nat},Ck N sc as is=true->(assignEach as X.env).length=is.length/\(assignEach as X.env).findIdx? (·.1)=none/\LU X as (gNs is)/\as.length=is.length
 | [],[],_=>⟨rfl,rfl,uf,rfl⟩
 | [],_::_,h=>by cases h
 | _::_,[],h=>by cases h
 | a::as,i::is,h=>by
  replace h:=aF h
  obtain ⟨h1,h2⟩:=h
  replace h1:=bQ h1
  obtain ⟨x,p,rfl,h1⟩:=h1
  obtain ⟨q1,q2,q3,q4⟩:=O.nms h2
  have e:assignEach (.Name x p::as) X.env=(false,assign (.Name x p) X.env)::assignEach as X.env:=rfl
  refine ⟨?_,?_,kE (O.nm (p:=p) h1) q3 (by rw [e];rfl),by rw [List.length_cons,List.length_cons,q4]⟩
  ·rw [e,List.length_cons,List.length_cons,q1]
  ·rw [e,List.findIdx?_cons,q2];rfl
theorem fH.tg (O:fH G B Φ k X N sc b w) {tn:Expr} {tg:List Nat} (h:L8 N sc tn tg=true):PG X tn (KW tg B.K)/\(cQ tn).length=tg.length:=by
 cases tg with
 | nil=>cases h
 | cons i r=>cases r with
  | nil =>
   replace h:=bQ h
   obtain ⟨x,p,rfl,h⟩:=h
   exact ⟨O.nm h,rfl⟩
  | cons j r=>cases r with
   | cons l r =>
    replace h:=kI h
    obtain ⟨as,k1,pt,rfl,h⟩:=h
    obtain ⟨q1,q2,q3,q4⟩:=O.nms h
    have p:=yw (X:=X) (pos:=pt) (k:=k1) (n:=(i::j::l::r).length) O.calm q3 q1 q2
    refine ⟨fun pins s σ H v u Q I r q=>p pins s σ H v u Q I r ?_,by rw [<- q4];exact List.length_map ..⟩
    obtain ⟨a,xs,e,sq,hl,q⟩:=q
    rw [O.K] at sq
    exact ⟨a,xs,e,sq,hl,zN hl q⟩
   | nil =>
    replace h:=kI h
    obtain ⟨as,k1,pt,rfl,h⟩:=h
    replace h:=wj h
    obtain ⟨l,r,rfl,h⟩:=h
    replace h:=bQ h
    obtain ⟨x,px,rfl,h⟩:=h
    replace h:=bQ h
    obtain ⟨y,py,rfl,h⟩:=h
    replace h:=aF h
    obtain ⟨h1,h2⟩:=h
    have p:=yw (X:=X) (pos:=pt) (k:=k1) (n:=2) O.calm (kE (O.nm (p:=px) h1) (kE (O.nm (p:=py) h2) uf))
    refine ⟨fun pins s σ H v u Q I r q=>p pins s σ H v u Q I r ?_,rfl⟩
    obtain ⟨a,x',y',e,sq,q⟩:=q
    rw [O.K] at sq
    exact ⟨a,[x',y'],e,sq,rfl,x',[y'],rfl,y',[],rfl,rfl,q⟩
end
end Fg
end
section
namespace Fg
open PySem PySem.Spec L2
section
variable {G:Gm} {B:Bd} {Φ:bF} {k:Nat}
structure A3 (G:Gm) (B:Bd) (Φ:bF) (k n:Nat) (X:Cx) (N:List Str) (sc:Scope) (b:Bool) (w:XS):Prop where
 e:∀ a c,gY G n b N sc (.e a c)=true->PE X a (T B Φ (GX b X w) c)
 t:∀ a c,gY G n b N sc (.t a c)=true->PT X a (TB B Φ (GX b X w) c)/\(∀ op v p,a=.BoolOp op v p->PW X a (TB B Φ (GX b X w) c))
 es:∀ a c,gY G n b N sc (.es a c)=true->PA X a (TL B Φ (GX b X w) c)
 o:∀ a c,gY G n b N sc (.o a c)=true->PO X a (TP B Φ (GX b X w) c)
 i:b=false->∀ a c tg,(!My c||isTup tg)=true->gY G n b N sc (.i a c)=true->PI X tg a (Dt B Φ (GX b X w) c)
 s:∀ a c,gY G n b N sc (.s a c)=true->PS X a (TC B Φ (GX b X w) c)
 ss:∀ a c,gY G n b N sc (.ss a c)=true->j8 X a (xj B Φ (GX b X w) c)
 m:∀ a c,gY G n b N sc (.m a c)=true->PJ X B Φ (GX b X w) a c
theorem AQ {E:Gx} {σ:L2.St} {H:Hp} {Q:VK} (h:T B Φ E .bad σ H Q):False:=by
 obtain ⟨σD,M,F,ρ,S,r,h⟩:=h
 simp only [ev] at h
 exact h
theorem IG {E:Gx} {Dn:Ends} {σ:L2.St} {H:Hp} (h:TC B Φ E .bad Dn σ H):False:=by
 obtain ⟨σD,M,F,ρ,S,r,h⟩:=h
 simp only [ex] at h
 exact h
variable {X:Cx} {N:List Str} {sc:Scope} {b:Bool} {n:Nat} {w:XS}
theorem tM {a:Const} {d:D} {j:Nat} {p:Pos} {E:Gx} (h:Dh a d=true):PE X (.Constant a j p) (T B Φ E (.k d)):=by
 unfold Dh at h
 split at h
 ·rw [of_decide_eq_true h];exact PE.weak Ge fun _ _ _=>tQ rfl
 ·rw [of_decide_eq_true h];exact PE.weak rK fun _ _ _=>tQ rfl
 ·rw [of_decide_eq_true h];exact PE.weak J3 fun _ _ _=>tQ rfl
 ·exact PE.weak Ga fun _ _ _=>tQ rfl
 ·cases h
theorem uu:∀ {as:List Expr} {is:List Nat},Ck N sc as is=true->as.length=is.length
 | [],[],_=>rfl
 | [],_::_,h=>by cases h
 | _::_,[],h=>by cases h
 | a::as,i::is,h=>by rw [List.length_cons,List.length_cons,uu (aF h).2]
theorem E2 {tn:Expr} {tg:List Nat} (h:L8 N sc tn tg=true):(cQ tn).length=tg.length:=by
 cases tg with
 | nil=>cases h
 | cons i r=>cases r with
  | nil=>replace h:=bQ h;obtain ⟨x,p,rfl,h⟩:=h;rfl
  | cons j r=>cases r with
   | cons l r =>
    replace h:=kI h
    obtain ⟨as,k1,pt,rfl,h⟩:=h
    exact (List.length_map ..).trans (uu h)
   | nil =>
    replace h:=kI h
    obtain ⟨as,k1,pt,rfl,h⟩:=h
    replace h:=wj h
    obtain ⟨l,r,rfl,h⟩:=h
    rfl
theorem pD (O:fH G B Φ k X N sc false w) (ih:A3 G B Φ k n X N sc false w) (HB:∀ X' N' sc' w',fH G B Φ k X' N' sc' true w'->A3 G B Φ k n X' N' sc' true w') {caps tg:List Nat} {elt:Fg.E} {it:Src} {cond:Fg.O} {el tn iter:Expr} {ifs:List Expr} {scope:Scope}
  (h:Mq (Im n) G false N sc caps tg elt it cond el tn iter ifs scope=true) :
  g7 X scope (fu N caps (cQ tn)) caps tg.length/\PI X tn iter (Dt B Φ (GX false X w) it) /\
   (∀ σ cl fp s H C,PG (ef X scope cl (fu N caps (cQ tn)) fp s H C fun cv x H'=>(GX false X w).e cv x σ H') tn (KW tg B.K)/\Jb (ef X scope cl (fu N caps (cQ tn)) fp s H C fun cv x H'=>(GX false X w).e cv x σ H') ifs (TBo B Φ (EB (GX false X w) σ) cond)/\PE (ef X scope cl (fu N caps (cQ tn)) fp s H C fun cv x H'=>(GX false X w).e cv x σ H') el (T B Φ (EB (GX false X w) σ) elt))/\∀ x,foldedSetIterable iter X.env x=pure x:=by
 simp only [Mq,Bool.and_eq_true] at h
 obtain ⟨⟨⟨⟨⟨⟨h0,h1⟩,h2⟩,h3⟩,h4⟩,h5⟩,h6⟩:=h
 have hlen:(cQ tn).length=tg.length:=E2 h4
 obtain ⟨C1,C2⟩:=O.comp h2 hlen
 refine ⟨C1,ih.i rfl iter it tn h0 h3,fun σ cl fp s H C=>?_,set_plain h1⟩
 have OB:=O.EO (scope:=scope) C2 cl fp s H C fun cv x H'=>(GX false X w).e cv x σ H'
 have S:=HB _ _ _ _ OB
 refine ⟨(OB.tg h4).1,?_,S.e el elt h5⟩
 cases cond with
 | none=>cases ifs with
  | nil=>exact BQ
  | cons _ _=>cases h6
 | some d =>
  replace h6:=gU h6
  obtain ⟨c,rfl,h6⟩:=h6
  exact BP (S.t c d h6).1
theorem JD (O:fH G B Φ k X N sc b w) (ih:A3 G B Φ k n X N sc b w) (HB:∀ X' N' sc' w',fH G B Φ k X' N' sc' true w'->A3 G B Φ k n X' N' sc' true w') (a:Expr) (c:Fg.E) (h:gY G (n+1) b N sc (.e a c)=true):PE X a (T B Φ (GX b X w) c):=by
 replace h:=um h
 rcases h with ⟨o,v,p,rfl,h⟩ | h
 ·exact F8 (ih.e _ _ h)
 ·cases c with
  | bad=>exact fun _ _ _ _ _ _ q=>(AQ q).elim
  | v i =>
   replace h:=bQ h
   obtain ⟨x,p,rfl,h⟩:=h
   simp only [Bool.and_eq_true,decide_eq_true_eq] at h
   exact PE.weak (F6 (by rw [O.hN];exact h.1.1) (O.vis h.1.2) (fj h.2).1 (fj h.2).2) fun _ _ _=>JE
  | k d =>
   replace h:=zu h
   obtain ⟨x,j,p,rfl,h⟩:=h
   exact tM h
  | g i =>
   replace h:=bQ h
   obtain ⟨x,p,rfl,h⟩:=h
   simp only [Bool.and_eq_true,decide_eq_true_eq] at h
   obtain ⟨v,u,q1,q2,q3⟩:=O.cst _ _ h.1.2
   exact PE.weak (B3 (O.jZ h.1.1) q1 q2 (fj h.2).1) fun _ _ _=>JF q3
  | tup cs =>
   replace h:=kI h
   obtain ⟨as,j,p,rfl,h⟩:=h
   simp only [Bool.and_eq_true,decide_eq_true_eq] at h
   obtain ⟨hl,_⟩:=fh h.2
   refine PE.weak (F7 (ih.es _ _ h.2)) fun _ _ _=>Bm fun q=>?_
   rw [bu q,hl];exact Nat.le_trans h.1 (by decide)
  | lst fz cs =>
   replace h:=G8 h
   obtain ⟨as,p,rfl,h⟩:=h
   simp only [Bool.and_eq_true,decide_eq_true_eq] at h
   obtain ⟨hl,_⟩:=fh h.2
   refine PE.weak (Gd (ih.es _ _ h.2)) fun _ _ _=>Bw fun q=>?_
   rw [bu q,hl];exact Nat.le_trans h.1 (by decide)
  | Df=>cases h
  | op o fz x y =>
   replace h:=Hq h
   obtain ⟨l,p,q,pos,rfl,h⟩:=h
   simp only [Bool.and_eq_true,decide_eq_true_eq] at h
   obtain ⟨⟨h1,h2⟩,h3⟩:=h
   subst h1
   exact PE.weak (J0 (GB O.K o) (ih.e _ _ h2) (ih.e _ _ h3)) fun _ _ _=>Fl
  | neg x =>
   replace h:=zk h
   obtain ⟨o,l,p,rfl,h⟩:=h
   replace h:=aF h
   obtain ⟨ho,h⟩:=h
   cases zD ho
   exact PE.weak (JY E0 (ih.e _ _ h)) fun _ _ _=>Bt
  | not x =>
   replace h:=zk h
   obtain ⟨o,l,p,rfl,h⟩:=h
   replace h:=aF h
   obtain ⟨ho,h⟩:=h
   cases uD ho
   exact PE.weak (F9 (ih.e _ _ h)) fun _ _ _=>tO
  | and x y =>
   replace h:=uB h
   obtain ⟨o,v,w,r,p,rfl,h⟩:=h
   replace h:=aF h
   obtain ⟨h,h3⟩:=h
   replace h:=aF h
   obtain ⟨h1,h2⟩:=h
   cases uF h1
   replace h:=And.intro h2 h3
   exact PE.weak (Gg (ih.e _ _ h.1) (ih.e _ _ h.2)) fun _ _ _=>tU
  | or x y =>
   replace h:=uB h
   obtain ⟨o,v,w,r,p,rfl,h⟩:=h
   replace h:=aF h
   obtain ⟨h,h3⟩:=h
   replace h:=aF h
   obtain ⟨h1,h2⟩:=h
   cases zE (by simpa using h1)
   replace h:=And.intro h2 h3
   exact PE.weak (JZ (ih.e _ _ h.1) (ih.e _ _ h.2)) fun _ _ _=>x6
  | cmp o x y =>
   replace h:=zv h
   obtain ⟨l,p,q,pos,rfl,h⟩:=h
   simp only [Bool.and_eq_true,decide_eq_true_eq,Bool.not_eq_true'] at h
   obtain ⟨⟨⟨h1,h2⟩,h3⟩,h4⟩:=h
   subst h1
   exact PE.weak (B5 (yH O.K O.rm' O.dk o) (ih.e _ _ h3) (ih.e _ _ h4) h2) fun _ _ _=>tT
  | AZ t x y =>
   replace h:=Hh h
   obtain ⟨u,l,q,pos,rfl,h⟩:=h
   simp only [Bool.and_eq_true] at h
   exact PE.weak (yD (ih.t _ _ h.1.1).1 (ih.e _ _ h.1.2) (ih.e _ _ h.2)) fun _ _ _=>BA
  | idx x y =>
   replace h:=rY h
   obtain ⟨l,q,pos,rfl,h⟩:=h
   simp only [Bool.and_eq_true] at h
   exact PE.weak (J1 (Hy O.K O.dk) (ih.e _ _ h.1.2) (ih.e _ _ h.2) (xV h.1.1)) fun _ _ _=>BB
  | sl fz x lo hi =>
   replace h:=rY h
   obtain ⟨l,q,pos,rfl,h⟩:=h
   replace h:=GY h
   obtain ⟨u,v,sp,rfl,h⟩:=h
   simp only [Bool.and_eq_true] at h
   exact PE.weak (yx (Ff O.K) (ih.e _ _ h.1.1) (ih.o _ _ h.1.2) (ih.o _ _ h.2)) fun _ _ _=>Fj
  | call f cs =>
   replace h:=dX h
   obtain ⟨x,p,as,pos,rfl,h⟩:=h
   simp only [Bool.and_eq_true,decide_eq_true_eq] at h
   obtain ⟨⟨⟨⟨h1,h2⟩,h3⟩,h4⟩,h5⟩:=h
   obtain ⟨fa,fd,ps,q1,q2,q3,q4⟩:=O.fns _ _ _ h3
   obtain ⟨hl,_⟩:=fh h5
   cases as with
   | nil =>
    refine PE.weak (vW q4 O.rm (O.jZ h1) q1 q2 q3 O.fx (fj h2).1) fun _ _ _ q=>?_
    have:=pL (fun z=>by rw [bu z,hl]) q
    cases cs with
    | nil=>exact ig this
    | cons _ _=>simp [jD] at hl
   | cons e es =>
    simp only [List.all_cons,Bool.and_eq_true] at h4
    exact PE.weak (yE q4 O.rm (O.jZ h1) q1 q2 q3 O.fx (ih.es _ _ h5) (fj h2).1 (ak h4.1) (cj h4.2)) fun _ _ _=>pL (fun z=>by rw [bu z,hl])
  | gM f cs d =>
   replace h:=dX h
   obtain ⟨x,p,as,pos,rfl,h⟩:=h
   simp only [Bool.and_eq_true,decide_eq_true_eq] at h
   obtain ⟨⟨⟨⟨⟨h1,h2⟩,h3⟩,h6⟩,h4⟩,h5⟩:=h
   obtain ⟨fa,fd,ps,du,q1,q2,q3,q5,q4⟩:=O.Dd _ _ _ _ h3
   obtain ⟨hl,_⟩:=fh h5
   cases as with
   | nil=>cases h6
   | cons e es =>
    simp only [List.all_cons,Bool.and_eq_true] at h4
    exact PE.weak (yF q4 O.rm (O.jZ h1) q1 q2 q3 q5 O.fx (ih.es _ _ h5) (fj h2).1 (ak h4.1) (cj h4.2)) fun _ _ _=>vI (fun z=>by rw [bu z,hl])
  | r9 x t =>
   replace h:=dX h
   obtain ⟨y,p,as,pos,rfl,h⟩:=h
   replace h:=wj h
   obtain ⟨l,z0,rfl,h⟩:=h
   replace h:=bQ h
   obtain ⟨z,zp,rfl,h⟩:=h
   simp only [Bool.and_eq_true,decide_eq_true_eq] at h
   obtain ⟨⟨⟨⟨⟨⟨⟨h1,h2⟩,h3⟩,h4⟩,h5⟩,h6⟩,h7⟩,h8⟩:=h
   subst h1 h2
   refine PE.weak (fP (AB O.K O.dk) (O.jZ h3) (O.blt _ h5) boot_isinstance (aV (ih.e _ _ h8) (aV (B6 (v:=.ty (o6 t)) (O.jZ h4) (O.blt _ h6) (Dp t) rfl (DF t).1 (DF t).2) dG) (ak h7)) (by decide) (by decide) (ak h7)) fun _ _ _=>Bx
  | blt kd fz cs =>
   replace h:=dX h
   obtain ⟨y,p,as,pos,rfl,h⟩:=h
   replace h:=gU h
   obtain ⟨l,rfl,h⟩:=h
   simp only [Bool.and_eq_true,decide_eq_true_eq] at h
   obtain ⟨⟨⟨⟨h1,h2⟩,h3⟩,h4⟩,h5⟩:=h
   have pa:=ih.es _ _ h5
   cases kd <;> simp only [LK] at h1 <;> first | (cases h1;done) | cases h1
   ·exact PE.weak (fP (wN O.K O.dk) (O.jZ h2) (O.blt _ h3) PySem.boot_len pa (by decide) (by decide) (ak h4)) fun _ _ _=>nq
   ·exact PE.weak (i8 (wM O.K) (O.jZ h2) (O.blt _ h3) boot_list pa (by decide) (by decide) (ak h4)) fun _ _ _=>nq
   ·exact PE.weak (i8 (wQ O.dk) (O.jZ h2) (O.blt _ h3) boot_dict pa (by decide) (by decide) (ak h4)) fun _ _ _=>nq
  | dH m fz x cs =>
   replace h:=Ec h
   obtain ⟨o,y,ap,as,cp,rfl,h⟩:=h
   simp only [Bool.and_eq_true] at h
   obtain ⟨⟨⟨h2,h4⟩,h5⟩,h⟩:=h
   cases hm:KG m with
   | true =>
    rw [hm] at h
    replace h:=aF h
    obtain ⟨h1,h⟩:=h
    replace h:=gU h
    obtain ⟨l,rfl,h⟩:=h
    replace h:=aF h
    obtain ⟨h3,h6⟩:=h
    cases m <;> first | (cases hm;done) | skip
    all_goals cases of_decide_eq_true h1
    ·refine PE.weak (D4 PySem.F.plainAttrs_list PySem.F.slot_list_append PySem.F.type_list_append mC (ih.e _ _ h5) (ih.es _ _ h6) (bI h2) ?_ h4 (ak h3)) fun _ _ _ q=>?_
     ·rw [ak h3];rfl
     ·have:=rj q
      rw [O.K] at this
      exact this
    ·refine PE.weak (D4 PySem.F.plainAttrs_list PySem.F.slot_list_extend PySem.F.type_list_extend Cn (ih.e _ _ h5) (ih.es _ _ h6) (bI h2) ?_ h4 (ak h3)) fun _ _ _ q=>?_
     ·rw [ak h3];rfl
     ·have:=qZ q
      rw [O.K] at this
      exact this
   | false =>
    rw [hm] at h
    replace h:=aF h
    obtain ⟨h,h7⟩:=h
    replace h:=aF h
    obtain ⟨h1,h6⟩:=h
    cases List.isEmpty_iff.mp h6
    cases iK h7
    replace h1:=of_decide_eq_true h1
    cases m <;> simp only [D7] at h1 <;> first | (cases h1;done) | cases h1
    ·refine PE.weak (yG PySem.F.plainAttrs_list PySem.F.slot_list_pop PySem.F.type_list_pop GI (ih.e _ _ h5) (bI h2) h4) fun _ _ _ q=>?_
     have:=Bs q
     rw [O.K] at this
     exact this
    ·refine PE.weak (yG PySem.F.plainAttrs_list PySem.F.slot_list_reverse PySem.F.type_list_reverse rQ (ih.e _ _ h5) (bI h2) h4) fun _ _ _ q=>?_
     have:=pH q
     rw [O.K] at this
     exact this
  | comp fz caps tg elt it cond =>
   replace h:=aF h
   obtain ⟨h0,h⟩:=h
   cases b with
   | true=>cases h0
   | false =>
    replace h:=Eb h
    obtain ⟨el,tn,iter,ifs,scope,p,rfl,h⟩:=h
    obtain ⟨C1,C2,C3,C4⟩:=pD O ih HB h
    exact PE.weak (B0 (B4 O.calm C1 C2 O.fr O.fx C3 C4)) fun _ _ _=>pK
  | chain _ _ _ _ _=>cases h
  | tru _=>cases h
  | fld x f =>
   replace h:=r6 h
   obtain ⟨l,y,p,rfl,h⟩:=h
   simp only [Bool.and_eq_true,decide_eq_true_eq] at h
   obtain ⟨⟨⟨h1,h2⟩,h3⟩,h4⟩:=h
   subst h1
   exact PE.weak (Gf (ih.e _ _ h4) (bI h3)) fun _ _ _=>BD fun c C hc=>⟨(O.cls c C hc).1,(O.cls c C hc).2 _ h2⟩
  | dc c m nm x cs =>
   replace h:=Ec h
   obtain ⟨o,y,ap,as,cp,rfl,h⟩:=h
   simp only [Bool.and_eq_true,decide_eq_true_eq] at h
   obtain ⟨⟨⟨⟨⟨⟨⟨h1,h2⟩,h3⟩,h4⟩,h5⟩,h6⟩,h7⟩,h8⟩:=h
   subst h1
   obtain ⟨C,fa,fd,ps,q1,q2,q3,q4⟩:=O.Cm _ _ _ _ h5
   obtain ⟨hl,_⟩:=fh h8
   cases as with
   | nil =>
    refine PE.weak (vU (ih.e _ _ h7) (O.cls _ _ q1).1 q2 q4 O.rm q3 O.fx (mD (bI h2) h6 h4 h3)) fun _ _ _ q=>?_
    have:=tN (n:=1) q1 (fun z=>by rw [bu z,hl];rfl) q
    cases cs with
    | nil =>
     obtain ⟨σD,M,F,ρ,S,r,z⟩:=this
     exact ⟨σD,M,F,ρ,S,r,ah.imp z fun v H' ⟨a,dx,fs,z1,z2,z3,z4⟩=>⟨a,dx,fs,z1,z2,z3,ig z4⟩⟩
    | cons _ _=>simp [jD] at hl
   | cons e es =>
    simp only [List.all_cons,Bool.and_eq_true] at h6
    exact PE.weak (yy (ih.e _ _ h7) (O.cls _ _ q1).1 q2 q4 O.rm q3 O.fx (ih.es _ _ h8) (ak h6.1) (cj h6.2) (mD (bI h2) (by simp [h6.1,h6.2]) h4 h3)) fun _ _ _=>tN q1 (fun z=>by rw [bu z,hl])
  | new c i cs =>
   replace h:=dX h
   obtain ⟨x,p,as,pos,rfl,h⟩:=h
   simp only [Bool.and_eq_true,decide_eq_true_eq] at h
   obtain ⟨⟨⟨⟨h1,h2⟩,h3⟩,h4⟩,h5⟩:=h
   obtain ⟨C,fa,fd,ps,q1,q2,q3,q4,q5⟩:=O.Ko _ _ _ _ h3
   obtain ⟨hl,_⟩:=fh h5
   rcases q5 with ⟨j,rfl,q5⟩ | q5
   ·cases as with
    | nil =>
     refine PE.weak (vV q3 q5 O.rm (O.jZ h1) q1 q4 O.fx (fj h2).1) fun _ _ _ q=>?_
     have:=tP (n:=1) q2 (fun z=>by rw [bu z,hl];rfl) q
     cases cs with
     | nil=>exact ig this
     | cons _ _=>simp [jD] at hl
    | cons e es =>
     simp only [List.all_cons,Bool.and_eq_true] at h4
     exact PE.weak (yC q3 q5 O.rm (O.jZ h1) q1 q4 O.fx (ih.es _ _ h5) (fj h2).1 (ak h4.1) (cj h4.2)) fun _ _ _=>tP q2 (fun z=>by rw [bu z,hl])
   ·cases as with
    | nil =>
     intro pins s σ H Q I q
     have:=pI q5 q
     cases cs with
     | nil=>exact (ig this).elim
     | cons _ _=>simp [jD] at hl
    | cons e es =>
     simp only [List.all_cons,Bool.and_eq_true] at h4
     exact PE.weak (yz q3 (O.jZ h1) q1 (ih.es _ _ h5) (fj h2).1 (ak h4.1) (cj h4.2)) fun _ _ _=>pI q5
  | mx hi x y =>
   replace h:=dX h
   obtain ⟨z,p,as,pos,rfl,h⟩:=h
   replace h:=wj h
   obtain ⟨l,q,rfl,h⟩:=h
   simp only [Bool.and_eq_true,decide_eq_true_eq] at h
   obtain ⟨⟨⟨⟨⟨⟨h1,h2⟩,h3⟩,h4⟩,h5⟩,h6⟩,h7⟩:=h
   have pa:=aV (ih.e _ _ h6) (aV (ih.e _ _ h7) dG (ak h5)) (ak h4)
   cases hi with
   | true =>
    subst h1
    exact PE.weak (fP (wL O.calm) (O.jZ h2) (O.blt _ h3) PyProof.Rows.boot_max pa (by decide) (by decide) (ak h4) (cj (es:=[_]) (by simp [h5]))) fun _ _ _=>Bv
   | false =>
    subst h1
    exact PE.weak (fP (wK O.calm) (O.jZ h2) (O.blt _ h3) PyProof.Rows.boot_min pa (by decide) (by decide) (ak h4) (cj (es:=[_]) (by simp [h5]))) fun _ _ _=>Bu
  | iT f x =>
   replace h:=dX h
   obtain ⟨y,p,as,pos,rfl,h⟩:=h
   replace h:=gU h
   obtain ⟨l,rfl,h⟩:=h
   simp only [Bool.and_eq_true,decide_eq_true_eq] at h
   obtain ⟨⟨⟨⟨h1,h2⟩,h3⟩,h4⟩,h5⟩:=h
   subst h1
   have pa:=aV (ih.e _ _ h5) dG (ak h4)
   cases f
   ·exact PE.weak (fP wR (O.jZ h2) (O.blt _ h3) PyProof.Rows.boot_abs pa (by decide) (by decide) (ak h4)) fun _ _ _=>tR
   ·exact PE.weak (i8 wO (O.jZ h2) (O.blt _ h3) (show bootBuiltins ("int" : Str)=some (.type "int") by decide +kernel) pa (by decide) (by decide) (ak h4)) fun _ _ _=>tR
  | all1 x=>cases h
  | Mp fz x=>cases h
  | rv fz x=>cases h
  | Mn fz x y=>cases h
  | dz x y =>
   replace h:=dX h
   obtain ⟨z,p,as,pos,rfl,h⟩:=h
   replace h:=gU h
   obtain ⟨a1,rfl,h⟩:=h
   replace h:=dX h
   obtain ⟨u,p2,as2,pos2,rfl,h⟩:=h
   replace h:=wj h
   obtain ⟨l,q,rfl,h⟩:=h
   simp only [Bool.and_eq_true,decide_eq_true_eq] at h
   obtain ⟨⟨⟨⟨⟨⟨⟨⟨⟨h1,h2⟩,h3⟩,h4⟩,h5⟩,h6⟩,h7⟩,h8⟩,h9⟩,w9⟩:=h
   subst h1 h2
   have pa:=aV (ih.e _ _ h9) (aV (ih.e _ _ w9) dG (ak h8)) (ak h7)
   refine PE.weak (J2 O.calm (O.jZ h3) (O.blt _ h5) (O.jZ h4) (O.blt _ h6) pa (by rw [ak h7,ak h8];rfl) (by rw [ak h8];rfl)) fun _ _ _ q=>?_
   have:=Fv q
   rw [O.K] at this
   exact this
end
end Fg
end
section
namespace Fg
open PySem PySem.Spec L2
section
variable {G:Gm} {B:Bd} {Φ:bF} {k:Nat} {X:Cx} {N:List Str} {sc:Scope} {b:Bool} {n:Nat} {w:XS}
theorem JA (O:fH G B Φ k X N sc b w) (ih:A3 G B Φ k n X N sc b w) (a:Expr) (c:Fg.E) (h:gY G (n+1) b N sc (.t a c)=true) :
  PT X a (TB B Φ (GX b X w) c)/\(∀ op v p,a=.BoolOp op v p->PW X a (TB B Φ (GX b X w) c)):=by
 replace h:=um h
 rcases h with ⟨op,v,p,rfl,h⟩ | h
 ·have pt:=(ih.t _ _ h).1
  have pw:PW X (.BoolOp op [v] p) (TB B Φ (GX b X w) c):=by
   cases op
   ·exact pw_and1 pt
   ·exact pw_or1 pt
  exact ⟨pw.pt,fun _ _ _ _=>pw⟩
 ·have notB:∀ {P:Prop},rP a=true->(∀ op v p,a=.BoolOp op v p->P):=fun hq op v p e=>by subst e;simp [rP] at hq
  have plain:rP a=true->gY G n b N sc (.e a c)=true->PT X a (TB B Φ (GX b X w) c)/\(∀ op v p,a=.BoolOp op v p->PW X a (TB B Φ (GX b X w) c)):=fun h1 h2 =>
   ⟨FO (ih.e _ _ h2) (vD h1),notB h1⟩
  have iy:(rP a&&gY G n b N sc (.e a c))=true->PT X a (TB B Φ (GX b X w) c)/\(∀ op v p,a=.BoolOp op v p->PW X a (TB B Φ (GX b X w) c)):=fun hq=>by
   simp only [Bool.and_eq_true] at hq;exact plain hq.1 hq.2
  cases c with
  | bad=>exact ⟨fun _ _ _ _ _ _ q=>(AQ q).elim,fun _ _ _ _ _ _ _ _ _ _ _ q=>(AQ q).elim⟩
  | cmp o x y =>
   replace h:=zv h
   obtain ⟨l,p,q,pos,rfl,h⟩:=h
   ·simp only [Bool.and_eq_true,decide_eq_true_eq,Bool.not_eq_true'] at h
    obtain ⟨⟨⟨h1,h2⟩,h3⟩,h4⟩:=h
    subst h1
    exact ⟨PT.weak (BR (yH O.K O.rm' O.dk o) (ih.e _ _ h3) (ih.e _ _ h4) h2) fun _ _ _=>tT,fun _ _ _ e=>by cases e⟩
  | not x =>
   replace h:=zk h
   obtain ⟨o,l,p,rfl,h⟩:=h
   replace h:=aF h
   obtain ⟨ho,h⟩:=h
   cases uD ho
   exact ⟨PT.weak (FP (ih.t _ _ h).1) fun _ _ _=>x9,fun _ _ _ e=>by cases e⟩
  | and x y =>
   replace h:=uB h
   obtain ⟨o,v,w',r,p,rfl,h⟩:=h
   replace h:=aF h
   obtain ⟨h,h3⟩:=h
   replace h:=aF h
   obtain ⟨h1,h2⟩:=h
   cases uF h1
   have pw:=PW.weak (pw_and (ih.t _ _ h2).1 ((ih.t _ _ h3).2 _ _ _ rfl)) fun _ _ _=>yc
   exact ⟨pw.pt,fun _ _ _ _=>pw⟩
  | or x y =>
   replace h:=uB h
   obtain ⟨o,v,w',r,p,rfl,h⟩:=h
   replace h:=aF h
   obtain ⟨h,h3⟩:=h
   replace h:=aF h
   obtain ⟨h1,h2⟩:=h
   cases zE (by simpa using h1)
   have pw:=PW.weak (pw_or (ih.t _ _ h2).1 ((ih.t _ _ h3).2 _ _ _ rfl)) fun _ _ _=>BE
   exact ⟨pw.pt,fun _ _ _ _=>pw⟩
  | v i=>exact iy h
  | k d=>exact iy h
  | g i=>exact iy h
  | tup cs=>exact iy h
  | lst fz cs=>exact iy h
  | Df=>exact iy h
  | op o fz x y=>exact iy h
  | neg x=>exact iy h
  | chain _ _ _ _ _=>exact iy h
  | tru _=>exact iy h
  | AZ _ _ _=>exact iy h
  | idx _ _=>exact iy h
  | sl _ _ _ _=>exact iy h
  | call _ _=>exact iy h
  | r9 _ _=>exact iy h
  | blt _ _ _=>exact iy h
  | dH _ _ _ _=>exact iy h
  | comp _ _ _ _ _ _=>exact iy h
  | fld _ _=>exact iy h
  | dc _ _ _ _ _=>exact iy h
  | new _ _ _=>exact iy h
  | mx _ _ _=>exact iy h
  | Mn _ _ _=>exact iy h
  | dz _ _=>exact iy h
  | Mp _ _=>exact iy h
  | rv _ _=>exact iy h
  | all1 _=>exact iy h
  | iT _ _=>exact iy h
  | gM _ _ _=>exact iy h
theorem JC (O:fH G B Φ k X N sc b w) (ih:A3 G B Φ k n X N sc b w) (hb:b=false) (a:Expr) (c:Src) (tg:Expr) (hz:(!My c||isTup tg)=true) (h:gY G (n+1) b N sc (.i a c)=true):PI X tg a (Dt B Φ (GX b X w) c):=by
 subst hb
 cases c with
 | e c =>
  replace h:=aF h
  obtain ⟨_,h⟩:=h
  exact PI.weak (F5 O.K (ih.e _ _ h)) fun _ _ _=>Fq
 | g8 c =>
  replace h:=dX h
  obtain ⟨y,p,as,pos,rfl,h⟩:=h
  replace h:=gU h
  obtain ⟨l,rfl,h⟩:=h
  simp only [Bool.and_eq_true,decide_eq_true_eq] at h
  obtain ⟨⟨⟨⟨h1,h2⟩,h3⟩,h4⟩,h5⟩:=h
  subst h1
  exact PI.weak (vS (O.jZ h2) (O.blt _ h3) (aV (ih.e _ _ h5) dG (ak h4)) (ak h4)) fun _ _ _=>Bp
 | FE c d=>cases h
 | fE c d =>
  replace h:=dX h
  obtain ⟨y,p,as,pos,rfl,h⟩:=h
  replace h:=k3_t h
  obtain ⟨l,q,v,rfl,h⟩:=h
  simp only [Bool.and_eq_true,decide_eq_true_eq] at h
  obtain ⟨⟨⟨⟨⟨⟨⟨⟨h1,h2⟩,h3⟩,h4⟩,h5⟩,h6⟩,h7⟩,h8⟩,h9⟩:=h
  subst h1
  exact PI.weak (vR (O.jZ h2) (O.blt _ h3) (aV (ih.e _ _ h7) (aV (ih.e _ _ h8) (aV (ih.e _ _ h9) dG (ak h6)) (ak h5)) (ak h4)) (by rw [ak h4]) (by rw [ak h5,ak h6];rfl)) fun _ _ _=>xZ
 | enum _=>cases h
 | items _=>cases h
 | rev c =>
  replace h:=dX h
  obtain ⟨y,p,as,pos,rfl,h⟩:=h
  replace h:=gU h
  obtain ⟨l,rfl,h⟩:=h
  simp only [Bool.and_eq_true,decide_eq_true_eq] at h
  obtain ⟨⟨⟨⟨h1,h2⟩,h3⟩,h4⟩,h5⟩:=h
  subst h1
  refine PI.weak (FZ (O.jZ h2) (O.blt _ h3) (aV (ih.e _ _ h5) dG (ak h4)) (ak h4)) fun _ _ _ q=>?_
  have:=Bq q
  rw [O.K] at this
  exact this
 | zip c d=>cases h
theorem swap_eq (O:fH G B Φ k X N sc b w) {el tn iter:Expr} {ifs:List Expr} {scope:Scope} {lp px p:Pos} {x:Str}:swapsWith (.ListComp el [⟨tn,iter,ifs,0⟩] scope lp) (some (.Name x px)) p.line X.env=pure (xJ sc scope x px lp):=by
 rw [<- O.hsc];rfl
theorem xT (O:fH G B Φ k X N sc false w):∀ {hds:List ExceptHandler} {hs:Hs},hdB G N sc hds hs=true->∃ rs,Jc B Φ (GX false X w) B.L4 hs=some rs/\∀ pins,PH (gy X pins) hds rs
 | [],hs,h=>by
  cases CG (c:=hs) h
  exact ⟨[],rfl,fun _=>.nil⟩
 | hd::r,hs,h=>by
  replace h:=Kz h
  obtain ⟨t,bd,hp,rfl,h⟩:=h
  replace h:=bQ h
  obtain ⟨x,np,rfl,h⟩:=h
  replace h:=gU h
  obtain ⟨st,rfl,h⟩:=h
  replace h:=nP h
  obtain ⟨ty,e,p,rfl,h⟩:=h
  replace h:=bQ h
  obtain ⟨y,py,rfl,h⟩:=h
  replace h:=zu h
  obtain ⟨cst,j,kp,rfl,h⟩:=h
  replace h:=KC h
  obtain ⟨cs,b,hs',rfl,h⟩:=h
  replace h:=gU h
  obtain ⟨c,rfl,h⟩:=h
  replace h:=Ed h
  obtain ⟨s,ss,rfl,h⟩:=h
  replace h:=aF h
  obtain ⟨hss,h⟩:=h
  cases nh hss
  replace h:=Ht h
  obtain ⟨i,v,rfl,h⟩:=h
  replace h:=jK_t h
  obtain ⟨d,rfl,h⟩:=h
  simp only [Bool.and_eq_true,decide_eq_true_eq] at h
  obtain ⟨⟨⟨⟨⟨⟨h1,h2⟩,h3⟩,h4⟩,h5⟩,h6⟩,h7⟩:=h
  obtain ⟨rs,hrs,ph⟩:=xT O h7
  obtain ⟨C,bmB,newId,bm,base,initId,q1,q2,q3,q4,q5,q6⟩:=O.exc _ _ h3
  refine ⟨(C,xj B Φ (GX false X w) (.cons (.set i (.k d)) .nil))::rs,by simp only [Jc,q2,hrs],fun pins=>.cons q1 (O.jZ h1) (fj h2).1 q4 q6 (fun e=>?_) (ph pins)⟩
  have ps:PS (suite (gy X pins) e) (.Assign [.Name y py] (.Constant cst j kp) p) (TC B Φ (GX false X w) (.set i (.k d))) :=
   PS.weak (yu (X:=suite (gy X pins) e) (by show X.N.Nodup;rw [O.hN];exact O.nd) (by show X.N[i]? = some y;rw [O.hN];exact h4) (O.loc h5) (tM h6) (iz rfl) (.inl (O.fn rfl y))) fun _ _ _=>nk
  exact j8.weak (pZ ps (j8.weak uc fun _ _ _=>pG)) fun _ _ _=>l6
theorem Bf {Y:Cx} {E:Value->Shared->Prop} {pins:List (Addr×Obj)} {D:Ends} {f:Flow} {s':Shared} (h:SP Y pins D f s'):SP (Y.bL E) pins D f s':=by
 cases f with
 | next=>obtain ⟨σ',H',I,q⟩:=h;exact ⟨σ',H',I.bL _,q⟩
 | brk=>obtain ⟨σ',H',I,q⟩:=h;exact ⟨σ',H',I.bL _,q⟩
 | cont=>obtain ⟨σ',H',I,q⟩:=h;exact ⟨σ',H',I.bL _,q⟩
 | ret u=>obtain ⟨v,σ',H',I,r,q⟩:=h;exact ⟨v,σ',H',I.bL _,r,q⟩
theorem Bg {rs:List (Addr×TS)} {pins:List (Addr×Obj)} {D:Ends} {x:Ss} {bd:List Stmt} (Mz:∀ G' X' N' sc' b' w',fH G' B Φ k X' N' sc' b' w'->A3 G' B Φ k n X' N' sc' b' w') (O:fH G B Φ k X N sc false w) (h:gY { G with rz:=false } n false N sc (.ss bd x)=true) :
  j8 ((gy X pins).bL (iU (gy X pins) (EH X.K rs D))) bd (xj B Φ (GX false X (EH X.K rs D)) x):=by
 have O':fH { G with rz:=false } B Φ k ((gy X pins).bL (iU (gy X pins) (GX false (gy X pins) (EH X.K rs D)).e)) N sc false (EH X.K rs D) :=
  ⟨O.hN,O.nd,O.hsc,O.K,O.calm,O.rm,O.dk,(fun e s ⟨p,σ,H,a,a0,C,B,h1,I,h⟩=>.inl ⟨p,σ,H,a,a0,C,B,h1,I.bL _,h⟩),(fun e s ⟨p,σ,H,a,a0,C,B,h1,I,h⟩=>⟨p,σ,H,a,a0,C,B,h1,I.bw,h⟩),(fun _ h=>by cases h),(by
   obtain ⟨env,outer,L,h1,h2,h3⟩:=O.fr
   exact ⟨env,outer,L,h1,h2,h3⟩),O.fn,O.fns,O.cst,O.blt,O.cls,O.Cm,O.Ko,O.exc,O.IY,O.Dd,O.st⟩
 have P:=(Mz _ _ _ _ _ _ O').ss bd x h
 intro JX s σ H Dn I q
 exact wpAny_mono (P JX s σ H Dn (I.bw.bL _) q) (fun _ _ z=>Bf (SP.bw z)) fun e s2 z=>qp z
theorem Bo {rs:List (Addr×TS)} {hs:Hs} {x:Ss} {Dn:Ends} {σ:L2.St} {H:Hp} (O:fH G B Φ k X N sc false w) (hrs:Jc B Φ (GX false X w) B.L4 hs=some rs) (h:TC B Φ (GX false X w) (.try x hs .nil) Dn σ H):xj B Φ (GX false X (EH X.K rs Dn)) x Dn σ H:=by
 obtain ⟨σD,M,F,ρ,S,r,h⟩:=h
 simp only [ex] at h
 refine ⟨σD,M,F,ρ,S,r,?_⟩
 cases hx:exs Φ x σD M with
 | bad=>rw [hx] at h;exact h
 | exc c M1=>rw [hx] at h;exact h
 | ok o M1 =>
  rw [hx] at h
  simp only [R.af] at h
  intro F1 ρ1 H1 e1 S1
  cases o with
  | nx σ1=>simp only [exs] at h;exact h F1 ρ1 H1 e1 S1
  | rt d=>exact h F1 ρ1 H1 e1 S1
  | bk σ1=>exact h F1 ρ1 H1 e1 S1
  | ct σ1=>exact h F1 ρ1 H1 e1 S1
  | xc c σ1 =>
   intro σ' cv x' r1 hcv
   obtain ⟨C,bmB,newId,bm,rfl,EC,sub⟩:=O.IY c cv hcv
   obtain ⟨t,pk,ht⟩:=tS (mro:=.ref C::bm) sub hrs S1 r1 (aM.weak e1 h)
   exact ⟨H1,.refl _,C,bmB,newId,bm,t,rfl,EC,pk,ht⟩
theorem JB (O:fH G B Φ k X N sc b w) (ih:A3 G B Φ k n X N sc b w) (Mz:∀ G' X' N' sc' b' w',fH G' B Φ k X' N' sc' b' w'->A3 G' B Φ k n X' N' sc' b' w') (a:Stmt) (c:S) (h:gY G (n+1) b N sc (.s a c)=true):PS X a (TC B Φ (GX b X w) c):=by
 have HB:=fun X' N' sc' w' (O':fH G B Φ k X' N' sc' true w')=>Mz G X' N' sc' true w' O'
 have hp:PassesOwn (model X.prog X.w) X.A X.env X.xe:=rM O.fr O.fo O.fx
 cases c with
 | bad=>exact fun _ _ _ _ _ _ q=>(IG q).elim
 | set i c =>
  replace h:=nP h
  obtain ⟨t,e,p,rfl,h⟩:=h
  replace h:=Kw h
  obtain ⟨x,px,rfl,h⟩:=h
  simp only [Bool.and_eq_true,decide_eq_true_eq] at h
  obtain ⟨⟨⟨h3,h1⟩,h2⟩,h4⟩:=h
  cases b with
  | true=>cases h3
  | false =>
   have st:gY G n false N sc (.e e c)=true->swapsWith e (some (.Name x px)) p.line X.env=pure false->PS X (.Assign [.Name x px] e p) (TC B Φ (GX false X w) (.set i c)):=fun q w =>
    PS.weak (yu (by rw [O.hN];exact O.nd) (by rw [O.hN];exact h1) (O.loc h2) (ih.e _ _ q) w (.inl (O.fn rfl x))) fun _ _ _=>nk
   replace h4:=CC h4
   rcases h4 with ⟨fz,caps,tg,elt,it,cond,rfl,h4⟩ | h4
   ·obtain ⟨el,tn,iter,ifs,scope,lp,rfl,h4⟩:=Eb h4
    cases hs:xJ sc scope x px lp with
    | true =>
     rw [hs] at h4
     replace h4:=aF h4
     obtain ⟨h4,k7⟩:=h4
     obtain ⟨C1,C2,C3,C4⟩:=pD O ih HB h4
     have hl:X.env.scope.names.lookup x=some .local:=by rw [O.hsc];exact zc k7
     refine PS.weak (ud (BS (by rw [O.hN];exact O.nd) (by rw [O.hN];exact h1) hl O.calm C1 C2 O.fr O.fx C3 C4 (by rw [swap_eq O,hs]))) fun D σ H q=>?_
     exact pK (nk q)
    | false =>
     rw [hs] at h4
     exact st h4 (by rw [swap_eq O,hs])
   ·replace h4:=aF h4
    obtain ⟨q1,q2⟩:=h4
    exact st q2 (iz q1)
 | rA x y c =>
  replace h:=nP h
  obtain ⟨t,e,p,rfl,h⟩:=h
  replace h:=rY h
  obtain ⟨o,i,q,rfl,h⟩:=h
  simp only [Bool.and_eq_true] at h
  obtain ⟨⟨⟨h1,h2⟩,h3⟩,h4⟩:=h
  exact PS.weak (BU O.rm' (ih.e _ _ h3) (ih.e _ _ h4) (ih.e _ _ h2) (iz h1)) fun _ _ _=>xX
 | ex c =>
  replace h:=Hl h
  obtain ⟨e,p,rfl,h⟩:=h
  replace h:=aF h
  obtain ⟨h1,h2⟩:=h
  exact PS.weak (BV (ih.e _ _ h2) (iz h1)) fun _ _ _=>Ft
 | ret c =>
  replace h:=G0 h
  rcases h with ⟨p,rfl,h⟩ | ⟨e,p,rfl,h⟩
  ·cases h
  ·exact PS.weak (FT (ih.e _ _ h)) fun _ _ _=>Br
 | FG=>cases h
 | ifs c x y =>
  replace h:=Hf h
  obtain ⟨t,l,q,p,rfl,h⟩:=h
  replace h:=aF h
  obtain ⟨h,h3⟩:=h
  replace h:=aF h
  obtain ⟨h1,h2⟩:=h
  exact PS.weak (JU (ih.t _ _ h1).1 (ih.ss _ _ h2) (ih.ss _ _ h3)) fun _ _ _=>By
 | «for» tg it x =>
  replace h:=Hj h
  obtain ⟨tn,iter,body,p,rfl,h⟩:=h
  simp only [Bool.and_eq_true] at h
  obtain ⟨⟨⟨⟨⟨h0,hz⟩,h1⟩,h2⟩,h3⟩,h4⟩:=h
  cases b with
  | true=>cases h0
  | false=>exact PS.weak (ud (FU hp O.calm (ih.i rfl _ _ _ hz h2) (O.tg h3).1 (ih.ss _ _ h4) (set_plain h1))) fun _ _ _=>BC
 | «while» c x =>
  replace h:=Ku h
  obtain ⟨t,body,p,rfl,h⟩:=h
  replace h:=aF h
  obtain ⟨h1,h2⟩:=h
  exact PS.weak (yt hp (ih.t _ _ h1).1 (ih.ss _ _ h2)) fun _ _ _=>vH
 | brk=>cases h
 | cont=>cases h
 | pass=>cases h
 | eF x f c =>
  replace h:=nP h
  obtain ⟨t,e,p,rfl,h⟩:=h
  replace h:=r6 h
  obtain ⟨o,y,q,rfl,h⟩:=h
  simp only [Bool.and_eq_true,decide_eq_true_eq] at h
  obtain ⟨⟨⟨⟨h1,h2⟩,h3⟩,h4⟩,h5⟩:=h
  subst h1
  exact PS.weak (FW (ih.e _ _ h5) (ih.e _ _ h4) (iz h3)) fun _ _ _=>xY fun c C hc=>⟨(O.cls c C hc).1,(O.cls c C hc).2 _ h2⟩
 | unp tg c=>cases h
 | raise c es =>
  replace h:=aF h
  obtain ⟨h,h'⟩:=h
  replace h:=aF h
  obtain ⟨hb,hz⟩:=h
  cases b with
  | true=>cases hb
  | false =>
   replace h':=G2 h'
   obtain ⟨e,pos,rfl,h⟩:=h'
   replace h:=dX h
   obtain ⟨x,np,as,cp,rfl,h⟩:=h
   replace h:=gU h
   obtain ⟨m,rfl,h⟩:=h
   simp only [Bool.and_eq_true,decide_eq_true_eq] at h
   obtain ⟨⟨⟨h1,h2⟩,h3⟩,h4⟩:=h
   obtain ⟨C,bmB,newId,bm,base,initId,q1,q2,q3,q4,q5,q6⟩:=O.exc _ _ h3
   replace h4:=G6 h4
   rcases h4 with ⟨z,j,p,rfl,h4⟩ | ⟨vs,p,rfl,h4⟩
   ·cases iK h4
    refine PS.weak (p5 q1 (O.jZ h1) (fj h2).1 q4 q5 O.calm rfl (aV rK dG rfl) (O.nx rfl hz)) fun D σ H q=>?_
    exact ⟨by show 1<=2 ^ 24;decide,(l7 q3 q).nil⟩
   ·simp only [Bool.and_eq_true,decide_eq_true_eq] at h4
    refine PS.weak (p5 q1 (O.jZ h1) (fj h2).1 q4 q5 O.calm rfl (aV (Gb (ih.m _ _ h4.2) h4.1.1 h4.1.2) dG rfl) (O.nx rfl hz)) fun D σ H q=>?_
    obtain ⟨σD,M,F,ρ,S,r,z⟩:=l7 q3 q
    exact ⟨σD,M,F,ρ,S,r,ah.imp z fun _ H' z y=>⟨by show 1<=2 ^ 24;decide,z⟩⟩
 | «try» x hs els =>
  replace h:=aF h
  obtain ⟨h,h'⟩:=h
  replace h:=aF h
  obtain ⟨hb,he⟩:=h
  cases b with
  | true=>cases hb
  | false =>
   cases nh he
   replace h':=GV h'
   obtain ⟨bd,h₀,hr,p,rfl,h⟩:=h'
   replace h:=aF h
   obtain ⟨h1,h2⟩:=h
   obtain ⟨rs,hrs,ph⟩:=xT O h2
   exact PS.weak (FQ (O.st rfl).1 (O.st rfl).2 (fun pins D=>Bg Mz O h1) ph) fun D σ H q=>Bo O hrs q
theorem sound:∀ (n:Nat) {G:Gm} {X:Cx} {N:List Str} {sc:Scope} {b:Bool} {w:XS},fH G B Φ k X N sc b w->A3 G B Φ k n X N sc b w
 | 0,G,X,N,sc,b,w,O=>⟨fun _ _ h=>(by cases h),fun _ _ h=>(by cases h),fun _ _ h=>(by cases h),fun _ _ h=>(by cases h),fun _ _ _ _ _ h=>(by cases h),fun _ _ h=>(by cases h),fun _ _ h=>(by cases h),fun _ _ h=>(by cases h)⟩
 | n+1, G, X, N, sc, b, w, O=>by
  have ih:=sound n O
  have HB:=fun X' N' sc' w' (O':fH G B Φ k X' N' sc' true w')=>sound n O'
  refine ⟨JD O ih HB,JA O ih,fun a c h=>?_,fun a c h=>?_,fun hb=>JC O ih hb,JB O ih (fun G' X' N' sc' b' w' O'=>sound n O'),fun a c h=>?_,fun a c h=>?_⟩
  ·cases a with
   | nil =>
    cases iK (c:=c) h
    exact PA.weak dG fun _ _ _=>ig
   | cons a as =>
    replace h:=zy (c:=c) h
    obtain ⟨c,cs,rfl,h⟩:=h
    replace h:=aF h
    obtain ⟨h,h3⟩:=h
    replace h:=aF h
    obtain ⟨h1,h2⟩:=h
    exact PA.weak (aV (ih.e _ _ h2) (ih.es _ _ h3) (ak h1)) fun _ _ _=>x8
  ·cases c with
   | none =>
    cases a with
    | none=>exact PO.weak BY fun _ _ _=>Fp
    | some _=>cases h
   | some c =>
    cases a with
    | none=>cases h
    | some a=>exact PO.weak (BX (ih.e _ _ h)) fun _ _ _=>Fo
  ·cases a with
   | nil =>
    cases nh (c:=c) h
    exact j8.weak uc fun _ _ _=>pG
   | cons a as =>
    replace h:=Ed (c:=c) h
    obtain ⟨c,cs,rfl,h⟩:=h
    replace h:=aF h
    obtain ⟨h1,h2⟩:=h
    exact j8.weak (pZ (ih.s _ _ h1) (ih.ss _ _ h2)) fun _ _ _=>l6
  ·cases a with
   | nil =>
    cases iK (c:=c) h
    exact .nil
   | cons a as =>
    replace h:=G4 h
    rcases h with ⟨y,j,p,rfl,h⟩ | ⟨v,j,p,rfl,h⟩
    ·replace h:=aF h
     obtain ⟨h1,h2⟩:=h
     exact .lit (of_decide_eq_true h1) (ih.m _ _ h2)
    ·replace h:=zy h
     obtain ⟨e,es,rfl,h⟩:=h
     simp only [Bool.and_eq_true,decide_eq_true_eq] at h
     obtain ⟨⟨h1,h2⟩,h3⟩:=h
     subst h1
     exact .fld (ih.e _ _ h2) (ih.m _ _ h3)
end
end Fg
end
section
namespace Fg
open PySem PySem.Spec L2
inductive DA:List DictEntry->List (Key×V)->Prop
 | nil:DA [] []
 | cons {h:Int} {x:Str} {t:Tok} {u:Value} {v:V} {es:List DictEntry} {kvs:List (Key×V)}:RelV v u->DA es kvs->DA (⟨h,.str x t,u⟩::es) ((Sum.inr x,v)::kvs)
noncomputable def M8 (w:World) (K:W.Frag) (a:Addr) (kvs:List (Key×V)):Prop :=
 kvs.length<=sizeLine/\(a == sysModules)=false/\(kvs.map (·.1)).Nodup/\∃ es n, K.lookup a=some ⟨.type "dict", none, .dict es n, #[]⟩/\W.KeysLit w.params es.toList/\DA es.toList kvs
theorem DA.vs {prog:Program} {w:World}:∀ {es:List DictEntry} {kvs:List (Key×V)},DA es kvs->∃ vs,KV kvs vs/\Pairs (aI prog w) es vs/\vs.map (·.1)=kvs.map (·.1)
 | _,_,.nil=>⟨[],.nil,.nil,rfl⟩
 | _,_,.cons (h:=h) (x:=x) (t:=t) (u:=u) r q=>by
  obtain ⟨vs,h1,h2,h3⟩:=DA.vs q
  exact ⟨(Sum.inr x,u)::vs,.cons ⟨rfl,r⟩ h1,.cons (jd x t) rfl h2,by simp [h3]⟩
theorem M8.ok {prog:Program} {w:World} {K:W.Frag} {a:Addr} {kvs:List (Key×V)} (d:M8 w K a kvs) (h:Heap) (X:K.In h):kvs.length<=sizeLine/\(a == sysModules)=false/\∃ vs,KV kvs vs/\h.DictOf (aI prog w) a vs:=by
 obtain ⟨h1,h2,h3,es,n,h4,h5,h6⟩:=d
 obtain ⟨vs,q1,q2,q3⟩:=DA.vs (prog:=prog) (w:=w) h6
 refine ⟨h1,h2,vs,q1,_,es,n,X _ _ h4,⟨rfl,rfl,rfl⟩,rfl,fun e he=>?_,q2,by rw [q3];exact h3⟩
 obtain ⟨x,t,e1,e2⟩:=h5.all e (Array.mem_toList_iff.mpr he)
 exact ⟨Sum.inr x,by rw [e1];exact jd x t,e2⟩
theorem HP {K:W.Frag} {C:Addr} {bmB:List Value} {newId:String} (q:W.excIn K C bmB newId=true):∃ bm,qK K C bmB newId bm/\∀ v b,W.mroIn K C v=some b->(Value.ref C::bm).contains v=b:=by
 unfold W.excIn at q
 split at q
 ·rename_i dd cd sl lk
  split at q
  ·rename_i C2 bm a0 a1 a2 a3 n a5 hm hs
   simp only [beq_iff_eq,Bool.not_eq_true',Bool.and_eq_true] at q;obtain ⟨⟨⟨⟨⟨rfl,rfl⟩,dl⟩,ht⟩,hok⟩,hni⟩:=q
   obtain ⟨nm,bs,mr,ns,qn,hd,sn,sb,ab,cl,dl'⟩:=cd;dsimp only at hm dl hok hni;subst hm dl
   obtain ⟨l⟩:=sl
   simp only at hs
   subst hs
   refine ⟨bm,⟨nm,qn,ns,bs,hd,sn,sb,ab,cl,dd,a0,a1,a2,a3,a5,lk,hok,hni,ht⟩,fun v b e=>?_⟩
   unfold W.mroIn W.clsIn at e
   rw [lk] at e
   simpa using e
  ·cases q
 ·cases q
theorem j7 {C:Addr} {bm:List Value} {s:String} (h:(Value.ref C::bm).contains (.type s)=true):bm.contains (.type s)=true:=by
 rw [List.contains_cons] at h
 simpa using h
noncomputable def lQ (w:World) (K:W.Frag) (cl:Nat->Option Addr) (xc:Nat->Option Addr):Bd:=⟨K,M8 w K,cl,fun c cv=>∃ C,xc c=some C/\cv=.ref C,xc⟩
theorem LM {X:Cx} {cl xc:Nat->Option Addr}:lC (lQ X.w X.K cl xc) X:=fun a kvs h hp KX=>M8.ok h hp KX
structure Dz (K:W.Frag) (x qual:Str) (st:Stmt) (f:Addr) (fd:FuncData):Prop where
 ex:∃ (oc:Value) (od:Option Addr) (dV kV doc pm:Value) (an:Option Addr) (cdv ct:Value) (osl:Array (Option Value)),
  fd=W.fnOf x qual (iP st) (cg st) (aD st) dV kV doc pm an cdv ct/\K.lookup f=some ⟨oc,od,.func fd,osl⟩/\W.codeIn K cdv qual=true
noncomputable def FnAt (G:Gm) (P:lO) (K:W.Frag) (i m:Nat) (fa:Addr) (fd:FuncData) (ps:List Str):Prop:=∃ x qual st N fn,Dz K x qual st fa fd/\P.fn i=some fn/\dD N ps (aD st)/\ps.length=m/\fn.np=m/\fn.ns=N.length/\fn.kZ=[]/\gY G 200 false N (aD st) (.ss (cg st) fn.body)=true
structure Md (G:Gm) (P:lO) (w:World) (K:W.Frag) (mg:Str->Option Value) (cl xc:Nat->Option Addr):Prop where
 cst:∀ x i,G.cst.lookup x=some i->∃ v u,mg x=some u/\RelV v u/\∀ d,P.glob i=some d->∀ F ρ H,RD (lQ w K cl xc) F ρ H d v
 blt:∀ x,G.jQ.contains x=true->mg x=none
 fns:∀ f i m,G.fns.lookup f=some (i,m)->∃ fa fd ps,mg f=some (.ref fa)/\W.keepIn K (.ref fa)=true/\Binds K fd ps []/\FnAt G P K i m fa fd ps
 cls:∀ c C,cl c=some C->w6 K C/\∀ f,G.CL.contains f=true->dQ K C f
 Cm:∀ c nm i m,G.Cm.lookup (c,nm)=some (i,m)->∃ C fa fd ps,cl c=some C/\Meth K C nm fa/\Binds K fd ps []/\FnAt G P K i m fa fd ps
 Ko:∀ x c i m,G.cls.lookup x=some (c,i,m)->∃ C fa fd ps,mg x=some (.ref C)/\cl c=some C/\Mk K C fa/\Binds K fd ps []/\FnAt G P K i m fa fd ps
 exc:∀ x c,G.exc.lookup x=some c->∃ C,mg x=some (.ref C)/\xc c=some C
 IY:∀ c C, xc c=some C->∃ bmB newId bm base initId, qK K C bmB newId bm/\ExcBaseFacts base newId initId bmB/\bm.contains (.type "BaseException")=true/\∀ d D, xc d=some D->(Value.ref C::bm).contains (.ref D)=P.sub c d
 Dd:∀ x f m d,G.Dd.lookup x=some (f,m,d)->∃ fa fd ps du,mg x=some (.ref fa)/\W.keepIn K (.ref fa)=true/\Binds K fd ps [du]/\RelV (.int d) du/\FnAt G P K f m fa fd ps
 rz:G.rz=true
section
variable {G:Gm} {P:lO} {w:World} {K:W.Frag} {mg:Str->Option Value} {prog:Program} {base:Heap}
theorem xM {B:Bd} {F:Addr->Prop} {ρ:List Addr} {H:Hp} {N:List Str} {ds:List D} {vs:List V} {n:Nat} (r:ai B F ρ H ds vs) (hn:n=N.length-vs.length):RS B F ρ H (ds.map some++List.replicate n none) (L2.start N vs):=by
 subst hn
 refine ⟨by simp [L2.start,ai.length r],fun i d q=>?_⟩
 by_cases hi:i<ds.length
 ·rw [List.getElem?_append_left (by simpa using hi),List.getElem?_map] at q
  cases hd:ds[i]? with
  | none=>rw [hd] at q;cases q
  | some e =>
   rw [hd] at q
   simp only [Option.map_some,Option.some.injEq] at q
   subst q
   obtain ⟨v,h1,h2⟩:=ai.get r hd
   refine ⟨v,?_,h2⟩
   unfold L2.start
   rw [List.getElem?_append_left (by rw [List.length_map,<- ai.length r];exact hi),List.getElem?_map,h1];rfl
 ·rw [List.getElem?_append_right (by simpa using Nat.le_of_not_lt hi),List.getElem?_replicate] at q
  split at q <;> cases q
theorem mq {B:Bd} {F F':Addr->Prop} {ρ ρ':List Addr} {H H':Hp} {M M':MH} {d:D} {v:V} {kp:Bool} {Q:VK} {X:XK} (S:SR B F ρ M H) (h:Post B (cJ kp M d M') F ρ H Q X) (e:Ext F ρ H F' ρ' H') (S':SR B F' ρ' M' H') (rd:RD B F' ρ' H' d v):Q v H':=by
 unfold cJ at h
 split at h
 ·rename_i hk
  split at h
  ·rename_i hn
   exact h F' ρ H' v e.cut (S.cut S' e hk.2) (RD.cut e.r (by rw [S.len];exact hn) rd)
  ·rename_i hn
   split at h
   ·rename_i n
    split at h
    ·rename_i ds hM
     split at h
     ·rename_i hns
      simp only [RD] at rd
      obtain ⟨a,h1,rfl⟩:=rd
      obtain ⟨vs,h2,h3⟩:=S'.obj n a _ h1 hM
      have hlt:¬ n<M.length:=by simpa [nr] using hn
      have ha:a∉ρ:=fun z=>by
       obtain ⟨j,hj,ej⟩:=List.mem_iff_getElem.mp z
       have q:ρ'[j]? = some a:=e.at (by rw [List.getElem?_eq_getElem hj,ej])
       obtain ⟨j1,q1⟩:=List.getElem?_eq_some_iff.mp q
       obtain ⟨j2,q2⟩:=List.getElem?_eq_some_iff.mp h1
       have:=(List.getElem_inj S'.nd).mp (q1.trans q2.symm)
       rw [S.len] at hj
       omega
      have hHa:H a=none:=(e.n a (List.mem_of_getElem? h1)).resolve_left ha
      have Sc:=S.cut S' e hk.2
      have r3:=ai.cut e.r (by rw [S.len];exact hns) h3
      have xt:qL F' ρ H' (fun b=>F' b\/b=a) ρ H':=⟨fun _ q=>.inl q,fun _ _ _=>rfl,List.prefix_refl _⟩
      have ec:=e.cut
      refine h (fun b=>F' b\/b=a) ρ H' (.ref a) ⟨⟨ec.s,fun b q=>.inl (ec.f b q),ec.h,ec.r,ec.n,fun b q=>q.elim (ec.g b) fun z=>.inr (.inl (z ▸ hHa))⟩,ec.z⟩ (Sc.take ha (by rw [h2];simp)) ?_
      simp only [RD]
      exact ⟨a,vs,rfl,.inl ⟨.inr rfl,.inl h2⟩,ai.aY xt _ _ r3⟩
     ·exact h F' ρ' H' v e S' rd
    ·exact h F' ρ' H' v e S' rd
   ·exact h F' ρ' H' v e S' rd
 ·exact h F' ρ' H' v e S' rd
theorem vP {B:Bd} {F F':Addr->Prop} {ρ ρ':List Addr} {H H':Hp} {M M':MH} {c:Nat} {cv:Value} {x:Option Addr} {Q:VK} {X:XK} (S:SR B F ρ M H) (h:Post B (pV M c M') F ρ H Q X) (e:Ext F ρ H F' ρ' H') (S':SR B F' ρ' M' H') (q:B.exc c cv):X cv x H':=by
 unfold pV at h
 split at h
 ·rename_i hk
  exact h F' ρ H' cv x e.cut (S.cut S' e hk) q
 ·exact h F' ρ' H' cv x e S' q
noncomputable abbrev AI (X:Cx) (w:XS):Cx:=X.bL fun e s=>iU X (GX false X w).e e s\/EU X (GX false X w).e e s
theorem CH {x qual:Str} {st:Stmt} {f:Addr} {fd:FuncData} {N ps:List Str} {k:Nat} {sp:Sp} (F:Dz K x qual st f fd) (S:dD N ps (aD st)) (len:∀ vs H Q E,sp vs H Q E->vs.length=ps.length)
  (hbody:∀ (cdv:Value) (A:Around) (outer:List Env) (s:Shared) (H:Hp) (vs:List V) (Q:VK) (E:XK),bW k (A.deeper (PyProof.Rows.envOfC qual (aD st) s.heap.objs.size f cdv))->sp vs H Q E ->
   ∃ t,j8 (AI (iQ (g9 prog w) prog w K mg base N qual (aD st) f cdv A outer s H E) fun cv x _ H'=>E cv x H') (cg st) t/\t { nx:=fun _ H'=>Q .ao H',rt:=Q } (L2.start N vs) H):cz prog w K mg base (g9 prog w) (k+1) f fd ps sp:=by
 obtain ⟨oc,od,dV,kV,doc,pm,an,cdv,ct,osl,rfl,lk,hcd⟩:=F.ex
 refine Em lk hcd S len fun A outer s H vs Q E hr h=>?_
 obtain ⟨t,h1,h2⟩:=hbody cdv A outer s H vs Q E hr h
 refine ⟨t,fun pins s1 σ H1 D I q=>?_,h2⟩
 exact wpAny_mono (h1 pins s1 σ H1 D (I.bL _) q) (fun _ _ z=>z.bw) fun e s2 z=>z.elim (fun z=>wc e s2 (qp z)) fun z=>leave_new e s2 (yP z)
theorem ng {cl xc:Nat->Option Addr} (D:Md G P w K mg cl xc) {k:Nat} (ih:∀ (i m:Nat) (fa:Addr) (fd:FuncData) (ps:List Str),FnAt G P K i m fa fd ps->cz prog w K mg base (g9 prog w) k fa fd ps (xS (lQ w K cl xc) (aa P k) i m))
  (ih0:∀ j,k=j+1->∀ (i m:Nat) (fa:Addr) (fd:FuncData) (ps:List Str),FnAt G P K i m fa fd ps->cz prog w K mg base (g9 prog w) j fa fd ps (xS (lQ w K cl xc) (aa P j) i m))
  {f qual:Str} {i m:Nat} {fa:Addr} {fd:FuncData} {ps:List Str} {st:Stmt} {N:List Str} {fn:Fn} (h2:Dz K f qual st fa fd) (h4:P.fn i=some fn) (h5:dD N ps (aD st)) (h6:ps.length=m) (h7:fn.np=m) (h8:fn.ns=N.length) (h9:fn.kZ=[]) (w9:gY G 200 false N (aD st) (.ss (cg st) fn.body)=true) :
  cz prog w K mg base (g9 prog w) (k+1) fa fd ps (xS (lQ w K cl xc) (aa P (k+1)) i m):=by
  refine CH h2 h5 (fun vs H Q E q=>by rw [q.1,h6]) fun cdv A outer s H vs Q E hr q=>?_
  let X0:=iQ (g9 prog w) prog w K mg base N qual (aD st) fa cdv A outer s H E
  obtain ⟨hl,ds,M,F,ρ,S,rd,post⟩:=q
  have O:fH G (lQ w K cl xc) (aa P k) k (AI X0 fun cv x _ H'=>E cv x H') N (aD st) false (fun cv x _ H'=>E cv x H') :=
   ⟨rfl,h5.nd,rfl,rfl,rfl,hr,LM (X:=AI X0 fun cv x _ H'=>E cv x H') (cl:=cl) (xc:=xc),(fun e s z=>z.imp (fun ⟨p,σ,H,a,a0,C,B,h1,I,h⟩=>⟨p,σ,H,a,a0,C,B,h1,I.bL _,h⟩) fun ⟨p,σ,H,a,C,vs,hh,h1,I,h⟩=>⟨p,σ,H,a,C,vs,hh,h1,I.bL _,h⟩),
    (fun e s ⟨p,σ,H,a,a0,C,B,h1,I,h⟩=>.inl ⟨p,σ,H,a,a0,C,B,h1,I.bw,h⟩),(fun _ _ e s ⟨p,σ,H,a,C,vs,hh,h1,I,h⟩=>.inr ⟨p,σ,H,a,C,vs,hh,h1,I.bw,h⟩),⟨_,_,_,rfl,rfl,rfl⟩,fun _ _=>rfl,(fun g j n hg=>by
    obtain ⟨fa,fd,ps,a1,a2,a3,a4⟩:=D.fns g j n hg
    exact ⟨fa,fd,ps,a1,a2,a3,ih j n fa fd ps a4⟩),fun x j hx=>by
    obtain ⟨v,u,a1,a2,a3⟩:=D.cst x j hx
    refine ⟨v,u,a1,a2,fun d hd=>a3 d ?_⟩
    cases k <;> exact hd,D.blt,D.cls,(fun c nm j n hg=>by
    obtain ⟨C,fa,fd,ps,a1,a2,a3,a4⟩:=D.Cm c nm j n hg
    exact ⟨C,fa,fd,ps,a1,a2,a3,ih j n fa fd ps a4⟩),(fun x c j n hg=>by
    obtain ⟨C,fa,fd,ps,a1,a2,a3,a4,a5⟩:=D.Ko x c j n hg
    refine ⟨C,fa,fd,ps,a1,a2,a3,a4,?_⟩
    cases k with
    | zero=>exact .inr fun _ _=>rfl
    | succ k'=>exact .inl ⟨k',rfl,ih0 k' rfl j n fa fd ps a5⟩),(fun x c hx=>by
    obtain ⟨C,a1,a2⟩:=D.exc x c hx
    obtain ⟨bmB,newId,bm,base,initId,a3,a4,a5,_⟩:=D.IY c C a2
    exact ⟨C,bmB,newId,bm,base,initId,a1,a2,⟨C,a2,rfl⟩,a3,a4,a5⟩),(fun c cv hc=>by
    obtain ⟨C,a2,rfl⟩:=hc
    obtain ⟨bmB,newId,bm,base,initId,a3,a4,a5,a6⟩:=D.IY c C a2
    refine ⟨C,bmB,newId,bm,rfl,a3,fun d D' hd=>(a6 d D' hd).trans ?_⟩
    cases k <;> rfl),(fun x f m d hd=>by
    obtain ⟨fa,fd,ps,du,a1,a2,a3,a4,a5⟩:=D.Dd x f m d hd
    exact ⟨fa,fd,ps,du,a1,a2,a3,a4,ih f m fa fd ps a5⟩),fun _=>⟨rfl,rfl⟩⟩
  refine ⟨_,(sound 200 O).ss _ _ w9,_,M,F,ρ,S,xM (n:=fn.ns-fn.np) rd (by rw [h8,h7,hl]),?_⟩
  have hds:ds.length=m:=by rw [ai.length rd,hl]
  have hc:(aa P (k+1)).call i ds M=ko (aa P k) fn ds M:=by simp only [aa,h4]
  rw [hc] at post
  have hz:ds.length+fn.kZ.length-fn.np=0:=by rw [h9,h7,hds];simp
  unfold ko at post
  rw [if_pos (by rw [h9,h7,hds];simp),hz,h9] at post
  simp only [List.drop_nil,List.append_nil] at post
  cases hx:exs (aa P k) fn.body (ds.map some++List.replicate (fn.ns-fn.np) none) M with
  | bad=>rw [hx] at post;exact post
  | exc c M'=>rw [hx] at post;exact post
  | ok o M' =>
   rw [hx] at post
   intro F' ρ' H' e S'
   cases o with
   | rt d=>exact fun v q=>mq S post e S' q
   | nx σ'=>exact fun σ q=>mq S post e S' (d:=.ao) (v:=.ao) (by simp only [RD])
   | bk _=>exact post.elim
   | ct _=>exact post.elim
   | xc c σ' =>
    intro σ cv x q1 q2
    exact ⟨H',.refl _,vP S post e S' q2⟩
theorem ly {cl xc:Nat->Option Addr} (D:Md G P w K mg cl xc):∀ (k:Nat) (i m:Nat) (fa:Addr) (fd:FuncData) (ps:List Str),FnAt G P K i m fa fd ps->cz prog w K mg base (g9 prog w) k fa fd ps (xS (lQ w K cl xc) (aa P k) i m)
 | 0, i, m, fa, fd, ps, h=>by
  have no:∀ vs H Q E,¬ xS (lQ w K cl xc) (aa P 0) i m vs H Q E:=fun vs H Q E q=>by
   obtain ⟨_,ds,M,F,ρ,_,_,q⟩:=q
   exact q
  exact ⟨fun vs H Q E q=>absurd q (no vs H Q E),fun A outer s H args us vs Q E _ _ _ _ q=>absurd q (no vs H Q E)⟩
 | 1,i,m,fa,fd,ps,h=>by
  obtain ⟨x,qual,st,N,fn,h2,h4,h5,h6,h7,h8,h9,w9⟩:=h
  exact ng D (ly D 0) (fun j e=>by cases e) h2 h4 h5 h6 h7 h8 h9 w9
 | k+2,i,m,fa,fd,ps,h=>by
  obtain ⟨x,qual,st,N,fn,h2,h4,h5,h6,h7,h8,h9,w9⟩:=h
  exact ng D (ly D (k+1)) (fun j e=>by cases e;exact ly D k) h2 h4 h5 h6 h7 h8 h9 w9
noncomputable def DP (K:W.Frag):Sp:=fun vs H Q _=>∃ (a:Addr) (ns:List Int),vs=[.ref a]/\fK K H a (ns.map V.int)/\ns.length<=63/\∀ H',Q (.bl true) H'
theorem GN {cl xc:Nat->Option Addr} (D:Md G P w K mg cl xc) {f qual:Str} {i k:Nat} (hP:∀ ns:List Int,ns.length<=63->∃ M',(aa P (k+1)).call i [.lst (ns.map .int)] []=.ok (.bl true) M')
  {fa:Addr} {fd:FuncData} {ps:List Str} {st:Stmt} {N:List Str} {fn:Fn} (h2:Dz K f qual st fa fd) (h4:P.fn i=some fn) (h5:dD N ps (aD st)) (h6:ps.length=1) (h7:fn.np=1) (h8:fn.ns=N.length) (h9:fn.kZ=[]) (w9:gY G 200 false N (aD st) (.ss (cg st) fn.body)=true) :
  cz prog w K mg base (g9 prog w) (k+1) fa fd ps (DP K):=by
 refine (ng (prog:=prog) (base:=base) D (ly D k) (fun j _=>ly D j) h2 h4 h5 h6 h7 h8 h9 w9).imp fun vs H Q E q=>?_
 obtain ⟨a,ns,rfl,hS,hl,q⟩:=q
 obtain ⟨M',hM⟩:=hP ns hl
 have Ef:∀ (F:Addr->Prop) (ns:List Int),ai (lQ w K cl xc) F [] H (ns.map Fg.D.int) (ns.map V.int):=by
  intro F ns
  induction ns with
  | nil=>exact ai.nil
  | cons n ns ih=>exact ai.cons (by simp only [RD]) ih
 have fin:∀ F:Addr->Prop,Post (lQ w K cl xc) ((aa P (k+1)).call i [.lst (ns.map .int)] []) F [] H Q E:=by
  intro F
  rw [hM]
  intro F' ρ' H' v e S' rd
  simp only [RD] at rd
  subst rd
  exact q H'
 rcases hS with hS | hS
 ·refine ⟨rfl,[.lst (ns.map .int)],[],fun b=>b=a,[],⟨rfl,List.nodup_nil,fun _ z=>by simp at z,fun b e=>by rw [e];exact DT hS,fun n b o z=>by simp at z⟩,?_,fin _⟩
  refine ai.cons ?_ ai.nil
  simp only [RD]
  exact ⟨a,_,rfl,.inl ⟨rfl,hS⟩,Ef _ ns⟩
 ·refine ⟨rfl,[.lst (ns.map .int)],[],fun _=>False,[],⟨rfl,List.nodup_nil,fun _ z=>by simp at z,fun b e=>e.elim,fun n b o z=>by simp at z⟩,?_,fin _⟩
  refine ai.cons ?_ ai.nil
  simp only [RD]
  exact ⟨a,_,rfl,.inr hS,Ef _ ns⟩
end
end Fg
end
section
namespace Fg
open PySem PySem.Spec L2
theorem tE:∀ {ps:List Str} {us:List Value} {n:Str},n∉ps->(ps.zip us).lookup n=none
 | [],_,_,_=>rfl
 | _::_,[],_,_=>rfl
 | p::ps,u::us,n,h=>by
  rw [List.zip_cons_cons,List.lookup_cons,show (n == p)=false from beq_eq_false_iff_ne.mpr fun e=>h (e ▸ List.mem_cons_self)]
  exact tE fun z=>h (List.mem_cons_of_mem _ z)
theorem j9:∀ {ps:List Str} {us:List Value} {n:Str},n∈ps->ps.length<=us.length->((ps.zip us).lookup n).isNone=false
 | p::ps,[],n,_,hl=>by simp at hl
 | p::ps,u::us,n,h,hl=>by
  rw [List.zip_cons_cons,List.lookup_cons]
  cases e:n == p with
  | true=>rfl
  | false =>
   have e:=beq_eq_false_iff_ne.mp e
   exact j9 ((List.mem_cons.mp h).resolve_left e) (by simpa using hl)
theorem qo {α β:Type} {f g:α->Option β}:∀ {l:List α},(∀ n∈l,f n=g n)->l.filterMap f=l.filterMap g
 | [],_=>rfl
 | a::l,h=>by
  rw [List.filterMap_cons,List.filterMap_cons,h a List.mem_cons_self,qo fun n hn=>h n (List.mem_cons_of_mem _ hn)]
theorem jT:∀ {ps:List Str} {us:List Value},ps.Nodup->us.length=ps.length->(ps.filterMap fun n=>((ps.zip us).lookup n).map (n,·))=ps.zip us
 | [],_,_,_=>rfl
 | p::ps,[],_,hl=>by simp at hl
 | p::ps,u::us,nd,hl=>by
  rw [List.nodup_cons] at nd
  rw [List.zip_cons_cons,List.filterMap_cons,List.lookup_cons,beq_self_eq_true]
  simp only [Option.map_some]
  congr 1
  refine Eq.trans ?_ (jT (us:=us) nd.2 (by simpa using hl))
  exact qo fun n hn=>by rw [List.lookup_cons,show (n == p)=false from beq_eq_false_iff_ne.mpr fun e=>nd.1 (e ▸ hn)]
noncomputable def ku (a:Arguments) (ps:List Str):Bool:=a.posonlyargs.isEmpty&&a.kwonlyargs.isEmpty&&a.vararg.isNone&&a.kwarg.isNone&&decide (a.args.map (·.arg)=ps)
section
variable {s:Shared} {fd:FuncData} {ps:List Str} {us:List Value}
theorem jv {us:List Value} {qs:List Str} (h:∀ n∈qs,((ps.zip us).lookup n).isNone=false):(qs.filter fun n=>((ps.zip us).lookup n).isNone)=[]:=by
 rw [List.filter_eq_nil_iff]
 intro n hn
 rw [h n hn]
 decide
theorem jH (hp:ku fd.params ps=true) (nd:ps.Nodup) (hd:fd.defaults=.none) (hl:us.length=ps.length):BindsTo s fd ⟨us,[]⟩ (ps.zip us):=by
 simp only [ku,Bool.and_eq_true,List.isEmpty_iff,Option.isNone_iff_eq_none,decide_eq_true_eq] at hp
 obtain ⟨⟨⟨⟨h1,h2⟩,h3⟩,h4⟩,h5⟩:=hp
 refine BindsTo.of_eq ?_
 unfold bindArgs
 simp only [h1,h2,h3,h4,h5,hd,List.map_nil,List.nil_append,List.append_nil,List.forIn_nil,Option.isNone_none,Bool.and_true,pure_bind]
 rw [show seqItems? Value.none=pure none from rfl,pure_bind]
 simp only [Option.getD_none,List.length_nil,Nat.zero_sub,List.drop_zero,Nat.sub_zero,List.take_length]
 rw [jv fun n hn=>j9 hn (Nat.le_of_eq hl.symm),if_neg (by rw [hl];simp)]
 simp only [List.isEmpty_nil,Bool.not_true,Bool.false_eq_true,if_false,List.drop_length,List.zip_nil_left,List.forIn_nil,pure_bind]
 rw [jT nd hl]
theorem mX (hp:ku fd.params ps=true) (nd:ps.Nodup) {T:Addr} {o:Obj} {its:Array Value} {n:Nat} {du:Value} (hd:fd.defaults=.ref T) (ho:s.heap.get? T=some o) (hs:o.data=.seq its n) (hi:its.toList=[du])
  {ds:List Value} (hds:ds=[]\/ds=[du]) (hl:(us++ds).length=ps.length) (h0:ps≠[]):BindsTo s fd ⟨us,[]⟩ (ps.zip (us++ds)):=by
 simp only [ku,Bool.and_eq_true,List.isEmpty_iff,Option.isNone_iff_eq_none,decide_eq_true_eq] at hp
 obtain ⟨⟨⟨⟨h1,h2⟩,h3⟩,h4⟩,h5⟩:=hp
 obtain ⟨qs,z,rfl⟩:∃ qs z,ps=qs++[z]:=by
  rcases List.eq_nil_or_concat ps with e | ⟨qs,z,e⟩
  ·exact absurd e h0
  ·exact ⟨qs,z,by simpa using e⟩
 intro M A E Q hq
 unfold bindArgs
 simp only [h1,h2,h3,h4,h5,hd,List.map_nil,List.nil_append,List.append_nil,List.forIn_nil,Option.isNone_none,Bool.and_true,pure_bind]
 refine wpAny_bind (wpAny_seqItems ho hs ?_)
 simp only [Option.getD_some,hi,List.length_append,List.length_cons,List.length_nil] at hl ⊢
 have hz:z∉qs:=fun m=>by
  rw [List.nodup_append] at nd
  exact nd.2.2 z m z List.mem_cons_self rfl
 rw [show (0+1-(qs.length+(0+1)))=0 by omega,List.drop_zero,List.length_cons,List.length_nil,show qs.length+(0+1)-(0+1)=qs.length by omega,List.take_left,List.drop_left,
  jv (fun n hn=>?_),if_neg (by simp;rcases hds with rfl | rfl <;> simp at hl <;> omega)]
 ·simp only [List.isEmpty_nil,Bool.not_true,Bool.false_eq_true,if_false,List.zip_cons_cons,List.zip_nil_right,List.forIn_cons,List.forIn_nil,pure_bind]
  rcases hds with rfl | rfl
  ·rw [List.append_nil] at hq
   rw [j9 (by simp) (by simp at hl ⊢;omega)]
   simp only [Bool.false_eq_true,if_false,pure_bind]
   rw [jT nd (by simpa using hl)]
   exact wpAny_pure hq
  ·have hl':us.length=qs.length:=by simp at hl;omega
   have e:(qs++[z]).zip us=qs.zip us:=by
    rw [show us=us++[] by simp,List.zip_append hl'.symm];simp
   have e2:(qs++[z]).zip (us++[du])=qs.zip us++[(z,du)]:=by
    rw [List.zip_append hl'.symm];simp
   rw [e,tE hz]
   simp only [Option.isNone_none,if_true,pure_bind]
   rw [<- e2,jT nd (by simpa using hl)]
   exact wpAny_pure hq
 ·rcases hds with rfl | rfl
  ·exact j9 (by simp [hn]) (by simp at hl ⊢;omega)
  ·have hl':us.length=qs.length:=by simp at hl;omega
   have e:(qs++[z]).zip us=qs.zip us:=by
    rw [show us=us++[] by simp,List.zip_append hl'.symm];simp
   rw [e]
   exact j9 hn (Nat.le_of_eq hl'.symm)
end
end Fg
end
section
namespace Fg
open PySem PySem.Spec L2
theorem ES {K:W.Frag} {x:Str} {a:Addr} (h:adr K x=some a):W.nsIn K mainGlobals x=some (some (.ref a)):=by
 unfold adr at h
 split at h
 ·rename_i e;cases h;exact e
 ·cases h
theorem qC {K:W.Frag} {v:Value} (h:jq K v=some none):v=.none:=by
 unfold jq at h
 split at h
 ·rfl
 ·split at h
  ·split at h <;> cases h
  ·cases h
 ·cases h
theorem qB {K:W.Frag} {v:Value} {d:Int} (h:jq K v=some (some d)):∃ T oc od its n sl tk,v=.ref T/\K.lookup T=some ⟨oc,od,.seq its n,sl⟩/\its.toList=[.int d tk]:=by
 unfold jq at h
 split at h
 ·cases h
 ·split at h
  ·rename_i T _ oc od its n sl lk
   split at h
   ·rename_i _ d' tk hi
    cases h
    exact ⟨T,oc,od,its,n,sl,tk,rfl,lk,hi⟩
   ·cases h
  ·cases h
 ·cases h
theorem zP {K:W.Frag} {f:Addr} {r:Row} (h:qm K f=some r.good):∃ oc od dV kV doc pm an cdv ct osl,
  K.lookup f=some ⟨oc,od,.func (W.fnOf r.x r.ql (iP r.st) (cg r.st) (aD r.st) dV kV doc pm an cdv ct),osl⟩/\W.codeIn K cdv r.ql=true/\jq K dV=some r.kZ:=by
 unfold qm at h
 split at h
 ·rename_i oc od fd osl lk
  simp only [Row.good,Option.some.injEq,Prod.mk.injEq] at h
  obtain ⟨h1,h2,h3,h4,h5,h6,h7,h8,h9,w9⟩:=h
  obtain ⟨f1,f2,f3,f4,f5,f6,f7,f8,f9,f10,f11,f12,f13,f14,f15⟩:=fd
  dsimp only at h1 h2 h3 h4 h5 h6 h7 h8 h9 w9
  subst h1 h2 h3 h4 h5 h6 h7 h8
  exact ⟨oc,od,f8,f9,f10,f11,f12,f13,f14,osl,lk,w9,h9⟩
 ·cases h
noncomputable def scB (N P:List Str) (sc:Scope):Bool:=decide (sc.kind=.function)&&!sc.isCoroutine&&!sc.isGenerator&&decide N.Nodup&&decide (N.take P.length=P) &&
 (P.all fun x=>decide (sc.names.lookup x=some .local)||decide (sc.names.lookup x=some .cell))&&sc.names.all fun y=>decide (y.2≠.free)
theorem JH {N P:List Str} {sc:Scope} (h:scB N P sc=true):dD N P sc:=by
 simp only [scB,Bool.and_eq_true,decide_eq_true_eq,Bool.not_eq_true',List.all_eq_true,Bool.or_eq_true] at h
 obtain ⟨⟨⟨⟨⟨⟨h1,h2⟩,h3⟩,h4⟩,h5⟩,h6⟩,h7⟩:=h
 exact ⟨h1,h2,h3,h4,h5,h6,h7⟩
noncomputable def Row.ok (G:Gm) (P:lO) (r:Row):Bool:=match P.fn r.i with
 | some fn=>scB r.N r.ps (aD r.st)&&ku (iP r.st) r.ps&&decide (fn.np=r.ps.length)&&decide (fn.ns=r.N.length)&&fn.kZ.isEmpty&&(r.kZ.isNone||!r.ps.isEmpty)&&gY G 200 false r.N (aD r.st) (.ss (cg r.st) fn.body)
 | none=>false
structure Rw (G:Gm) (P:lO) (K:W.Frag) (r:Row) (f:Addr) (fd:FuncData):Prop where
 at_:FnAt G P K r.i r.ps.length f fd r.ps
 bd:Binds K fd r.ps []
 kp:W.keepIn K (.ref f)=true
 bn:r.kZ=none->∀ (s:Shared) (us:List Value),us.length=r.ps.length->BindsTo s fd ⟨us,[]⟩ (r.ps.zip us)
 df:∀ d,r.kZ=some d->∃ tk,Binds K fd r.ps [.int d tk]
theorem Cw {K:W.Frag} {f:Addr} {oc:Value} {od:Option Addr} {fd:FuncData} {sl:Array (Option Value)} (h:K.lookup f=some ⟨oc,od,.func fd,sl⟩):W.keepIn K (.ref f)=true:=by
 simp only [W.keepIn,h]
theorem yg {G:Gm} {P:lO} {K:W.Frag} {r:Row} {f:Addr} (h:qm K f=some r.good) (ok:r.ok G P=true):∃ fd,Rw G P K r f fd:=by
 obtain ⟨oc,od,dV,kV,doc,pm,an,cdv,ct,osl,lk,hc,hd⟩:=zP h
 unfold Row.ok at ok
 split at ok
 ·rename_i fn hf
  simp only [Bool.and_eq_true,decide_eq_true_eq,List.isEmpty_iff] at ok
  obtain ⟨⟨⟨⟨⟨⟨k1,k2⟩,k3⟩,k4⟩,k5⟩,k6⟩,k7⟩:=ok
  have S:=JH k1
  have nd:r.ps.Nodup:=by rw [<- S.pre];exact S.nd.sublist (List.take_sublist _ _)
  refine ⟨_,⟨_,_,_,_,_,⟨⟨oc,od,dV,kV,doc,pm,an,cdv,ct,osl,rfl,lk,hc⟩⟩,hf,S,rfl,k3,k4,k5,k7⟩,?_,Cw lk,fun e s us hl=>?_,fun d e=>?_⟩
  ·intro s us KX hl
   cases e:r.kZ with
   | none =>
    rw [e] at hd
    rw [List.append_nil] at hl ⊢
    exact jH k2 nd (qC hd) hl
   | some d =>
    rw [e] at hd k6
    obtain ⟨T,o1,o2,its,n,sl,tk,rfl,lT,hi⟩:=qB hd
    exact mX k2 nd rfl (KX _ _ lT) rfl hi (.inl rfl) hl (by simpa using k6)
  ·rw [e] at hd
   exact jH k2 nd (qC hd) hl
  ·rw [e] at hd k6
   obtain ⟨T,o1,o2,its,n,sl,tk,rfl,lT,hi⟩:=qB hd
   exact ⟨tk,fun s us KX hl=>mX k2 nd rfl (KX _ _ lT) rfl hi (.inr rfl) hl (by simpa using k6)⟩
 ·cases ok
end Fg
end
section
namespace Fg
open PySem PySem.Spec L2
theorem mem_of_lookup {α β:Type} [BEq α] [LawfulBEq α] {x:α} {b:β}:∀ {l:List (α×β)},l.lookup x=some b->(x,b)∈l
 | [],h=>by cases h
 | (y, c)::l, h=>by
  rw [List.lookup_cons] at h
  by_cases e:x=y
  ·subst e;simp at h;subst h;exact List.mem_cons_self
  ·rw [show (x == y)=false from beq_eq_false_iff_ne.mpr e] at h
   exact List.mem_cons_of_mem _ (mem_of_lookup h)
theorem cE {α β:Type} {f g:α->β}:∀ {l:List α},l.map f=l.map g->∀ a∈l,f a=g a
 | [],_,_,h=>by cases h
 | b::l,e,a,h=>by
  rw [List.map_cons,List.map_cons,List.cons.injEq] at e
  rcases List.mem_cons.mp h with rfl | h
  ·exact e.1
  ·exact cE e.2 a h
noncomputable def Tb.gm (t:Tb):Gm:=⟨t.fn.map fun r=>(r.x,r.i,r.ps.length),(t.cs.map fun c=>(c.1,c.2.1))++(t.ct.map fun c=>(c.1,c.2.1))++(t.cd.map fun c=>(c.1,c.2.1)),t.bl,
 t.mt.filterMap fun r=>if r.2.x=("__init__" : Str) then (t.cl[r.1]?).map fun x=>(x, r.1, r.2.i, r.2.ps.length) else none,
 t.mt.filterMap fun r=>if r.2.x=("__init__" : Str) then none else some ((r.1, r.2.x), r.2.i, r.2.ps.length), t.fl, t.xc.zipIdx,
 t.fn.filterMap fun r=>r.kZ.map fun d=>(r.x,r.i,r.ps.length,d),true⟩
noncomputable def E6:D->Option Str
 | .str x=>some x
 | _=>none
noncomputable def intD:D->Option Int
 | .int x=>some x
 | _=>none
noncomputable def Tb.okC (t:Tb) (P:lO):Bool:=(t.cs.all fun c=>match P.glob c.2.1 with
 | some (.int n)=>decide (n=c.2.2)
 | _=>false)&&(t.ct.all fun c=>decide (c.2.2.length<=sizeLine)&&match P.glob c.2.1 with
 | some (.tup ds)=>decide (ds.map E6=c.2.2.map some)
 | _=>false)&&t.cd.all fun c=>decide (c.2.2.length<=sizeLine)&&decide (c.2.2.map fun z=>z.1).Nodup&&match P.glob c.2.1 with
 | some (.dct ks ds)=>decide (ks=c.2.2.map fun z=>Sum.inr z.1)&&decide (ds.map intD=c.2.2.map fun z=>some z.2)
 | _=>false
noncomputable def Tb.ok (t:Tb) (G:Gm) (P:lO):Bool:=(t.fn.all fun r=>r.ok G P)&&(t.mt.all fun r=>r.2.ok G P)&&t.okC P
theorem lX:∀ {us:List Value} {xs:List Str},us.map strOf=xs.map some->Vals (xs.map .str) us
 | [],[],_=>.nil
 | [],_::_,h=>by cases h
 | _::_,[],h=>by cases h
 | u::us,x::xs,h=>by
  rw [List.map_cons,List.map_cons,List.cons.injEq] at h
  refine .cons ?_ (lX h.2)
  have h1:=h.1
  unfold strOf at h1
  split at h1
  ·cases h1;exact ⟨_,rfl⟩
  ·cases h1
theorem vc {w:World}:∀ {es:List DictEntry} {kvs:List (Str×Int)},(es.map fun e=>(e.hash,strOf e.key,intOf e.val))=(kvs.map fun z=>(PyData.keyHash w.params z.1,some z.1,some z.2)) ->
  W.KeysLit w.params es/\DA es (kvs.map fun z=>(Sum.inr z.1,.int z.2))
 | [],[],_=>⟨trivial,.nil⟩
 | [],_::_,h=>by cases h
 | _::_,[],h=>by cases h
 | ⟨hh, k, v⟩::es, z::kvs, h=>by
  rw [List.map_cons,List.map_cons,List.cons.injEq,Prod.mk.injEq,Prod.mk.injEq] at h
  obtain ⟨⟨h1,h2,h3⟩,h4⟩:=h
  obtain ⟨q1,q2⟩:=vc h4
  dsimp only at h1 h2 h3
  unfold strOf at h2
  unfold intOf at h3
  split at h2
  ·cases h2
   split at h3
   ·cases h3
    exact ⟨⟨⟨_,_,rfl,h1⟩,q1⟩,.cons ⟨_,rfl⟩ q2⟩
   ·cases h3
  ·cases h2
section
variable {B:Bd} {F:Addr->Prop} {ρ:List Addr} {H:Hp}
theorem pX:∀ {ds:List D} {xs:List Str},ds.map E6=xs.map some->ai B F ρ H ds (xs.map .str)
 | [],[],_=>ai.nil
 | [],_::_,h=>by cases h
 | _::_,[],h=>by cases h
 | d::ds,x::xs,h=>by
  rw [List.map_cons,List.map_cons,List.cons.injEq] at h
  refine ai.cons ?_ (pX h.2)
  have h1:=h.1
  unfold E6 at h1
  split at h1
  ·cases h1;simp only [RD]
  ·cases h1
theorem pY:∀ {ds:List D} {kvs:List (Str×Int)},ds.map intD=(kvs.map fun z=>some z.2)->ai B F ρ H ds (kvs.map fun z=>.int z.2)
 | [],[],_=>ai.nil
 | [],_::_,h=>by cases h
 | _::_,[],h=>by cases h
 | d::ds,x::xs,h=>by
  rw [List.map_cons,List.map_cons,List.cons.injEq] at h
  refine ai.cons ?_ (pY h.2)
  have h1:=h.1
  unfold intD at h1
  split at h1
  ·cases h1;simp only [RD]
  ·cases h1
end
theorem lz {α:Type} {K:W.Frag} {x:Str} {f:Addr->Option α} {v:α} (h:(adr K x).bind f=some v):∃ a,adr K x=some a/\f a=some v:=Option.bind_eq_some_iff.mp h
theorem oQ {α:Type} {K:W.Frag} {x:Str} {f:Addr->α} {v:α} (h:(adr K x).map f=some v):∃ a,adr K x=some a/\f a=v:=Option.map_eq_some_iff.mp h
section
variable {t:Tb} {P:lO} {w:World} {K:W.Frag} {h:Heap} {mg:Str->Option Value}
theorem yX (e:t.tY K=t.good P w) (ok:t.ok t.gm P=true) (r:Row) (hr:r∈t.fn):∃ f fd,adr K r.x=some f/\Rw t.gm P K r f fd:=by
 simp only [Tb.tY,Tb.good,Prod.mk.injEq] at e
 obtain ⟨f,h1,h2⟩:=lz (cE e.1 r hr)
 simp only [Tb.ok,Bool.and_eq_true,List.all_eq_true] at ok
 obtain ⟨fd,R⟩:=yg h2 (ok.1.1 r hr)
 exact ⟨f,fd,h1,R⟩
theorem D8 (e:t.tY K=t.good P w) (ok:t.ok t.gm P=true) (r:Nat×Row) (hr:r∈t.mt):∃ x C f fd,t.cl[r.1]? = some x/\adr K x=some C/\W.findIn K (.ref C) r.2.x=some (some (.ref f))/\W.isFn K (.ref f)=true/\Rw t.gm P K r.2 f fd:=by
 simp only [Tb.tY,Tb.good,Prod.mk.injEq] at e
 have h1:=cE e.2.2.1 r hr
 unfold yU at h1
 obtain ⟨C,h2,h3⟩:=Option.bind_eq_some_iff.mp h1
 obtain ⟨x,h4,h5⟩:=Option.bind_eq_some_iff.mp h2
 simp only [Tb.ok,Bool.and_eq_true,List.all_eq_true] at ok
 split at h3
 ·rename_i f hf
  obtain ⟨z,h6,h7⟩:=Option.map_eq_some_iff.mp h3
  rw [Prod.mk.injEq] at h7
  rw [h7.1] at h6
  obtain ⟨fd,R⟩:=yg h6 (ok.1.2 r hr)
  exact ⟨x,C,f,fd,h4,h5,hf,h7.2,R⟩
 ·cases h3
theorem D9 (e:t.tY K=t.good P w) {c:Nat} {C:Addr} (hc:(t.cl[c]?).bind (adr K)=some C):oz t K C=j5 t:=by
 obtain ⟨x,h1,h2⟩:=Option.bind_eq_some_iff.mp hc
 simp only [Tb.tY,Tb.good,Prod.mk.injEq] at e
 obtain ⟨C',h3,h4⟩:=oQ (cE e.2.1 x (List.mem_of_getElem? h1))
 rw [h2] at h3
 cases h3
 exact h4
theorem qO {xs:List Str} {x:Str} {c:Nat} (h:xs[c]? = some x):(x,c)∈xs.zipIdx:=List.mk_mem_zipIdx_iff_getElem?.mpr h
theorem Kp (e:t.tY K=t.good P w) {c:Nat} {X:Addr} (hc:(t.xc[c]?).bind (adr K)=some X):W.excIn K X BMV "ValueError.__new__" = true/\W.mroIn K X (.type "BaseException")=some true /\
  ∀ d D,(t.xc[d]?).bind (adr K)=some D->W.mroIn K X (.ref D)=some (P.sub c d):=by
 obtain ⟨x,h1,h2⟩:=Option.bind_eq_some_iff.mp hc
 simp only [Tb.tY,Tb.good,Prod.mk.injEq] at e
 obtain ⟨C',h3,h4⟩:=oQ (cE e.2.2.2.1 (x,c) (qO h1))
 rw [show adr K (x,c).1=some X from h2] at h3
 cases h3
 simp only [zT,Prod.mk.injEq] at h4
 refine ⟨h4.1,h4.2.1,fun d D hd=>?_⟩
 obtain ⟨y,h5,h6⟩:=Option.bind_eq_some_iff.mp hd
 have z:(t.xc.zipIdx.map fun y=>(adr K y.1).bind fun Y=>W.mroIn K X (.ref Y))=t.xc.zipIdx.map fun y=>some (P.sub c y.2):=by
  rw [<- h4.2.2]
  conv=>rhs;rw [<- List.zipIdx_map_fst 0 t.xc]
  rw [List.map_map]
  rfl
 have q:=cE z (y,d) (qO h5)
 rw [show adr K (y,d).1=some D from h6] at q
 exact q
theorem Tb.md (X:K.In h) (G:h.Ns mainGlobals mg) (e:t.tY K=t.good P w) (ok:t.ok t.gm P=true):Md t.gm P w K mg (fun c=>(t.cl[c]?).bind (adr K)) (fun c=>(t.xc[c]?).bind (adr K)):=by
 have IT:∀ {x a},adr K x=some a->mg x=some (.ref a):=fun q=>W.mg_of X G (ES q)
 refine ⟨fun x i hx=>?_,fun x hx=>?_,fun f i m hx=>?_,fun c C hx=>?_,fun c nm i m hx=>?_,fun x c i m hx=>?_,fun x c hx=>?_,fun c C hx=>?_,fun x f m d hx=>?_,rfl⟩
 ·have e':=e
  simp only [Tb.tY,Tb.good,Prod.mk.injEq] at e'
  simp only [Tb.ok,Tb.okC,Bool.and_eq_true,List.all_eq_true] at ok
  obtain ⟨_,⟨ok1,ok2⟩,ok3⟩:=ok
  rcases List.mem_append.mp (mem_of_lookup hx) with hm | hm
  ·rcases List.mem_append.mp hm with hm | hm
   ·obtain ⟨c,hc,q⟩:=List.mem_map.mp hm
    cases q
    have h1:=cE e'.2.2.2.2.1 c hc
    unfold Ax at h1
    split at h1
    ·rename_i n tk hn
     cases h1
     refine ⟨.int c.2.2,_,W.mg_of X G hn,⟨_,rfl⟩,fun d hd F ρ H=>?_⟩
     have h2:=ok1 c hc
     rw [hd] at h2
     split at h2
     ·rename_i n' hn'
      cases hn'
      rw [of_decide_eq_true h2]
      simp only [RD]
     ·cases h2
    ·cases h1
   ·obtain ⟨c,hc,q⟩:=List.mem_map.mp hm
    cases q
    obtain ⟨a,h1,h2⟩:=lz (cE e'.2.2.2.2.2.2.1 c hc)
    unfold xB at h2
    split at h2
    ·rename_i cl od its n sl lk
     rw [Option.some.injEq,Prod.mk.injEq] at h2
     obtain ⟨rfl,h2⟩:=h2
     have h3:=ok2 c hc
     refine ⟨.ref a,_,IT h1,rfl,fun d hd F ρ H=>?_⟩
     rw [hd] at h3
     obtain ⟨h3,h4⟩:=h3
     split at h4
     ·rename_i ds hn'
      cases hn'
      have v:=lX h2
      simp only [RD]
      exact ⟨a,_,rfl,.inr ⟨_,_,_,lk,rfl,rfl,by rw [<- Array.length_toList,<- v.length,List.length_map];exact of_decide_eq_true h3,v⟩,pX (of_decide_eq_true h4)⟩
     ·cases h4
    ·cases h2
  ·obtain ⟨c,hc,q⟩:=List.mem_map.mp hm
   cases q
   obtain ⟨a,h1,h2⟩:=lz (cE e'.2.2.2.2.2.2.2 c hc)
   unfold Ar at h2
   split at h2
   ·rename_i cl od es n sl lk
    simp only [vd,Option.some.injEq,Prod.mk.injEq] at h2
    obtain ⟨rfl,rfl,rfl,hs,h2⟩:=h2
    have h3:=ok3 c hc
    refine ⟨.ref a,_,IT h1,rfl,fun d hd F ρ H=>?_⟩
    rw [hd] at h3
    obtain ⟨⟨h3,h5⟩,h4⟩:=h3
    split at h4
    ·rename_i ks ds hn'
     cases hn'
     simp only [Bool.and_eq_true,decide_eq_true_eq] at h4
     obtain ⟨q1,q2⟩:=vc h2
     simp only [RD]
     refine ⟨a,_,rfl,.inr ⟨?_,hs,?_,es,n,lk,q1,q2⟩,?_,?_⟩
     ·rw [List.length_map];exact of_decide_eq_true h3
     ·rw [List.map_map]
      have:=of_decide_eq_true h5
      rw [show ((fun z:Key×V=>z.1) ∘ fun z:Str×Int=>((Sum.inr z.1:Key),V.int z.2))=(fun s=>(Sum.inr s:Key)) ∘ fun z:Str×Int=>z.1 from rfl,<- List.map_map]
      exact List.pairwise_map.mpr (this.imp fun h e=>h (Sum.inr.inj e))
     ·rw [List.map_map,h4.1];rfl
     ·rw [List.map_map];exact pY h4.2
    ·cases h4
   ·cases h2
 ·have e':=e
  simp only [Tb.tY,Tb.good,Prod.mk.injEq] at e'
  exact W.mg_none_of X G (cE e'.2.2.2.2.2.1 x (List.contains_iff_mem.mp hx))
 ·obtain ⟨r,hr,q⟩:=List.mem_map.mp (mem_of_lookup hx)
  cases q
  obtain ⟨fa,fd,h1,R⟩:=yX e ok r hr
  exact ⟨fa,fd,r.ps,IT h1,R.kp,R.bd,R.at_⟩
 ·have q:=D9 e hx
  simp only [oz,j5,Prod.mk.injEq] at q
  obtain ⟨q1,q2,q3,q4,q5,q6,q7⟩:=q
  exact ⟨⟨q1,q2,q3,q4⟩,fun f hf=>cE q7 f (List.contains_iff_mem.mp hf)⟩
 ·obtain ⟨r,hr,q⟩:=List.mem_filterMap.mp (mem_of_lookup hx)
  split at q
  ·cases q
  ·cases q
   obtain ⟨x,C,f,fd,h1,h2,h3,h4,R⟩:=D8 e ok r hr
   exact ⟨C,f,fd,r.2.ps,by rw [h1];exact h2,⟨h3,h4,R.kp⟩,R.bd,R.at_⟩
 ·obtain ⟨r,hr,q⟩:=List.mem_filterMap.mp (mem_of_lookup hx)
  split at q
  ·rename_i hi
   obtain ⟨y,h0,q⟩:=Option.map_eq_some_iff.mp q
   cases q
   obtain ⟨x',C,f,fd,h1,h2,h3,h4,R⟩:=D8 e ok r hr
   rw [h0] at h1
   cases h1
   have hC:(t.cl[r.1]?).bind (adr K)=some C:=by rw [h0];exact h2
   have q:=D9 e hC
   simp only [oz,j5,Prod.mk.injEq] at q
   rw [hi] at h3
   exact ⟨C,f,fd,r.2.ps,IT h2,hC,⟨q.2.2.2.2.1,h3,h4,q.2.2.2.2.2.1⟩,R.bd,R.at_⟩
  ·cases q
 ·have hm:=List.mk_mem_zipIdx_iff_getElem?.mp (mem_of_lookup hx)
  have e':=e
  simp only [Tb.tY,Tb.good,Prod.mk.injEq] at e'
  obtain ⟨C,h3,_⟩:=oQ (cE e'.2.2.2.1 (x,c) (qO hm))
  exact ⟨C,IT h3,by rw [hm];exact h3⟩
 ·obtain ⟨q1,q2,q3⟩:=Kp e hx
  obtain ⟨bm,ec,em⟩:=HP q1
  exact ⟨_,_,bm,_,_,ec,PySem.F.excBase_ValueError,j7 (em _ _ q2),fun d D hd=>em _ _ (q3 d D hd)⟩
 ·obtain ⟨r,hr,q⟩:=List.mem_filterMap.mp (mem_of_lookup hx)
  obtain ⟨d',hd,q⟩:=Option.map_eq_some_iff.mp q
  cases q
  obtain ⟨fa,fd,h1,R⟩:=yX e ok r hr
  obtain ⟨tk,hb⟩:=R.df _ hd
  exact ⟨fa,fd,r.ps,_,IT h1,R.kp,hb,⟨_,rfl⟩,R.at_⟩
theorem Tb.walk (t:Tb) (P:lO) {l:W.OpenLaw} {q:Program} {loose:List Str} {XP:(Str->Option Value)->Heap->Prop} {d:DefRec} {r:Row} {x:Str} (k:Nat) (hn:l.most=some 63) (hdf:d.params.defaults=[]) (hk:bW (k+1) callerA)
  (ok:t.ok t.gm P=true) (hr:r∈t.fn) (hx:d.name=r.x) (h0:r.kZ=none) (hps:r.ps=[x])
  (hP:∀ ns:List Int,ns.length<=63->∃ M',(aa P (k+1)).call r.i [.lst (ns.map .int)] []=.ok (.bl true) M') :
  W.WalkO q loose XP (t.hook P).says l.row.toRowW d [] (fun f vs=>PySem.call f vs):=by
 refine Att.qI hn hdf fun w s₀ s₁ mg mb fa o pm cd doc a vs ns G Y ho hd hcd hmg hobj hints hlen hg=>?_
 obtain ⟨K,KX,e⟩:=Y
 obtain ⟨f,fd,h1,R⟩:=yX e ok r hr
 have hf:mg d.name=some (.ref f):=by rw [hx];exact W.mg_of KX G.T.g (ES h1)
 cases hmg.symm.trans hf
 obtain ⟨y,qual,st,N,fn,F,q1,q2,q3,q4,q5,q6,q7⟩:=R.at_
 have D:=Tb.md (w:=w) KX G.T.g e ok
 have bd:=R.bn h0
 rw [hps] at bd q2 q3 q4
 exact zg (CX:=g9 l.prog w) (sp:=DP K) (x:=x) (fd:=fd) KX G.T.g G.T.b G.T.builtins G.T.nolimit hg hobj hints (Nat.le_trans hlen (by decide)) hk (fun base _ _=>GN D hP F q1 q2 q3 q4 q5 q6 q7) (fun s u=>bd s [u] rfl)
  (fun H hO hS=>⟨a,ns,rfl,hS,hlen,fun _=>rfl⟩) fun H e s' ⟨_,_,_,_,_,_,_,_,_,_,_,_,z⟩=>z
end
end Fg
end
section
namespace bM
open Fg PySem
theorem fn0:aj.fn 0=some uJ:=rfl
theorem iT:aj.fn 1=some dm:=rfl
theorem fn2:aj.fn 2=some jh:=rfl
theorem fn3:aj.fn 3=some gj:=rfl
theorem fn4:aj.fn 4=some cZ:=rfl
theorem fn5:aj.fn 5=some gW:=rfl
theorem fn6:aj.fn 6=some fU:=rfl
theorem HH:aj.fn 7=some mJ:=rfl
theorem K1:aj.fn 8=some zS:=rfl
theorem fn9:aj.fn 9=some d7:=rfl
theorem K6:aj.fn 10=some fT:=rfl
theorem fn11:aj.fn 11=some cH:=rfl
theorem fn12:aj.fn 12=some c6:=rfl
theorem zR:aj.fn 13=some bC:=rfl
theorem HL:aj.fn 14=some d9:=rfl
theorem wG:aj.fn 15=some fW:=rfl
theorem K5:aj.fn 16=some fq:=rfl
theorem fn17:aj.fn 17=some bK:=rfl
theorem zQ:aj.fn 18=some aW:=rfl
noncomputable abbrev w (x:String):Str:=Str.ofString x
theorem br {M:MH} {c:Nat}:pV M c M=.exc c M:=by simp [pV]
theorem au {kp:Bool} {M M':MH} {d:D} (h:nr M.length d=true) (hl:M'.length=M.length):cJ kp M d M'=.ok d M':=by
 unfold cJ
 by_cases hk:kp=false/\M'.take M.length=M
 ·rw [if_pos hk,if_pos h]
  have:M'=M:=by rw [<- hk.2,<- hl,List.take_length]
  rw [this]
 ·rw [if_neg hk]
theorem CD {n x:Nat} (h:x<n):AX n (x:Int)=some x:=by
 have h1:(x:Int)<(n:Int):=by omega
 simp only [AX,if_pos (show (0:Int)<=(x:Int) by omega),if_pos h1,Int.toNat_natCast]
theorem oM {α:Type} {xs:List α} {i:Nat} {x:α} (h:xs[i]? = some x):lN xs (i:Int)=some x:=by
 have hx:=(List.getElem?_eq_some_iff.mp h).1
 simp only [lN,CD hx,Option.bind_some,h]
theorem dP {P:lO} {k f:Nat} {fn:Fn} {ds:List D} {M M':MH} {σ':Sg} {r:R D} (hf:P.fn f=some fn) (hn:ds.length=fn.np) (hb:exs (aa P k) fn.body (ds.map some++List.replicate (fn.ns-fn.np) none) M=.ok (.nx σ') M') (hr:cJ fn.keep M .ao M'=r):(aa P (k+1)).call f ds M=r:=by
 rw [cP hf]
 have h1:ds.length+fn.kZ.length-fn.np=fn.kZ.length:=by omega
 simp only [ko,h1,List.drop_length,List.append_nil,hb]
 rw [if_pos (by simp;omega)]
 exact hr
theorem jr {P:lO} {k f c:Nat} {fn:Fn} {ds:List D} {M M':MH} {σ':Sg} {r:R D} (hf:P.fn f=some fn) (hn:ds.length=fn.np) (hb:exs (aa P k) fn.body (ds.map some++List.replicate (fn.ns-fn.np) none) M=.ok (.xc c σ') M') (hr:pV M c M'=r):(aa P (k+1)).call f ds M=r:=by
 rw [cP hf]
 have h1:ds.length+fn.kZ.length-fn.np=fn.kZ.length:=by omega
 simp only [ko,h1,List.drop_length,List.append_nil,hb]
 rw [if_pos (by simp;omega)]
 exact hr
section
variable {Φ:bF} {σ σ':Sg} {M M1 M2 M3:MH} {e e' c a b:E} {x y d:D} {ss sa sb:Ss} {i n j k:Nat} {xs p:List D}
theorem l8 (h:ev Φ e σ M=.exc k M1):exs Φ (.cons (.ex e) ss) σ M=.ok (.xc k σ) M1:=by simp only [bR,K8,h,R.nc,R.af]
theorem Fx (h:ev Φ e σ M=.exc k M1):exs Φ (.cons (.set i e) ss) σ M=.ok (.xc k σ) M1:=by simp only [bR,HQ,h,R.nc,R.af]
theorem rC (h:ev Φ e σ M=.exc k M1):exs Φ (.cons (.ret e) ss) σ M=.ok (.xc k σ) M1:=by simp only [bR,HR,h,R.nc,R.af]
theorem pN (h:ev Φ c σ M=.ok (.bl true) M1) (ha:exs Φ sa σ M1=.ok (.xc k σ') M2):exs Φ (.cons (.ifs c sa sb) ss) σ M=.ok (.xc k σ') M2:=by simp only [bR,sC,h,R.gP,ha,R.af]
theorem yd {f:Nat} (he:ev Φ e σ M=.ok d M1) (hs:bY d=true):exs Φ (.cons (.raise f (.cons e .nil)) ss) σ M=.ok (.xc f σ) M1:=by simp only [bR,zV,zY,CT,he,R.af,hs,if_true,R.gP]
theorem i6 {s:S} (h:ex Φ s σ M=.ok (.nx σ') M1):exs Φ (.cons s ss) σ M=exs Φ ss σ' M1:=by simp only [bR,h,R.af]
theorem JW {M:MH} {n:Nat} (h:M[n]? = some (.lst (p++[x]))):gR .pop true M (.ref n) []=.ok x (M.set n (.lst p)):=by
 simp [gR,ck h,qb]
theorem LO {M:MH} {n:Nat} (h:M[n]? = some (.lst xs)) (hl:xs.length<line):gR .append true M (.ref n) [d]=.ok .ao (M.set n (.lst (xs++[d]))):=by
 simp only [gR,ck h,qb,yI,hl,decide_true,if_true]
theorem yJ {M:MH} {n:Nat} (h:M[n]? = some (.lst xs)):nL .pop M (.ref n)=true:=by simp only [nL,ck h,Option.isSome_some,Bool.and_self]
theorem rO {M:MH} {n:Nat} (h:M[n]? = some (.lst xs)):nL .append M (.ref n)=true:=by simp only [nL,ck h,Option.isSome_some,Bool.and_self]
theorem e_v {M:MH} (h:σ[i]? = some (some d)):ev Φ (.v i) σ M=.ok d M:=by simp only [lM,h]
theorem qz {M M1 M2:MH} {n:Nat} {e':E} {ys:List D} (he:ev Φ e σ M=.ok (.ref n) M1) (h:M1[n]? = some (.lst ys)) (hx:ev Φ e' σ M1=.ok d M2) (h2:M2[n]? = some (.lst xs)) (hl:xs.length<line):ev Φ (.dH .append true e (.cons e' .nil)) σ M=.ok .ao (M2.set n (.lst (xs++[d]))):=by
 simp only [jk,he,R.af,rO h,if_true,bS,hx,gk,LO h2 hl]
theorem Ih {M M1 M2:MH} {n:Nat} {e':E} {ys:List D} (he:ev Φ e σ M=.ok (.ref n) M1) (h:M1[n]? = some (.lst ys)) (hx:ev Φ e' σ M1=.exc k M2):ev Φ (.dH .append true e (.cons e' .nil)) σ M=.exc k M2:=by
 simp only [jk,he,R.af,rO h,if_true,bS,hx,R.ek]
theorem Lq {M M1 M2:MH} {n:Nat} {e':E} {j:Int} (he:ev Φ e σ M=.ok (.ref n) M1) (hx:ev Φ e' σ M1=.ok (.int j) M2) (h:M2[n]? = some (.lst xs)) (ha:lN xs j=some d):ev Φ (.idx e e') σ M=.ok d M2:=by
 simp only [jl,he,R.af,hx,nU,vw,h,ha]
theorem iO {M M1 M2:MH} {e':E} {j:Int} (he:ev Φ e σ M=.ok (.lst xs) M1) (hx:ev Φ e' σ M1=.ok (.int j) M2) (ha:lN xs j=some d):ev Φ (.idx e e') σ M=.ok d M2:=by
 simp only [jl,he,R.af,hx,nU,vw,ha]
theorem aC {M M1 M2:MH} {e':E} {j:Int} (he:ev Φ e σ M=.ok (.tup xs) M1) (hx:ev Φ e' σ M1=.ok (.int j) M2) (ha:lN xs j=some d):ev Φ (.idx e e') σ M=.ok d M2:=by
 simp only [jl,he,R.af,hx,nU,vw,ha]
theorem Lr {M M1 M2:MH} {n:Nat} {e':E} {q:Str} {kvs:List (Ky×D)} (he:ev Φ e σ M=.ok (.ref n) M1) (hx:ev Φ e' σ M1=.ok (.str q) M2) (h:M2[n]? = some (.dct kvs)) (ha:look kvs (.inr q)=some d):ev Φ (.idx e e') σ M=.ok d M2:=by
 simp only [jl,he,R.af,hx,nU,vw,h,keyOf,ha]
theorem mS {M M1 M2:MH} {e':E} {a b:Int} {fz:Bool} (he:ev Φ e σ M=.ok (.int a) M1) (hx:ev Φ e' σ M1=.ok (.int b) M2):ev Φ (.op .add fz e e') σ M=.ok (.int (a+b)) M2:=by
 simp only [iI,he,R.af,hx,lD,eN]
theorem mP {M M1 M2:MH} {e':E} {a b:Int} {fz:Bool} (he:ev Φ e σ M=.ok (.int a) M1) (hx:ev Φ e' σ M1=.ok (.int b) M2):ev Φ (.op .sub fz e e') σ M=.ok (.int (a-b)) M2:=by
 simp only [iI,he,R.af,hx,lD,eN]
theorem bB {M M1:MH} {f:Nat} (he:ev Φ e σ M=.ok d M1):ev Φ (.call f (.cons e .nil)) σ M=Φ.call f [d] M1:=by
 simp only [aO,bS,he,R.af,gk]
theorem Aj {M M1:MH} {a b:Str} (he:ev Φ e σ M=.ok (.str a) M1):ev Φ (.cmp .eq e (.k (.str b))) σ M=.ok (.bl (decide (a=b))) M1:=by
 simp [he,bf,vj,Lg,aZ,top,Fg.plain,dep]
theorem Ib {M1 M2:MH} {e e':E} {a b:Int} {q:Bool} (he:ev Φ e σ M=.ok (.int a) M1) (hx:ev Φ e' σ M1=.ok (.int b) M2) (hq:decide (b<a)=q):ev Φ (.cmp .gt e e') σ M=.ok (.bl q) M2:=by
 rw [cF,he,R.af,hx,<- hq];rfl
theorem HZ {M1 M2:MH} {e a:E} {d:D} {n c:Nat} {g:Str} {gs gs':List (Str×D)} (he:ev Φ e σ M=.ok d M1) (ha:ev Φ a σ M1=.ok (.ref n) M2) (h:M2[n]? = some (.ins c gs)) (hl:gs.length<1000) (hg:eK g d gs=gs'):ex Φ (.eF a g e) σ M=.ok (.nx σ) (M2.set n (.ins c gs')):=by
 simp only [oh,he,R.gP,ha,h,hl,decide_true,if_true,hg]
theorem e_new {M1 M2:MH} {c g:Nat} {es:Es} {ds:List D} (he:cM Φ es σ M=.ok ds M1) (hc:Φ.ini g (.ref M1.length::ds) (M1++[.ins c []])=.ok .ao M2):ev Φ (.new c g es) σ M=.ok (.ref M1.length) M2:=by
 rw [HV,he,R.af,hc];rfl
theorem Ig {M1 M2:MH} {caps tg:List Nat} {elt:E} {it:Src} {d:D} {ds out:List D} (hi:aX Φ it σ M=.ok (d,ds,false) M1) (hl:bG (oW Φ .none) (ev Φ elt) tg (aP M1 d) ds (oB σ caps++List.replicate tg.length none) M1 []=.ok out M2):ev Φ (.comp false caps tg elt it .none) σ M=.ok (.ref M2.length) (M2++[.lst out]):=by
 rw [uO,hi,R.af,En,hl];rfl
theorem uU {M1 M2:MH} {caps tg:List Nat} {elt:E} {it:Src} {d:D} {ds out:List D} (hi:aX Φ it σ M=.ok (d,ds,false) M1) (hl:bG (oW Φ .none) (ev Φ elt) tg (aP M1 d) ds (oB σ caps++List.replicate tg.length none) M1 []=.ok out M2):ev Φ (.comp true caps tg elt it .none) σ M=.ok (.lst out) M2:=by
 rw [uO,hi,R.af,En,hl];rfl
theorem rV {elt:Sg->MH->R D} {n:Nat} {ch:MH->Bool} {d x:D} {ds acc:List D} {M1:MH} (h:elt (σ.set n (some d)) M=.ok x M1) (hc:ch M1=true) (hl:acc.length<line):bG (oW Φ .none) elt [n] ch (d::ds) σ M acc=bG (oW Φ .none) elt [n] ch ds (σ.set n (some d)) M1 (acc++[x]):=by
 rw [bG]
 simp only [sets,z9,R.af,h,hc,if_true,hl,decide_true]
theorem cL (h:ev Φ e σ M=.ok x M1) (h':ev Φ e' σ M1=.ok y M2):cM Φ (.cons e (.cons e' .nil)) σ M=.ok [x,y] M2:=by rw [bS,h,R.af,bS,h'];rfl
theorem wH (h:ev Φ e σ M=.ok x M1):cM Φ (.cons e .nil) σ M=.ok [x] M1:=by rw [bS,h];rfl
theorem aN {es:Es} (h:ev Φ e σ M=.ok x M1) (h':cM Φ es σ M1=.ok xs M2):cM Φ (.cons e es) σ M=.ok (x::xs) M2:=by rw [bS,h,R.af,h'];rfl
theorem uL {s:S}:exs Φ (.cons s .nil) σ M=ex Φ s σ M:=by
 rw [bR]
 cases ex Φ s σ M with
 | ok o M1=>cases o <;> rfl
 | exc c M1=>rfl
 | bad=>rfl
theorem cS {sa sb:Ss} (h:ev Φ c σ M=.ok (.bl false) M1):exs Φ (.cons (.ifs c sa sb) .nil) σ M=exs Φ sb σ M1:=by rw [uL,sC,h];rfl
theorem kj {sa sb:Ss} (h:ev Φ c σ M=.ok (.bl true) M1):exs Φ (.cons (.ifs c sa sb) .nil) σ M=exs Φ sa σ M1:=by rw [uL,sC,h];rfl
end
noncomputable def Et:List Str->Es
 | []=>.nil
 | b::bs=>.cons (.k (.str b)) (Et bs)
theorem uN {Φ:bF} {σ:Sg} {M:MH}:∀ bs:List Str,cM Φ (Et bs) σ M=.ok (bs.map D.str) M
 | []=>rfl
 | b::bs=>by rw [Et,bS,kP,R.af,uN bs];rfl
theorem mQ {Φ:bF} {σ:Sg} {M M1:MH} {e:E} {c:Str} {bs:List Str} {q:Bool} (he:ev Φ e σ M=.ok (.str c) M1) (hq:(bs.any fun z=>decide (z=c))=q):ev Φ (.cmp .isin e (.tup (Et bs))) σ M=.ok (.bl q) M1:=by
 have h1:(bs.map D.str).all flat=true:=by rw [List.all_map];exact List.all_eq_true.mpr fun _ _=>rfl
 have h2:((bs.map D.str).any fun d=>aJ d (.str c))=q:=by
  rw [List.any_map,<- hq]
  congr 1
 rw [cF,he,R.af,bT,uN]
 simp only [R.af,bf,zI,vw,flat,h1,h2,Bool.and_self,if_true]
theorem bA {Φ:bF} {σ:Sg} {M M1:MH} {e:E} {c z:Str} {q:Bool} (he:ev Φ e σ M=.ok (.str c) M1) (hq:decide (c=z)=q):ev Φ (.cmp .eq e (.k (.str z))) σ M=.ok (.bl q) M1:=by
 rw [Aj he,hq]
theorem wz {a b:String} (h:decide (Str.ofString a=Str.ofString b)=false:=by decide +kernel):(Str.ofString a == Str.ofString b)=false:=by
 rw [beq_eq_false_iff_ne];exact of_decide_eq_false h
theorem wn {a b:String} (h:decide (Str.ofString a=Str.ofString b)=false:=by decide +kernel):(Str.ofString a=Str.ofString b)=False:=by
 simpa using h
structure Px where
 prog:D
 most:Int
 bg:Int
 un:Int
 todo:List D
 wt:List D
 T:MH
noncomputable def Px.o (s:Px) (n:Nat):MO:=.ins 0 [(w "program", s.prog), (w "most", .int s.most), (w "begun", .int s.bg), (w "under_way", .int s.un), (w "todo", .ref (n+1)), (w "waiting", .ref (n+2))]
noncomputable def Px.h (s:Px) (M0:MH):MH:=M0++(s.o M0.length::.lst s.todo::.lst s.wt::s.T)
section
variable {M0:MH} {s s':Px} {ds p:List D} {t i:Nat} {o:MO} {x d:D} {Φ:bF} {σ:Sg} {e:E}
theorem off (i:Nat) (X:MH):(M0++X)[M0.length+i]? = X[i]?:=by
 rw [List.getElem?_append_right (Nat.le_add_right _ _),Nat.add_sub_cancel_left]
theorem offs (i:Nat) (X:MH) (o:MO):(M0++X).set (M0.length+i) o=M0++X.set i o:=by
 rw [List.set_append_right _ _ (Nat.le_add_right _ _),Nat.add_sub_cancel_left]
theorem g0:(s.h M0)[M0.length]? = some (s.o M0.length):=off 0 _
theorem g1:(s.h M0)[M0.length+1]? = some (.lst s.todo):=off 1 _
theorem g2:(s.h M0)[M0.length+2]? = some (.lst s.wt):=off 2 _
theorem gT:(s.h M0)[M0.length+(t+3)]? = s.T[t]?:=off (t+3) _
theorem s0 {s':Px}:(s.h M0).set M0.length (s'.o M0.length)=({ s with prog:=s'.prog,most:=s'.most,bg:=s'.bg,un:=s'.un }:Px).h M0:=offs 0 _ _
theorem s1:(s.h M0).set (M0.length+1) (.lst ds)=({ s with todo:=ds }:Px).h M0:=offs 1 _ _
theorem s2:(s.h M0).set (M0.length+2) (.lst ds)=({ s with wt:=ds }:Px).h M0:=offs 2 _ _
theorem sT:(s.h M0).set (M0.length+(t+3)) o=({ s with T:=s.T.set t o }:Px).h M0:=offs (t+3) _ _
theorem len:(s.h M0).length=M0.length+(s.T.length+3):=by simp [Px.h]
theorem app {X:MH}:s.h M0++X=({ s with T:=s.T++X }:Px).h M0:=by simp [Px.h,Px.o]
theorem iX:(s.h M0).take M0.length=M0:=by simp [Px.h]
theorem HM (h:σ[i]? = some (some (.ref M0.length))):ev Φ (.fld (.v i) (w "program")) σ (s.h M0)=.ok s.prog (s.h M0):=by
 simp only [jm,lM,h,R.af,g0,Px.o,List.lookup_cons,beq_self_eq_true]
theorem HN (h:σ[i]? = some (some (.ref M0.length))):ev Φ (.fld (.v i) (w "most")) σ (s.h M0)=.ok (.int s.most) (s.h M0):=by
 simp only [jm, lM, h, R.af, g0, Px.o, List.lookup_cons, beq_self_eq_true, wz (a:="most") (b:="program")]
theorem uK (h:σ[i]? = some (some (.ref M0.length))):ev Φ (.fld (.v i) (w "begun")) σ (s.h M0)=.ok (.int s.bg) (s.h M0):=by
 simp only [jm, lM, h, R.af, g0, Px.o, List.lookup_cons, beq_self_eq_true, wz (a:="begun") (b:="program"), wz (a:="begun") (b:="most")]
theorem n8 (h:σ[i]? = some (some (.ref M0.length))):ev Φ (.fld (.v i) (w "under_way")) σ (s.h M0)=.ok (.int s.un) (s.h M0):=by
 simp only [jm, lM, h, R.af, g0, Px.o, List.lookup_cons, beq_self_eq_true, wz (a:="under_way") (b:="program"), wz (a:="under_way") (b:="most"), wz (a:="under_way") (b:="begun")]
theorem sy (h:σ[i]? = some (some (.ref M0.length))):ev Φ (.fld (.v i) (w "todo")) σ (s.h M0)=.ok (.ref (M0.length+1)) (s.h M0):=by
 simp only [jm, lM, h, R.af, g0, Px.o, List.lookup_cons, beq_self_eq_true, wz (a:="todo") (b:="program"), wz (a:="todo") (b:="most"), wz (a:="todo") (b:="begun"), wz (a:="todo") (b:="under_way")]
theorem n6 (h:σ[i]? = some (some (.ref M0.length))):ev Φ (.fld (.v i) (w "waiting")) σ (s.h M0)=.ok (.ref (M0.length+2)) (s.h M0):=by
 simp only [jm, lM, h, R.af, g0, Px.o, List.lookup_cons, beq_self_eq_true, wz (a:="waiting") (b:="program"), wz (a:="waiting") (b:="most"), wz (a:="waiting") (b:="begun"), wz (a:="waiting") (b:="under_way"), wz (a:="waiting") (b:="todo")]
theorem B8 {i:Int}:eK (w "begun") (.int i) [(w "program", s.prog), (w "most", .int s.most), (w "begun", .int s.bg), (w "under_way", .int s.un), (w "todo", .ref (M0.length+1)), (w "waiting", .ref (M0.length+2))]=[(w "program", s.prog), (w "most", .int s.most), (w "begun", .int i), (w "under_way", .int s.un), (w "todo", .ref (M0.length+1)), (w "waiting", .ref (M0.length+2))]:=by
 simp only [eK, wn (a:="program") (b:="begun"), wn (a:="most") (b:="begun"), if_true, if_false]
theorem B7 {i:Int}:eK (w "under_way") (.int i) [(w "program", s.prog), (w "most", .int s.most), (w "begun", .int s.bg), (w "under_way", .int s.un), (w "todo", .ref (M0.length+1)), (w "waiting", .ref (M0.length+2))]=[(w "program", s.prog), (w "most", .int s.most), (w "begun", .int s.bg), (w "under_way", .int i), (w "todo", .ref (M0.length+1)), (w "waiting", .ref (M0.length+2))]:=by
 simp only [eK, wn (a:="program") (b:="under_way"), wn (a:="most") (b:="under_way"), wn (a:="begun") (b:="under_way"), if_true, if_false]
theorem C5 {n:Int} (h:σ[i]? = some (some (.ref M0.length))) (he:ev Φ e σ (s.h M0)=.ok (.int n) (s.h M0)):ex Φ (.eF (.v i) (w "begun") e) σ (s.h M0)=.ok (.nx σ) (({ s with bg:=n }:Px).h M0):=by
 simp only [oh,he,R.gP,lM,h,g0,Px.o,B8]
 exact congrArg (R.ok _) (s0 (s':={ s with bg:=n }))
theorem uS {n:Int} (h:σ[i]? = some (some (.ref M0.length))) (he:ev Φ e σ (s.h M0)=.ok (.int n) (s.h M0)):ex Φ (.eF (.v i) (w "under_way") e) σ (s.h M0)=.ok (.nx σ) (({ s with un:=n }:Px).h M0):=by
 simp only [oh,he,R.gP,lM,h,g0,Px.o,B7]
 exact congrArg (R.ok _) (s0 (s':={ s with un:=n }))
theorem u_ {m:Nat} {nm:Str} {es:Es} (h:σ[i]? = some (some (.ref M0.length))) (hn:([w "program", w "most", w "begun", w "under_way", w "todo", w "waiting"].all fun x=>!(nm == x))=true):ev Φ (.dc 0 m nm (.v i) es) σ (s.h M0)=(cM Φ es σ (s.h M0)).bind fun ds M2=>Φ.call m (.ref M0.length::ds) M2:=by
 simp only [List.all_cons,List.all_nil,Bool.and_true,Bool.and_eq_true,Bool.not_eq_true'] at hn
 obtain ⟨h1,h2,h3,h4,h5,h6⟩:=hn
 simp only [HS,lM,h,R.af,g0,Px.o,List.lookup_cons,List.lookup_nil,h1,h2,h3,h4,h5,h6,Option.isNone_none,decide_true,Bool.and_self,if_true]
theorem uT (h:σ[i]? = some (some (.ref M0.length))) (hp:s.wt=p++[x]):ev Φ (.dH .pop true (.fld (.v i) (w "waiting")) .nil) σ (s.h M0)=.ok x (({ s with wt:=p }:Px).h M0):=by
 have g:(s.h M0)[M0.length+2]? = some (.lst (p++[x])):=by rw [g2,hp]
 simp only [jk,n6 h,R.af,yJ g,if_true,gk,JW g,s2]
theorem sI (h:σ[i]? = some (some (.ref M0.length))) (he:ev Φ e σ (s.h M0)=.ok d (s'.h M0)) (hl:s'.wt.length<line):ev Φ (.dH .append true (.fld (.v i) (w "waiting")) (.cons e .nil)) σ (s.h M0)=.ok .ao (({ s' with wt:=s'.wt++[d] }:Px).h M0):=by
 simp only [jk,n6 h,R.af,rO g2,if_true,bS,gk,he,LO g2 hl,s2]
theorem e_next (h:σ[i]? = some (some (.ref M0.length))) (hp:s.todo=p++[x]):ev Φ (.dH .pop true (.fld (.v i) (w "todo")) .nil) σ (s.h M0)=.ok x (({ s with todo:=p }:Px).h M0):=by
 have g:(s.h M0)[M0.length+1]? = some (.lst (p++[x])):=by rw [g1,hp]
 simp only [jk,sy h,R.af,yJ g,if_true,gk,JW g,s1]
end
end bM
end
section
namespace bM
open Fg PySem
inductive Rk where
 | plus
 | minus
 | times
 | less
noncomputable def kq:Rk->Str
 | .plus=>w "plus"
 | .minus=>w "minus"
 | .times=>w "times"
 | .less=>w "less"
noncomputable def FF:Rk->Int->Int->Int
 | .plus,a,b=>a+b
 | .minus,a,b=>a-b
 | .times,a,b=>a*b
 | .less,a,b=>if a<b then 1 else 0
@[irreducible] noncomputable def jR:Int:=10 ^ 60
noncomputable def great (i:Int):Bool:=decide (jR<=(i.natAbs:Int))
noncomputable def HA:Rk->Bool
 | .less=>true
 | _=>false
noncomputable def Me (o:Rk) (a b:Int):Bool:=!HA o&&great (FF o a b)
theorem JV:eN .pow 10 60=some jR:=by unfold jR;decide +kernel
section
variable {M M1 M2:MH} {k:Nat} {Φ:bF} {σ:Sg} {e e':E}
theorem EG {fz:Bool}:ev Φ (.op .pow fz (.k (.int 10)) (.k (.int 60))) σ M=.ok (.int jR) M:=by
 rw [iI,kP,R.af,kP,R.af]
 simp only [lD,JV]
theorem Lu {i:Int} (h:ev Φ e σ M=.ok (.int i) M1):ev Φ (.iT .abs e) σ M=.ok (.int i.natAbs) M1:=by
 have z:(if i<0 then -i else i)=(i.natAbs:Int):=by split <;> omega
 rw [Ac,h,R.af,<- z];rfl
theorem e_ge {a b:Int} {q:Bool} (he:ev Φ e σ M=.ok (.int a) M1) (hx:ev Φ e' σ M1=.ok (.int b) M2) (hq:decide (b<=a)=q):ev Φ (.cmp .ge e e') σ M=.ok (.bl q) M2:=by
 rw [cF,he,R.af,hx,R.af,<- hq];rfl
theorem e_lt {a b:Int} {q:Bool} (he:ev Φ e σ M=.ok (.int a) M1) (hx:ev Φ e' σ M1=.ok (.int b) M2) (hq:decide (a<b)=q):ev Φ (.cmp .lt e e') σ M=.ok (.bl q) M2:=by
 rw [cF,he,R.af,hx,R.af,<- hq];rfl
theorem Lo {a b:Int} {fz:Bool} (he:ev Φ e σ M=.ok (.int a) M1) (hx:ev Φ e' σ M1=.ok (.int b) M2) (ha:mid a=true) (hb:mid b=true):ev Φ (.op .mul fz e e') σ M=.ok (.int (a*b)) M2:=by
 rw [iI,he,R.af,hx,R.af]
 simp only [lD,eN]
 cases hs:small a||small b with
 | true=>rw [if_pos rfl]
 | false=>rw [if_neg (by decide),ha,hb,Bool.and_self,if_pos rfl]
theorem LH {i:Int}:(aa aj (k+1)).call 4 [.int i] M=if great i then .exc 2 M else .ok .ao M:=by
 have e1:ev (aa aj k) (.cmp .ge (.iT .abs (.v 0)) (.op .pow true (.k (.int 10)) (.k (.int 60)))) [some (.int i)] M=.ok (.bl (great i)) M:=e_ge (Lu rfl) EG rfl
 cases hq:great i with
 | true=>rw [hq] at e1;exact jr fn4 rfl (pN e1 rfl) br
 | false=>rw [hq] at e1;exact dP fn4 rfl ((aE e1).trans rfl) (au rfl rfl)
theorem Ip {o:Rk} {a b:Int} (ha:mid a=true) (hb:mid b=true):(aa aj (k+2)).call 5 [.str (kq o),.int a,.int b] M=if Me o a b then .exc 2 M else .ok (.int (FF o a b)) M:=by
 have z:∀ u:Str,ev (aa aj (k+1)) (.cmp .eq (.v 0) (.k (.str u))) [some (.str (kq o)),some (.int a),some (.int b),none] M=.ok (.bl (decide (kq o=u))) M:=fun u=>Aj rfl
 have fin:∀ {v:Int},exs (aa aj (k+1)) (.cons (.ex (.call 4 (.cons (.v 3) .nil))) (.cons (.ret (.v 3)) .nil)) [some (.str (kq o)),some (.int a),some (.int b),some (.int v)] M=if great v then .ok (.xc 2 [some (.str (kq o)),some (.int a),some (.int b),some (.int v)]) M else .ok (.rt (.int v)) M:=fun {v}=>by
  have q:=(bB (Φ:=aa aj (k+1)) (f:=4) (e_v (M:=M) (σ:=[some (.str (kq o)),some (.int a),some (.int b),some (.int v)]) (i:=3) rfl)).trans LH
  cases hg:great v with
  | true=>rw [hg] at q;exact l8 q
  | false=>rw [hg] at q;exact (bZ q).trans rfl
 have done:∀ {v:Int},exs (aa aj (k+1)) gW.body [some (.str (kq o)),some (.int a),some (.int b),none] M=exs (aa aj (k+1)) (.cons (.ex (.call 4 (.cons (.v 3) .nil))) (.cons (.ret (.v 3)) .nil)) [some (.str (kq o)),some (.int a),some (.int b),some (.int v)] M ->
   (aa aj (k+2)).call 5 [.str (kq o),.int a,.int b] M=if great v then .exc 2 M else .ok (.int v) M:=fun {v} h=>by
  rw [fin] at h
  cases hg:great v with
  | true=>rw [hg] at h;exact jr fn5 rfl h br
  | false=>rw [hg] at h;exact aL fn5 rfl h (au rfl rfl)
 cases o with
 | less =>
  have z1:=z (w "less")
  rw [show decide (kq .less=w "less")=true by decide +kernel] at z1
  have e2:ev (aa aj (k+1)) (.AZ (.cmp .lt (.v 1) (.v 2)) (.k (.int 1)) (.k (.int 0))) [some (.str (kq .less)),some (.int a),some (.int b),none] M=.ok (.int (FF .less a b)) M:=by
   rw [Ab,e_lt (a:=a) (b:=b) rfl rfl rfl,R.af]
   by_cases h:a<b
   ·simp [h,FF]
   ·simp [h,FF]
  exact aL fn5 rfl (cT z1 (aR e2)) (au rfl rfl)
 | plus =>
  have z1:=z (w "less")
  rw [show decide (kq .plus=w "less")=false by decide +kernel] at z1
  have z2:=z (w "plus")
  rw [show decide (kq .plus=w "plus")=true by decide +kernel] at z2
  exact done ((aE z1).trans (pO z2 ((av (mS rfl rfl)).trans rfl)))
 | minus =>
  have z1:=z (w "less")
  rw [show decide (kq .minus=w "less")=false by decide +kernel] at z1
  have z2:=z (w "plus")
  rw [show decide (kq .minus=w "plus")=false by decide +kernel] at z2
  have z3:=z (w "minus")
  rw [show decide (kq .minus=w "minus")=true by decide +kernel] at z3
  exact done ((aE z1).trans (rD z2 ((pO z3 ((av (mP rfl rfl)).trans rfl)).trans rfl)))
 | times =>
  have z1:=z (w "less")
  rw [show decide (kq .times=w "less")=false by decide +kernel] at z1
  have z2:=z (w "plus")
  rw [show decide (kq .times=w "plus")=false by decide +kernel] at z2
  have z3:=z (w "minus")
  rw [show decide (kq .times=w "minus")=false by decide +kernel] at z3
  exact done ((aE z1).trans (rD z2 ((rD z3 ((av (Lo rfl rfl ha hb)).trans rfl)).trans rfl)))
end
inductive Vl:D->Prop
 | int {i:Int}:mid i=true->Vl (.int i)
 | ao:Vl .ao
 | cell {wd:Str} {sz:Int} {a b:D}:1<=sz->sz<=1000->Vl a->Vl b->Vl (.tup [.str wd,.int sz,a,b])
noncomputable def bD:D->Int
 | .tup (_::.int n::_)=>n
 | _=>1
theorem Vl.sz {v:D} (h:Vl v):1<=bD v/\bD v<=1000:=by
 cases h with
 | int i=>simp [bD]
 | ao=>simp [bD]
 | cell h1 h2 _ _=>exact ⟨h1,h2⟩
theorem Vl.nr {v:D} (h:Vl v):∀ m,Fg.nr m v=true:=fun m=>by
 induction h with
 | int=>simp [Fg.nr]
 | ao=>simp [Fg.nr]
 | cell _ _ _ _ i j=>simp [Fg.nr,dS,i,j]
noncomputable def layW (c:Bool):Str:=if c then w "cons" else w "pair"
noncomputable def dW (c t:Bool):Str:=if c then (if t then w "tail" else w "head") else (if t then w "second" else w "first")
inductive Op where
 | rk (o:Rk)
 | lay (c:Bool)
 | look (c t:Bool)
 | none
noncomputable def Op.w:Op->Str
 | .rk o=>kq o
 | .lay c=>layW c
 | .look c t=>dW c t
 | .none=>bM.w "none"
inductive Cz where
 | ok (d:D)
 | exc (c:Nat)
noncomputable def Cz.r (M:MH):Cz->R D
 | .ok d=>.ok d M
 | .exc c=>.exc c M
inductive cA:Op->List D->Cz->Prop
 | rk {o:Rk} {a b:Int}:mid a=true->mid b=true->cA (.rk o) [.int a,.int b] (if Me o a b then .exc 2 else .ok (.int (FF o a b)))
 | lay {c:Bool} {a b:D}:Vl a->Vl b->cA (.lay c) [a,b] (if 1000<1+bD a+bD b then .exc 2 else .ok (.tup [.str (layW c),.int (1+bD a+bD b),a,b]))
 | empty {c t:Bool}:cA (.look c t) [.ao] (.exc 3)
 | look {c t:Bool} {wd:Str} {sz:Int} {a b:D}:Vl a->Vl b->cA (.look c t) [.tup [.str wd,.int sz,a,b]] (.ok (if t then b else a))
 | none {v:D}:cA .none [v] (.ok (.int (if bJ v then 1 else 0)))
section
variable {M:MH} {k n:Nat}
theorem oH {v:D} (hv:Vl v):(aa aj (k+1)).call 2 [v] M=.ok (.int (bD v)) M:=by
 rw [cP fn2]
 cases hv <;> simp [ko,jh,Hz,nU,vw,bD,cJ,nr]
theorem gl1:aj.glob 1=some (.int 1000):=rfl
theorem Iw {wd:Str} {a b:D} (hw:wd.length<=100000) (ha:Vl a) (hb:Vl b):(aa aj (k+2)).call 3 [.str wd,a,b] M=if 1000<1+bD a+bD b then .exc 2 M else .ok (.tup [.str wd,.int (1+bD a+bD b),a,b]) M:=by
 rw [cP fn3]
 have h1:=ha.sz
 have h2:=hb.sz
 have h3:(1+bD a+bD b).natAbs<18446744073709551616:=by omega
 by_cases hq:1000<1+bD a+bD b
 ·simp [ko,gj,oH ha,oH hb,lD,eN,gl1,bf,sQ,hq,bY,hw,h3,br]
 ·simp [ko,gj,oH ha,oH hb,lD,eN,gl1,bf,sQ,hq,cJ,nr,dS,ha.nr,hb.nr]
theorem AG {wd:Str} (hw:wd.length<=100000):(aa aj (k+1)).call 6 [.str wd,.ao] M=.exc 3 M:=by
 rw [cP fn6]
 simp [ko,fU,bf,bJ,bY,hw,br]
theorem lu {wd c:Str} {sz:Int} {a b:D} {q:Bool} (hq:([w "first", w "head"].any fun z=>decide (z=wd))=q) (ha:Vl a) (hb:Vl b):(aa aj (k+1)).call 6 [.str wd, .tup [.str c, .int sz, a, b]] M=.ok (if q then a else b) M:=by
 have e1:ev (aa aj k) (.cmp .wo (.v 1) (.k .ao)) [some (.str wd),some (.tup [.str c,.int sz,a,b])] M=.ok (.bl false) M:=rfl
 have e2:=mQ (Φ:=aa aj k) (e:=.v 0) (σ:=[some (.str wd),some (.tup [.str c,.int sz,a,b])]) (M:=M) (M1:=M) rfl hq
 cases q with
 | true=>exact aL fn6 rfl ((aE e1).trans (cT e2 (aR rfl))) (au (ha.nr _) rfl)
 | false=>exact aL fn6 rfl ((aE e1).trans ((aE e2).trans (aR rfl))) (au (hb.nr _) rfl)
theorem tV {o:Op}:o.w.length<=100000:=by
 cases o with
 | rk o=>cases o <;> decide +kernel
 | lay c=>cases c <;> decide +kernel
 | look c t=>cases c <;> cases t <;> decide +kernel
 | none=>decide +kernel
noncomputable def w1:List Str:=[w "plus", w "minus", w "times", w "less"]
noncomputable def w2:List Str:=[w "pair", w "cons"]
noncomputable def an (ws:List Str) (z:Str):Bool:=ws.any fun y=>decide (y=z)
theorem Iv {o:Op} {ds:List D} {r:Cz} (hc:cA o ds r) (h:M[n]? = some (.lst ds)):(aa aj (k+3)).call 7 [.str o.w,.ref n] M=r.r M:=by
 let σ:Sg:=[some (.str o.w),some (.ref n)]
 have a1:ev (aa aj (k+2)) (.cmp .isin (.v 0) (.tup (Et w1))) σ M=.ok (.bl (an w1 o.w)) M:=mQ (c:=o.w) rfl rfl
 have a2:ev (aa aj (k+2)) (.cmp .isin (.v 0) (.tup (Et w2))) σ M=.ok (.bl (an w2 o.w)) M:=mQ (c:=o.w) rfl rfl
 have a3:ev (aa aj (k+2)) (.cmp .eq (.v 0) (.k (.str (w "none")))) σ M=.ok (.bl (decide (o.w=w "none"))) M:=Aj rfl
 have ix:∀ (j:Int) (d:D),lN ds j=some d->ev (aa aj (k+2)) (.idx (.v 1) (.k (.int j))) σ M=.ok d M:=fun j d hj=>Lq rfl rfl h hj
 cases hc with
 | @rk o a b ha hb =>
  have q1:an w1 (kq o)=true:=by cases o <;> decide +kernel
  rw [show (Op.rk o).w=kq o from rfl,q1] at a1
  have ec:ev (aa aj (k+2)) (.call 5 (.cons (.v 0) (.cons (.idx (.v 1) (.k (.int 0))) (.cons (.idx (.v 1) (.k (.int 1))) .nil)))) σ M=(if Me o a b then .exc 2 M else .ok (.int (FF o a b)) M):=by
   rw [aO,aN (x:=.str (kq o)) (M1:=M) rfl (aN (ix 0 (.int a) aT) (aN (ix 1 (.int b) c8) rfl)),R.af]
   exact Ip (k:=k) (o:=o) (a:=a) (b:=b) ha hb
  cases hg:Me o a b with
  | true=>rw [hg] at ec;exact jr HH rfl (pN a1 (rC ec)) br
  | false=>rw [hg] at ec;exact aL HH rfl (cT a1 (aR ec)) (au rfl rfl)
 | @lay c a b ha hb =>
  have q1:an w1 (layW c)=false:=by cases c <;> decide +kernel
  have q2:an w2 (layW c)=true:=by cases c <;> decide +kernel
  rw [show (Op.lay c).w=layW c from rfl] at a1 a2
  rw [q1] at a1
  rw [q2] at a2
  have ec:ev (aa aj (k+2)) (.call 3 (.cons (.v 0) (.cons (.idx (.v 1) (.k (.int 0))) (.cons (.idx (.v 1) (.k (.int 1))) .nil)))) σ M=(if 1000<1+bD a+bD b then .exc 2 M else .ok (.tup [.str (layW c),.int (1+bD a+bD b),a,b]) M):=by
   rw [aO,aN (x:=.str (layW c)) (M1:=M) rfl (aN (ix 0 a aT) (aN (ix 1 b c8) rfl)),R.af]
   exact Iw (k:=k) (wd:=layW c) (tV (o:=.lay c)) ha hb
  by_cases hg:1000<1+bD a+bD b
  ·rw [if_pos hg] at ec ⊢
   exact jr HH rfl ((aE a1).trans (pN a2 (rC ec))) br
  ·rw [if_neg hg] at ec ⊢
   exact aL HH rfl ((aE a1).trans (cT a2 (aR ec))) (au (by simp [nr,dS,ha.nr,hb.nr]) rfl)
 | none =>
  rename_i v
  have q1:an w1 (w "none")=false:=by decide +kernel
  have q2:an w2 (w "none")=false:=by decide +kernel
  have q3:decide (w "none" = w "none")=true:=by decide +kernel
  rw [show Op.none.w=w "none" from rfl] at a1 a2 a3
  rw [q1] at a1
  rw [q2] at a2
  rw [q3] at a3
  have ec:ev (aa aj (k+2)) (.AZ (.cmp .wo (.idx (.v 1) (.k (.int 0))) (.k .ao)) (.k (.int 1)) (.k (.int 0))) σ M=.ok (.int (if bJ v then 1 else 0)) M:=by
   have e1:ev (aa aj (k+2)) (.cmp .wo (.idx (.v 1) (.k (.int 0))) (.k .ao)) σ M=.ok (.bl (bJ v)) M:=by
    rw [cF,ix 0 v aT,R.af];rfl
   rw [Ab,e1,R.af]
   cases bJ v <;> rfl
  exact aL HH rfl ((aE a1).trans ((aE a2).trans (cT a3 (aR ec)))) (au rfl rfl)
 | @empty c t =>
  have q1:an w1 (dW c t)=false:=by cases c <;> cases t <;> decide +kernel
  have q2:an w2 (dW c t)=false:=by cases c <;> cases t <;> decide +kernel
  have q3:decide (dW c t=w "none")=false:=by cases c <;> cases t <;> decide +kernel
  rw [show (Op.look c t).w=dW c t from rfl] at a1 a2 a3
  rw [q1] at a1
  rw [q2] at a2
  rw [q3] at a3
  have ec:ev (aa aj (k+2)) (.call 6 (.cons (.v 0) (.cons (.idx (.v 1) (.k (.int 0))) .nil))) σ M=.exc 3 M:=by
   rw [aO,aN (x:=.str (dW c t)) (M1:=M) rfl (aN (ix 0 .ao aT) rfl),R.af]
   exact AG (tV (o:=.look c t))
  exact jr HH rfl ((aE a1).trans ((aE a2).trans ((aE a3).trans (rC ec)))) br
 | @look c t wd sz a b ha hb =>
  have q1:an w1 (dW c t)=false:=by cases c <;> cases t <;> decide +kernel
  have q2:an w2 (dW c t)=false:=by cases c <;> cases t <;> decide +kernel
  have q3:decide (dW c t=w "none")=false:=by cases c <;> cases t <;> decide +kernel
  have q4:([w "first", w "head"].any fun z=>decide (z=dW c t))=!t:=by cases c <;> cases t <;> decide +kernel
  rw [show (Op.look c t).w=dW c t from rfl] at a1 a2 a3
  rw [q1] at a1
  rw [q2] at a2
  rw [q3] at a3
  have ec:ev (aa aj (k+2)) (.call 6 (.cons (.v 0) (.cons (.idx (.v 1) (.k (.int 0))) .nil))) σ M=.ok (if t then b else a) M:=by
   rw [aO,aN (x:=.str (dW c t)) (M1:=M) rfl (aN (ix 0 _ aT) rfl),R.af,lu (wd:=dW c t) q4 ha hb]
   cases t <;> rfl
  have hr:Vl (if t then b else a):=by cases t <;> assumption
  exact aL HH rfl ((aE a1).trans ((aE a2).trans ((aE a3).trans (aR ec)))) (au (hr.nr _) rfl)
end
end bM
end
section
namespace bM
open Fg PySem
inductive Kd where
 | num
 | pair (a b:Kd)
 | list (a:Kd)
noncomputable def Kd.d:Kd->D
 | .num=>.tup [.str (w "num")]
 | .pair a b=>.tup [.str (w "pair"), a.d, b.d]
 | .list a=>.tup [.str (w "list"), a.d]
mutual
inductive Pt where
 | num (i:Int)
 | oU (x:Str)
 | nil (k:Kd)
 | lt (x:Str) (a b:Pt)
 | ite (c a b:Pt)
 | op (o:Op) (ps:bU)
 | call (f:Str) (ps:bU)
inductive bU where
 | nil
 | cons (p:Pt) (ps:bU)
end
mutual
noncomputable def Pt.d:Pt->D
 | .num i=>.tup [.str (w "number"), .int i]
 | .oU x=>.tup [.str (w "name"), .str x]
 | .nil k=>.tup [.str (w "nil"), k.d]
 | .lt x a b=>.tup [.str (w "let"), .str x, a.d, b.d]
 | .ite c a b=>.tup [.str (w "if"), c.d, a.d, b.d]
 | .op o ps=>.tup (.str o.w::ps.ds)
 | .call f ps=>.tup (.str (w "call")::.str f::ps.ds)
noncomputable def bU.ds:bU->List D
 | .nil=>[]
 | .cons p ps=>p.d::ps.ds
end
noncomputable def bU.l:bU->List Pt
 | .nil=>[]
 | .cons p ps=>p::ps.l
theorem Kd.nr {m:Nat}:∀ k:Kd,Fg.nr m k.d=true
 | .num=>by simp [Kd.d,Fg.nr,dS]
 | .pair a b=>by simp [Kd.d,Fg.nr,dS,Kd.nr a,Kd.nr b]
 | .list a=>by simp [Kd.d,Fg.nr,dS,Kd.nr a]
mutual
theorem Pt.nr {m:Nat}:∀ p:Pt,Fg.nr m p.d=true
 | .num i=>by simp [Pt.d,Fg.nr,dS]
 | .oU x=>by simp [Pt.d,Fg.nr,dS]
 | .nil k=>by simp [Pt.d,Fg.nr,dS,Kd.nr]
 | .lt x a b=>by simp [Pt.d,Fg.nr,dS,Pt.nr a,Pt.nr b]
 | .ite c a b=>by simp [Pt.d,Fg.nr,dS,Pt.nr c,Pt.nr a,Pt.nr b]
 | .op o ps=>by simp [Pt.d,Fg.nr,dS,bU.nr ps]
 | .call f ps=>by simp [Pt.d,Fg.nr,dS,bU.nr ps]
theorem bU.nr {m:Nat}:∀ ps:bU,dS m ps.ds=true
 | .nil=>by simp [bU.ds,dS]
 | .cons p ps=>by simp [bU.ds,dS,Pt.nr p,bU.nr ps]
end
structure Fd where
 nm:Str
 tk:List (Str×Kd)
 gv:Kd
 bd:Pt
noncomputable def Fd.d (f:Fd):D:=.tup [.str f.nm,.lst (f.tk.map fun t=>.tup [.str t.1,t.2.d]),f.gv.d,f.bd.d]
noncomputable def IS:D:=.dct [.inr (w "plus"), .inr (w "minus"), .inr (w "times"), .inr (w "less"), .inr (w "pair"), .inr (w "first"), .inr (w "second"), .inr (w "cons"), .inr (w "head"), .inr (w "tail"), .inr (w "none"), .inr (w "if")] [.int 2, .int 2, .int 2, .int 2, .int 2, .int 1, .int 1, .int 2, .int 1, .int 1, .int 1, .int 3]
theorem gl0:aj.glob 0=some IS:=rfl
noncomputable def pb (z:Str):Bool:=match zI [] (.str z) IS with | some t=>t | none=>false
section
variable {M:MH} {k n:Nat} {Φ:bF} {σ:Sg} {e:E}
theorem ED {z:Str} (he:ev (aa aj k) e σ M=.ok (.str z) M):ev (aa aj k) (.cmp .isin e (.g 0)) σ M=.ok (.bl (pb z)) M:=by
 rw [cF,he,R.af,Ld,k9,gl0]
 show bf .isin M (.str z) IS=_
 have e1:zI M (.str z) IS=zI [] (.str z) IS:=rfl
 have e2:zI [] (.str z) IS=some (pb z):=rfl
 simp only [bf,e1,e2]
theorem cut1 {x:D} {xs:List D}:c7 (x::xs) (some 1) none=xs:=by
 simp [c7,six]
theorem cut2 {x y:D} {xs:List D}:c7 (x::y::xs) (some 2) none=xs:=by
 simp [c7,six]
theorem lg {z:Str} {xs:List D} (hz:pb z=true) (hn:dS M.length xs=true):(aa aj (k+1)).call 0 [.tup (.str z::xs)] M=.ok (.tup xs) M:=by
 have e1:ev (aa aj k) (.idx (.v 0) (.k (.int 0))) [some (.tup (.str z::xs)),none] M=.ok (.str z) M:=aC rfl rfl aT
 have e2:ev (aa aj k) (.cmp .isin (.v 1) (.g 0)) [some (.tup (.str z::xs)),some (.str z)] M=.ok (.bl true) M:=by rw [ED (z:=z) rfl,hz]
 have e3:ev (aa aj k) (.sl true (.v 0) (.some (.k (.int 1))) .none) [some (.tup (.str z::xs)),some (.str z)] M=.ok (.tup xs) M:=by
  show (if jA (xs.length+1) (some 1) none then R.bad else R.ok (D.tup (c7 (D.str z::xs) (some 1) none)) M)=_
  rw [CJ,cut1];rfl
 exact aL fn0 rfl ((av e1).trans (cT e2 (aR e3))) (au (by simp only [nr,hn]) rfl)
noncomputable def w3:List Str:=[w "let", w "call"]
theorem iR {z:Str} {y:D} {xs:List D} (hz:pb z=false) (hz2:an w3 z=true) (hn:dS M.length xs=true):(aa aj (k+1)).call 0 [.tup (.str z::y::xs)] M=.ok (.tup xs) M:=by
 have e1:ev (aa aj k) (.idx (.v 0) (.k (.int 0))) [some (.tup (.str z::y::xs)),none] M=.ok (.str z) M:=aC rfl rfl aT
 have e2:ev (aa aj k) (.cmp .isin (.v 1) (.g 0)) [some (.tup (.str z::y::xs)),some (.str z)] M=.ok (.bl false) M:=by rw [ED (z:=z) rfl,hz]
 have e4:ev (aa aj k) (.cmp .isin (.v 1) (.tup (Et w3))) [some (.tup (.str z::y::xs)),some (.str z)] M=.ok (.bl true) M:=mQ (c:=z) rfl hz2
 have e3:ev (aa aj k) (.sl true (.v 0) (.some (.k (.int 2))) .none) [some (.tup (.str z::y::xs)),some (.str z)] M=.ok (.tup xs) M:=by
  show (if jA (xs.length+1+1) (some 2) none then R.bad else R.ok (D.tup (c7 (D.str z::y::xs) (some 2) none)) M)=_
  rw [CI,cut2];rfl
 exact aL fn0 rfl ((av e1).trans ((aE e2).trans (cT e4 (aR e3)))) (au (by simp only [nr,hn]) rfl)
theorem D5 {o:Op}:pb o.w=true:=by
 cases o with
 | rk o=>cases o <;> decide +kernel
 | lay c=>cases c <;> decide +kernel
 | look c t=>cases c <;> cases t <;> decide +kernel
 | none=>decide +kernel
end
noncomputable def aB (z:Str) (p en:D):D:=.tup [.str z,p,en]
section
variable {M0:MH} {s:Px} {p:List D} {t k:Nat} {Φ:bF} {σ:Sg} {e e':E} {x y en v:D} {kvs:List (Ky×D)}
theorem LF {z:Str} (hl:s.todo.length<line):(aa aj (k+1)).call 12 [.ref M0.length,.str z,x,en] (s.h M0)=.ok .ao (({ s with todo:=s.todo++[aB z x en] }:Px).h M0):=by
 have e1:=qz (Φ:=aa aj k) (e:=.fld (.v 0) (w "todo")) (e':=.tup (.cons (.v 1) (.cons (.v 2) (.cons (.v 3) .nil)))) (σ:=[some (.ref M0.length), some (.str z), some x, some en]) (sy (s:=s) (i:=0) rfl) g1 rfl g1 hl
 rw [s1] at e1
 exact dP fn12 rfl ((bZ e1).trans rfl) (au (by simp [nr]) (by rw [len,len]))
theorem iN {z:Str} {s':Px} (h:σ[0]? = some (some (.ref M0.length))) (hx:ev (aa aj (k+1)) e σ (s.h M0)=.ok x (s.h M0)) (hn:ev (aa aj (k+1)) e' σ (s.h M0)=.ok en (s'.h M0)) (hl:s'.todo.length<line):ev (aa aj (k+1)) (.dc 0 12 (w "put_off") (.v 0) (.cons (.k (.str z)) (.cons e (.cons e' .nil)))) σ (s.h M0)=.ok .ao (({ s' with todo:=s'.todo++[aB z x en] }:Px).h M0):=by
 rw [u_ h (by decide +kernel),aN (x:=.str z) rfl (aN hx (aN hn rfl)),R.af]
 exact LF hl
noncomputable def bg5:Ss:=.cons (.ex (.dc 0 12 (w "put_off") (.v 0) (.cons (.k (.str (w "end"))) (.cons (.v 1) (.cons (.v 2) .nil))))) (.cons (.for [4] (.rev (.call 0 (.cons (.v 1) .nil))) (.cons (.ex (.dc 0 12 (w "put_off") (.v 0) (.cons (.k (.str (w "begin"))) (.cons (.v 4) (.cons (.v 2) .nil))))) .nil)) .nil)
noncomputable def bg4:Ss:=.cons (.ex (.dc 0 12 (w "put_off") (.v 0) (.cons (.k (.str (w "go on"))) (.cons (.v 1) (.cons (.v 2) .nil))))) (.cons (.ex (.dc 0 12 (w "put_off") (.v 0) (.cons (.k (.str (w "begin"))) (.cons (.idx (.call 0 (.cons (.v 1) .nil)) (.k (.int 0))) (.cons (.v 2) .nil))))) .nil)
noncomputable def w4:List Str:=[w "let", w "if"]
noncomputable def bgT3:Ss:=.cons (.ifs (.cmp .isin (.v 3) (.tup (Et w4))) bg4 bg5) .nil
noncomputable def bg3:Ss:=.cons (.ex (.dH .append true (.fld (.v 0) (w "waiting")) (.cons (.k .ao) .nil))) .nil
noncomputable def bgT2:Ss:=.cons (.ifs (.cmp .eq (.v 3) (.k (.str (w "nil")))) bg3 bgT3) .nil
noncomputable def bg2:Ss:=.cons (.ex (.dH .append true (.fld (.v 0) (w "waiting")) (.cons (.idx (.v 2) (.idx (.v 1) (.k (.int 1)))) .nil))) .nil
noncomputable def LL:Ss:=.cons (.ifs (.cmp .eq (.v 3) (.k (.str (w "name")))) bg2 bgT2) .nil
noncomputable def bg1:Ss:=.cons (.ex (.dH .append true (.fld (.v 0) (w "waiting")) (.cons (.idx (.v 1) (.k (.int 1))) .nil))) .nil
theorem sU:bC.body=.cons (.set 3 (.idx (.v 1) (.k (.int 0)))) (.cons (.ifs (.cmp .eq (.v 3) (.k (.str (w "number")))) bg1 LL) .nil):=rfl
noncomputable abbrev sB (n:Nat) (z:Str) (xs:List D) (en:D) (o:Option D):Sg:=[some (.ref n),some (.tup (.str z::xs)),some en,some (.str z),o]
theorem lq {z:Str} {xs:List D}:exs Φ bC.body [some (.ref M0.length), some (.tup (.str z::xs)), some en, none, none] (s.h M0)=exs Φ (.cons (.ifs (.cmp .eq (.v 3) (.k (.str (w "number")))) bg1 LL) .nil) (sB M0.length z xs en none) (s.h M0):=by
 rw [sU];exact av (aC rfl rfl aT)
theorem E7 {i:Int} (hl:s.wt.length<line):(aa aj (k+1)).call 13 [.ref M0.length,(Pt.num i).d,en] (s.h M0)=.ok .ao (({ s with wt:=s.wt++[.int i] }:Px).h M0):=by
 have e1:=sI (Φ:=aa aj k) (M0:=M0) (s:=s) (s':=s) (i:=0) (σ:=sB M0.length (w "number") [.int i] en none) (e:=.idx (.v 1) (.k (.int 1))) (d:=.int i) rfl (aC rfl rfl c8) hl
 exact dP zR rfl (lq.trans ((kj (bA rfl (by decide +kernel))).trans ((bZ e1).trans rfl))) (au (by simp [nr]) (by rw [len,len]))
theorem E9 {z:Str} (ht:s.T[t]? = some (.dct kvs)) (hv:look kvs (.inr z)=some v) (hl:s.wt.length<line):(aa aj (k+1)).call 13 [.ref M0.length,(Pt.oU z).d,.ref (M0.length+(t+3))] (s.h M0)=.ok .ao (({ s with wt:=s.wt++[v] }:Px).h M0):=by
 have e1:=sI (Φ:=aa aj k) (M0:=M0) (s:=s) (s':=s) (i:=0) (σ:=sB M0.length (w "name") [.str z] (.ref (M0.length+(t+3))) none) (e:=.idx (.v 2) (.idx (.v 1) (.k (.int 1)))) (d:=v) rfl (Lr rfl (aC rfl rfl c8) (gT.trans ht) hv) hl
 exact dP zR rfl (lq.trans ((cS (bA rfl (by decide +kernel))).trans ((kj (bA rfl (by decide +kernel))).trans ((bZ e1).trans rfl)))) (au (by simp [nr]) (by rw [len,len]))
theorem E8 {kd:Kd} (hl:s.wt.length<line):(aa aj (k+1)).call 13 [.ref M0.length,(Pt.nil kd).d,en] (s.h M0)=.ok .ao (({ s with wt:=s.wt++[.ao] }:Px).h M0):=by
 have e1:=sI (Φ:=aa aj k) (M0:=M0) (s:=s) (s':=s) (i:=0) (σ:=sB M0.length (w "nil") [kd.d] en none) (e:=.k .ao) (d:=.ao) rfl rfl hl
 exact dP zR rfl (lq.trans ((cS (bA rfl (by decide +kernel))).trans ((cS (bA rfl (by decide +kernel))).trans ((kj (bA rfl (by decide +kernel))).trans ((bZ e1).trans rfl))))) (au (by simp [nr]) (by rw [len,len]))
theorem xO {z:Str} {xs ys:List D} (h1:decide (z=w "number")=false) (h2:decide (z=w "name")=false) (h3:decide (z=w "nil")=false) (h4:an w4 z=true) (hi:∀ M, (s.h M0).length=M.length->(aa aj (k+1)).call 0 [.tup (.str z::xs)] M=.ok (.tup (x::ys)) M) (hl:s.todo.length+1<line) :
  (aa aj (k+2)).call 13 [.ref M0.length, .tup (.str z::xs), en] (s.h M0)=.ok .ao (({ s with todo:=s.todo++[aB (w "go on") (.tup (.str z::xs)) en]++[aB (w "begin") x en] }:Px).h M0):=by
 have e1:=iN (k:=k) (M0:=M0) (s:=s) (s':=s) (σ:=sB M0.length z xs en none) (z:=w "go on") (e:=.v 1) (e':=.v 2) (x:=.tup (.str z::xs)) (en:=en) rfl rfl rfl (by omega)
 have e2:=iN (k:=k) (M0:=M0) (s:={ s with todo:=s.todo++[aB (w "go on") (.tup (.str z::xs)) en] }) (s':={ s with todo:=s.todo++[aB (w "go on") (.tup (.str z::xs)) en] }) (σ:=sB M0.length z xs en none) (z:=w "begin") (e:=.idx (.call 0 (.cons (.v 1) .nil)) (.k (.int 0))) (e':=.v 2) (x:=x) (en:=en) rfl (aC ((bB rfl).trans (hi _ (by rw [len, len]))) rfl aT) rfl (by simp;omega)
 exact dP zR rfl (lq.trans ((cS (bA rfl h1)).trans ((cS (bA rfl h2)).trans ((cS (bA rfl h3)).trans ((kj (mQ (c:=z) rfl h4)).trans ((bZ e1).trans ((bZ e2).trans rfl))))))) (au (by simp [nr]) (by rw [len,len]))
theorem qV {z:Str} {a b:Pt} (hl:s.todo.length+1<line):(aa aj (k+2)).call 13 [.ref M0.length, (Pt.lt z a b).d, en] (s.h M0)=.ok .ao (({ s with todo:=s.todo++[aB (w "go on") (Pt.lt z a b).d en]++[aB (w "begin") a.d en] }:Px).h M0):=by
 have:(Pt.lt z a b).d=.tup (.str (w "let")::.str z::[a.d, b.d]):=by rw [Pt.d]
 rw [this]
 exact xO (by decide +kernel) (by decide +kernel) (by decide +kernel) (by decide +kernel) (fun M _=>iR (by decide +kernel) (by decide +kernel) (by simp [dS,a.nr,b.nr])) hl
theorem qW {c a b:Pt} (hl:s.todo.length+1<line):(aa aj (k+2)).call 13 [.ref M0.length, (Pt.ite c a b).d, en] (s.h M0)=.ok .ao (({ s with todo:=s.todo++[aB (w "go on") (Pt.ite c a b).d en]++[aB (w "begin") c.d en] }:Px).h M0):=by
 have:(Pt.ite c a b).d=.tup (.str (w "if")::[c.d, a.d, b.d]):=by rw [Pt.d]
 rw [this]
 exact xO (by decide +kernel) (by decide +kernel) (by decide +kernel) (by decide +kernel) (fun M _=>lg (by decide +kernel) (by simp [dS,c.nr,a.nr,b.nr])) hl
theorem za {z:Str} {xs:List D} {ch:MH->Bool} (hch:∀ M,ch M=true):∀ (ds:List D) (s:Px) (o:Option D),s.todo.length+ds.length<line ->
  ∃ o', aS (exs (aa aj (k+1)) (.cons (.ex (.dc 0 12 (w "put_off") (.v 0) (.cons (.k (.str (w "begin"))) (.cons (.v 4) (.cons (.v 2) .nil))))) .nil)) [4] ch ds (sB M0.length z xs en o) (s.h M0)=.ok (.nx (sB M0.length z xs en o')) (({ s with todo:=s.todo++ds.map fun d=>aB (w "begin") d en }:Px).h M0)
 | [],s,o,_=>⟨o,by rw [List.map_nil,List.append_nil];rfl⟩
 | d::ds,s,o,hl=>by
  simp only [List.length_cons] at hl
  obtain ⟨o', q⟩:=za hch ds { s with todo:=s.todo++[aB (w "begin") d en] } (some d) (by simp;omega)
  have e1:=iN (k:=k) (M0:=M0) (s:=s) (s':=s) (σ:=sB M0.length z xs en (some d)) (z:=w "begin") (e:=.v 4) (e':=.v 2) (x:=d) (en:=en) rfl rfl rfl (by omega)
  refine ⟨o',?_⟩
  rw [aS]
  show ((exs (aa aj (k+1)) _ (sB M0.length z xs en (some d)) (s.h M0)).bind _)=_
  rw [bZ e1]
  show (if ch _ then _ else _)=_
  rw [if_pos (hch _),q]
  simp
theorem tL {z:Str} {xs ys:List D} (h1:decide (z=w "number")=false) (h2:decide (z=w "name")=false) (h3:decide (z=w "nil")=false) (h4:an w4 z=false) (hi:∀ M, (aa aj (k+1)).call 0 [.tup (.str z::xs)] M=.ok (.tup ys) M) (hl:s.todo.length+1+ys.length<line) :
  (aa aj (k+2)).call 13 [.ref M0.length, .tup (.str z::xs), en] (s.h M0)=.ok .ao (({ s with todo:=s.todo++[aB (w "end") (.tup (.str z::xs)) en]++ys.reverse.map fun d=>aB (w "begin") d en }:Px).h M0):=by
 have e1:=iN (k:=k) (M0:=M0) (s:=s) (s':=s) (σ:=sB M0.length z xs en none) (z:=w "end") (e:=.v 1) (e':=.v 2) (x:=.tup (.str z::xs)) (en:=en) rfl rfl rfl (by omega)
 have hv:aX (aa aj (k+1)) (.rev (.call 0 (.cons (.v 1) .nil))) (sB M0.length z xs en none) (({ s with todo:=s.todo++[aB (w "end") (.tup (.str z::xs)) en] }:Px).h M0)=.ok (.ao, ys.reverse, false) (({ s with todo:=s.todo++[aB (w "end") (.tup (.str z::xs)) en] }:Px).h M0):=by
  rw [CW, (bB (d:=.tup (.str z::xs)) (M1:=({ s with todo:=s.todo++[aB (w "end") (.tup (.str z::xs)) en] }:Px).h M0) rfl).trans (hi _)];rfl
 obtain ⟨o', q⟩:=za (k:=k) (M0:=M0) (z:=z) (xs:=xs) (en:=en) (ch:=aP (({ s with todo:=s.todo++[aB (w "end") (.tup (.str z::xs)) en] }:Px).h M0) .ao) (fun _=>rfl) ys.reverse { s with todo:=s.todo++[aB (w "end") (.tup (.str z::xs)) en] } none (by simp;omega)
 exact dP zR rfl (lq.trans ((cS (bA rfl h1)).trans ((cS (bA rfl h2)).trans ((cS (bA rfl h3)).trans ((cS (mQ (c:=z) rfl h4)).trans ((bZ e1).trans ((pP hv q).trans rfl))))))) (au (by simp [nr]) (by rw [len,len]))
theorem xN {o:Op} {ps:bU} (hl:s.todo.length+1+ps.ds.length<line):(aa aj (k+2)).call 13 [.ref M0.length, (Pt.op o ps).d, en] (s.h M0)=.ok .ao (({ s with todo:=s.todo++[aB (w "end") (Pt.op o ps).d en]++ps.ds.reverse.map fun d=>aB (w "begin") d en }:Px).h M0):=by
 have:(Pt.op o ps).d=.tup (.str o.w::ps.ds):=by rw [Pt.d]
 rw [this]
 have q:decide (o.w=w "number")=false/\decide (o.w=w "name")=false/\decide (o.w=w "nil")=false/\an w4 o.w=false:=by
  cases o with
  | rk o=>cases o <;> decide +kernel
  | lay c=>cases c <;> decide +kernel
  | look c t=>cases c <;> cases t <;> decide +kernel
  | none=>decide +kernel
 exact tL q.1 q.2.1 q.2.2.1 q.2.2.2 (fun M=>lg D5 ps.nr) hl
theorem ie {f:Str} {ps:bU} (hl:s.todo.length+1+ps.ds.length<line):(aa aj (k+2)).call 13 [.ref M0.length, (Pt.call f ps).d, en] (s.h M0)=.ok .ao (({ s with todo:=s.todo++[aB (w "end") (Pt.call f ps).d en]++ps.ds.reverse.map fun d=>aB (w "begin") d en }:Px).h M0):=by
 have:(Pt.call f ps).d=.tup (.str (w "call")::.str f::ps.ds):=by rw [Pt.d]
 rw [this]
 exact tL (by decide +kernel) (by decide +kernel) (by decide +kernel) (by decide +kernel) (fun M=>iR (by decide +kernel) (by decide +kernel) ps.nr) hl
end
end bM
end
section
namespace bM
open Fg PySem
section
variable {M0 M M1 M2:MH} {s s':Px} {p xs:List D} {t k n:Nat} {Φ:bF} {σ:Sg} {e e' a b:E} {x y en v d:D} {kvs:List (Ky×D)} {ss:Ss}
theorem Ie {fz:Bool} (he:ev Φ e σ M=.ok (.ref n) M1) (h:M1[n]? = some (.dct kvs)):ev Φ (.blt .dict fz (.cons e .nil)) σ M=.ok (.ref M1.length) (M1++[.dct kvs]):=by
 rw [sE,wH he,R.af]
 simp only [AK,vw,h]
theorem Fy {z:Str} (he:ev Φ e σ M=.ok d M) (ha:ev Φ a σ M=.ok (.ref n) M) (hb:ev Φ b σ M=.ok (.str z) M) (h:M[n]? = some (.dct kvs)) (hl:kvs.length<line):exs Φ (.cons (.rA a b e) ss) σ M=exs Φ ss σ (M.set n (.dct (put kvs (.inr z) d))):=by
 simp only [bR,CQ,he,R.gP,ha,hb,nv,h,keyOf,hl,decide_true,if_true,R.af]
theorem Ln {i j:Int} (he:ev Φ e σ M=.ok (.int i) M1):ev Φ (.cmp .ne e (.k (.int j))) σ M=.ok (.bl (!decide (i=j))) M1:=by
 rw [cF,he,R.af,kP,R.af]
 simp [bf,vj,v7,top,aZ,Fg.plain,dep]
theorem Ic {z u:Str} (he:ev Φ e σ M=.ok (.str z) M1) (hx:ev Φ e' σ M1=.ok (.str u) M2):ev Φ (.cmp .eq e e') σ M=.ok (.bl (decide (z=u))) M2:=by
 rw [cF,he,R.af,hx,R.af]
 simp [bf,vj,Lg,aZ,top,Fg.plain,dep]
theorem GD {M:MH} {n:Nat} (h:M[n]? = some (.lst xs)):nL .reverse M (.ref n)=true:=by simp only [nL,ck h,Option.isSome_some,Bool.and_self]
theorem Ll (he:ev Φ e σ M=.ok (.ref n) M1) (h:M1[n]? = some (.lst xs)):ev Φ (.dH .reverse true e .nil) σ M=.ok .ao (M1.set n (.lst xs.reverse)):=by
 simp only [jk,he,R.af,GD h,if_true,gk,gR,ck h,qb,List.isEmpty_nil]
theorem pA {z:Str} {q r:Pt} (hw:s.wt=p++[v]) (ht:s.T[t]? = some (.dct kvs)) (hk:kvs.length<line) (hl:s.todo.length<line) :
  ∃ Y, (aa aj (k+2)).call 14 [.ref M0.length, (Pt.lt z q r).d, .ref (M0.length+(t+3))] (s.h M0)=.ok .ao (({ s with wt:=p, T:=s.T++Y, todo:=s.todo++[aB (w "begin") r.d (.ref (M0.length+(s.T.length+3)))] }:Px).h M0)/\Y=[.dct (put kvs (.inr z) v)]:=by
 refine ⟨_,?_,rfl⟩
 have ed:(Pt.lt z q r).d=.tup [.str (w "let"), .str z, q.d, r.d]:=by rw [Pt.d]
 rw [ed]
 let P:D:=.tup [.str (w "let"), .str z, q.d, r.d]
 let en:D:=.ref (M0.length+(t+3))
 have e1:=uT (Φ:=aa aj (k+1)) (M0:=M0) (s:=s) (σ:=[some (.ref M0.length),some P,some en,none,none]) (i:=0) rfl hw
 have c1:ev (aa aj (k+1)) (.cmp .eq (.idx (.v 1) (.k (.int 0))) (.k (.str (w "let")))) [some (.ref M0.length), some P, some en, some v, none] (({ s with wt:=p }:Px).h M0)=.ok (.bl true) (({ s with wt:=p }:Px).h M0):=bA (c:=w "let") (aC rfl rfl aT) (by decide +kernel)
 have e2:=Ie (Φ:=aa aj (k+1)) (fz:=false) (e:=.v 2) (σ:=[some (.ref M0.length),some P,some en,some v,none]) (M:=({ s with wt:=p }:Px).h M0) (M1:=({ s with wt:=p }:Px).h M0) (n:=M0.length+(t+3)) (kvs:=kvs) rfl (gT.trans ht)
 have el:(({ s with wt:=p }:Px).h M0).length=M0.length+(s.T.length+3):=len
 rw [el,app] at e2
 let kn:D:=.ref (M0.length+(s.T.length+3))
 have e3:=Fy (Φ:=aa aj (k+1)) (σ:=[some (.ref M0.length), some P, some en, some v, some kn]) (M:=({ s with wt:=p, T:=s.T++[.dct kvs] }:Px).h M0) (e:=.v 3) (a:=.v 4) (b:=.idx (.v 1) (.k (.int 1))) (n:=M0.length+(s.T.length+3)) (kvs:=kvs) (d:=v) (z:=z) (ss:=.cons (.ex (.dc 0 12 (w "put_off") (.v 0) (.cons (.k (.str (w "begin"))) (.cons (.idx (.v 1) (.k (.int 3))) (.cons (.v 4) .nil))))) .nil) rfl rfl (aC rfl rfl c8) (gT.trans (by show (s.T++[MO.dct kvs])[s.T.length]? = _;simp)) hk
 rw [sT] at e3
 have es:(s.T++[MO.dct kvs]).set s.T.length (.dct (put kvs (.inr z) v))=s.T++[.dct (put kvs (.inr z) v)]:=by rw [List.set_append_right _ _ (Nat.le_refl _),Nat.sub_self];rfl
 have es2:({ ({ s with wt:=p,T:=s.T++[.dct kvs] }:Px) with T:=(s.T++[MO.dct kvs]).set s.T.length (.dct (put kvs (.inr z) v)) }:Px)={ s with wt:=p,T:=s.T++[.dct (put kvs (.inr z) v)] }:=by rw [es]
 rw [show ({ wt:=p,prog:=s.prog,most:=s.most,bg:=s.bg,un:=s.un,todo:=s.todo,T:=(s.T++[MO.dct kvs]).set s.T.length (.dct (put kvs (.inr z) v)) }:Px)={ s with wt:=p,T:=s.T++[.dct (put kvs (.inr z) v)] } from es2] at e3
 have e4:=iN (k:=k) (M0:=M0) (s:={ s with wt:=p, T:=s.T++[.dct (put kvs (.inr z) v)] }) (s':={ s with wt:=p, T:=s.T++[.dct (put kvs (.inr z) v)] }) (σ:=[some (.ref M0.length), some P, some en, some v, some kn]) (z:=w "begin") (e:=.idx (.v 1) (.k (.int 3))) (e':=.v 4) (x:=r.d) (en:=kn) rfl (aC rfl rfl m7) rfl hl
 have fin:=dP (P:=aj) (k:=k+1) (M:=s.h M0) (ds:=[.ref M0.length,P,en]) HL rfl ((av e1).trans ((pO c1 ((av e2).trans (e3.trans ((bZ e4).trans rfl)))).trans rfl)) (r:=.ok .ao _) (by
  unfold cJ
  rw [if_neg]
  intro hh
  have hz:=congrArg (fun m=>m[M0.length+2]?) hh.2
  have hlen:M0.length+2<(s.h M0).length:=by rw [len];omega
  simp only [List.getElem?_take_of_lt hlen,g2] at hz
  rw [hw] at hz
  have:=congrArg List.length (MO.lst.inj (Option.some.inj hz))
  simp at this)
 exact fin
theorem DO {c q r:Pt} {i:Int} (hw:s.wt=p++[.int i]) (hl:s.todo.length<line) :
  (aa aj (k+2)).call 14 [.ref M0.length, (Pt.ite c q r).d, en] (s.h M0)=.ok .ao (({ s with wt:=p, todo:=s.todo++[aB (w "begin") (if i=0 then r.d else q.d) en] }:Px).h M0):=by
 have ed:(Pt.ite c q r).d=.tup [.str (w "if"), c.d, q.d, r.d]:=by rw [Pt.d]
 rw [ed]
 let P:D:=.tup [.str (w "if"), c.d, q.d, r.d]
 have e1:=uT (Φ:=aa aj (k+1)) (M0:=M0) (s:=s) (σ:=[some (.ref M0.length),some P,some en,none,none]) (i:=0) rfl hw
 have c1:ev (aa aj (k+1)) (.cmp .eq (.idx (.v 1) (.k (.int 0))) (.k (.str (w "let")))) [some (.ref M0.length), some P, some en, some (.int i), none] (({ s with wt:=p }:Px).h M0)=.ok (.bl false) (({ s with wt:=p }:Px).h M0):=bA (c:=w "if") (aC rfl rfl aT) (by decide +kernel)
 have c2:ev (aa aj (k+1)) (.cmp .ne (.v 3) (.k (.int 0))) [some (.ref M0.length),some P,some en,some (.int i),none] (({ s with wt:=p }:Px).h M0)=.ok (.bl (!decide (i=0))) (({ s with wt:=p }:Px).h M0):=Ln rfl
 by_cases h:i=0
 ·rw [decide_eq_true h] at c2
  rw [if_pos h]
  have e4:=iN (k:=k) (M0:=M0) (s:={ s with wt:=p }) (s':={ s with wt:=p }) (σ:=[some (.ref M0.length), some P, some en, some (.int i), none]) (z:=w "begin") (e:=.idx (.v 1) (.k (.int 3))) (e':=.v 2) (x:=r.d) (en:=en) rfl (aC rfl rfl m7) rfl hl
  exact dP HL rfl ((av e1).trans ((cS c1).trans ((cS c2).trans ((bZ e4).trans rfl)))) (au (by simp [nr]) (by rw [len,len]))
 ·rw [decide_eq_false h] at c2
  rw [if_neg h]
  have e4:=iN (k:=k) (M0:=M0) (s:={ s with wt:=p }) (s':={ s with wt:=p }) (σ:=[some (.ref M0.length), some P, some en, some (.int i), none]) (z:=w "begin") (e:=.idx (.v 1) (.k (.int 2))) (e':=.v 2) (x:=q.d) (en:=en) rfl (aC rfl rfl m8) rfl hl
  exact dP HL rfl ((av e1).trans ((cS c1).trans ((kj c2).trans ((bZ e4).trans rfl)))) (au (by simp [nr]) (by rw [len,len]))
end
end bM
end
section
namespace bM
open Fg PySem
section
variable {M0 M M1 M2:MH} {s s':Px} {p xs:List D} {t k n:Nat} {Φ:bF} {σ:Sg} {e e' a b:E} {x y en v d:D} {kvs:List (Ky×D)} {ss:Ss}
theorem zd {ch:MH->Bool} (hch:∀ M,ch M=true):∀ (xs ds:List D) (s:Px) (o:Option D) (acc:List D),ds.length=xs.length->s.wt=p++xs.reverse->acc.length+xs.length<=line ->
  bG (oW Φ .none) (ev Φ (.dH .pop true (.fld (.v 0) (w "waiting")) .nil)) [1] ch ds [some (.ref M0.length), o] (s.h M0) acc=.ok (acc++xs) (({ s with wt:=p }:Px).h M0)
 | [],[],s,o,acc,_,hp,_=>by
  rw [List.reverse_nil,List.append_nil] at hp
  rw [List.append_nil,bG,<- hp]
 | x::xs,d::ds,s,o,acc,hd,hp,hl=>by
  rw [List.reverse_cons,<- List.append_assoc] at hp
  simp only [List.length_cons] at hd hl
  rw [rV (Φ:=Φ) (σ:=[some (.ref M0.length),o]) (uT (Φ:=Φ) (σ:=[some (.ref M0.length),some d]) (M0:=M0) (i:=0) rfl hp) (hch _) (by omega)]
  rw [show ([some (.ref M0.length),o]:Sg).set 1 (some d)=[some (.ref M0.length),some d] from rfl,zd hch xs ds { s with wt:=p++xs.reverse } (some d) (acc++[x]) (by omega) rfl (by simp;omega)]
  rw [List.append_assoc];rfl
 | [],_::_,_,_,_,hd,_,_=>by simp at hd
 | _::_,[],_,_,_,hd,_,_=>by simp at hd
theorem oq {z:Str} {qs ys vs:List D} {sb:Ss} (hi:∀ M,(aa aj (k+1)).call 0 [.tup (.str z::qs)] M=.ok (.tup ys) M) (hy:ys.length=vs.length) (hw:s.wt=p++vs) (hl:vs.length<=line) :
  exs (aa aj (k+1)) (.cons (.set 2 (.comp false [0] [1] (.dH .pop true (.fld (.v 0) (w "waiting")) .nil) (.e (.call 0 (.cons (.v 1) .nil))) .none)) (.cons (.ex (.dH .reverse true (.v 2) .nil)) sb)) [some (.ref M0.length), some (.tup (.str z::qs)), none] (s.h M0) =
   exs (aa aj (k+1)) sb [some (.ref M0.length),some (.tup (.str z::qs)),some (.ref (M0.length+(s.T.length+3)))] (({ s with wt:=p,T:=s.T++[.lst vs] }:Px).h M0):=by
 have hi2:aX (aa aj (k+1)) (.e (.call 0 (.cons (.v 1) .nil))) [some (.ref M0.length),some (.tup (.str z::qs)),none] (s.h M0)=.ok (.tup ys,ys,false) (s.h M0):=by
  rw [Er,(bB (d:=.tup (.str z::qs)) (M1:=s.h M0) rfl).trans (hi _)];rfl
 have e1:=Ig (Φ:=aa aj (k+1)) (caps:=[0]) (tg:=[1]) hi2 (zd (Φ:=aa aj (k+1)) (M0:=M0) (p:=p) (ch:=aP (s.h M0) (.tup ys)) (fun _=>rfl) vs.reverse ys s none [] (by rw [List.length_reverse];exact hy) (by rw [List.reverse_reverse];exact hw) (by simpa using hl))
 rw [List.nil_append,show (({ s with wt:=p }:Px).h M0).length=M0.length+(s.T.length+3) from len,app] at e1
 have gl:(({ s with wt:=p,T:=s.T++[.lst vs.reverse] }:Px).h M0)[M0.length+(s.T.length+3)]? = some (.lst vs.reverse):=gT.trans (by show (s.T++[MO.lst vs.reverse])[s.T.length]? = _;simp)
 have e2:=Ll (Φ:=aa aj (k+1)) (e:=.v 2) (σ:=[some (.ref M0.length),some (.tup (.str z::qs)),some (.ref (M0.length+(s.T.length+3)))]) (M:=({ s with wt:=p,T:=s.T++[.lst vs.reverse] }:Px).h M0) rfl gl
 rw [sT,List.reverse_reverse] at e2
 have es:(s.T++[MO.lst vs.reverse]).set s.T.length (.lst vs)=s.T++[.lst vs]:=by rw [List.set_append_right _ _ (Nat.le_refl _),Nat.sub_self];rfl
 refine (av e1).trans ((bZ e2).trans ?_)
 show exs (aa aj (k+1)) sb _ (Px.h { s with wt:=p,T:=(s.T++[MO.lst vs.reverse]).set s.T.length (.lst vs) } M0)=_
 rw [es]
theorem dh {kp:Bool} {M M':MH} {d:D} (i:Nat) (hi:i<M.length) (h:M'[i]?≠M[i]?):cJ kp M d M'=.ok d M':=by
 unfold cJ
 rw [if_neg]
 rintro ⟨_,hh⟩
 apply h
 have:=congrArg (fun m=>m[i]?) hh
 simpa only [List.getElem?_take_of_lt hi] using this
theorem t8 {M M':MH} {c:Nat} (i:Nat) (hi:i<M.length) (h:M'[i]?≠M[i]?):pV M c M'=.exc c M':=by
 unfold pV
 rw [if_neg]
 intro hh
 apply h
 have:=congrArg (fun m=>m[i]?) hh
 simpa only [List.getElem?_take_of_lt hi] using this
theorem xP {o:Op} {ps:bU} {vs:List D} {r:Cz} (hc:cA o vs r) (hy:ps.ds.length=vs.length) (hw:s.wt=p++vs) (hl:s.wt.length<line) (hvs:vs≠[]) :
  ∃ Y,(aa aj (k+4)).call 15 [.ref M0.length,(Pt.op o ps).d] (s.h M0)=(match r with
   | .ok v=>.ok .ao (({ s with wt:=p++[v],T:=s.T++Y }:Px).h M0)
   | .exc c=>.exc c (({ s with wt:=p,T:=s.T++Y }:Px).h M0)):=by
 have ed:(Pt.op o ps).d=.tup (.str o.w::ps.ds):=by rw [Pt.d]
 have hlen:vs.length<=line/\p.length<line:=by rw [hw,List.length_append] at hl;omega
 have pre:=oq (k:=k+2) (M0:=M0) (s:=s) (p:=p) (z:=o.w) (qs:=ps.ds) (ys:=ps.ds) (vs:=vs) (sb:=.cons (.ifs (.cmp .eq (.idx (.v 1) (.k (.int 0))) (.k (.str (w "call")))) (.cons (.ex (.dc 0 16 (w "call") (.v 0) (.cons (.idx (.v 1) (.k (.int 1))) (.cons (.v 2) .nil)))) .nil) (.cons (.ex (.dH .append true (.fld (.v 0) (w "waiting")) (.cons (.call 7 (.cons (.idx (.v 1) (.k (.int 0))) (.cons (.v 2) .nil))) .nil))) .nil)) .nil) (fun M=>lg D5 ps.nr) hy hw hlen.1
 have q:decide (o.w=w "call")=false:=by
  cases o with
  | rk o=>cases o <;> decide +kernel
  | lay c=>cases c <;> decide +kernel
  | look c t=>cases c <;> cases t <;> decide +kernel
  | none=>decide +kernel
 let s2:Px:={ s with wt:=p,T:=s.T++[.lst vs] }
 let σ2:Sg:=[some (.ref M0.length),some (.tup (.str o.w::ps.ds)),some (.ref (M0.length+(s.T.length+3)))]
 have c1:ev (aa aj (k+3)) (.cmp .eq (.idx (.v 1) (.k (.int 0))) (.k (.str (w "call")))) σ2 (s2.h M0)=.ok (.bl false) (s2.h M0):=bA (aC rfl rfl aT) q
 have gl:(s2.h M0)[M0.length+(s.T.length+3)]? = some (.lst vs):=gT.trans (by show (s.T++[MO.lst vs])[s.T.length]? = _;simp)
 have ec:ev (aa aj (k+3)) (.call 7 (.cons (.idx (.v 1) (.k (.int 0))) (.cons (.v 2) .nil))) σ2 (s2.h M0)=r.r (s2.h M0):=by
  rw [aO,cL (x:=.str o.w) (y:=.ref (M0.length+(s.T.length+3))) (M1:=s2.h M0) (M2:=s2.h M0) (aC rfl rfl aT) rfl,R.af]
  exact Iv hc gl
 rw [ed]
 have nw:∀ {x:List D},x≠p++vs->some (MO.lst x)≠(s.h M0)[M0.length+2]?:=fun h z=>by
  rw [g2,hw] at z
  exact h (MO.lst.inj (Option.some.inj z))
 have hpv:p≠p++vs:=fun h=>by
  have:=congrArg List.length h
  rw [List.length_append] at this
  exact hvs (List.length_eq_zero_iff.mp (by omega))
 have h2:M0.length+2<(s.h M0).length:=by rw [len];omega
 cases r with
 | ok v =>
  have e5:=qz (Φ:=aa aj (k+3)) (σ:=σ2) (e:=.fld (.v 0) (w "waiting")) (n6 (s:=s2) (M0:=M0) (i:=0) rfl) g2 ec g2 (show p.length<line from hlen.2)
  rw [bM.s2] at e5
  have body:=pre.trans ((cS c1).trans ((bZ e5).trans rfl))
  by_cases hk:(Px.h { s with wt:=p++[v],T:=s.T++[.lst vs] } M0).take (s.h M0).length=s.h M0
  ·refine ⟨[],?_⟩
   have hz:=congrArg (fun m=>m[M0.length+2]?) hk
   simp only [List.getElem?_take_of_lt h2,g2] at hz
   have e6:p++[v]=s.wt:=MO.lst.inj (Option.some.inj hz)
   have e7:({ s with wt:=p++[v],T:=s.T++[] }:Px)=s:=by rw [e6,List.append_nil]
   show _=R.ok D.ao (Px.h { s with wt:=p++[v],T:=s.T++[] } M0)
   rw [e7]
   exact dP wG rfl body ((if_pos ⟨rfl,hk⟩).trans (if_pos rfl))
  ·exact ⟨[.lst vs],dP wG rfl body (if_neg fun z=>hk z.2)⟩
 | exc c =>
  have e5:=Ih (Φ:=aa aj (k+3)) (σ:=σ2) (e:=.fld (.v 0) (w "waiting")) (n6 (s:=s2) (M0:=M0) (i:=0) rfl) g2 ec
  refine ⟨[.lst vs],jr wG rfl (pre.trans ((cS c1).trans (l8 e5))) ?_⟩
  exact t8 (M0.length+2) h2 (by rw [g2];exact nw hpv)
end
end bM
end
section
namespace bM
open Fg PySem
theorem Fd.nr {m:Nat} (f:Fd):Fg.nr m f.d=true:=by
 have h:dS m (f.tk.map fun t=>D.tup [.str t.1,t.2.d])=true:=by
  generalize f.tk=l
  induction l with
  | nil=>simp [dS]
  | cons t l ih=>simp [dS,Fg.nr,Kd.nr,ih]
 simp [Fd.d,Fg.nr,dS,h,Kd.nr,Pt.nr]
noncomputable def envOf:List (Ky×D)->List Str->List D->List (Ky×D)
 | kvs,x::xs,v::vs=>envOf (put kvs (.inr x) v) xs vs
 | kvs,_,_=>kvs
theorem uW:∀ (xs:List Str) (vs:List D) (kvs:List (Ky×D)),xg kvs (xs.map D.str) vs=some (envOf kvs xs vs)
 | [],vs,kvs=>by simp [xg,envOf]
 | x::xs,[],kvs=>by simp [xg,envOf]
 | x::xs,v::vs,kvs=>by
  simp only [List.map_cons,xg,keyOf,envOf]
  exact uW xs vs _
section
variable {M0 M M1 M2:MH} {s s':Px} {p xs:List D} {t k n:Nat} {Φ:bF} {σ:Sg} {e e' a b:E} {x y en v d gv:D} {kvs:List (Ky×D)} {ss:Ss}
noncomputable def MN:Ss:=.cons (.ifs (.cmp .eq (.idx (.v 2) (.k (.int 0))) (.v 1)) (.cons (.ret (.v 2)) .nil) .nil) .nil
theorem uI {P:D} {z:Str} {ch:MH->Bool} (hch:ch M=true):∀ (fs:List Fd) (f:Fd) (o:Option D),fs.find? (fun g=>decide (g.nm=z))=some f->aS (exs Φ MN) [2] ch (fs.map Fd.d) [some P,some (.str z),o] M=.ok (.rt f.d) M
 | [],f,o,h=>by simp at h
 | g::fs,f,o,h=>by
  have c1:ev Φ (.cmp .eq (.idx (.v 2) (.k (.int 0))) (.v 1)) [some P,some (.str z),some g.d] M=.ok (.bl (decide (g.nm=z))) M:=Ic (aC rfl rfl aT) rfl
  rw [List.map_cons,aS]
  show ((exs Φ MN [some P,some (.str z),some g.d] M).bind _)=_
  by_cases hz:g.nm=z
  ·rw [decide_eq_true hz] at c1
   rw [List.find?_cons_of_pos (by simpa using hz)] at h
   cases h
   rw [MN,cT c1 (aR rfl)];rfl
  ·rw [decide_eq_false hz] at c1
   rw [List.find?_cons_of_neg (by simpa using hz)] at h
   rw [MN,aE c1]
   show (if ch M then _ else _)=_
   rw [if_pos hch]
   exact uI hch fs f (some g.d) h
theorem LG {fs:List Fd} {f:Fd} {z:Str} (h:fs.find? (fun g=>decide (g.nm=z))=some f):(aa aj (k+1)).call 1 [.lst (fs.map Fd.d),.str z] M=.ok f.d M :=
 aL iT rfl (Fz (it:=.e (.v 0)) (d:=.lst (fs.map Fd.d)) (ds:=fs.map Fd.d) rfl (uI (z:=z) rfl fs f none h)) (au f.nr rfl)
theorem Ea {ch:MH->Bool} (hc:ch M=true):∀ (tk:List (Str×Kd)) (o:Option D) (acc:List D),acc.length+tk.length<=1000->bG (oW Φ .none) (ev Φ (.idx (.v 0) (.k (.int 0)))) [0] ch (tk.map fun t=>D.tup [.str t.1,t.2.d]) [o] M acc=.ok (acc++tk.map fun t=>.str t.1) M
 | [],o,acc,_=>by simp [bG]
 | t::tk,o,acc,hl=>by
  simp only [List.length_cons] at hl
  rw [List.map_cons,rV (x:=.str t.1) (M1:=M) (aC rfl rfl aT) hc (Nat.lt_of_lt_of_le (by omega) (by decide:1001<=line))]
  show bG _ _ [0] ch _ [some _] M _=_
  rw [Ea hc tk (some (D.tup [.str t.1,t.2.d])) (acc++[D.str t.1]) (by simp;omega)]
  simp
theorem AH {fs:List Fd} {f:Fd} {z:Str} {vs:List D} (hp:s.prog=.lst (fs.map Fd.d)) (h:fs.find? (fun g=>decide (g.nm=z))=some f) (hg:AW (s.h M0) gv=some vs) (hl:s.todo.length<line) (ht:f.tk.length<=1000) :
  (aa aj (k+3)).call 17 [.ref M0.length, .str z, gv] (s.h M0)=.ok .ao (({ s with todo:=s.todo++[aB (w "begin") f.bd.d (.ref (M0.length+(s.T.length+3)))], T:=s.T++[.dct (envOf [] (f.tk.map (·.1)) vs)] }:Px).h M0):=by
 let σ0:Sg:=[some (.ref M0.length),some (.str z),some gv,none,none]
 have e1:ev (aa aj (k+2)) (.call 1 (.cons (.fld (.v 0) (w "program")) (.cons (.v 1) .nil))) σ0 (s.h M0)=.ok f.d (s.h M0):=by
  rw [aO,cL (HM (s:=s) (M0:=M0) (i:=0) rfl) (y:=.str z) (M2:=s.h M0) rfl,R.af,hp]
  exact LG h
 let σ1:Sg:=[some (.ref M0.length),some (.str z),some gv,some f.d,none]
 have hi:aX (aa aj (k+2)) (.e (.idx (.v 3) (.k (.int 1)))) σ1 (s.h M0)=.ok (.lst (f.tk.map fun t=>.tup [.str t.1,t.2.d]),f.tk.map fun t=>.tup [.str t.1,t.2.d],false) (s.h M0):=by
  rw [Er,aC (d:=.lst (f.tk.map fun t=>.tup [.str t.1,t.2.d])) (M2:=s.h M0) (e_v (d:=f.d) rfl) rfl c8];rfl
 have e2:=uU (Φ:=aa aj (k+2)) (caps:=[]) (tg:=[0]) (elt:=.idx (.v 0) (.k (.int 0))) hi (Ea (M:=s.h M0) rfl f.tk none [] (by simpa using ht))
 rw [List.nil_append] at e2
 let σ2:Sg:=[some (.ref M0.length),some (.str z),some gv,some f.d,some (.lst (f.tk.map fun t=>.str t.1))]
 have e3:ev (aa aj (k+2)) (.dz (.v 4) (.v 2)) σ2 (s.h M0)=.ok (.ref (M0.length+(s.T.length+3))) (({ s with T:=s.T++[.dct (envOf [] (f.tk.map (·.1)) vs)] }:Px).h M0):=by
  have g1:AW (s.h M0) (.lst (f.tk.map fun t=>D.str t.1))=some (f.tk.map fun t=>D.str t.1):=rfl
  have g2:xg [] (f.tk.map fun t=>D.str t.1) vs=some (envOf [] (f.tk.map (·.1)) vs):=by
   rw [<- uW,List.map_map];rfl
  have g3:(f.tk.map fun t=>D.str t.1).length<=1000:=by rw [List.length_map];exact ht
  rw [Le,e_v (d:=.lst (f.tk.map fun t=>.str t.1)) rfl,R.af,e_v (d:=gv) rfl,R.af]
  simp only [g1,hg,decide_eq_true g3,if_true,g2,len,app]
 have e4:=iN (k:=k+1) (M0:=M0) (s:=s) (s':={ s with T:=s.T++[.dct (envOf [] (f.tk.map (·.1)) vs)] }) (σ:=σ2) (z:=w "begin") (e:=.idx (.v 3) (.k (.int 3))) (e':=.dz (.v 4) (.v 2)) (x:=f.bd.d) rfl (aC (xs:=[.str f.nm, .lst (f.tk.map fun t=>.tup [.str t.1, t.2.d]), f.gv.d, f.bd.d]) rfl rfl m7) e3 hl
 refine dP fn17 rfl ((av e1).trans ((av e2).trans ((bZ e4).trans rfl))) (dh (M0.length+1) (by rw [len];omega) ?_)
 rw [g1,bM.g1]
 intro hh
 have:=congrArg List.length (MO.lst.inj (Option.some.inj hh))
 simp at this
theorem LI {b u m:Int}:(aa aj (k+1)).call 9 [.int b,.int u,.int m] M=if m<b+1 then .exc 4 M else if 12<u+1 then .exc 5 M else .ok .ao M:=by
 have e1:∀ q,decide (m<b+1)=q->ev (aa aj k) (.cmp .gt (.op .add true (.v 0) (.k (.int 1))) (.v 2)) [some (.int b),some (.int u),some (.int m)] M=.ok (.bl q) M:=fun q h=>Ib (mS rfl rfl) rfl h
 have g:ev (aa aj k) (.g 2) [some (.int b),some (.int u),some (.int m)] M=.ok (.int 12) M:=by rw [Ld,k9];rfl
 have e2:∀ q,decide (12<u+1)=q->ev (aa aj k) (.cmp .gt (.op .add true (.v 1) (.k (.int 1))) (.g 2)) [some (.int b),some (.int u),some (.int m)] M=.ok (.bl q) M:=fun q h=>Ib (mS rfl rfl) g h
 by_cases h1:m<b+1
 ·rw [if_pos h1]
  exact jr fn9 rfl (pN (e1 true (decide_eq_true h1)) rfl) br
 ·rw [if_neg h1]
  by_cases h2:12<u+1
  ·rw [if_pos h2]
   exact jr fn9 rfl ((aE (e1 false (decide_eq_false h1))).trans (pN (e2 true (decide_eq_true h2)) (yd g (by decide)))) br
  ·rw [if_neg h2]
   exact dP fn9 rfl ((aE (e1 false (decide_eq_false h1))).trans ((aE (e2 false (decide_eq_false h2))).trans rfl)) (au (by simp [nr]) rfl)
noncomputable def qN:D:=aB (w "back") .ao .ao
theorem EF {i:Nat} (h0:σ[0]? = some (some (.ref M0.length))):ev (aa aj (k+1)) (.call 9 (.cons (.fld (.v 0) (w "begun")) (.cons (.fld (.v 0) (w "under_way")) (.cons (.fld (.v 0) (w "most")) .nil)))) σ (s.h M0)=if s.most<s.bg+1 then .exc 4 (s.h M0) else if 12<s.un+1 then .exc 5 (s.h M0) else .ok .ao (s.h M0):=by
 rw [aO,aN (uK (s:=s) h0) (aN (n8 (s:=s) h0) (aN (HN (s:=s) h0) rfl)),R.af]
 exact LI
theorem Dm {z:Str} {c:Nat} (h:(if s.most<s.bg+1 then R.exc 4 (s.h M0) else if 12<s.un+1 then .exc 5 (s.h M0) else .ok .ao (s.h M0))=(.exc c (s.h M0):R D)):(aa aj (k+4)).call 16 [.ref M0.length,.str z,gv] (s.h M0)=.exc c (s.h M0) :=
 jr K5 rfl (l8 ((EF (k:=k+2) (i:=0) rfl).trans h)) br
theorem Iz {fs:List Fd} {f:Fd} {z:Str} {vs:List D} (hb:s.bg+1<=s.most) (hu:s.un+1<=12) (hp:s.prog=.lst (fs.map Fd.d)) (h:fs.find? (fun g=>decide (g.nm=z))=some f) (hg:∀ s':Px,s'.T=s.T->AW (s'.h M0) gv=some vs) (hl:s.todo.length+1<line) (ht:f.tk.length<=1000) :
  (aa aj (k+4)).call 16 [.ref M0.length, .str z, gv] (s.h M0)=.ok .ao (({ s with bg:=s.bg+1, un:=s.un+1, todo:=s.todo++[qN]++[aB (w "begin") f.bd.d (.ref (M0.length+(s.T.length+3)))], T:=s.T++[.dct (envOf [] (f.tk.map (·.1)) vs)] }:Px).h M0):=by
 let σ0:Sg:=[some (.ref M0.length),some (.str z),some gv]
 have e0:=EF (k:=k+2) (σ:=σ0) (s:=s) (M0:=M0) (i:=0) rfl
 rw [if_neg (by omega),if_neg (by omega)] at e0
 have e1:=C5 (Φ:=aa aj (k+3)) (σ:=σ0) (s:=s) (M0:=M0) (i:=0) (e:=.op .add false (.fld (.v 0) (w "begun")) (.k (.int 1))) (n:=s.bg+1) rfl (mS (uK (s:=s) rfl) rfl)
 have e2:=uS (Φ:=aa aj (k+3)) (σ:=σ0) (s:={ s with bg:=s.bg+1 }) (M0:=M0) (i:=0) (e:=.op .add false (.fld (.v 0) (w "under_way")) (.k (.int 1))) (n:=s.un+1) rfl (mS (n8 (s:={ s with bg:=s.bg+1 }) rfl) rfl)
 have e3:=iN (k:=k+2) (M0:=M0) (s:={ s with bg:=s.bg+1, un:=s.un+1 }) (s':={ s with bg:=s.bg+1, un:=s.un+1 }) (σ:=σ0) (z:=w "back") (e:=.k .ao) (e':=.k .ao) (x:=.ao) (en:=.ao) rfl rfl rfl (by show s.todo.length<line;omega)
 let s4:Px:={ s with bg:=s.bg+1,un:=s.un+1,todo:=s.todo++[qN] }
 have e4:ev (aa aj (k+3)) (.dc 0 17 (w "put_off_body") (.v 0) (.cons (.v 1) (.cons (.v 2) .nil))) σ0 (s4.h M0)=_:=(u_ (s:=s4) (M0:=M0) (i:=0) (σ:=σ0) rfl (by decide +kernel)).trans ((by rw [cL (x:=.str z) (y:=gv) (M1:=s4.h M0) (M2:=s4.h M0) rfl rfl, R.af]:_=(aa aj (k+3)).call 17 [.ref M0.length, .str z, gv] (s4.h M0)).trans (AH (k:=k) (s:=s4) (M0:=M0) hp h (hg s4 rfl) (by show (s.todo++[qN]).length<line;simp;omega) ht))
 refine dP K5 rfl ((bZ e0).trans ((i6 e1).trans ((i6 e2).trans ((bZ e3).trans ((bZ e4).trans rfl))))) (dh (M0.length+1) (by rw [len];omega) ?_)
 rw [g1,bM.g1]
 intro hh
 have:=congrArg List.length (MO.lst.inj (Option.some.inj hh))
 simp [s4] at this
end
end bM
end
section
namespace bM
open Fg PySem
section
variable {M0 M M1 M2:MH} {s s':Px} {p xs:List D} {t k n c:Nat} {Φ:bF} {σ:Sg} {e e' a b:E} {x y en v d gv:D} {kvs:List (Ky×D)} {ss:Ss}
noncomputable def dn4:Ss:=.cons (.eF (.v 0) (w "under_way") (.op .sub false (.fld (.v 0) (w "under_way")) (.k (.int 1)))) .nil
noncomputable def dn3:Ss:=.cons (.ifs (.cmp .eq (.idx (.v 1) (.k (.int 0))) (.k (.str (w "end")))) (.cons (.ex (.dc 0 15 (w "end") (.v 0) (.cons (.idx (.v 1) (.k (.int 1))) .nil))) .nil) dn4) .nil
noncomputable def dn2:Ss:=.cons (.ifs (.cmp .eq (.idx (.v 1) (.k (.int 0))) (.k (.str (w "go on")))) (.cons (.ex (.dc 0 14 (w "go_on") (.v 0) (.cons (.idx (.v 1) (.k (.int 1))) (.cons (.idx (.v 1) (.k (.int 2))) .nil)))) .nil) dn3) .nil
noncomputable def dn1:Ss:=.cons (.ifs (.cmp .eq (.idx (.v 1) (.k (.int 0))) (.k (.str (w "begin")))) (.cons (.ex (.dc 0 13 (w "begin") (.v 0) (.cons (.idx (.v 1) (.k (.int 1))) (.cons (.idx (.v 1) (.k (.int 2))) .nil)))) .nil) dn2) .nil
theorem v5:aW.body=.cons (.set 1 (.dH .pop true (.fld (.v 0) (w "todo")) .nil)) dn1:=rfl
theorem kY {z:Str} (hs:s.todo=p++[aB z x en]):exs Φ aW.body [some (.ref M0.length),none] (s.h M0)=exs Φ dn1 [some (.ref M0.length),some (aB z x en)] (({ s with todo:=p }:Px).h M0):=by
 rw [v5];exact av (e_next rfl hs)
theorem jP {z u:Str} {q:Bool} (h:decide (z=u)=q):ev Φ (.cmp .eq (.idx (.v 1) (.k (.int 0))) (.k (.str u))) [some (.ref M0.length),some (aB z x en)] M=.ok (.bl q) M:=bA (c:=z) (aC rfl rfl aT) h
theorem mT (h:s'.todo≠s.todo):(s'.h M0)[M0.length+1]?≠(s.h M0)[M0.length+1]?:=by
 rw [g1,g1];exact fun z=>h (MO.lst.inj (Option.some.inj z))
theorem mU:M0.length+1<(s.h M0).length:=by rw [len];omega
theorem fY (hs:s.todo=p++[aB (w "begin") x en]) (hc:(aa aj k).call 13 [.ref M0.length, x, en] (({ s with todo:=p }:Px).h M0)=.ok .ao (s'.h M0)) (hn:s'.todo≠s.todo):(aa aj (k+1)).call 18 [.ref M0.length] (s.h M0)=.ok .ao (s'.h M0):=by
 have e1:ev (aa aj k) (.dc 0 13 (w "begin") (.v 0) (.cons (.idx (.v 1) (.k (.int 1))) (.cons (.idx (.v 1) (.k (.int 2))) .nil))) [some (.ref M0.length), some (aB (w "begin") x en)] (({ s with todo:=p }:Px).h M0)=.ok .ao (s'.h M0):=by
  rw [u_ (i:=0) rfl (by decide +kernel),cL (aC rfl rfl c8) (aC rfl rfl m8),R.af];exact hc
 exact dP zQ rfl ((kY hs).trans ((kj (jP (by decide +kernel))).trans ((bZ e1).trans rfl))) (dh (M0.length+1) mU (mT hn))
theorem Dc (hs:s.todo=p++[aB (w "go on") x en]) (hc:(aa aj k).call 14 [.ref M0.length, x, en] (({ s with todo:=p }:Px).h M0)=.ok .ao (s'.h M0)) (hn:s'.todo≠s.todo):(aa aj (k+1)).call 18 [.ref M0.length] (s.h M0)=.ok .ao (s'.h M0):=by
 have e1:ev (aa aj k) (.dc 0 14 (w "go_on") (.v 0) (.cons (.idx (.v 1) (.k (.int 1))) (.cons (.idx (.v 1) (.k (.int 2))) .nil))) [some (.ref M0.length), some (aB (w "go on") x en)] (({ s with todo:=p }:Px).h M0)=.ok .ao (s'.h M0):=by
  rw [u_ (i:=0) rfl (by decide +kernel),cL (aC rfl rfl c8) (aC rfl rfl m8),R.af];exact hc
 exact dP zQ rfl ((kY hs).trans ((cS (jP (by decide +kernel))).trans ((kj (jP (by decide +kernel))).trans ((bZ e1).trans rfl)))) (dh (M0.length+1) mU (mT hn))
theorem EI (r:R D) (hc:(aa aj k).call 15 [.ref M0.length, x] (({ s with todo:=p }:Px).h M0)=r):ev (aa aj k) (.dc 0 15 (w "end") (.v 0) (.cons (.idx (.v 1) (.k (.int 1))) .nil)) [some (.ref M0.length), some (aB (w "end") x en)] (({ s with todo:=p }:Px).h M0)=r:=by
 rw [u_ (i:=0) rfl (by decide +kernel),wH (aC rfl rfl c8),R.af];exact hc
theorem Ik (hs:s.todo=p++[aB (w "end") x en]) (hc:(aa aj k).call 15 [.ref M0.length, x] (({ s with todo:=p }:Px).h M0)=.ok .ao (s'.h M0)) (hn:s'.todo≠s.todo):(aa aj (k+1)).call 18 [.ref M0.length] (s.h M0)=.ok .ao (s'.h M0) :=
 dP zQ rfl ((kY hs).trans ((cS (jP (by decide +kernel))).trans ((cS (jP (by decide +kernel))).trans ((kj (jP (by decide +kernel))).trans ((bZ (EI _ hc)).trans rfl))))) (dh (M0.length+1) mU (mT hn))
theorem Ao (hs:s.todo=p++[aB (w "end") x en]) (hc:(aa aj k).call 15 [.ref M0.length, x] (({ s with todo:=p }:Px).h M0)=.exc c (s'.h M0)) (hn:s'.todo≠s.todo):(aa aj (k+1)).call 18 [.ref M0.length] (s.h M0)=.exc c (s'.h M0) :=
 jr zQ rfl ((kY hs).trans ((cS (jP (by decide +kernel))).trans ((cS (jP (by decide +kernel))).trans ((kj (jP (by decide +kernel))).trans (l8 (EI _ hc)))))) (t8 (M0.length+1) mU (mT hn))
theorem dn_k (hs:s.todo=p++[qN]):(aa aj (k+1)).call 18 [.ref M0.length] (s.h M0)=.ok .ao (({ s with todo:=p,un:=s.un-1 }:Px).h M0):=by
 have e1:=uS (Φ:=aa aj k) (σ:=[some (.ref M0.length), some qN]) (s:={ s with todo:=p }) (M0:=M0) (i:=0) (e:=.op .sub false (.fld (.v 0) (w "under_way")) (.k (.int 1))) (n:=s.un-1) rfl (mP (n8 (s:={ s with todo:=p }) rfl) rfl)
 exact dP zQ rfl ((kY hs).trans ((cS (jP (by decide +kernel))).trans ((cS (jP (by decide +kernel))).trans ((cS (jP (by decide +kernel))).trans ((i6 e1).trans rfl))))) (dh (M0.length+1) mU (mT (by
  show p≠s.todo
  rw [hs]
  intro z
  have:=congrArg List.length z
  simp at this)))
noncomputable def pE:E:=.cmp .ne (.fld (.v 3) (w "todo")) (.lst true .nil)
noncomputable def pB:Ss:=.cons (.ex (.dc 0 18 (w "do_next") (.v 3) .nil)) .nil
theorem rL (h3:σ[3]? = some (some (.ref M0.length))):ev Φ pE σ (s.h M0)=.ok (.bl (!s.todo.isEmpty)) (s.h M0):=by
 rw [pE,cF,sy h3,R.af]
 show v7 (s.h M0) (.ref (M0.length+1)) (.lst [])=_
 have e1:top (s.h M0) (.ref (M0.length+1))=.lst s.todo:=by simp only [top,g1]
 have e2:top (s.h M0) (.lst [])=.lst []:=rfl
 have e3:qa (s.h M0) (.ref (M0.length+1)) (.lst [])=some s.todo.isEmpty:=by simp only [qa,vw,g1];rfl
 unfold v7
 rw [e1,e2,e3]
 cases hd:s.todo with
 | nil=>rfl
 | cons d es =>
  by_cases hc:aZ (.lst (d::es)) (.lst [])=true
  ·rw [if_pos hc,jE,CY];rfl
  ·rw [if_neg hc]
noncomputable def Go (k:Nat) (M0:MH) (σ:Sg) (n:Nat) (s s':Px):Prop:=∀ N,bX (ev (aa aj k) pE) (exs (aa aj k) pB) (n+N) σ (s.h M0)=bX (ev (aa aj k) pE) (exs (aa aj k) pB) N σ (s'.h M0)
noncomputable def EV (k:Nat) (M0:MH) (σ:Sg) (n:Nat) (s:Px) (c:Nat):Prop:=∀ N,∃ s':Px,bX (ev (aa aj k) pE) (exs (aa aj k) pB) (n+N) σ (s.h M0)=.ok (.xc c σ) (s'.h M0)
theorem Go.refl:Go k M0 σ 0 s s:=fun N=>by rw [Nat.zero_add]
theorem Go.trans {s1 s2 s3:Px} {n m:Nat} (a:Go k M0 σ n s1 s2) (b:Go k M0 σ m s2 s3):Go k M0 σ (n+m) s1 s3:=fun N=>by rw [Nat.add_assoc,a,b]
theorem Go.aQ {s1 s2:Px} {n m c:Nat} (a:Go k M0 σ n s1 s2) (b:EV k M0 σ m s2 c):EV k M0 σ (n+m) s1 c:=fun N=>by
 obtain ⟨s',h⟩:=b N
 exact ⟨s',by rw [Nat.add_assoc,a,h]⟩
theorem Go.one (h3:σ[3]? = some (some (.ref M0.length))) (ht:s.todo=p++[x]) (h:(aa aj k).call 18 [.ref M0.length] (s.h M0)=.ok .ao (s'.h M0)):Go k M0 σ 1 s s':=fun N=>by
 have c:=rL (Φ:=aa aj k) (s:=s) h3
 have hne:s.todo.isEmpty=false:=by rw [ht];cases p <;> rfl
 rw [hne] at c
 have e1:ev (aa aj k) (.dc 0 18 (w "do_next") (.v 3) .nil) σ (s.h M0)=.ok .ao (s'.h M0):=(u_ h3 (by decide +kernel)).trans h
 rw [Nat.add_comm,bX,c]
 show ((exs (aa aj k) pB σ (s.h M0)).bind _)=_
 rw [pB,bZ e1];rfl
theorem EV.one (h3:σ[3]? = some (some (.ref M0.length))) (ht:s.todo=p++[x]) (h:(aa aj k).call 18 [.ref M0.length] (s.h M0)=.exc c (s'.h M0)):EV k M0 σ 1 s c:=fun N=>by
 have c0:=rL (Φ:=aa aj k) (s:=s) h3
 have hne:s.todo.isEmpty=false:=by rw [ht];cases p <;> rfl
 rw [hne] at c0
 have e1:ev (aa aj k) (.dc 0 18 (w "do_next") (.v 3) .nil) σ (s.h M0)=.exc c (s'.h M0):=(u_ h3 (by decide +kernel)).trans h
 refine ⟨s',?_⟩
 rw [Nat.add_comm,bX,c0]
 show ((exs (aa aj k) pB σ (s.h M0)).bind _)=_
 rw [pB,l8 e1];rfl
end
end bM
end
section
namespace bM
open Fg PySem
inductive It where
 | p (p:Pt)
 | ps (ps:bU)
noncomputable abbrev Env:=List (Ky×D)
inductive Ev (fs:List Fd) (m:Int):Env->Int->Int->It->Nat->List D->Int->Prop
 | num {env:Env} {b u:Int} {i:Int}:Ev fs m env b u (.p (.num i)) 1 [.int i] b
 | oU {env:Env} {b u:Int} {x:Str} {v:D}:look env (.inr x)=some v->Ev fs m env b u (.p (.oU x)) 1 [v] b
 | nil {env:Env} {b u:Int} {kd:Kd}:Ev fs m env b u (.p (.nil kd)) 1 [.ao] b
 | lt {env:Env} {b u b1 b2:Int} {x:Str} {a r:Pt} {n n2:Nat} {v v2:D}:env.length<1000->Ev fs m env b u (.p a) n [v] b1->Ev fs m (put env (.inr x) v) b1 u (.p r) n2 [v2] b2->Ev fs m env b u (.p (.lt x a r)) (n+n2+2) [v2] b2
 | ite {env:Env} {b u b1 b2 i:Int} {c q r:Pt} {n n2:Nat} {v:D}:Ev fs m env b u (.p c) n [.int i] b1->Ev fs m env b1 u (.p (if i=0 then r else q)) n2 [v] b2->Ev fs m env b u (.p (.ite c q r)) (n+n2+2) [v] b2
 | op {env:Env} {b u b1:Int} {o:Op} {ps:bU} {n:Nat} {vs:List D} {v:D}:ps.ds.length<=8->Ev fs m env b u (.ps ps) n vs b1->cA o vs (.ok v)->Ev fs m env b u (.p (.op o ps)) (n+2) [v] b1
 | call {env:Env} {b u b1 b2:Int} {z:Str} {ps:bU} {f:Fd} {n n2:Nat} {vs:List D} {v:D}:ps.ds.length<=8->Ev fs m env b u (.ps ps) n vs b1->b1+1<=m->u+1<=12->fs.find? (fun g=>decide (g.nm=z))=some f->f.tk.length<=1000 ->
   Ev fs m (envOf [] (f.tk.map (·.1)) vs) (b1+1) (u+1) (.p f.bd) n2 [v] b2->Ev fs m env b u (.p (.call z ps)) (n+n2+3) [v] b2
 | nJ {env:Env} {b u:Int}:Ev fs m env b u (.ps .nil) 0 [] b
 | cons {env:Env} {b u b1 b2:Int} {p:Pt} {ps:bU} {n n2:Nat} {v:D} {vs:List D}:Ev fs m env b u (.p p) n [v] b1->Ev fs m env b1 u (.ps ps) n2 vs b2->Ev fs m env b u (.ps (.cons p ps)) (n+n2) (v::vs) b2
inductive gD (fs:List Fd) (m:Int):Env->Int->Int->It->Nat->Nat->Prop
 | lt1 {env:Env} {b u:Int} {x:Str} {a r:Pt} {n c:Nat}:gD fs m env b u (.p a) n c->gD fs m env b u (.p (.lt x a r)) (n+1) c
 | lt2 {env:Env} {b u b1:Int} {x:Str} {a r:Pt} {n n2 c:Nat} {v:D}:env.length<1000->Ev fs m env b u (.p a) n [v] b1->gD fs m (put env (.inr x) v) b1 u (.p r) n2 c->gD fs m env b u (.p (.lt x a r)) (n+n2+2) c
 | ite1 {env:Env} {b u:Int} {c q r:Pt} {n e:Nat}:gD fs m env b u (.p c) n e->gD fs m env b u (.p (.ite c q r)) (n+1) e
 | ite2 {env:Env} {b u b1 i:Int} {c q r:Pt} {n n2 e:Nat}:Ev fs m env b u (.p c) n [.int i] b1->gD fs m env b1 u (.p (if i=0 then r else q)) n2 e->gD fs m env b u (.p (.ite c q r)) (n+n2+2) e
 | Mf {env:Env} {b u:Int} {o:Op} {ps:bU} {n e:Nat}:ps.ds.length<=8->gD fs m env b u (.ps ps) n e->gD fs m env b u (.p (.op o ps)) (n+1) e
 | lD {env:Env} {b u b1:Int} {o:Op} {ps:bU} {n e:Nat} {vs:List D}:ps.ds.length<=8->Ev fs m env b u (.ps ps) n vs b1->cA o vs (.exc e)->gD fs m env b u (.p (.op o ps)) (n+2) e
 | LD {env:Env} {b u:Int} {z:Str} {ps:bU} {n e:Nat}:ps.ds.length<=8->gD fs m env b u (.ps ps) n e->gD fs m env b u (.p (.call z ps)) (n+1) e
 | long {env:Env} {b u b1:Int} {z:Str} {ps:bU} {n:Nat} {vs:List D}:ps.ds.length<=8->Ev fs m env b u (.ps ps) n vs b1->m<b1+1->gD fs m env b u (.p (.call z ps)) (n+2) 4
 | deep {env:Env} {b u b1:Int} {z:Str} {ps:bU} {n:Nat} {vs:List D}:ps.ds.length<=8->Ev fs m env b u (.ps ps) n vs b1->b1+1<=m->12<u+1->gD fs m env b u (.p (.call z ps)) (n+2) 5
 | call2 {env:Env} {b u b1:Int} {z:Str} {ps:bU} {f:Fd} {n n2 e:Nat} {vs:List D}:ps.ds.length<=8->Ev fs m env b u (.ps ps) n vs b1->b1+1<=m->u+1<=12->fs.find? (fun g=>decide (g.nm=z))=some f->f.tk.length<=1000 ->
   gD fs m (envOf [] (f.tk.map (·.1)) vs) (b1+1) (u+1) (.p f.bd) n2 e->gD fs m env b u (.p (.call z ps)) (n+n2+2) e
 | head {env:Env} {b u:Int} {p:Pt} {ps:bU} {n e:Nat}:ps.ds.length<=8->gD fs m env b u (.p p) n e->gD fs m env b u (.ps (.cons p ps)) (n+1) e
 | tail {env:Env} {b u b1:Int} {p:Pt} {ps:bU} {n n2 e:Nat} {v:D}:ps.ds.length<=8->Ev fs m env b u (.p p) n [v] b1->gD fs m env b1 u (.ps ps) n2 e->gD fs m env b u (.ps (.cons p ps)) (n+n2) e
noncomputable def je (en:D):It->List D
 | .p p=>[aB (w "begin") p.d en]
 | .ps ps=>ps.ds.reverse.map fun d=>aB (w "begin") d en
theorem nS {en:D} {p:Pt} {ps:bU}:je en (.ps (.cons p ps))=je en (.ps ps)++je en (.p p):=by
 simp [je,bU.ds]
theorem ua {kvs:Env} {k:Ky} {v:D}:(put kvs k v).length<=kvs.length+1:=by
 unfold put;split <;> simp
theorem Ev.len {fs:List Fd} {m b u b':Int} {env:Env} {ps:bU} {n:Nat} {vs:List D} (h:Ev fs m env b u (.ps ps) n vs b'):ps.ds.length=vs.length:=by
 generalize hi:It.ps ps=it at h
 induction h generalizing ps with
 | nJ=>cases hi;simp [bU.ds]
 | cons h1 h2 ih1 ih2=>cases hi;simp [bU.ds,ih2 rfl]
 | _=>cases hi
theorem cA.ne {o:Op} {vs:List D} {r:Cz} (h:cA o vs r):vs≠[]:=by cases h <;> simp
noncomputable def lo:It->Nat
 | .p _=>1
 | .ps ps=>ps.ds.length
theorem Ev.lo {fs:List Fd} {m b u b':Int} {env:Env} {it:It} {n:Nat} {vs:List D} (h:Ev fs m env b u it n vs b'):bM.lo it<=n:=by
 induction h with
 | cons h1 h2 ih1 ih2=>simp only [bM.lo,bU.ds,List.length_cons] at ih1 ih2 ⊢;omega
 | nJ=>simp [bM.lo,bU.ds]
 | _=>simp only [bM.lo];omega
structure At (fs:List Fd) (m:Int) (M0:MH) (s:Px) (q:List D) (env:Env) (t:Nat) (b u:Int) (it:It) (n:Nat):Prop where
 prog:s.prog=.lst (fs.map Fd.d)
 most:s.most=m
 bg:s.bg=b
 un:s.un=u
 todo:s.todo=q++je (.ref (M0.length+(t+3))) it
 env:s.T[t]? = some (.dct env)
 room:q.length+9*n<950000/\s.wt.length+n<950000
theorem bx {q:List D} {x y:D} {l:List D} (h:x≠y):q++x::l≠q++[y]:=fun z=>by
 have:=List.append_cancel_left z
 rw [List.cons.injEq] at this
 exact h this.1
theorem bP {a b:List D} (h:a.length≠b.length):a≠b:=fun z=>h (congrArg List.length z)
theorem dw {z z':Str} {x x' en en':D} (h:decide (z=z')=false):aB z x en≠aB z' x' en':=fun q=>by
 have:z=z':=by
  simp only [aB,D.tup.injEq,List.cons.injEq,D.str.injEq] at q
  exact q.1
 exact absurd this (of_decide_eq_false h)
section
variable {fs:List Fd} {m:Int} {M0:MH} {k:Nat} {σ:Sg} {s:Px} {p:List D}
noncomputable def Lj:Ss:=.cons (.ifs (.cmp .eq (.idx (.v 1) (.k (.int 0))) (.k (.str (w "call")))) (.cons (.ex (.dc 0 16 (w "call") (.v 0) (.cons (.idx (.v 1) (.k (.int 1))) (.cons (.v 2) .nil)))) .nil) (.cons (.ex (.dH .append true (.fld (.v 0) (w "waiting")) (.cons (.call 7 (.cons (.idx (.v 1) (.k (.int 0))) (.cons (.v 2) .nil))) .nil))) .nil)) .nil
theorem uR {z:Str} {ps:bU} {s2:Px} {g:Nat} {r:R D} (h:(aa aj (k+4)).call 16 [.ref M0.length, .str z, .ref g] (s2.h M0)=r):ev (aa aj (k+4)) (.dc 0 16 (w "call") (.v 0) (.cons (.idx (.v 1) (.k (.int 1))) (.cons (.v 2) .nil))) [some (.ref M0.length), some (.tup (.str (w "call")::.str z::ps.ds)), some (.ref g)] (s2.h M0)=r:=by
 rw [u_ (i:=0) rfl (by decide +kernel),cL (x:=.str z) (y:=.ref g) (M1:=s2.h M0) (M2:=s2.h M0) (aC rfl rfl c8) rfl,R.af];exact h
theorem tK {z:Str} {ps:bU} {vs:List D} {f:Fd} (hy:ps.ds.length=vs.length) (hw:s.wt=p++vs) (hl:s.wt.length<line) (hb:s.bg+1<=s.most) (hu:s.un+1<=12) (hp:s.prog=.lst (fs.map Fd.d)) (hf:fs.find? (fun g=>decide (g.nm=z))=some f) (hlt:s.todo.length+1<line) (ht:f.tk.length<=1000) :
  (aa aj (k+5)).call 15 [.ref M0.length, (Pt.call z ps).d] (s.h M0)=.ok .ao (({ s with wt:=p, bg:=s.bg+1, un:=s.un+1, todo:=s.todo++[qN]++[aB (w "begin") f.bd.d (.ref (M0.length+((s.T++[MO.lst vs]).length+3)))], T:=s.T++[.lst vs]++[.dct (envOf [] (f.tk.map (·.1)) vs)] }:Px).h M0):=by
 have ed:(Pt.call z ps).d=.tup (.str (w "call")::.str z::ps.ds):=by rw [Pt.d]
 rw [ed]
 have hlen:vs.length<=line:=by rw [hw,List.length_append] at hl;omega
 have pre:=oq (k:=k+3) (M0:=M0) (s:=s) (p:=p) (z:=w "call") (qs:=.str z::ps.ds) (ys:=ps.ds) (vs:=vs) (sb:=Lj) (fun M=>iR (by decide +kernel) (by decide +kernel) ps.nr) hy hw hlen
 let s2:Px:={ s with wt:=p,T:=s.T++[.lst vs] }
 have c1:ev (aa aj (k+4)) (.cmp .eq (.idx (.v 1) (.k (.int 0))) (.k (.str (w "call")))) [some (.ref M0.length), some (.tup (.str (w "call")::.str z::ps.ds)), some (.ref (M0.length+(s.T.length+3)))] (s2.h M0)=.ok (.bl true) (s2.h M0):=bA (aC rfl rfl aT) (by decide +kernel)
 have e5:=uR (k:=k) (ps:=ps) (Iz (k:=k) (s:=s2) (M0:=M0) (gv:=.ref (M0.length+(s.T.length+3))) (fs:=fs) (f:=f) (z:=z) (vs:=vs) hb hu hp hf (fun s' h'=>by
  have gl:(s'.h M0)[M0.length+(s.T.length+3)]? = some (.lst vs):=gT.trans (by rw [h'];show (s.T++[MO.lst vs])[s.T.length]? = _;simp)
  simp only [AW,vw,gl]) hlt ht)
 refine dP wG rfl (pre.trans ((kj c1).trans ((bZ e5).trans rfl))) (dh (M0.length+1) mU (mT (bP ?_)))
 show (s.todo++[qN]++[_]).length≠_
 simp
theorem pq {z:Str} {ps:bU} {vs:List D} {c:Nat} (hy:ps.ds.length=vs.length) (hw:s.wt=p++vs) (hl:s.wt.length<line) (h:∀ M,(if s.most<s.bg+1 then R.exc 4 M else if 12<s.un+1 then .exc 5 M else .ok .ao M)=(.exc c M:R D)) :
  ∃ s':Px,s'.todo=s.todo/\(aa aj (k+5)).call 15 [.ref M0.length,(Pt.call z ps).d] (s.h M0)=.exc c (s'.h M0):=by
 have ed:(Pt.call z ps).d=.tup (.str (w "call")::.str z::ps.ds):=by rw [Pt.d]
 rw [ed]
 have hlen:vs.length<=line:=by rw [hw,List.length_append] at hl;omega
 have pre:=oq (k:=k+3) (M0:=M0) (s:=s) (p:=p) (z:=w "call") (qs:=.str z::ps.ds) (ys:=ps.ds) (vs:=vs) (sb:=Lj) (fun M=>iR (by decide +kernel) (by decide +kernel) ps.nr) hy hw hlen
 let s2:Px:={ s with wt:=p,T:=s.T++[.lst vs] }
 have c1:ev (aa aj (k+4)) (.cmp .eq (.idx (.v 1) (.k (.int 0))) (.k (.str (w "call")))) [some (.ref M0.length), some (.tup (.str (w "call")::.str z::ps.ds)), some (.ref (M0.length+(s.T.length+3)))] (s2.h M0)=.ok (.bl true) (s2.h M0):=bA (aC rfl rfl aT) (by decide +kernel)
 have e5:=uR (k:=k) (ps:=ps) (Dm (k:=k) (s:=s2) (M0:=M0) (gv:=.ref (M0.length+(s.T.length+3))) (z:=z) (c:=c) (h _))
 have body:=pre.trans ((kj c1).trans (l8 (ss:=.nil) e5))
 by_cases hk:(s2.h M0).take (s.h M0).length=s.h M0
 ·exact ⟨s,rfl,jr wG rfl body (if_pos hk)⟩
 ·exact ⟨s2,rfl,jr wG rfl body (if_neg hk)⟩
theorem jz {env:Env} {b u b':Int} {it:It} {n:Nat} {vs:List D} (h3:σ[3]? = some (some (.ref M0.length))) (h:Ev fs m env b u it n vs b'):∀ (s:Px) (q:List D) (t:Nat),At fs m M0 s q env t b u it n->∃ Y,Go (k+6) M0 σ n s { s with todo:=q,wt:=s.wt++vs,bg:=b',T:=s.T++Y }:=by
 have hline:line=1000000:=rfl
 induction h with
 | num =>
  intro s q t A
  obtain ⟨a1,a2,a3,a4,a5,a6,r1,r2⟩:=A
  subst a3
  refine ⟨[],?_⟩
  rw [List.append_nil]
  exact Go.one h3 a5 (fY (k:=k+5) a5 (E7 (k:=k+4) (s:={ s with todo:=q }) (by show s.wt.length<line;omega)) (bP (by rw [a5];simp [je])))
 | @oU env b u x v hx =>
  intro s q t A
  obtain ⟨a1,a2,a3,a4,a5,a6,r1,r2⟩:=A
  subst a3
  refine ⟨[],?_⟩
  rw [List.append_nil]
  exact Go.one h3 a5 (fY (k:=k+5) a5 (E9 (k:=k+4) (s:={ s with todo:=q }) a6 hx (by show s.wt.length<line;omega)) (bP (by rw [a5];simp [je])))
 | @nil env b u kd =>
  intro s q t A
  obtain ⟨a1,a2,a3,a4,a5,a6,r1,r2⟩:=A
  subst a3
  refine ⟨[],?_⟩
  rw [List.append_nil]
  exact Go.one h3 a5 (fY (k:=k+5) a5 (E8 (k:=k+4) (s:={ s with todo:=q }) (by show s.wt.length<line;omega)) (bP (by rw [a5];simp [je])))
 | @lt env b u b1 b2 x a r n n2 v v2 he h1 h2 ih1 ih2 =>
  intro s q t A
  obtain ⟨a1,a2,a3,a4,a5,a6,r1,r2⟩:=A
  have g1:=Go.one (k:=k+6) h3 a5 (fY (k:=k+5) a5 (qV (k:=k+3) (s:={ s with todo:=q }) (by show q.length+1<line;omega)) (bP (by rw [a5];simp [je])))
  obtain ⟨Y1, g2⟩:=ih1 { s with todo:=q++[aB (w "go on") (Pt.lt x a r).d (.ref (M0.length+(t+3)))]++[aB (w "begin") a.d (.ref (M0.length+(t+3)))] } (q++[aB (w "go on") (Pt.lt x a r).d (.ref (M0.length+(t+3)))]) t ⟨a1, a2, a3, a4, rfl, a6, by simp;omega, by show s.wt.length+n<950000;omega⟩
  let s2:Px:={ s with todo:=q++[aB (w "go on") (Pt.lt x a r).d (.ref (M0.length+(t+3)))], wt:=s.wt++[v], bg:=b1, T:=s.T++Y1 }
  have IE:s2.T[t]? = some (.dct env):=by show (s.T++Y1)[t]? = _;rw [List.getElem?_append_left (List.getElem?_eq_some_iff.mp a6).1];exact a6
  obtain ⟨Y2,q2,hY⟩:=pA (k:=k+3) (M0:=M0) (s:={ s2 with todo:=q }) (p:=s.wt) (v:=v) (t:=t) (kvs:=env) (z:=x) (q:=a) (r:=r) rfl IE (by omega) (by show q.length<line;omega)
  have g3:=Go.one (k:=k+6) (s:=s2) h3 rfl (Dc (k:=k+5) (s:=s2) rfl q2 (by
   show q++[aB (w "begin") r.d _]≠q++[aB (w "go on") (Pt.lt x a r).d (.ref (M0.length+(t+3)))]
   exact bx (dw (by decide +kernel))))
  obtain ⟨Y3, g4⟩:=ih2 { s2 with wt:=s.wt, T:=s2.T++Y2, todo:=q++[aB (w "begin") r.d (.ref (M0.length+(s2.T.length+3)))] } q s2.T.length ⟨a1, a2, rfl, a4, rfl, by show (s2.T++Y2)[s2.T.length]? = _;rw [hY];simp, by omega, by show s.wt.length+n2<950000;omega⟩
  refine ⟨Y1++Y2++Y3,?_⟩
  have g:=g1.trans (g2.trans (g3.trans g4))
  rw [show 1+(n+(1+n2))=n+n2+2 by omega] at g
  have e:({ ({ s2 with wt:=s.wt, T:=s2.T++Y2, todo:=q++[aB (w "begin") r.d (.ref (M0.length+(s2.T.length+3)))] }:Px) with todo:=q, wt:=s.wt++[v2], bg:=b2, T:=s2.T++Y2++Y3 }:Px)={ s with todo:=q, wt:=s.wt++[v2], bg:=b2, T:=s.T++(Y1++Y2++Y3) }:=by simp [s2]
  rw [<- e];exact g
 | @ite env b u b1 b2 i c a r n n2 v h1 h2 ih1 ih2 =>
  intro s q t A
  obtain ⟨a1,a2,a3,a4,a5,a6,r1,r2⟩:=A
  have g1:=Go.one (k:=k+6) h3 a5 (fY (k:=k+5) a5 (qW (k:=k+3) (s:={ s with todo:=q }) (by show q.length+1<line;omega)) (bP (by rw [a5];simp [je])))
  obtain ⟨Y1, g2⟩:=ih1 { s with todo:=q++[aB (w "go on") (Pt.ite c a r).d (.ref (M0.length+(t+3)))]++[aB (w "begin") c.d (.ref (M0.length+(t+3)))] } (q++[aB (w "go on") (Pt.ite c a r).d (.ref (M0.length+(t+3)))]) t ⟨a1, a2, a3, a4, rfl, a6, by simp;omega, by show s.wt.length+n<950000;omega⟩
  let s2:Px:={ s with todo:=q++[aB (w "go on") (Pt.ite c a r).d (.ref (M0.length+(t+3)))], wt:=s.wt++[.int i], bg:=b1, T:=s.T++Y1 }
  have IE:s2.T[t]? = some (.dct env):=by show (s.T++Y1)[t]? = _;rw [List.getElem?_append_left (List.getElem?_eq_some_iff.mp a6).1];exact a6
  have q2:=DO (k:=k+3) (M0:=M0) (s:={ s2 with todo:=q }) (p:=s.wt) (en:=.ref (M0.length+(t+3))) (c:=c) (q:=a) (r:=r) (i:=i) rfl (by show q.length<line;omega)
  have g3:=Go.one (k:=k+6) (s:=s2) h3 rfl (Dc (k:=k+5) (s:=s2) rfl q2 (by
   show q++[aB (w "begin") _ _]≠q++[aB (w "go on") (Pt.ite c a r).d (.ref (M0.length+(t+3)))]
   exact bx (dw (by decide +kernel))))
  have ei:(if i=0 then r.d else a.d)=(if i=0 then r else a).d:=by split <;> rfl
  rw [ei] at g3
  obtain ⟨Y3, g4⟩:=ih2 { s2 with wt:=s.wt, todo:=q++[aB (w "begin") (if i=0 then r else a).d (.ref (M0.length+(t+3)))] } q t ⟨a1, a2, rfl, a4, rfl, IE, by omega, by show s.wt.length+n2<950000;omega⟩
  refine ⟨Y1++Y3,?_⟩
  have g:=g1.trans (g2.trans (g3.trans g4))
  rw [show 1+(n+(1+n2))=n+n2+2 by omega] at g
  have e:({ ({ s2 with wt:=s.wt, todo:=q++[aB (w "begin") (if i=0 then r else a).d (.ref (M0.length+(t+3)))] }:Px) with todo:=q, wt:=s.wt++[v], bg:=b2, T:=s2.T++Y3 }:Px)={ s with todo:=q, wt:=s.wt++[v], bg:=b2, T:=s.T++(Y1++Y3) }:=by simp [s2]
  rw [<- e];exact g
 | @op env b u b1 o ps n vs v h8 h1 hc ih =>
  intro s q t A
  obtain ⟨a1,a2,a3,a4,a5,a6,r1,r2⟩:=A
  have hl:=h1.len
  have g1:=Go.one (k:=k+6) h3 a5 (fY (k:=k+5) a5 (xN (k:=k+3) (s:={ s with todo:=q }) (by show q.length+1+ps.ds.length<line;omega)) (by
   rw [a5]
   show q++[aB (w "end") _ _]++_≠q++[aB (w "begin") _ _]
   rw [List.append_assoc]
   exact bx (dw (by decide +kernel))))
  obtain ⟨Y1, g2⟩:=ih { s with todo:=q++[aB (w "end") (Pt.op o ps).d (.ref (M0.length+(t+3)))]++ps.ds.reverse.map fun d=>aB (w "begin") d (.ref (M0.length+(t+3))) } (q++[aB (w "end") (Pt.op o ps).d (.ref (M0.length+(t+3)))]) t ⟨a1, a2, a3, a4, rfl, a6, by simp;omega, by show s.wt.length+n<950000;omega⟩
  let s2:Px:={ s with todo:=q++[aB (w "end") (Pt.op o ps).d (.ref (M0.length+(t+3)))], wt:=s.wt++vs, bg:=b1, T:=s.T++Y1 }
  have hvs:vs≠[]:=hc.ne
  obtain ⟨Y2,q2⟩:=xP (k:=k+1) (M0:=M0) (s:={ s2 with todo:=q }) (p:=s.wt) hc hl rfl (by show (s.wt++vs).length<line;rw [List.length_append];omega) hvs
  have g3:=Go.one (k:=k+6) (s:=s2) h3 rfl (Ik (k:=k+5) (s:=s2) rfl q2 (bP (by show q.length≠_;simp [s2])))
  refine ⟨Y1++Y2,?_⟩
  have g:=g1.trans (g2.trans g3)
  rw [show 1+(n+1)=n+2 by omega] at g
  have e:({ ({ s2 with todo:=q }:Px) with wt:=s.wt++[v],T:=s2.T++Y2 }:Px)={ s with todo:=q,wt:=s.wt++[v],bg:=b1,T:=s.T++(Y1++Y2) }:=by simp [s2]
  rw [<- e];exact g
 | @call env b u b1 b2 z ps f n n2 vs v h8 h1 hb hu hf ht h2 ih1 ih2 =>
  intro s q t A
  obtain ⟨a1,a2,a3,a4,a5,a6,r1,r2⟩:=A
  have hl:=h1.len
  have g1:=Go.one (k:=k+6) h3 a5 (fY (k:=k+5) a5 (ie (k:=k+3) (s:={ s with todo:=q }) (by show q.length+1+ps.ds.length<line;omega)) (by
   rw [a5]
   show q++[aB (w "end") _ _]++_≠q++[aB (w "begin") _ _]
   rw [List.append_assoc]
   exact bx (dw (by decide +kernel))))
  obtain ⟨Y1, g2⟩:=ih1 { s with todo:=q++[aB (w "end") (Pt.call z ps).d (.ref (M0.length+(t+3)))]++ps.ds.reverse.map fun d=>aB (w "begin") d (.ref (M0.length+(t+3))) } (q++[aB (w "end") (Pt.call z ps).d (.ref (M0.length+(t+3)))]) t ⟨a1, a2, a3, a4, rfl, a6, by simp;omega, by show s.wt.length+n<950000;omega⟩
  let s2:Px:={ s with todo:=q++[aB (w "end") (Pt.call z ps).d (.ref (M0.length+(t+3)))], wt:=s.wt++vs, bg:=b1, T:=s.T++Y1 }
  have q2:=tK (k:=k) (M0:=M0) (s:={ s2 with todo:=q }) (p:=s.wt) (fs:=fs) (z:=z) (ps:=ps) (vs:=vs) (f:=f) hl rfl (by show (s.wt++vs).length<line;rw [List.length_append];omega) (by show b1+1<=s.most;omega) (by show s.un+1<=12;omega) a1 hf (by show q.length+1<line;omega) ht
  let s3:Px:={ s2 with wt:=s.wt, bg:=b1+1, un:=s.un+1, todo:=q++[qN]++[aB (w "begin") f.bd.d (.ref (M0.length+((s2.T++[MO.lst vs]).length+3)))], T:=s2.T++[.lst vs]++[.dct (envOf [] (f.tk.map (·.1)) vs)] }
  have g3:Go (k+6) M0 σ 1 s2 s3:=Go.one (k:=k+6) (s:=s2) h3 rfl (Ik (k:=k+5) (s:=s2) rfl q2 (by
   show q++[qN]++[_]≠q++[aB (w "end") _ _]
   rw [List.append_assoc]
   exact bx (dw (by decide +kernel))))
  obtain ⟨Y3,g4⟩:=ih2 s3 (q++[qN]) (s2.T++[MO.lst vs]).length ⟨a1,a2,rfl,by show s.un+1=u+1;omega,rfl,by show (s2.T++[MO.lst vs]++[_])[(s2.T++[MO.lst vs]).length]? = _;simp,by simp;omega,by show s.wt.length+n2<950000;omega⟩
  have g5:=Go.one (k:=k+6) (M0:=M0) (σ:=σ) (s:={ s3 with todo:=q++[qN],wt:=s3.wt++[v],bg:=b2,T:=s3.T++Y3 }) h3 rfl (dn_k (k:=k+5) (s:={ s3 with todo:=q++[qN],wt:=s3.wt++[v],bg:=b2,T:=s3.T++Y3 }) rfl)
  refine ⟨Y1++[.lst vs]++[.dct (envOf [] (f.tk.map (·.1)) vs)]++Y3,?_⟩
  have g:=g1.trans (g2.trans (g3.trans (g4.trans g5)))
  rw [show 1+(n+(1+(n2+1)))=n+n2+3 by omega] at g
  have e:({ ({ s3 with todo:=q++[qN],wt:=s3.wt++[v],bg:=b2,T:=s3.T++Y3 }:Px) with todo:=q,un:=s3.un-1 }:Px)={ s with todo:=q,wt:=s.wt++[v],bg:=b2,T:=s.T++(Y1++[.lst vs]++[.dct (envOf [] (f.tk.map (·.1)) vs)]++Y3) }:=by
   have:s.un+1-1=s.un:=by omega
   simp [s3,s2,this]
  rw [<- e];exact g
 | nJ =>
  intro s q t A
  obtain ⟨a1,a2,a3,a4,a5,a6,r1,r2⟩:=A
  subst a3
  refine ⟨[],?_⟩
  have e:({ s with todo:=q,wt:=s.wt++[],bg:=s.bg,T:=s.T++[] }:Px)=s:=by
   have:s.todo=q:=by rw [a5];simp [je,bU.ds]
   rw [<- this];simp
  rw [e];exact Go.refl
 | @cons env b u b1 b2 p ps n n2 v vs h1 h2 ih1 ih2 =>
  intro s q t A
  obtain ⟨a1,a2,a3,a4,a5,a6,r1,r2⟩:=A
  have hl:=h2.len
  have hlo:=h2.lo
  simp only [bM.lo] at hlo
  rw [nS,<- List.append_assoc] at a5
  have hq:(q++je (.ref (M0.length+(t+3))) (.ps ps)).length=q.length+ps.ds.length:=by simp [je]
  obtain ⟨Y1,g1⟩:=ih1 s (q++je (.ref (M0.length+(t+3))) (.ps ps)) t ⟨a1,a2,a3,a4,a5,a6,by omega,by omega⟩
  obtain ⟨Y2,g2⟩:=ih2 { s with todo:=q++je (.ref (M0.length+(t+3))) (.ps ps),wt:=s.wt++[v],bg:=b1,T:=s.T++Y1 } q t ⟨a1,a2,rfl,a4,rfl,by show (s.T++Y1)[t]? = _;rw [List.getElem?_append_left (List.getElem?_eq_some_iff.mp a6).1];exact a6,by omega,by show (s.wt++[v]).length+n2<950000;have:=h1.lo;simp only [bM.lo] at this;simp;omega⟩
  refine ⟨Y1++Y2,?_⟩
  have g:=g1.trans g2
  have e:({ ({ s with todo:=q++je (.ref (M0.length+(t+3))) (.ps ps),wt:=s.wt++[v],bg:=b1,T:=s.T++Y1 }:Px) with todo:=q,wt:=s.wt++[v]++vs,bg:=b2,T:=s.T++Y1++Y2 }:Px)={ s with todo:=q,wt:=s.wt++(v::vs),bg:=b2,T:=s.T++(Y1++Y2) }:=by simp
  rw [<- e];exact g
end
end bM
end
section
namespace bM
open Fg PySem
section
variable {fs:List Fd} {m:Int} {M0:MH} {k:Nat} {σ:Sg} {s:Px} {p:List D}
theorem go_x {env:Env} {b u:Int} {it:It} {n e:Nat} (h3:σ[3]? = some (some (.ref M0.length))) (h:gD fs m env b u it n e):∀ (s:Px) (q:List D) (t:Nat),At fs m M0 s q env t b u it (n+9)->EV (k+6) M0 σ n s e:=by
 have hline:line=1000000:=rfl
 induction h with
 | @lt1 env b u x a r n c h ih =>
  intro s q t A
  obtain ⟨a1,a2,a3,a4,a5,a6,r1,r2⟩:=A
  have g1:=Go.one (k:=k+6) h3 a5 (fY (k:=k+5) a5 (qV (k:=k+3) (s:={ s with todo:=q }) (by show q.length+1<line;omega)) (bP (by rw [a5];simp [je])))
  have g2:=ih { s with todo:=q++[aB (w "go on") (Pt.lt x a r).d (.ref (M0.length+(t+3)))]++[aB (w "begin") a.d (.ref (M0.length+(t+3)))] } (q++[aB (w "go on") (Pt.lt x a r).d (.ref (M0.length+(t+3)))]) t ⟨a1, a2, a3, a4, rfl, a6, by simp;omega, by show s.wt.length+(n+9)<950000;omega⟩
  have g:=g1.aQ g2
  rw [show 1+n=n+1 by omega] at g;exact g
 | @lt2 env b u b1 x a r n n2 c v he h1 h2 ih2 =>
  intro s q t A
  obtain ⟨a1,a2,a3,a4,a5,a6,r1,r2⟩:=A
  have g1:=Go.one (k:=k+6) h3 a5 (fY (k:=k+5) a5 (qV (k:=k+3) (s:={ s with todo:=q }) (by show q.length+1<line;omega)) (bP (by rw [a5];simp [je])))
  obtain ⟨Y1, g2⟩:=jz (k:=k) h3 h1 { s with todo:=q++[aB (w "go on") (Pt.lt x a r).d (.ref (M0.length+(t+3)))]++[aB (w "begin") a.d (.ref (M0.length+(t+3)))] } (q++[aB (w "go on") (Pt.lt x a r).d (.ref (M0.length+(t+3)))]) t ⟨a1, a2, a3, a4, rfl, a6, by simp;omega, by show s.wt.length+n<950000;omega⟩
  let s2:Px:={ s with todo:=q++[aB (w "go on") (Pt.lt x a r).d (.ref (M0.length+(t+3)))], wt:=s.wt++[v], bg:=b1, T:=s.T++Y1 }
  have IE:s2.T[t]? = some (.dct env):=by show (s.T++Y1)[t]? = _;rw [List.getElem?_append_left (List.getElem?_eq_some_iff.mp a6).1];exact a6
  obtain ⟨Y2,q2,hY⟩:=pA (k:=k+3) (M0:=M0) (s:={ s2 with todo:=q }) (p:=s.wt) (v:=v) (t:=t) (kvs:=env) (z:=x) (q:=a) (r:=r) rfl IE (by omega) (by show q.length<line;omega)
  have g3:=Go.one (k:=k+6) (s:=s2) h3 rfl (Dc (k:=k+5) (s:=s2) rfl q2 (by
   show q++[aB (w "begin") r.d _]≠q++[aB (w "go on") (Pt.lt x a r).d (.ref (M0.length+(t+3)))]
   exact bx (dw (by decide +kernel))))
  have g4:=ih2 { s2 with wt:=s.wt, T:=s2.T++Y2, todo:=q++[aB (w "begin") r.d (.ref (M0.length+(s2.T.length+3)))] } q s2.T.length ⟨a1, a2, rfl, a4, rfl, by show (s2.T++Y2)[s2.T.length]? = _;rw [hY];simp, by omega, by show s.wt.length+(n2+9)<950000;omega⟩
  have g:=g1.aQ (g2.aQ (g3.aQ g4))
  rw [show 1+(n+(1+n2))=n+n2+2 by omega] at g
  exact g
 | @ite1 env b u c a r n e h ih =>
  intro s q t A
  obtain ⟨a1,a2,a3,a4,a5,a6,r1,r2⟩:=A
  have g1:=Go.one (k:=k+6) h3 a5 (fY (k:=k+5) a5 (qW (k:=k+3) (s:={ s with todo:=q }) (by show q.length+1<line;omega)) (bP (by rw [a5];simp [je])))
  have g2:=ih { s with todo:=q++[aB (w "go on") (Pt.ite c a r).d (.ref (M0.length+(t+3)))]++[aB (w "begin") c.d (.ref (M0.length+(t+3)))] } (q++[aB (w "go on") (Pt.ite c a r).d (.ref (M0.length+(t+3)))]) t ⟨a1, a2, a3, a4, rfl, a6, by simp;omega, by show s.wt.length+(n+9)<950000;omega⟩
  have g:=g1.aQ g2
  rw [show 1+n=n+1 by omega] at g;exact g
 | @ite2 env b u b1 i c a r n n2 e h1 h2 ih2 =>
  intro s q t A
  obtain ⟨a1,a2,a3,a4,a5,a6,r1,r2⟩:=A
  have g1:=Go.one (k:=k+6) h3 a5 (fY (k:=k+5) a5 (qW (k:=k+3) (s:={ s with todo:=q }) (by show q.length+1<line;omega)) (bP (by rw [a5];simp [je])))
  obtain ⟨Y1, g2⟩:=jz (k:=k) h3 h1 { s with todo:=q++[aB (w "go on") (Pt.ite c a r).d (.ref (M0.length+(t+3)))]++[aB (w "begin") c.d (.ref (M0.length+(t+3)))] } (q++[aB (w "go on") (Pt.ite c a r).d (.ref (M0.length+(t+3)))]) t ⟨a1, a2, a3, a4, rfl, a6, by simp;omega, by show s.wt.length+n<950000;omega⟩
  let s2:Px:={ s with todo:=q++[aB (w "go on") (Pt.ite c a r).d (.ref (M0.length+(t+3)))], wt:=s.wt++[.int i], bg:=b1, T:=s.T++Y1 }
  have IE:s2.T[t]? = some (.dct env):=by show (s.T++Y1)[t]? = _;rw [List.getElem?_append_left (List.getElem?_eq_some_iff.mp a6).1];exact a6
  have q2:=DO (k:=k+3) (M0:=M0) (s:={ s2 with todo:=q }) (p:=s.wt) (en:=.ref (M0.length+(t+3))) (c:=c) (q:=a) (r:=r) (i:=i) rfl (by show q.length<line;omega)
  have g3:=Go.one (k:=k+6) (s:=s2) h3 rfl (Dc (k:=k+5) (s:=s2) rfl q2 (by
   show q++[aB (w "begin") _ _]≠q++[aB (w "go on") (Pt.ite c a r).d (.ref (M0.length+(t+3)))]
   exact bx (dw (by decide +kernel))))
  have ei:(if i=0 then r.d else a.d)=(if i=0 then r else a).d:=by split <;> rfl
  rw [ei] at g3
  have g4:=ih2 { s2 with wt:=s.wt, todo:=q++[aB (w "begin") (if i=0 then r else a).d (.ref (M0.length+(t+3)))] } q t ⟨a1, a2, rfl, a4, rfl, IE, by omega, by show s.wt.length+(n2+9)<950000;omega⟩
  have g:=g1.aQ (g2.aQ (g3.aQ g4))
  rw [show 1+(n+(1+n2))=n+n2+2 by omega] at g
  exact g
 | @Mf env b u o ps n e h8 h ih =>
  intro s q t A
  obtain ⟨a1,a2,a3,a4,a5,a6,r1,r2⟩:=A
  have g1:=Go.one (k:=k+6) h3 a5 (fY (k:=k+5) a5 (xN (k:=k+3) (s:={ s with todo:=q }) (by show q.length+1+ps.ds.length<line;omega)) (by
   rw [a5]
   show q++[aB (w "end") _ _]++_≠q++[aB (w "begin") _ _]
   rw [List.append_assoc]
   exact bx (dw (by decide +kernel))))
  have g2:=ih { s with todo:=q++[aB (w "end") (Pt.op o ps).d (.ref (M0.length+(t+3)))]++ps.ds.reverse.map fun d=>aB (w "begin") d (.ref (M0.length+(t+3))) } (q++[aB (w "end") (Pt.op o ps).d (.ref (M0.length+(t+3)))]) t ⟨a1, a2, a3, a4, rfl, a6, by simp;omega, by show s.wt.length+(n+9)<950000;omega⟩
  have g:=g1.aQ g2
  rw [show 1+n=n+1 by omega] at g;exact g
 | @lD env b u b1 o ps n e vs h8 h1 hc =>
  intro s q t A
  obtain ⟨a1,a2,a3,a4,a5,a6,r1,r2⟩:=A
  have hl:=h1.len
  have g1:=Go.one (k:=k+6) h3 a5 (fY (k:=k+5) a5 (xN (k:=k+3) (s:={ s with todo:=q }) (by show q.length+1+ps.ds.length<line;omega)) (by
   rw [a5]
   show q++[aB (w "end") _ _]++_≠q++[aB (w "begin") _ _]
   rw [List.append_assoc]
   exact bx (dw (by decide +kernel))))
  obtain ⟨Y1, g2⟩:=jz (k:=k) h3 h1 { s with todo:=q++[aB (w "end") (Pt.op o ps).d (.ref (M0.length+(t+3)))]++ps.ds.reverse.map fun d=>aB (w "begin") d (.ref (M0.length+(t+3))) } (q++[aB (w "end") (Pt.op o ps).d (.ref (M0.length+(t+3)))]) t ⟨a1, a2, a3, a4, rfl, a6, by simp;omega, by show s.wt.length+n<950000;omega⟩
  let s2:Px:={ s with todo:=q++[aB (w "end") (Pt.op o ps).d (.ref (M0.length+(t+3)))], wt:=s.wt++vs, bg:=b1, T:=s.T++Y1 }
  obtain ⟨Y2,q2⟩:=xP (k:=k+1) (M0:=M0) (s:={ s2 with todo:=q }) (p:=s.wt) hc hl rfl (by show (s.wt++vs).length<line;rw [List.length_append];omega) hc.ne
  have g3:=EV.one (k:=k+6) (s:=s2) h3 rfl (Ao (k:=k+5) (s:=s2) rfl q2 (bP (by show q.length≠_;simp [s2])))
  have g:=g1.aQ (g2.aQ g3)
  rw [show 1+(n+1)=n+2 by omega] at g
  exact g
 | @LD env b u z ps n e h8 h ih =>
  intro s q t A
  obtain ⟨a1,a2,a3,a4,a5,a6,r1,r2⟩:=A
  have g1:=Go.one (k:=k+6) h3 a5 (fY (k:=k+5) a5 (ie (k:=k+3) (s:={ s with todo:=q }) (by show q.length+1+ps.ds.length<line;omega)) (by
   rw [a5]
   show q++[aB (w "end") _ _]++_≠q++[aB (w "begin") _ _]
   rw [List.append_assoc]
   exact bx (dw (by decide +kernel))))
  have g2:=ih { s with todo:=q++[aB (w "end") (Pt.call z ps).d (.ref (M0.length+(t+3)))]++ps.ds.reverse.map fun d=>aB (w "begin") d (.ref (M0.length+(t+3))) } (q++[aB (w "end") (Pt.call z ps).d (.ref (M0.length+(t+3)))]) t ⟨a1, a2, a3, a4, rfl, a6, by simp;omega, by show s.wt.length+(n+9)<950000;omega⟩
  have g:=g1.aQ g2
  rw [show 1+n=n+1 by omega] at g;exact g
 | @long env b u b1 z ps n vs h8 h1 hb =>
  intro s q t A
  obtain ⟨a1,a2,a3,a4,a5,a6,r1,r2⟩:=A
  have hl:=h1.len
  have g1:=Go.one (k:=k+6) h3 a5 (fY (k:=k+5) a5 (ie (k:=k+3) (s:={ s with todo:=q }) (by show q.length+1+ps.ds.length<line;omega)) (by
   rw [a5]
   show q++[aB (w "end") _ _]++_≠q++[aB (w "begin") _ _]
   rw [List.append_assoc]
   exact bx (dw (by decide +kernel))))
  obtain ⟨Y1, g2⟩:=jz (k:=k) h3 h1 { s with todo:=q++[aB (w "end") (Pt.call z ps).d (.ref (M0.length+(t+3)))]++ps.ds.reverse.map fun d=>aB (w "begin") d (.ref (M0.length+(t+3))) } (q++[aB (w "end") (Pt.call z ps).d (.ref (M0.length+(t+3)))]) t ⟨a1, a2, a3, a4, rfl, a6, by simp;omega, by show s.wt.length+n<950000;omega⟩
  let s2:Px:={ s with todo:=q++[aB (w "end") (Pt.call z ps).d (.ref (M0.length+(t+3)))], wt:=s.wt++vs, bg:=b1, T:=s.T++Y1 }
  obtain ⟨s',ht',q2⟩:=pq (k:=k) (M0:=M0) (s:={ s2 with todo:=q }) (p:=s.wt) (z:=z) (ps:=ps) (vs:=vs) (c:=4) hl rfl (by show (s.wt++vs).length<line;rw [List.length_append];omega) (fun M=>if_pos (by show s.most<b1+1;omega))
  have g3:=EV.one (k:=k+6) (s:=s2) h3 rfl (Ao (k:=k+5) (s:=s2) rfl q2 (bP (by rw [ht'];show q.length≠_;simp [s2])))
  have g:=g1.aQ (g2.aQ g3)
  rw [show 1+(n+1)=n+2 by omega] at g
  exact g
 | @deep env b u b1 z ps n vs h8 h1 hb hu =>
  intro s q t A
  obtain ⟨a1,a2,a3,a4,a5,a6,r1,r2⟩:=A
  have hl:=h1.len
  have g1:=Go.one (k:=k+6) h3 a5 (fY (k:=k+5) a5 (ie (k:=k+3) (s:={ s with todo:=q }) (by show q.length+1+ps.ds.length<line;omega)) (by
   rw [a5]
   show q++[aB (w "end") _ _]++_≠q++[aB (w "begin") _ _]
   rw [List.append_assoc]
   exact bx (dw (by decide +kernel))))
  obtain ⟨Y1, g2⟩:=jz (k:=k) h3 h1 { s with todo:=q++[aB (w "end") (Pt.call z ps).d (.ref (M0.length+(t+3)))]++ps.ds.reverse.map fun d=>aB (w "begin") d (.ref (M0.length+(t+3))) } (q++[aB (w "end") (Pt.call z ps).d (.ref (M0.length+(t+3)))]) t ⟨a1, a2, a3, a4, rfl, a6, by simp;omega, by show s.wt.length+n<950000;omega⟩
  let s2:Px:={ s with todo:=q++[aB (w "end") (Pt.call z ps).d (.ref (M0.length+(t+3)))], wt:=s.wt++vs, bg:=b1, T:=s.T++Y1 }
  obtain ⟨s',ht',q2⟩:=pq (k:=k) (M0:=M0) (s:={ s2 with todo:=q }) (p:=s.wt) (z:=z) (ps:=ps) (vs:=vs) (c:=5) hl rfl (by show (s.wt++vs).length<line;rw [List.length_append];omega) (fun M=>(if_neg (by show ¬ s.most<b1+1;omega)).trans (if_pos (by show 12<s.un+1;omega)))
  have g3:=EV.one (k:=k+6) (s:=s2) h3 rfl (Ao (k:=k+5) (s:=s2) rfl q2 (bP (by rw [ht'];show q.length≠_;simp [s2])))
  have g:=g1.aQ (g2.aQ g3)
  rw [show 1+(n+1)=n+2 by omega] at g
  exact g
 | @call2 env b u b1 z ps f n n2 e vs h8 h1 hb hu hf ht h2 ih2 =>
  intro s q t A
  obtain ⟨a1,a2,a3,a4,a5,a6,r1,r2⟩:=A
  have hl:=h1.len
  have g1:=Go.one (k:=k+6) h3 a5 (fY (k:=k+5) a5 (ie (k:=k+3) (s:={ s with todo:=q }) (by show q.length+1+ps.ds.length<line;omega)) (by
   rw [a5]
   show q++[aB (w "end") _ _]++_≠q++[aB (w "begin") _ _]
   rw [List.append_assoc]
   exact bx (dw (by decide +kernel))))
  obtain ⟨Y1, g2⟩:=jz (k:=k) h3 h1 { s with todo:=q++[aB (w "end") (Pt.call z ps).d (.ref (M0.length+(t+3)))]++ps.ds.reverse.map fun d=>aB (w "begin") d (.ref (M0.length+(t+3))) } (q++[aB (w "end") (Pt.call z ps).d (.ref (M0.length+(t+3)))]) t ⟨a1, a2, a3, a4, rfl, a6, by simp;omega, by show s.wt.length+n<950000;omega⟩
  let s2:Px:={ s with todo:=q++[aB (w "end") (Pt.call z ps).d (.ref (M0.length+(t+3)))], wt:=s.wt++vs, bg:=b1, T:=s.T++Y1 }
  have q2:=tK (k:=k) (M0:=M0) (s:={ s2 with todo:=q }) (p:=s.wt) (fs:=fs) (z:=z) (ps:=ps) (vs:=vs) (f:=f) hl rfl (by show (s.wt++vs).length<line;rw [List.length_append];omega) (by show b1+1<=s.most;omega) (by show s.un+1<=12;omega) a1 hf (by show q.length+1<line;omega) ht
  let s3:Px:={ s2 with wt:=s.wt, bg:=b1+1, un:=s.un+1, todo:=q++[qN]++[aB (w "begin") f.bd.d (.ref (M0.length+((s2.T++[MO.lst vs]).length+3)))], T:=s2.T++[.lst vs]++[.dct (envOf [] (f.tk.map (·.1)) vs)] }
  have g3:Go (k+6) M0 σ 1 s2 s3:=Go.one (k:=k+6) (s:=s2) h3 rfl (Ik (k:=k+5) (s:=s2) rfl q2 (by
   show q++[qN]++[_]≠q++[aB (w "end") _ _]
   rw [List.append_assoc]
   exact bx (dw (by decide +kernel))))
  have g4:=ih2 s3 (q++[qN]) (s2.T++[MO.lst vs]).length ⟨a1,a2,rfl,by show s.un+1=u+1;omega,rfl,by show (s2.T++[MO.lst vs]++[_])[(s2.T++[MO.lst vs]).length]? = _;simp,by simp;omega,by show s.wt.length+(n2+9)<950000;omega⟩
  have g:=g1.aQ (g2.aQ (g3.aQ g4))
  rw [show 1+(n+(1+n2))=n+n2+2 by omega] at g
  exact g
 | @head env b u p ps n e h8 h ih =>
  intro s q t A
  obtain ⟨a1,a2,a3,a4,a5,a6,r1,r2⟩:=A
  rw [nS,<- List.append_assoc] at a5
  have hq:(q++je (.ref (M0.length+(t+3))) (.ps ps)).length=q.length+ps.ds.length:=by simp [je]
  have g:=ih s (q++je (.ref (M0.length+(t+3))) (.ps ps)) t ⟨a1,a2,a3,a4,a5,a6,by omega,by omega⟩
  intro N
  obtain ⟨s',q'⟩:=g (1+N)
  exact ⟨s',by rw [show n+1+N=n+(1+N) by omega];exact q'⟩
 | @tail env b u b1 p ps n n2 e v h8 h1 h2 ih2 =>
  intro s q t A
  obtain ⟨a1,a2,a3,a4,a5,a6,r1,r2⟩:=A
  rw [nS,<- List.append_assoc] at a5
  have hq:(q++je (.ref (M0.length+(t+3))) (.ps ps)).length=q.length+ps.ds.length:=by simp [je]
  obtain ⟨Y1,g1⟩:=jz (k:=k) h3 h1 s (q++je (.ref (M0.length+(t+3))) (.ps ps)) t ⟨a1,a2,a3,a4,a5,a6,by omega,by omega⟩
  have g2:=ih2 { s with todo:=q++je (.ref (M0.length+(t+3))) (.ps ps),wt:=s.wt++[v],bg:=b1,T:=s.T++Y1 } q t ⟨a1,a2,rfl,a4,rfl,by show (s.T++Y1)[t]? = _;rw [List.getElem?_append_left (List.getElem?_eq_some_iff.mp a6).1];exact a6,by omega,by show (s.wt++[v]).length+(n2+9)<950000;have:=h1.lo;simp only [bM.lo] at this;simp;omega⟩
  exact g1.aQ g2
end
end bM
end
section
namespace bM
open Fg PySem
inductive lR {α β:Type} (R:α->β->Prop):List α->List β->Prop
 | nil:lR R [] []
 | cons {a:α} {b:β} {as:List α} {bs:List β}:R a b->lR R as bs->lR R (a::as) (b::bs)
theorem lR.imp {α β:Type} {R S:α->β->Prop} (h:∀ a b,R a b->S a b):∀ {as:List α} {bs:List β},lR R as bs->lR S as bs
 | _,_,.nil=>.nil
 | _,_,.cons a r=>.cons (h _ _ a) (r.imp h)
noncomputable def Sh (lo:Nat) (M:MH):Nat->D->D->Prop
 | 0,_,_=>False
 | n+1,y,d=>(∃ i,y=.int i/\d=.int i)\/(∃ a b x z,y=.tup [a,b]/\d=.tup [x,z]/\Sh lo M n a x/\Sh lo M n b z)\/∃ r ys xs,y=.ref r/\d=.lst xs/\lo<=r/\M[r]? = some (.lst ys)/\lR (Sh lo M n) ys xs
theorem Sh.mono {lo lo':Nat} {M M':MH} (hl:lo'<=lo) (h:∀ n o,lo<=n->M[n]? = some o->M'[n]? = some o):∀ {n:Nat} {y d:D},Sh lo M n y d->Sh lo' M' n y d
 | 0,_,_,q=>q.elim
 | n+1,y,d,q=>by
  rcases q with q | ⟨a,b,x,z,h1,h2,h3,h4⟩ | ⟨r,ys,xs,h1,h2,h3,h4,h5⟩
  ·exact .inl q
  ·exact .inr (.inl ⟨a,b,x,z,h1,h2,Sh.mono hl h h3,Sh.mono hl h h4⟩)
  ·exact .inr (.inr ⟨r,ys,xs,h1,h2,Nat.le_trans hl h3,h _ _ h3 h4,h5.imp fun _ _=>Sh.mono hl h⟩)
theorem all_map {M:MH} {lo n:Nat} (ih:∀ y d,Sh lo M n y d->deep n M y=d):∀ {ys xs:List D},lR (Sh lo M n) ys xs->ys.map (deep n M)=xs
 | _,_,.nil=>rfl
 | _,_,.cons a r=>by rw [List.map_cons,ih _ _ a,all_map ih r]
theorem Sh.deep {lo:Nat} {M:MH}:∀ {n:Nat} {y d:D},Sh lo M n y d->Fg.deep n M y=d
 | 0,_,_,q=>q.elim
 | n+1,y,d,q=>by
  rcases q with ⟨i,rfl,rfl⟩ | ⟨a,b,x,z,rfl,rfl,h3,h4⟩ | ⟨r,ys,xs,rfl,rfl,h3,h4,h5⟩
  ·rfl
  ·simp only [Fg.deep,List.map_cons,List.map_nil,Sh.deep h3,Sh.deep h4]
  ·simp only [Fg.deep,h4]
   rw [all_map (fun _ _=>Sh.deep) h5]
inductive Ja (R:D->D->Prop):D->List D->Prop
 | nil:Ja R .ao []
 | cons {sz:Int} {a b x:D} {xs:List D}:R a x->Ja R b xs->Ja R (.tup [.str (layW true),.int sz,a,b]) (x::xs)
noncomputable def Tl:Nat->D->D->Prop
 | 0,_,_=>False
 | n+1,v,d=>(∃ i,v=.int i/\d=.int i)\/(∃ sz a b x y,v=.tup [.str (layW false),.int sz,a,b]/\d=.tup [x,y]/\Tl n a x/\Tl n b y)\/∃ xs,d=.lst xs/\xs.length<2000/\Ja (Tl n) v xs
noncomputable def lE:E:=.cmp .gQ (.v 0) (.k .ao)
noncomputable def lB:Ss:=.cons (.ex (.dH .append true (.v 1) (.cons (.call 8 (.cons (.idx (.v 0) (.k (.int 2))) .nil)) .nil))) (.cons (.set 0 (.idx (.v 0) (.k (.int 3)))) .nil)
section
variable {k:Nat}
theorem vF {n:Nat} {M:MH} (ih:∀ (v d:D) (M:MH),Tl n v d->∃ y X,(aa aj (k+n)).call 8 [v] M=.ok y (M++X)/\Sh M.length (M++X) n y d):∀ (v:D) (xs:List D) (acc:List D) (X:MH) (N:Nat),Ja (Tl n) v xs->xs.length<N->acc.length+xs.length<100000 ->
  ∃ v' ys Z,bX (ev (aa aj (k+n)) lE) (exs (aa aj (k+n)) lB) N [some v,some (.ref M.length)] (M++.lst acc::X)=.ok (.nx [some v',some (.ref M.length)]) (M++.lst (acc++ys)::(X++Z))/\lR (Sh (M.length+1) (M++.lst (acc++ys)::(X++Z)) n) ys xs:=by
 intro v xs acc X N h
 induction h generalizing acc X N with
 | nil =>
  intro hN _
  obtain ⟨N,rfl⟩:∃ m,N=m+1:=⟨N-1,by omega⟩
  exact ⟨.ao,[],[],by rw [bX,List.append_nil,List.append_nil];rfl,.nil⟩
 | @cons sz a b x xs ha _ ih2 =>
  intro hN hl
  simp only [List.length_cons] at hN hl
  obtain ⟨N,rfl⟩:∃ m,N=m+1:=⟨N-1,by omega⟩
  obtain ⟨y,X1,q1,q2⟩:=ih a x (M++.lst acc::X) ha
  have eM:M++MO.lst acc::X++X1=M++.lst acc::(X++X1):=by simp
  rw [eM] at q1 q2
  have g0:(M++MO.lst acc::X)[M.length]? = some (.lst acc):=by simp
  have g:(M++MO.lst acc::(X++X1))[M.length]? = some (.lst acc):=by simp
  have ec:ev (aa aj (k+n)) (.call 8 (.cons (.idx (.v 0) (.k (.int 2))) .nil)) [some (.tup [.str (layW true),.int sz,a,b]),some (.ref M.length)] (M++.lst acc::X)=.ok y (M++.lst acc::(X++X1)):=(bB (aC rfl rfl m8)).trans q1
  have e1:=qz (Φ:=aa aj (k+n)) (e:=.v 1) (σ:=[some (.tup [.str (layW true),.int sz,a,b]),some (.ref M.length)]) rfl g0 ec g (Nat.lt_of_lt_of_le (by omega:acc.length<100000) (by decide))
  have es:(M++MO.lst acc::(X++X1)).set M.length (.lst (acc++[y]))=M++.lst (acc++[y])::(X++X1):=by rw [List.set_append_right _ _ (Nat.le_refl _),Nat.sub_self];rfl
  rw [es] at e1
  have e2:ev (aa aj (k+n)) (.idx (.v 0) (.k (.int 3))) [some (.tup [.str (layW true),.int sz,a,b]),some (.ref M.length)] (M++.lst (acc++[y])::(X++X1))=.ok b (M++.lst (acc++[y])::(X++X1)):=aC rfl rfl m7
  obtain ⟨v',ys,Z,e3,hs⟩:=ih2 (acc++[y]) (X++X1) N (by omega) (by simp;omega)
  have eA:acc++[y]++ys=acc++(y::ys):=by simp
  have eX:X++X1++Z=X++(X1++Z):=by simp
  rw [eA,eX] at e3 hs
  refine ⟨v',y::ys,X1++Z,?_,.cons (Sh.mono (lo:=(M++MO.lst acc::X).length) (by simp) (fun m o hm hq=>?_) q2) hs⟩
  ·have eb:exs (aa aj (k+n)) lB [some (.tup [.str (layW true),.int sz,a,b]),some (.ref M.length)] (M++.lst acc::X)=.ok (.nx [some b,some (.ref M.length)]) (M++.lst (acc++[y])::(X++X1)):=(bZ e1).trans ((av e2).trans rfl)
   rw [bX]
   show (exs (aa aj (k+n)) lB _ (M++.lst acc::X)).bind _=_
   rw [eb]
   exact e3
  ·have hm':M.length+1<=m:=by simp at hm;omega
   rw [List.getElem?_append_right (by omega)] at hq ⊢
   obtain ⟨j,hj⟩:∃ j,m-M.length=j+1:=⟨m-M.length-1,by omega⟩
   rw [hj,List.getElem?_cons_succ] at hq ⊢
   rw [<- eX,List.getElem?_append_left (List.getElem?_eq_some_iff.mp hq).1];exact hq
theorem xD:∀ (n:Nat) (v d:D) (M:MH),Tl n v d->∃ y X,(aa aj (k+n)).call 8 [v] M=.ok y (M++X)/\Sh M.length (M++X) n y d:=by
 intro n
 induction n with
 | zero=>intro v d M h;exact h.elim
 | succ n ih =>
  intro v d M h
  rcases h with ⟨i,rfl,rfl⟩ | ⟨sz,a,b,x,y,rfl,rfl,h1,h2⟩ | ⟨xs,rfl,hl,h⟩
  ·refine ⟨.int i,[],?_,.inl ⟨i,rfl,rfl⟩⟩
   rw [List.append_nil]
   exact aL (P:=aj) (k:=k+n) K1 rfl (cT (x:=.int i) (M1:=M) rfl rfl) rfl
  ·obtain ⟨ya,X1,q1,s1⟩:=ih a x M h1
   obtain ⟨yb,X2,q2,s2⟩:=ih b y (M++X1) h2
   refine ⟨.tup [ya,yb],X1++X2,?_,.inr (.inl ⟨ya,yb,x,y,rfl,rfl,s1.mono (Nat.le_refl _) (fun m o _ hq=>?_),s2.mono (by simp) (fun m o _ hq=>by rw [<- List.append_assoc];exact hq)⟩)⟩
   ·have e1:ev (aa aj (k+n)) (.r9 (.v 0) .int) [some (.tup [.str (layW false),.int sz,a,b]),none] M=.ok (.bl false) M:=rfl
    have e2:ev (aa aj (k+n)) (.and (.cmp .gQ (.v 0) (.k .ao)) (.cmp .eq (.idx (.v 0) (.k (.int 0))) (.k (.str (w "pair"))))) [some (.tup [.str (layW false), .int sz, a, b]), none] M=.ok (.bl true) M:=by
     have e:ev (aa aj (k+n)) (.cmp .eq (.idx (.v 0) (.k (.int 0))) (.k (.str (w "pair")))) [some (.tup [.str (layW false), .int sz, a, b]), none] M=.ok (.bl true) M:=bA (aC rfl rfl aT) (by decide +kernel)
     rw [om]
     exact e
    have e3:ev (aa aj (k+n)) (.tup (.cons (.call 8 (.cons (.idx (.v 0) (.k (.int 2))) .nil)) (.cons (.call 8 (.cons (.idx (.v 0) (.k (.int 3))) .nil)) .nil))) [some (.tup [.str (layW false),.int sz,a,b]),none] M=.ok (.tup [ya,yb]) (M++X1++X2):=by
     rw [bT,cL ((bB (aC rfl rfl m8)).trans q1) ((bB (aC rfl rfl m7)).trans q2)];rfl
    rw [<- List.append_assoc]
    exact aL (P:=aj) (k:=k+n) K1 rfl ((aE e1).trans (cT e2 (aR e3))) rfl
   ·rw [<- List.append_assoc,List.getElem?_append_left (List.getElem?_eq_some_iff.mp hq).1];exact hq
  ·have e1:ev (aa aj (k+n)) (.r9 (.v 0) .int) [some v,none] M=.ok (.bl false) M:=by cases h <;> rfl
   have e2:ev (aa aj (k+n)) (.and (.cmp .gQ (.v 0) (.k .ao)) (.cmp .eq (.idx (.v 0) (.k (.int 0))) (.k (.str (w "pair"))))) [some v, none] M=.ok (.bl false) M:=by
    cases h with
    | nil=>rfl
    | @cons sz a b x xs _ _ =>
     have e:ev (aa aj (k+n)) (.cmp .eq (.idx (.v 0) (.k (.int 0))) (.k (.str (w "pair")))) [some (.tup [.str (layW true), .int sz, a, b]), none] M=.ok (.bl false) M:=bA (aC rfl rfl aT) (by decide +kernel)
     rw [om]
     exact e
   have e3:ev (aa aj (k+n)) (.lst false .nil) [some v,none] M=.ok (.ref M.length) (M++[.lst []]):=rfl
   obtain ⟨v',ys,Z,e4,hs⟩:=vF (k:=k) (M:=M) ih v xs [] [] 100000 h (by omega) (by simp;omega)
   rw [List.nil_append,List.nil_append] at e4 hs
   have e5:ex (aa aj (k+n)) (.while lE lB) [some v,some (.ref M.length)] (M++[.lst []])=.ok (.nx [some v',some (.ref M.length)]) (M++.lst ys::Z):=by
    rw [kN,fZ];exact e4
   refine ⟨.ref M.length,.lst ys::Z,aL (P:=aj) (k:=k+n) K1 rfl ((aE e1).trans ((aE e2).trans ((av e3).trans ((i6 e5).trans (aR rfl))))) rfl,.inr (.inr ⟨M.length,ys,xs,rfl,rfl,Nat.le_refl _,by simp,hs.imp fun _ _ q=>q.mono (by omega) fun _ _ _ z=>z⟩)⟩
end
end bM
end
section
namespace bM
open Fg PySem
section
variable {M0 M:MH} {k n:Nat} {P:D} {m:Int} {fs:List Fd} {f:Fd} {nu:List D}
noncomputable def FN (P:D) (m:Int):Px:=⟨P,m,0,0,[],[],[]⟩
theorem Iu:(aa aj (k+1)).call 11 [.ref M0.length,P,.int m] (M0++[.ins 0 []])=.ok .ao ((FN P m).h M0):=by
 let σ:Sg:=[some (.ref M0.length),some P,some (.int m)]
 have st:∀ {gs gs':List (Str×D)} {X Y:MH} {e:E} {d:D} {g:Str},ev (aa aj k) e σ (M0++.ins 0 gs::X)=.ok d (M0++.ins 0 gs::Y)->gs.length<1000->eK g d gs=gs'->ex (aa aj k) (.eF (.v 0) g e) σ (M0++.ins 0 gs::X)=.ok (.nx σ) (M0++.ins 0 gs'::Y):=fun {gs gs' X Y e d g} he hl hg=>by
  have h0:(M0++MO.ins 0 gs::Y)[M0.length]? = some (.ins 0 gs):=off 0 _
  have:=HZ (Φ:=aa aj k) (σ:=σ) (a:=.v 0) (g:=g) (n:=M0.length) he rfl h0 hl hg
  rw [this]
  have e2:(M0++MO.ins 0 gs::Y).set M0.length (.ins 0 gs')=M0++MO.ins 0 gs'::Y:=offs 0 _ _
  rw [e2]
 have a1:=st (gs:=[]) (X:=[]) (Y:=[]) (e:=.v 1) (d:=P) (g:=w "program") rfl (by decide) rfl
 have a2:=st (gs:=[(w "program", P)]) (X:=[]) (Y:=[]) (e:=.v 2) (d:=.int m) (g:=w "most") (gs':=[(w "program", P), (w "most", .int m)]) rfl (by simp) (by simp only [eK, wn (a:="program") (b:="most"), if_false])
 have a3:=st (gs:=[(w "program", P), (w "most", .int m)]) (X:=[]) (Y:=[]) (e:=.k (.int 0)) (d:=.int 0) (g:=w "begun") (gs':=[(w "program", P), (w "most", .int m), (w "begun", .int 0)]) rfl (by simp) (by simp only [eK, wn (a:="program") (b:="begun"), wn (a:="most") (b:="begun"), if_false])
 have a4:=st (gs:=[(w "program", P), (w "most", .int m), (w "begun", .int 0)]) (X:=[]) (Y:=[]) (e:=.k (.int 0)) (d:=.int 0) (g:=w "under_way") (gs':=[(w "program", P), (w "most", .int m), (w "begun", .int 0), (w "under_way", .int 0)]) rfl (by simp) (by simp only [eK, wn (a:="program") (b:="under_way"), wn (a:="most") (b:="under_way"), wn (a:="begun") (b:="under_way"), if_false])
 have n1:∀ {gs:List (Str×D)} {X:MH},ev (aa aj k) (.lst false .nil) σ (M0++.ins 0 gs::X)=.ok (.ref (M0.length+(X.length+1))) (M0++.ins 0 gs::(X++[.lst []])):=fun {gs X}=>by
  show R.ok (D.ref (M0++MO.ins 0 gs::X).length) (M0++MO.ins 0 gs::X++[MO.lst []])=_
  simp
 have a5:=st (gs:=[(w "program", P), (w "most", .int m), (w "begun", .int 0), (w "under_way", .int 0)]) (X:=[]) (Y:=[.lst []]) (g:=w "todo") (gs':=[(w "program", P), (w "most", .int m), (w "begun", .int 0), (w "under_way", .int 0), (w "todo", .ref (M0.length+1))]) n1 (by simp) (by simp only [eK, wn (a:="program") (b:="todo"), wn (a:="most") (b:="todo"), wn (a:="begun") (b:="todo"), wn (a:="under_way") (b:="todo"), if_false];rfl)
 have a6:=st (gs:=[(w "program", P), (w "most", .int m), (w "begun", .int 0), (w "under_way", .int 0), (w "todo", .ref (M0.length+1))]) (X:=[.lst []]) (Y:=[.lst [], .lst []]) (g:=w "waiting") (gs':=[(w "program", P), (w "most", .int m), (w "begun", .int 0), (w "under_way", .int 0), (w "todo", .ref (M0.length+1)), (w "waiting", .ref (M0.length+2))]) n1 (by simp) (by simp only [eK, wn (a:="program") (b:="waiting"), wn (a:="most") (b:="waiting"), wn (a:="begun") (b:="waiting"), wn (a:="under_way") (b:="waiting"), wn (a:="todo") (b:="waiting"), if_false];rfl)
 refine dP fn11 rfl ((i6 a1).trans ((i6 a2).trans ((i6 a3).trans ((i6 a4).trans ((i6 a5).trans ((i6 a6).trans rfl)))))) ?_
 exact dh M0.length (by simp) (by
  rw [show (M0++[MO.ins 0 []])[M0.length]? = some (.ins 0 []) from off 0 _]
  rw [show (M0++MO.ins 0 [(w "program", P), (w "most", .int m), (w "begun", .int 0), (w "under_way", .int 0), (w "todo", .ref (M0.length+1)), (w "waiting", .ref (M0.length+2))]::[MO.lst [], .lst []])[M0.length]? = some (.ins 0 [(w "program", P), (w "most", .int m), (w "begun", .int 0), (w "under_way", .int 0), (w "todo", .ref (M0.length+1)), (w "waiting", .ref (M0.length+2))]) from off 0 _]
  simp)
noncomputable abbrev sP (fs:List Fd) (nu:List D) (m:Int) (o:Option D):Sg:=[some (.lst (fs.map Fd.d)),some (.lst nu),some (.int m),o]
noncomputable def ju (M0:MH) (fs:List Fd) (f:Fd) (nu:List D) (m:Int):Px:={ FN (.lst (fs.map Fd.d)) m with todo:=[aB (w "begin") f.bd.d (.ref (M0.length+3))], T:=[.dct (envOf [] (f.tk.map (·.1)) nu)] }
theorem pR:fT.body=.cons (.set 3 (.new 0 11 (.cons (.v 0) (.cons (.v 2) .nil)))) (.cons (.ex (.dc 0 17 (w "put_off_body") (.v 3) (.cons (.k (.str (w "main"))) (.cons (.v 1) .nil)))) (.cons (.while pE pB) (.cons (.ret (.call 8 (.cons (.dH .pop true (.fld (.v 3) (w "waiting")) .nil) .nil))) .nil))):=rfl
theorem t6 {ss:Ss} (hf:fs.find? (fun g=>decide (g.nm=w "main"))=some f) (ht:f.tk.length<=1000) :
  exs (aa aj (k+6)) (.cons (.set 3 (.new 0 11 (.cons (.v 0) (.cons (.v 2) .nil)))) (.cons (.ex (.dc 0 17 (w "put_off_body") (.v 3) (.cons (.k (.str (w "main"))) (.cons (.v 1) .nil)))) ss)) (sP fs nu m none) M0=exs (aa aj (k+6)) ss (sP fs nu m (some (.ref M0.length))) ((ju M0 fs f nu m).h M0):=by
 have e1:=e_new (Φ:=aa aj (k+6)) (c:=0) (g:=11) (σ:=sP fs nu m none) (M:=M0) (M1:=M0) (M2:=(FN (.lst (fs.map Fd.d)) m).h M0) (es:=.cons (.v 0) (.cons (.v 2) .nil)) (ds:=[.lst (fs.map Fd.d),.int m]) rfl (Iu (k:=k+4))
 have e2:ev (aa aj (k+6)) (.dc 0 17 (w "put_off_body") (.v 3) (.cons (.k (.str (w "main"))) (.cons (.v 1) .nil))) (sP fs nu m (some (.ref M0.length))) ((FN (.lst (fs.map Fd.d)) m).h M0)=.ok .ao ((ju M0 fs f nu m).h M0):=by
  rw [u_ (i:=3) rfl (by decide +kernel), cL (x:=.str (w "main")) (y:=.lst nu) (M1:=(FN (.lst (fs.map Fd.d)) m).h M0) (M2:=(FN (.lst (fs.map Fd.d)) m).h M0) rfl rfl, R.af]
  exact AH (k:=k+3) (s:=FN (.lst (fs.map Fd.d)) m) (M0:=M0) (gv:=.lst nu) (fs:=fs) (f:=f) (z:=w "main") (vs:=nu) rfl hf rfl (show 0<line by decide) ht
 exact (av e1).trans ((bZ e2).trans rfl)
theorem at1 {n:Nat} (hn:n<=99000):At fs m M0 (ju M0 fs f nu m) [] (envOf [] (f.tk.map (·.1)) nu) 0 0 0 (.p f.bd) n:=⟨rfl,rfl,rfl,rfl,rfl,rfl,by simp;omega,by show 0+n<950000;omega⟩
theorem oJ {b':Int} {v:D} (hf:fs.find? (fun g=>decide (g.nm=w "main"))=some f) (ht:f.tk.length<=1000) (h:Ev fs m (envOf [] (f.tk.map (·.1)) nu) 0 0 (.p f.bd) n [v] b') (hn:n<=90000) :
  ∃ T:MH,∀ (y:D) (X:MH),(aa aj (k+6)).call 8 [v] (({ ju M0 fs f nu m with todo:=[],wt:=[],bg:=b',T:=T }:Px).h M0)=.ok y (({ ju M0 fs f nu m with todo:=[],wt:=[],bg:=b',T:=T++X }:Px).h M0) ->
   (aa aj (k+7)).call 10 [.lst (fs.map Fd.d),.lst nu,.int m] M0=cJ false M0 y (({ ju M0 fs f nu m with todo:=[],wt:=[],bg:=b',T:=T++X }:Px).h M0):=by
 have Ei:(sP fs nu m (some (.ref M0.length)))[3]? = some (some (.ref M0.length)):=rfl
 obtain ⟨Y,g⟩:=jz (k:=k) Ei h (ju M0 fs f nu m) [] 0 (at1 (by omega))
 refine ⟨(ju M0 fs f nu m).T++Y,fun y X hy=>?_⟩
 let s2:Px:={ ju M0 fs f nu m with todo:=[],wt:=[v],bg:=b',T:=(ju M0 fs f nu m).T++Y }
 have c:=rL (Φ:=aa aj (k+6)) (s:=s2) (M0:=M0) Ei
 have ew:ex (aa aj (k+6)) (.while pE pB) (sP fs nu m (some (.ref M0.length))) ((ju M0 fs f nu m).h M0)=.ok (.nx (sP fs nu m (some (.ref M0.length)))) (s2.h M0):=by
  rw [kN,fZ]
  have q:=g (100000-n-1+1)
  rw [show n+(100000-n-1+1)=100000 by omega] at q
  show bX _ _ 100000 _ _=_
  rw [q,bX,show Px.h { ju M0 fs f nu m with todo:=[],wt:=(ju M0 fs f nu m).wt++[v],bg:=b',T:=(ju M0 fs f nu m).T++Y } M0=s2.h M0 from rfl,c]
  rfl
 have ep:=uT (Φ:=aa aj (k+6)) (σ:=sP fs nu m (some (.ref M0.length))) (s:=s2) (M0:=M0) (i:=3) (p:=[]) (x:=v) rfl rfl
 have er:ev (aa aj (k+6)) (.call 8 (.cons (.dH .pop true (.fld (.v 3) (w "waiting")) .nil) .nil)) (sP fs nu m (some (.ref M0.length))) (s2.h M0)=.ok y (({ ju M0 fs f nu m with todo:=[], wt:=[], bg:=b', T:=(ju M0 fs f nu m).T++Y++X }:Px).h M0):=(bB ep).trans hy
 exact aL K6 rfl (by rw [pR];exact (t6 hf ht).trans ((i6 ew).trans (aR er))) rfl
theorem qH {e:Nat} (hf:fs.find? (fun g=>decide (g.nm=w "main"))=some f) (ht:f.tk.length<=1000) (h:gD fs m (envOf [] (f.tk.map (·.1)) nu) 0 0 (.p f.bd) n e) (hn:n<=90000):(aa aj (k+7)).call 10 [.lst (fs.map Fd.d), .lst nu, .int m] M0=.exc e M0:=by
 have Ei:(sP fs nu m (some (.ref M0.length)))[3]? = some (some (.ref M0.length)):=rfl
 have g:=go_x (k:=k) Ei h (ju M0 fs f nu m) [] 0 (at1 (by omega))
 obtain ⟨s',q⟩:=g (100000-n)
 rw [show n+(100000-n)=100000 by omega] at q
 have ew:∀ ss,exs (aa aj (k+6)) (.cons (.while pE pB) ss) (sP fs nu m (some (.ref M0.length))) ((ju M0 fs f nu m).h M0)=.ok (.xc e (sP fs nu m (some (.ref M0.length)))) (s'.h M0):=fun ss=>by
  rw [bR,kN,fZ,show aj.turns=100000 from rfl,q];rfl
 exact jr K6 rfl (by rw [pR];exact (t6 hf ht).trans (ew _)) (if_pos iX)
end
end bM
end
section
namespace bM
open Fg PySem
theorem fn19:aj.fn 19=some jB:=rfl
theorem K4:aj.fn 20=some gI:=rfl
theorem fn21:aj.fn 21=some b6:=rfl
theorem fn22:aj.fn 22=some eY:=rfl
theorem fn23:aj.fn 23=some cK:=rfl
theorem HJ:aj.fn 24=some mH:=rfl
theorem fn25:aj.fn 25=some b9:=rfl
theorem K3:aj.fn 26=some jC:=rfl
theorem K2:aj.fn 27=some Ep:=rfl
noncomputable def nats (ns:List Nat):List D:=ns.map fun (n:Nat)=>D.int n
noncomputable def mixed (c:Int):Int:=(c % 2147483647+11)*48271*69621 % 2147483629
theorem yT (c:Int):0<=mixed c/\mixed c<2147483629:=by unfold mixed;omega
noncomputable def v8 (c:Int):Nat:=(mixed c).toNat
theorem Co (c:Int):mixed c=(v8 c:Int):=(Int.toNat_of_nonneg (yT c).1).symm
section
variable {M M1 M2:MH} {k:Nat} {Φ:bF} {σ:Sg} {e e':E}
theorem oK {c:Int}:(aa aj (k+1)).call 19 [.int c] M=.ok (.int (v8 c:Int)) M:=by
 have e:ev (aa aj k) (.op .mod true (.op .mul true (.op .mul true (.op .add true (.op .mod true (.v 0) (.k (.int 2147483647))) (.k (.int 11))) (.k (.int 48271))) (.k (.int 69621))) (.k (.int 2147483629))) [some (.int c)] M=.ok (.int (mixed c)) M:=by
  simp [lD,eN,small,mixed]
 rw [<- Co]
 exact aL fn19 rfl (aR e) (au rfl rfl)
theorem EA {a b:Int} {fz:Bool} (he:ev Φ e σ M=.ok (.int a) M1) (hx:ev Φ e' σ M1=.ok (.int b) M2) (hb:0<b):ev Φ (.op .mod fz e e') σ M=.ok (.int (a % b)) M2:=by
 rw [iI,he,R.af,hx,R.af]
 simp only [lD,eN,decide_eq_true hb,if_true]
theorem Ls {a b:Int} {fz:Bool} (he:ev Φ e σ M=.ok (.int a) M1) (hx:ev Φ e' σ M1=.ok (.int b) M2) (hb:0<b) (hs:b.natAbs<1073741824):ev Φ (.op .fdiv fz e e') σ M=.ok (.int (a / b)) M2:=by
 rw [iI,he,R.af,hx,R.af]
 simp only [lD,eN,decide_eq_true hb,decide_eq_true hs,Bool.and_self,if_true]
theorem kT {a b:Nat} {fz:Bool} (he:ev Φ e σ M=.ok (.int (a:Int)) M1) (hx:ev Φ e' σ M1=.ok (.int (b:Int)) M2) (hb:0<b):ev Φ (.op .mod fz e e') σ M=.ok (.int ((a % b:Nat):Int)) M2:=by
 rw [EA he hx (by omega),Int.natCast_emod]
theorem sJ {a b:Nat} {fz:Bool} (he:ev Φ e σ M=.ok (.int (a:Int)) M1) (hx:ev Φ e' σ M1=.ok (.int (b:Int)) M2) (hb:0<b) (hs:b<1073741824):ev Φ (.op .fdiv fz e e') σ M=.ok (.int ((a / b:Nat):Int)) M2:=by
 rw [Ls he hx (by omega) (by omega),Int.natCast_ediv]
theorem Ii {a b:Nat} {fz:Bool} (he:ev Φ e σ M=.ok (.int (a:Int)) M1) (hx:ev Φ e' σ M1=.ok (.int (b:Int)) M2):ev Φ (.op .add fz e e') σ M=.ok (.int ((a+b:Nat):Int)) M2:=by
 rw [mS he hx];rfl
theorem Ak {a b:Nat} (he:ev Φ e σ M=.ok (.int (a:Int)) M1) (hx:ev Φ e' σ M1=.ok (.int (b:Int)) M2):ev Φ (.cmp .eq e e') σ M=.ok (.bl (decide (a=b))) M2:=by
 rw [cF,he,R.af,hx,R.af]
 have:decide ((a:Int)=(b:Int))=decide (a=b):=by
  by_cases h:a=b
  ·simp [h]
  ·rw [decide_eq_false h,decide_eq_false (by omega)]
 simp only [bf,vj,Lg,top,aZ,Fg.plain,dep,Bool.and_self,Nat.zero_le,decide_true,Bool.or_self,if_true,qy,this]
theorem EE {a b:Nat} (he:ev Φ e σ M=.ok (.int (a:Int)) M1) (hx:ev Φ e' σ M1=.ok (.int (b:Int)) M2):ev Φ (.cmp .gt e e') σ M=.ok (.bl (decide (b<a))) M2:=by
 refine Ib he hx ?_
 by_cases h:b<a
 ·rw [decide_eq_true h,decide_eq_true (by omega)]
 ·rw [decide_eq_false h,decide_eq_false (by omega)]
theorem Ai {a b:Nat} (he:ev Φ e σ M=.ok (.int (a:Int)) M1) (hx:ev Φ e' σ M1=.ok (.int (b:Int)) M2):ev Φ (.cmp .lt e e') σ M=.ok (.bl (decide (a<b))) M2:=by
 refine e_lt he hx ?_
 by_cases h:a<b
 ·rw [decide_eq_true h,decide_eq_true (by omega)]
 ·rw [decide_eq_false h,decide_eq_false (by omega)]
theorem kW {x:Bool} (h:ev Φ e σ M=.ok (.bl x) M):ev Φ (.iT .int e) σ M=.ok (.int ((if x then 1 else 0:Nat):Int)) M:=by
 rw [Ac,h,R.af];cases x <;> rfl
theorem vO {n:Nat}:i7 0 (n:Int)=nats (List.range n):=by simp [i7,nats]
theorem sH {n:Nat} (he:ev Φ e σ M=.ok (.int (n:Int)) M1) (hn:n<=1000000):aX Φ (.g8 e) σ M=.ok (.ao,nats (List.range n),false) M1:=by
 rw [<- vO,CV,he,R.af]
 simp only [uq hn,if_true]
theorem uA {elt:E} {f:Nat->D} {i:Nat} {ch:MH->Bool} (hc:ch M=true):∀ (ks:List Nat) (σ:Sg) (acc:List D),(∀ j∈ks,ev Φ elt (σ.set i (some (.int (j:Int)))) M=.ok (f j) M)->acc.length+ks.length<=1000->bG (oW Φ .none) (ev Φ elt) [i] ch (nats ks) σ M acc=.ok (acc++ks.map f) M
 | [],σ,acc,_,_=>by simp [bG,nats]
 | j::ks,σ,acc,h,hl=>by
  simp only [List.length_cons] at hl
  rw [show nats (j::ks)=.int (j:Int)::nats ks from rfl,rV (h j List.mem_cons_self) hc (Nat.lt_of_lt_of_le (by omega) (by decide:1001<=line)),uA hc ks _ (acc++[f j]) (fun a ha=>by rw [List.set_set];exact h a (List.mem_cons_of_mem _ ha)) (by simp;omega)]
  simp
theorem Ks {elt:E} {f:Nat->D} {i:Nat} {ch:MH->Bool} (hc:ch M=true) {ks:List Nat} {σ:Sg} (h:∀ j∈ks,ev Φ elt (σ.set i (some (.int (j:Int)))) M=.ok (f j) M) (hl:ks.length<=1000):bG (oW Φ .none) (ev Φ elt) [i] ch (nats ks) σ M []=.ok (ks.map f) M:=by
 have:=uA (Φ:=Φ) (M:=M) (elt:=elt) (f:=f) (i:=i) (ch:=ch) hc ks σ [] h (by simpa using hl)
 simpa using this
theorem kU {ds:List D} (he:ev Φ e σ M=.ok (.lst ds) M):ev Φ (.blt .len true (.cons e .nil)) σ M=.ok (.int (ds.length:Int)) M:=by
 rw [sE,wH he,R.af];rfl
theorem Ia {x y:Bool} (h:ev Φ e σ M=.ok (.bl x) M) (h':x=false->ev Φ e' σ M=.ok (.bl y) M):ev Φ (.or e e') σ M=.ok (.bl (x||y)) M:=by
 rw [Lb,h,R.af]
 cases x with
 | true=>rfl
 | false=>exact h' rfl
theorem Al {x y:Bool} (h:ev Φ e σ M=.ok (.bl x) M) (h':x=true->ev Φ e' σ M=.ok (.bl y) M):ev Φ (.and e e') σ M=.ok (.bl (x&&y)) M:=by
 rw [om,h,R.af]
 cases x with
 | true=>exact h' rfl
 | false=>rfl
theorem Lp {a b:Nat} (he:ev Φ e σ M=.ok (.int (a:Int)) M) (hx:ev Φ e' σ M=.ok (.int (b:Int)) M):ev Φ (.mx false e e') σ M=.ok (.int ((min a b:Nat):Int)) M:=by
 rw [Lc,he,R.af,hx,R.af]
 simp only [Bool.false_eq_true,if_false]
 by_cases h:(b:Int)<(a:Int)
 ·rw [if_pos h,Nat.min_eq_right (by omega)]
 ·rw [if_neg h,Nat.min_eq_left (by omega)]
theorem mR {o:AS} {a b c:D} (he:ev Φ e σ M=.ok a M) (hx:ev Φ e' σ M=.ok b M) (h:bf o M a b=.ok c M):ev Φ (.cmp o e e') σ M=.ok c M:=by
 rw [cF,he,R.af,hx,R.af];exact h
theorem Ez {a b:Str} (he:ev Φ e σ M=.ok (.str a) M1):ev Φ (.cmp .ne e (.k (.str b))) σ M=.ok (.bl (!decide (a=b))) M1:=by
 rw [cF,he,R.af,kP,R.af]
 simp [bf,vj,v7,aZ,top,Fg.plain,dep]
end
mutual
theorem fX:∀ (d:D),Fg.plain d=true->aJ d d=true
 | .ao,_=>by simp
 | .bl _,h=>by simp [Fg.plain] at h
 | .int _,_=>by simp
 | .str _,_=>by simp
 | .tup ds,h=>by simp only [Fg.plain] at h;rw [qx];exact jn ds h
 | .lst ds,h=>by simp only [Fg.plain] at h;rw [jE];exact jn ds h
 | .dct _ _,h=>by simp [Fg.plain] at h
 | .ref _,h=>by simp [Fg.plain] at h
theorem jn:∀ (ds:List D),az ds=true->dO ds ds=true
 | [],_=>by simp
 | d::ds,h=>by
  simp only [az,Bool.and_eq_true] at h
  rw [CZ,fX d h.1,jn ds h.2];rfl
end
theorem eL:∀ {ds:List D},az ds=true->∀ d∈ds,Fg.plain d=true
 | [],_,_,h=>by cases h
 | e::ds,p,d,h=>by
  simp only [az,Bool.and_eq_true] at p
  rcases List.mem_cons.mp h with rfl | h
  ·exact p.1
  ·exact eL p.2 d h
theorem iA {α:Type} {f:α->α}:∀ {ds:List α},(∀ d∈ds,f d=d)->ds.map f=ds
 | [],_=>rfl
 | d::ds,h=>by rw [List.map_cons,h d List.mem_cons_self,iA fun e he=>h e (List.mem_cons_of_mem _ he)]
theorem fc {M:MH} (n:Nat):∀ d:D,Fg.plain d=true->deep n M d=d:=by
 induction n with
 | zero=>intro d _;rfl
 | succ n ih =>
  intro d h
  cases d with
  | tup ds=>simp only [Fg.plain] at h;simp only [deep];rw [iA fun d hd=>ih d (eL h d hd)]
  | lst ds=>simp only [Fg.plain] at h;simp only [deep];rw [iA fun d hd=>ih d (eL h d hd)]
  | ref _=>simp [Fg.plain] at h
  | _=>rfl
theorem HX {M:MH} {neg:Bool} {a b d:D} (ha:deep 120 M a=d) (hb:deep 120 M b=d) (hp:Fg.plain d=true) (hd:dep d<=100):Eu M neg a b=.ok (.bl (!neg)) M:=by
 have hc:aZ d d=true:=by simp only [aZ,hp,decide_eq_true hd,Bool.and_self,Bool.or_self]
 unfold Eu
 rw [ha,hb,if_pos hc,fX d hp]
 cases neg <;> rfl
theorem ne_x {M:MH} {a b:D} (h1:vj a b=none) (h2:aZ (top M a) (top M b)=false) (h3:qa M a b=none):bf .ne M a b=Eu M true a b:=by
 simp only [bf,h1,v7,h2,h3,Bool.false_eq_true,if_false]
theorem ux {M:MH} {a:D} (h1:vj a a=none) (ht:top M a=a) (hp:Fg.plain a=true) (hd:dep a<=100):bf .ne M a a=.ok (.bl false) M:=by
 have hc:aZ a a=true:=by simp only [aZ,hp,decide_eq_true hd,Bool.and_self,Bool.or_self]
 simp only [bf,h1,v7,ht,hc,if_true,fX a hp,Bool.not_true]
theorem uQ {M:MH} {a:D} (h1:vj a a=none) (ht:top M a=a) (hp:Fg.plain a=true) (hd:dep a<=100):bf .eq M a a=.ok (.bl true) M:=by
 have hc:aZ a a=true:=by simp only [aZ,hp,decide_eq_true hd,Bool.and_self,Bool.or_self]
 simp only [bf,h1,Lg,ht,hc,if_true,fX a hp]
theorem ou {M:MH} {n:Nat} {ds:List D}:deep (n+1) M (.tup ds)=.tup (ds.map (deep n M)):=rfl
theorem sN {M:MH} {n r:Nat} {ds:List D} (h:M[r]? = some (.lst ds)) (hp:az ds=true):deep (n+1) M (.ref r)=.lst ds:=by
 have e:deep (n+1) M (.ref r)=.lst (ds.map (deep n M)):=by simp only [deep,h]
 rw [e,iA fun d hd=>fc n d (eL hp d hd)]
theorem Aq {M:MH} {n:Nat} {i:Str}:deep n M (.str i)=.str i:=fc n _ (by simp [Fg.plain])
theorem jg:∀ (is:List Int),az (is.map D.int)=true/\deps (is.map D.int)<=0
 | []=>by simp [az,deps]
 | i::is=>by
  obtain ⟨h1,h2⟩:=jg is
  simp only [List.map_cons,az,deps,Fg.plain,dep,h1,Bool.and_self,true_and];omega
end bM
end
section
namespace bM
open Fg PySem
@[irreducible] noncomputable def qM:Int:=10 ^ 30
theorem IC:jR=((10 ^ 60:Nat):Int):=by unfold jR;decide +kernel
theorem vm:0<jR:=by unfold jR;decide +kernel
theorem ug:0<qM:=by unfold qM;decide +kernel
theorem Gj:qM<=jR:=by unfold jR qM;decide +kernel
theorem GJ {x:Int} (h1:x<jR) (h2:-jR<x):mid x=true:=by
 have h:(x.natAbs:Int)<jR:=by
  generalize jR=b at *
  omega
 rw [IC] at h
 exact decide_eq_true (Nat.lt_of_lt_of_le (Int.ofNat_lt.mp h) (by decide +kernel))
noncomputable def vJ (c:Int):Int:=1-2*((v8 c % 2:Nat):Int)
theorem tX (c:Int):vJ c=1\/vJ c=-1:=by unfold vJ;omega
noncomputable def nM (g k:Nat) (c:Int):Int:=c % (if k<g then jR else qM)*vJ c
theorem yW {g k:Nat} {c:Int}:mid (nM g k c)=true:=by
 have hp:0<(if k<g then jR else qM)/\(if k<g then jR else qM)<=jR:=by
  split
  ·exact ⟨vm,Int.le_refl _⟩
  ·exact ⟨ug,Gj⟩
 unfold nM
 generalize (if k<g then jR else qM)=p at hp
 have h1:=Int.emod_lt_of_pos c hp.1
 have h2:=Int.emod_nonneg c (Int.ne_of_gt hp.1)
 generalize c % p=z at *
 rcases tX c with h | h <;> rw [h] <;> refine GJ ?_ ?_ <;> (generalize jR=b at *;omega)
noncomputable def lH (g:Nat) (cs:List Int):List Int:=(List.range cs.length).map fun k=>nM g k (cs.getD k 0)
theorem qf {g:Nat} {cs:List Int}:(lH g cs).length=cs.length:=by simp [lH]
theorem yV {g:Nat} {cs:List Int}:∀ x∈lH g cs,mid x=true:=fun x hx=>by
 obtain ⟨k,_,rfl⟩:=List.mem_map.mp hx;exact yW
section
variable {M M1 M2:MH} {k:Nat} {Φ:bF} {σ:Sg} {e e':E}
theorem Lm {fz:Bool}:ev Φ (.op .pow fz (.k (.int 10)) (.k (.int 30))) σ M=.ok (.int qM) M:=by
 have:eN .pow 10 30=some qM:=by unfold qM;decide +kernel
 rw [iI,kP,R.af,kP,R.af]
 simp only [lD,this]
noncomputable def sd (ns:List Int):Nat:=match ns[0]? with
 | some x=>v8 x
 | none=>v8 0
theorem Io {ns:List Int}:(aa aj (k+2)).call 20 [.lst (ns.map D.int),.int 0] M=.ok (.int (sd ns:Int)) M:=by
 have e0:ev (aa aj (k+1)) (.blt .len true (.cons (.v 0) .nil)) [some (.lst (ns.map D.int)),some (.int 0)] M=.ok (.int (ns.length:Int)) M:=by rw [kU (ds:=ns.map D.int) rfl,List.length_map]
 have c1:ev (aa aj (k+1)) (.cmp .lt (.v 1) (.blt .len true (.cons (.v 0) .nil))) [some (.lst (ns.map D.int)),some (.int 0)] M=.ok (.bl (decide (0<ns.length))) M:=Ai (a:=0) rfl e0
 cases ns with
 | nil=>exact aL K4 rfl ((aE c1).trans (aR ((bB rfl).trans oK))) (au rfl rfl)
 | cons x ns =>
  have e2:ev (aa aj (k+1)) (.idx (.v 0) (.v 1)) [some (.lst ((x::ns).map D.int)),some (.int 0)] M=.ok (.int x) M:=iO (xs:=(x::ns).map D.int) rfl rfl aT
  exact aL K4 rfl (cT c1 (aR ((bB e2).trans oK))) (au rfl rfl)
noncomputable def mB:Ss:=.cons (.set 4 (.op .mod true (.idx (.v 0) (.v 3)) (.idx (.lst true (.cons (.op .pow true (.k (.int 10)) (.k (.int 30))) (.cons (.op .pow true (.k (.int 10)) (.k (.int 60))) .nil))) (.iT .int (.cmp .lt (.v 3) (.v 1)))))) (.cons (.ex (.dH .append true (.v 2) (.cons (.op .mul true (.v 4) (.op .sub true (.k (.int 1)) (.op .mul true (.k (.int 2)) (.op .mod true (.call 19 (.cons (.idx (.v 0) (.v 3)) .nil)) (.k (.int 2)))))) .nil))) .nil)
theorem y9 {cs:List Int} {g:Nat} {ch:MH->Bool} (hch:∀ M,ch M=true) (hl:cs.length<=1000):∀ (n j:Nat) (acc:List D) (a b:Option D),j+n<=cs.length->acc.length+n<=1000 ->
  ∃ a' b',aS (exs (aa aj (k+1)) mB) [3] ch (nats (List.range' j n)) [some (.lst (cs.map D.int)),some (.int (g:Int)),some (.ref M.length),a,b] (M++[.lst acc])=.ok (.nx [some (.lst (cs.map D.int)),some (.int (g:Int)),some (.ref M.length),a',b']) (M++[.lst (acc++(List.range' j n).map fun i=>.int (nM g i (cs.getD i 0)))])
 | 0,j,acc,a,b,_,_=>⟨a,b,by simp [nats,aS]⟩
 | n+1,j,acc,a,b,hj,ha=>by
  obtain ⟨a',b',q⟩:=y9 (g:=g) hch hl n (j+1) (acc++[.int (nM g j (cs.getD j 0))]) (some (.int (j:Int))) (some (.int (cs.getD j 0 % (if j<g then jR else qM)))) (by omega) (by simp;omega)
  refine ⟨a',b',?_⟩
  have hx:cs[j]? = some (cs.getD j 0):=by rw [List.getD_eq_getElem?_getD,List.getElem?_eq_getElem (by omega)];rfl
  let c:=cs.getD j 0
  let σ1:Sg:=[some (.lst (cs.map D.int)),some (.int (g:Int)),some (.ref M.length),some (.int (j:Int)),b]
  have i1:∀ {M':MH} {b:Option D},ev (aa aj (k+1)) (.idx (.v 0) (.v 3)) [some (.lst (cs.map D.int)),some (.int (g:Int)),some (.ref M.length),some (.int (j:Int)),b] M'=.ok (.int c) M':=fun {M' b}=>iO (xs:=cs.map D.int) rfl rfl (oM (by rw [List.getElem?_map,hx];rfl))
  have i2:ev (aa aj (k+1)) (.idx (.lst true (.cons (.op .pow true (.k (.int 10)) (.k (.int 30))) (.cons (.op .pow true (.k (.int 10)) (.k (.int 60))) .nil))) (.iT .int (.cmp .lt (.v 3) (.v 1)))) σ1 (M++[.lst acc])=.ok (.int (if j<g then jR else qM)) (M++[.lst acc]):=by
   have l1:ev (aa aj (k+1)) (.lst true (.cons (.op .pow true (.k (.int 10)) (.k (.int 30))) (.cons (.op .pow true (.k (.int 10)) (.k (.int 60))) .nil))) σ1 (M++[.lst acc])=.ok (.lst [.int qM,.int jR]) (M++[.lst acc]):=by
    rw [oj,cL Lm EG];rfl
   refine iO l1 (kW (Ai (a:=j) (b:=g) rfl rfl)) ?_
   by_cases h:j<g
   ·rw [decide_eq_true h,if_pos h];exact c8
   ·rw [decide_eq_false h,if_neg h];exact aT
  have hp:0<(if j<g then jR else qM):=by split;exact vm;exact ug
  have e1:=EA (fz:=true) (i1 (M':=M++[.lst acc]) (b:=b)) i2 hp
  let z:Int:=c % (if j<g then jR else qM)
  let σ2:Sg:=[some (.lst (cs.map D.int)),some (.int (g:Int)),some (.ref M.length),some (.int (j:Int)),some (.int z)]
  have e2:ev (aa aj (k+1)) (.op .mod true (.call 19 (.cons (.idx (.v 0) (.v 3)) .nil)) (.k (.int 2))) σ2 (M++[.lst acc])=.ok (.int ((v8 c % 2:Nat):Int)) (M++[.lst acc]):=kT (b:=2) ((bB i1).trans oK) rfl (by decide)
  have e3:ev (aa aj (k+1)) (.op .sub true (.k (.int 1)) (.op .mul true (.k (.int 2)) (.op .mod true (.call 19 (.cons (.idx (.v 0) (.v 3)) .nil)) (.k (.int 2))))) σ2 (M++[.lst acc])=.ok (.int (vJ c)) (M++[.lst acc]):=by
   refine mP rfl ?_
   rw [iI,kP,R.af,e2,R.af]
   have:small 2=true:=by decide +kernel
   simp only [lD,eN,this,Bool.true_or,if_true]
  have e4:ev (aa aj (k+1)) (.op .mul true (.v 4) (.op .sub true (.k (.int 1)) (.op .mul true (.k (.int 2)) (.op .mod true (.call 19 (.cons (.idx (.v 0) (.v 3)) .nil)) (.k (.int 2)))))) σ2 (M++[.lst acc])=.ok (.int (nM g j c)) (M++[.lst acc]):=by
   rw [iI,e_v (d:=.int z) rfl,R.af,e3,R.af]
   have:small (vJ c)=true:=by rcases tX c with h | h <;> rw [h] <;> decide +kernel
   simp only [lD,eN,this,Bool.or_true,if_true];rfl
  have gA:(M++[MO.lst acc])[M.length]? = some (.lst acc):=by simp
  have e5:=qz (Φ:=aa aj (k+1)) (σ:=σ2) (e:=.v 2) (n:=M.length) rfl gA e4 gA (Nat.lt_of_le_of_lt (by omega:acc.length<=1000) (by decide))
  have es:(M++[MO.lst acc]).set M.length (.lst (acc++[.int (nM g j c)]))=M++[.lst (acc++[.int (nM g j c)])]:=by rw [List.set_append_right _ _ (Nat.le_refl _),Nat.sub_self];rfl
  rw [es] at e5
  show aS _ [3] ch (.int (j:Int)::nats (List.range' (j+1) n)) _ _=_
  rw [aS]
  show ((exs (aa aj (k+1)) mB σ1 (M++[.lst acc])).bind _)=_
  rw [mB,av e1]
  show ((exs (aa aj (k+1)) (.cons (.ex _) .nil) σ2 (M++[.lst acc])).bind _)=_
  rw [bZ e5]
  show (if ch _ then _ else _)=_
  rw [if_pos (hch _)]
  refine Eq.trans q ?_
  simp [List.range'_succ,c]
theorem iB {m:Nat}:∀ (is:List Int),dS m (is.map D.int)=true
 | []=>by simp [dS]
 | i::is=>by simp [dS,nr,iB is]
theorem wV {cs:List Int} {g:Nat} (hl:cs.length<=1000):(aa aj (k+2)).call 21 [.lst (cs.map D.int),.int (g:Int)] M=.ok (.lst ((lH g cs).map D.int)) M:=by
 have e0:ev (aa aj (k+1)) (.blt .len true (.cons (.v 0) .nil)) [some (.lst (cs.map D.int)),some (.int (g:Int)),some (.ref M.length),none,none] (M++[.lst []])=.ok (.int (cs.length:Int)) (M++[.lst []]):=by rw [kU (ds:=cs.map D.int) rfl,List.length_map]
 have hi:=sH (Φ:=aa aj (k+1)) e0 (by omega)
 obtain ⟨a',b',q⟩:=y9 (k:=k) (M:=M) (cs:=cs) (g:=g) (ch:=aP (M++[.lst []]) .ao) (fun _=>rfl) hl cs.length 0 [] none none (by omega) (by simpa using hl)
 rw [<- List.range_eq_range',List.nil_append] at q
 have em:((List.range cs.length).map fun i=>D.int (nM g i (cs.getD i 0)))=(lH g cs).map D.int:=by simp [lH]
 rw [em] at q
 have body:exs (aa aj (k+1)) b6.body [some (.lst (cs.map D.int)),some (.int (g:Int)),none,none,none] M=.ok (.rt (.ref M.length)) (M++[.lst ((lH g cs).map D.int)]):=by
  rw [show b6.body=.cons (.set 2 (.lst false .nil)) (.cons (.for [3] (.g8 (.blt .len true (.cons (.v 0) .nil))) mB) (.cons (.ret (.v 2)) .nil)) from rfl,av (x:=.ref M.length) (M1:=M++[.lst []]) rfl]
  exact (pP hi q).trans (aR rfl)
 refine aL fn21 rfl body ?_
 have g2:(M++[MO.lst ((lH g cs).map D.int)])[M.length]? = some (.lst ((lH g cs).map D.int)):=by simp
 unfold cJ
 rw [if_pos ⟨rfl,by simp⟩,if_neg (by simp [nr])]
 simp only [g2,iB,if_true]
end
end bM
end
section
namespace bM
open Fg PySem
theorem mj:∀ n:Nat,(List.range n).map (fun i=>n-1-i)=(List.range n).reverse:=fun n=>by
 apply List.ext_getElem
 ·simp
 ·intro i h1 h2
  simp
theorem fO (n:Nat):(List.range (n+1)).reverse=n::(List.range n).reverse:=by rw [List.range_succ];simp
noncomputable def AV:Nat->Str
 | 0=>w "u"
 | 1=>w "v"
 | _=>w "w"
noncomputable def lI (g k:Nat) (i:Int):Pt:=if k<g then .oU (AV k) else .num i
noncomputable def p2 (a b:Pt):bU:=.cons a (.cons b .nil)
noncomputable def lJ (g:Nat):Nat->List Int->Pt
 | _,[]=>.nil .num
 | k,i::is=>.op (.lay true) (p2 (lI g k i) (lJ g (k+1) is))
noncomputable def kh:Nat->Pt
 | 0=>.oU (w "row")
 | n+1=>.op (.look true true) (.cons (kh n) .nil)
section
variable {M M1 M2:MH} {k:Nat} {Φ:bF} {σ:Sg} {e e':E}
theorem yh {n:Nat}:jt ((n:Int)-1) (-1)=nats (List.range n).reverse:=by
 have e:((n:Int)-1 - -1).toNat=n:=by omega
 rw [jt,e,<- mj,nats,List.map_map]
 refine List.map_congr_left fun i hi=>?_
 have:=List.mem_range.mp hi
 show D.int ((n:Int)-1-(i:Int))=D.int ((n-1-i:Nat):Int)
 congr 1;omega
theorem BK {n:Nat}:jt (n:Int) 0=(List.range n).reverse.map fun (i:Nat)=>D.int ((i+1:Nat):Int):=by
 have e:((n:Int)-0).toNat=n:=by omega
 rw [jt,e,<- mj,List.map_map]
 refine List.map_congr_left fun i hi=>?_
 have:=List.mem_range.mp hi
 show D.int ((n:Int)-(i:Int))=D.int ((n-1-i+1:Nat):Int)
 congr 1;omega
theorem Ah {i j:Int} (he:ev Φ e σ M=.ok (.int i) M) (hx:ev Φ e' σ M=.ok (.int j) M) (h1:i9 i=true) (h2:i9 j=true):aX Φ (.fE e e') σ M=.ok (.ao,jt i j,false) M:=by
 rw [zZ,he,R.af,hx,R.af]
 simp only [fB,h1,h2,Bool.and_self,if_true]
theorem zB {j:Nat} (hj:j<3) {a b:D} (hx:ev Φ e σ M=.ok (.int (j:Int)) M):ev Φ (.idx (.k (.str (w "uvw"))) e) σ M=.ok (.str (AV j)) M:=by
 rw [jl,kP,R.af,hx,R.af]
 have:j=0\/j=1\/j=2:=by omega
 rcases this with rfl | rfl | rfl <;> rfl
noncomputable def Kq:Ss:=.cons (.set 4 (.tup (.cons (.k (.str (w "number"))) (.cons (.idx (.v 0) (.v 3)) .nil)))) (.cons (.ifs (.cmp .lt (.v 3) (.v 1)) (.cons (.set 4 (.tup (.cons (.k (.str (w "name"))) (.cons (.idx (.k (.str (w "uvw"))) (.v 3)) .nil)))) .nil) .nil) (.cons (.set 2 (.tup (.cons (.k (.str (w "cons"))) (.cons (.v 4) (.cons (.v 2) .nil))))) .nil))
noncomputable abbrev sL (is:List Int) (g:Nat) (p:D) (a b:Option D):Sg:=[some (.lst (is.map D.int)),some (.int (g:Int)),some p,a,b]
theorem zh {is:List Int} {g:Nat} {ch:MH->Bool} (hch:ch M=true) (hg:g<=3):∀ (j:Nat) (a b:Option D),j<=is.length ->
  ∃ a' b',aS (exs Φ Kq) [3] ch (nats (List.range j).reverse) (sL is g (lJ g j (is.drop j)).d a b) M=.ok (.nx (sL is g (lJ g 0 is).d a' b')) M
 | 0,a,b,_=>⟨a,b,rfl⟩
 | j+1, a, b, hj=>by
  have hd:is.drop j=is[j]::is.drop (j+1):=List.drop_eq_getElem_cons (by omega)
  obtain ⟨a',b',q⟩:=zh (is:=is) hch hg j (some (.int (j:Int))) (some (lI g j is[j]).d) (by omega)
  refine ⟨a',b',?_⟩
  have hp:(lJ g j (is.drop j)).d=.tup [.str (w "cons"), (lI g j is[j]).d, (lJ g (j+1) (is.drop (j+1))).d]:=by
   rw [hd,lJ,Pt.d,p2];simp only [bU.ds];rfl
  rw [fO]
  show aS (exs Φ Kq) [3] ch (.int (j:Int)::nats (List.range j).reverse) _ M=_
  rw [aS]
  show ((exs Φ Kq (sL is g (lJ g (j+1) (is.drop (j+1))).d (some (.int (j:Int))) b) M).bind _)=_
  have e1:ev Φ (.tup (.cons (.k (.str (w "number"))) (.cons (.idx (.v 0) (.v 3)) .nil))) (sL is g (lJ g (j+1) (is.drop (j+1))).d (some (.int (j:Int))) b) M=.ok (Pt.num is[j]).d M:=by
   rw [bT, cL (x:=.str (w "number")) (M1:=M) rfl (iO (xs:=is.map D.int) rfl rfl (oM (by rw [List.getElem?_map, List.getElem?_eq_getElem (by omega)];rfl))), Pt.d];rfl
  have c1:ev Φ (.cmp .lt (.v 3) (.v 1)) (sL is g (lJ g (j+1) (is.drop (j+1))).d (some (.int (j:Int))) (some (Pt.num is[j]).d)) M=.ok (.bl (decide (j<g))) M:=Ai rfl rfl
  have i1:∃ ss, exs Φ (.cons (.ifs (.cmp .lt (.v 3) (.v 1)) (.cons (.set 4 (.tup (.cons (.k (.str (w "name"))) (.cons (.idx (.k (.str (w "uvw"))) (.v 3)) .nil)))) .nil) .nil) ss) (sL is g (lJ g (j+1) (is.drop (j+1))).d (some (.int (j:Int))) (some (Pt.num is[j]).d)) M=exs Φ ss (sL is g (lJ g (j+1) (is.drop (j+1))).d (some (.int (j:Int))) (some (lI g j is[j]).d)) M/\ss=.cons (.set 2 (.tup (.cons (.k (.str (w "cons"))) (.cons (.v 4) (.cons (.v 2) .nil))))) .nil:=by
   refine ⟨_,?_,rfl⟩
   by_cases h:j<g
   ·rw [decide_eq_true h] at c1
    have e2:ev Φ (.tup (.cons (.k (.str (w "name"))) (.cons (.idx (.k (.str (w "uvw"))) (.v 3)) .nil))) (sL is g (lJ g (j+1) (is.drop (j+1))).d (some (.int (j:Int))) (some (Pt.num is[j]).d)) M=.ok (lI g j is[j]).d M:=by
     rw [bT, cL (x:=.str (w "name")) (M1:=M) rfl (zB (j:=j) (a:=.ao) (b:=.ao) (by omega) rfl), lI, if_pos h, Pt.d];rfl
    exact pO c1 ((av e2).trans rfl)
   ·rw [decide_eq_false h] at c1
    rw [aE c1,lI,if_neg h]
  obtain ⟨ss,i1,hss⟩:=i1
  subst hss
  rw [Kq,av e1]
  show ((exs Φ _ (sL is g (lJ g (j+1) (is.drop (j+1))).d (some (.int (j:Int))) (some (Pt.num is[j]).d)) M).bind _)=_
  rw [i1, av (x:=.tup [.str (w "cons"), (lI g j is[j]).d, (lJ g (j+1) (is.drop (j+1))).d]) (M1:=M) rfl]
  show (if ch M then _ else _)=_
  rw [if_pos hch,<- hp]
  exact q
theorem Ir {is:List Int} {g:Nat} (hg:g<=3) (hl:is.length<=1000):(aa aj (k+1)).call 22 [.lst (is.map D.int),.int (g:Int)] M=.ok (lJ g 0 is).d M:=by
 have e0:ev (aa aj k) (.op .sub true (.blt .len true (.cons (.v 0) .nil)) (.k (.int 1))) (sL is g (Pt.nil .num).d none none) M=.ok (.int ((is.length:Int)-1)) M:=mP (by rw [kU (ds:=is.map D.int) rfl,List.length_map]) rfl
 have hi:=Ah (Φ:=aa aj k) e0 (e':=.neg (.k (.int 1))) (j:=-1) rfl (Ci (by omega) (by omega)) (by decide)
 rw [yh] at hi
 obtain ⟨a',b',q⟩:=zh (Φ:=aa aj k) (M:=M) (is:=is) (g:=g) (ch:=aP M .ao) rfl hg is.length none none (Nat.le_refl _)
 rw [List.drop_length] at q
 have en:(Pt.nil Kd.num).d=.tup [.str (w "nil"), .tup [.str (w "num")]]:=by rw [Pt.d, Kd.d]
 have body:exs (aa aj k) eY.body [some (.lst (is.map D.int)),some (.int (g:Int)),none,none,none] M=.ok (.rt (lJ g 0 is).d) M:=by
  rw [show eY.body=.cons (.set 2 (.tup (.cons (.k (.str (w "nil"))) (.cons (.tup (.cons (.k (.str (w "num"))) .nil)) .nil)))) (.cons (.for [3] (.fE (.op .sub true (.blt .len true (.cons (.v 0) .nil)) (.k (.int 1))) (.neg (.k (.int 1)))) Kq) (.cons (.ret (.v 2)) .nil)) from rfl, av (x:=(Pt.nil Kd.num).d) (M1:=M) (by rw [en];rfl)]
  exact (pP hi q).trans (aR rfl)
 exact aL fn22 rfl body (au (Pt.nr _) rfl)
theorem xE {z:Str} {t:Nat} {ch:MH->Bool} (hch:ch M=true):∀ (n j:Nat) (a:Option D), ∃ a', aS (exs Φ (.cons (.set 2 (.tup (.cons (.k (.str (w "tail"))) (.cons (.v 2) .nil)))) .nil)) [3] ch (nats (List.range' j n)) [some (.str z), some (.int (t:Int)), some (kh j).d, a] M=.ok (.nx [some (.str z), some (.int (t:Int)), some (kh (j+n)).d, a']) M
 | 0,j,a=>⟨a,rfl⟩
 | n+1,j,a=>by
  obtain ⟨a',q⟩:=xE (z:=z) (t:=t) hch n (j+1) (some (.int (j:Int)))
  refine ⟨a',?_⟩
  have e1:(kh (j+1)).d=.tup [.str (w "tail"), (kh j).d]:=by rw [kh, Pt.d];simp only [bU.ds];rfl
  show aS _ [3] ch (.int (j:Int)::nats (List.range' (j+1) n)) _ M=_
  rw [aS]
  show ((exs Φ _ [some (.str z),some (.int (t:Int)),some (kh j).d,some (.int (j:Int))] M).bind _)=_
  rw [av (x:=(kh (j+1)).d) (M1:=M) (by rw [e1];rfl)]
  show (if ch M then _ else _)=_
  rw [if_pos hch,show j+(n+1)=j+1+n by omega]
  exact q
theorem AF {o:Op} {t:Nat} (ht:t<=1000):(aa aj (k+1)).call 23 [.str o.w,.int (t:Int)] M=.ok (Pt.op o (.cons (kh t) .nil)).d M:=by
 have hi:aX (aa aj k) (.g8 (.v 1)) [some (.str o.w),some (.int (t:Int)),some (kh 0).d,none] M=.ok (.ao,nats (List.range t),false) M:=sH rfl (by omega)
 obtain ⟨a',q⟩:=xE (Φ:=aa aj k) (M:=M) (z:=o.w) (t:=t) (ch:=aP M .ao) rfl t 0 none
 rw [Nat.zero_add,<- List.range_eq_range'] at q
 have e0:(kh 0).d=.tup [.str (w "name"), .str (w "row")]:=by rw [kh, Pt.d]
 have e1:(Pt.op o (.cons (kh t) .nil)).d=.tup [.str o.w,(kh t).d]:=by rw [Pt.d];simp only [bU.ds]
 have body:exs (aa aj k) cK.body [some (.str o.w),some (.int (t:Int)),none,none] M=.ok (.rt (Pt.op o (.cons (kh t) .nil)).d) M:=by
  rw [show cK.body=.cons (.set 2 (.tup (.cons (.k (.str (w "name"))) (.cons (.k (.str (w "row"))) .nil)))) (.cons (.for [3] (.g8 (.v 1)) (.cons (.set 2 (.tup (.cons (.k (.str (w "tail"))) (.cons (.v 2) .nil)))) .nil)) (.cons (.ret (.tup (.cons (.v 0) (.cons (.v 2) .nil)))) .nil)) from rfl, av (x:=(kh 0).d) (M1:=M) (by rw [e0];rfl)]
  exact (pP hi q).trans (aR (by rw [e1];rfl))
 exact aL fn23 rfl body (au (Pt.nr _) rfl)
end
end bM
end
section
namespace bM
open Fg PySem
noncomputable def oS:Nat->Op
 | 0=>.look true false
 | 1=>.look true true
 | _=>.none
noncomputable def gone (i t:Nat) (is:List Int):Bool:=decide (is.length<t)||(decide (t=is.length)&&!decide (i=2))
noncomputable def ee (i t:Nat) (is:List Int):D:=match i with
 | 0=>.int (is.getD t 0)
 | 1=>.lst ((is.drop (t+1)).map D.int)
 | _=>.int (if t=is.length then 1 else 0)
section
variable {M M1 M2:MH} {k:Nat} {Φ:bF} {σ:Sg} {e e':E}
theorem o4 {i:Nat} (hi:i<3):decide ((oS i).w=w "none")=decide (i=2):=by
 have:i=0\/i=1\/i=2:=by omega
 rcases this with rfl | rfl | rfl <;> decide +kernel
theorem oZ {i:Nat} (hi:i<3):decide ((oS i).w=w "tail")=decide (i=1):=by
 have:i=0\/i=1\/i=2:=by omega
 rcases this with rfl | rfl | rfl <;> decide +kernel
theorem LJ {i t:Nat} {is:List Int} (hi:i<3) (hl:is.length<=1000) (ht:t<=1000):(aa aj (k+1)).call 24 [.str (oS i).w,.int (t:Int),.lst (is.map D.int)] M=.ok (if gone i t is then .ao else ee i t is) M:=by
 let σ:Sg:=[some (.str (oS i).w),some (.int (t:Int)),some (.lst (is.map D.int))]
 have l0:ev (aa aj k) (.blt .len true (.cons (.v 2) .nil)) σ M=.ok (.int (is.length:Int)) M:=by rw [kU (ds:=is.map D.int) rfl,List.length_map]
 have c1:ev (aa aj k) (.or (.cmp .gt (.v 1) (.blt .len true (.cons (.v 2) .nil))) (.and (.cmp .eq (.v 1) (.blt .len true (.cons (.v 2) .nil))) (.cmp .ne (.v 0) (.k (.str (w "none")))))) σ M=.ok (.bl (gone i t is)) M:=by
  have a3:ev (aa aj k) (.cmp .ne (.v 0) (.k (.str (w "none")))) σ M=.ok (.bl (!decide (i=2))) M:=by rw [<- o4 hi];exact Ez rfl
  exact Ia (EE rfl l0) fun _=>Al (Ak rfl l0) fun _=>a3
 cases hg:gone i t is with
 | true =>
  rw [hg] at c1
  exact aL HJ rfl (cT c1 (aR rfl)) (au rfl rfl)
 | false =>
  rw [hg] at c1
  have c2:ev (aa aj k) (.cmp .eq (.v 0) (.k (.str (w "none")))) σ M=.ok (.bl (decide (i=2))) M:=bA (c:=(oS i).w) rfl (o4 hi)
  by_cases h2:i=2
  ·rw [decide_eq_true h2] at c2
   have e1:ev (aa aj k) (.iT .int (.cmp .eq (.v 1) (.blt .len true (.cons (.v 2) .nil)))) σ M=.ok (ee i t is) M:=by
    have hd:ee 2 t is=.int (if t=is.length then 1 else 0):=rfl
    rw [kW (Ak rfl l0),h2,hd]
    by_cases h:t=is.length
    ·rw [decide_eq_true h,if_pos h];rfl
    ·rw [decide_eq_false h,if_neg h];rfl
   exact aL HJ rfl ((aE c1).trans (cT c2 (aR e1))) (au (by rw [h2];rfl) rfl)
  ·rw [decide_eq_false h2] at c2
   have hlt:t<is.length:=by
    unfold gone at hg
    simp only [Bool.or_eq_false_iff,Bool.and_eq_false_iff,decide_eq_false_iff_not,Bool.not_eq_false',decide_eq_true_eq] at hg
    omega
   have e1:ev (aa aj k) (.lst true (.cons (.idx (.v 2) (.v 1)) (.cons (.sl true (.v 2) (.some (.op .add true (.v 1) (.k (.int 1)))) .none) .nil))) σ M=.ok (.lst [.int (is.getD t 0),.lst ((is.drop (t+1)).map D.int)]) M:=by
    have a1:ev (aa aj k) (.idx (.v 2) (.v 1)) σ M=.ok (.int (is.getD t 0)) M:=iO (xs:=is.map D.int) rfl rfl (oM (by rw [List.getElem?_map,List.getD_eq_getElem?_getD,List.getElem?_eq_getElem hlt];rfl))
    have a2:ev (aa aj k) (.sl true (.v 2) (.some (.op .add true (.v 1) (.k (.int 1)))) .none) σ M=.ok (.lst ((is.drop (t+1)).map D.int)) M:=by
     rw [Aa,e_v (d:=.lst (is.map D.int)) rfl,R.af,kO,Ii (a:=t) (b:=1) rfl rfl,R.af]
     show R.ok (D.lst (c7 (is.map D.int) (some ((t+1:Nat):Int)) none)) M=_
     congr 2
     have h0:¬ (((t+1:Nat):Int))<0:=by omega
     simp only [c7,six,if_neg h0,List.length_map,Int.toNat_natCast]
     rw [Nat.min_eq_left (by omega:t+1<=is.length),List.map_drop,List.take_of_length_le (by simp)]
    rw [oj,cL a1 a2];rfl
   have e2:ev (aa aj k) (.iT .int (.cmp .eq (.v 0) (.k (.str (w "tail"))))) σ M=.ok (.int ((if decide (i=1) then 1 else 0:Nat):Int)) M:=kW (bA (c:=(oS i).w) rfl (oZ hi))
   have e3:ev (aa aj k) (.idx (.lst true (.cons (.idx (.v 2) (.v 1)) (.cons (.sl true (.v 2) (.some (.op .add true (.v 1) (.k (.int 1)))) .none) .nil))) (.iT .int (.cmp .eq (.v 0) (.k (.str (w "tail")))))) σ M=.ok (ee i t is) M:=by
    refine iO e1 e2 ?_
    have:i=0\/i=1:=by omega
    rcases this with rfl | rfl <;> rfl
   exact aL HJ rfl ((aE c1).trans ((aE c2).trans (aR e3))) (au (by
    have:i=0\/i=1:=by omega
    rcases this with rfl | rfl
    ·rfl
    ·simp only [ee,nr,iB]) rfl)
noncomputable def abcS:Str:=w "abcdefghi"
noncomputable def AO (k:Nat):Str:=⟨#[(abcS.cps.toList.getD k 0)]⟩
noncomputable def jF:Nat->Pt
 | 0=>.num 1
 | k+1=>.oU (AO k)
noncomputable def Dg:Nat->Pt->Pt
 | 0,p=>p
 | k+1,p=>Dg k (.lt (AO k) (.op (.lay false) (p2 (jF k) (jF k))) p)
theorem zC {j:Nat} (hj:j<9) {i:Int} (hi:i=(j:Int)) (hx:ev Φ e σ M=.ok (.int i) M):ev Φ (.idx (.k (.str (w "abcdefghi"))) e) σ M=.ok (.str (AO j)) M:=by
 subst hi
 rw [jl,kP,R.af,hx,R.af]
 have:j=0\/j=1\/j=2\/j=3\/j=4\/j=5\/j=6\/j=7\/j=8:=by omega
 rcases this with rfl | rfl | rfl | rfl | rfl | rfl | rfl | rfl | rfl <;> rfl
noncomputable def dB:Ss:=.cons (.set 3 (.tup (.cons (.k (.str (w "number"))) (.cons (.k (.int 1)) .nil)))) (.cons (.ifs (.cmp .gt (.v 2) (.k (.int 1))) (.cons (.set 3 (.tup (.cons (.k (.str (w "name"))) (.cons (.idx (.k (.str (w "abcdefghi"))) (.op .sub true (.v 2) (.k (.int 2)))) .nil)))) .nil) .nil) (.cons (.set 1 (.tup (.cons (.k (.str (w "let"))) (.cons (.idx (.k (.str (w "abcdefghi"))) (.op .sub true (.v 2) (.k (.int 1)))) (.cons (.tup (.cons (.k (.str (w "pair"))) (.cons (.v 3) (.cons (.v 3) .nil)))) (.cons (.v 1) .nil)))))) .nil))
theorem Au {n:Nat} {ch:MH->Bool} (hch:ch M=true):∀ (j:Nat) (p:Pt) (a b:Option D),j<=9->∃ a' b',aS (exs Φ dB) [2] ch ((List.range j).reverse.map fun (i:Nat)=>D.int ((i+1:Nat):Int)) [some (.int (n:Int)),some p.d,a,b] M=.ok (.nx [some (.int (n:Int)),some (Dg j p).d,a',b']) M
 | 0,p,a,b,_=>⟨a,b,rfl⟩
 | j+1, p, a, b, hj=>by
  obtain ⟨a',b',q⟩:=Au (n:=n) hch j (.lt (AO j) (.op (.lay false) (p2 (jF j) (jF j))) p) (some (.int ((j+1:Nat):Int))) (some (jF j).d) (by omega)
  refine ⟨a',b',?_⟩
  have e1:(Pt.num 1).d=.tup [.str (w "number"), .int 1]:=by rw [Pt.d]
  have e4:(Pt.lt (AO j) (.op (.lay false) (p2 (jF j) (jF j))) p).d=.tup [.str (w "let"), .str (AO j), .tup [.str (w "pair"), (jF j).d, (jF j).d], p.d]:=by
   rw [Pt.d,Pt.d,p2];simp only [bU.ds];rfl
  rw [fO,List.map_cons,aS]
  show ((exs Φ dB [some (.int (n:Int)),some p.d,some (.int ((j+1:Nat):Int)),b] M).bind _)=_
  have c1:ev Φ (.cmp .gt (.v 2) (.k (.int 1))) [some (.int (n:Int)),some p.d,some (.int ((j+1:Nat):Int)),some (Pt.num 1).d] M=.ok (.bl (decide (1<j+1))) M:=EE (b:=1) rfl rfl
  have i1:∀ ss, exs Φ (.cons (.ifs (.cmp .gt (.v 2) (.k (.int 1))) (.cons (.set 3 (.tup (.cons (.k (.str (w "name"))) (.cons (.idx (.k (.str (w "abcdefghi"))) (.op .sub true (.v 2) (.k (.int 2)))) .nil)))) .nil) .nil) ss) [some (.int (n:Int)), some p.d, some (.int ((j+1:Nat):Int)), some (Pt.num 1).d] M=exs Φ ss [some (.int (n:Int)), some p.d, some (.int ((j+1:Nat):Int)), some (jF j).d] M:=fun ss=>by
   cases j with
   | zero=>exact aE c1
   | succ j =>
    rw [decide_eq_true (by omega)] at c1
    have e2:ev Φ (.tup (.cons (.k (.str (w "name"))) (.cons (.idx (.k (.str (w "abcdefghi"))) (.op .sub true (.v 2) (.k (.int 2)))) .nil))) [some (.int (n:Int)), some p.d, some (.int ((j+1+1:Nat):Int)), some (Pt.num 1).d] M=.ok (jF (j+1)).d M:=by
     rw [bT, cL (x:=.str (w "name")) (M1:=M) rfl (zC (j:=j) (by omega) (i:=((j+1+1:Nat):Int)-2) (by omega) (mP rfl rfl)), jF, Pt.d];rfl
    exact pO c1 ((av e2).trans rfl)
  have e3:ev Φ (.tup (.cons (.k (.str (w "let"))) (.cons (.idx (.k (.str (w "abcdefghi"))) (.op .sub true (.v 2) (.k (.int 1)))) (.cons (.tup (.cons (.k (.str (w "pair"))) (.cons (.v 3) (.cons (.v 3) .nil)))) (.cons (.v 1) .nil))))) [some (.int (n:Int)), some p.d, some (.int ((j+1:Nat):Int)), some (jF j).d] M=.ok (Pt.lt (AO j) (.op (.lay false) (p2 (jF j) (jF j))) p).d M:=by
   rw [bT, aN (x:=.str (w "let")) (M1:=M) rfl (aN (zC (j:=j) (by omega) (i:=((j+1:Nat):Int)-1) (by omega) (mP rfl rfl)) (aN (x:=.tup [.str (w "pair"), (jF j).d, (jF j).d]) (M1:=M) rfl (aN (x:=p.d) (M1:=M) rfl rfl))), e4];rfl
  rw [dB,av (x:=(Pt.num 1).d) (M1:=M) (by rw [e1];rfl)]
  show ((exs Φ _ [some (.int (n:Int)),some p.d,some (.int ((j+1:Nat):Int)),some (Pt.num 1).d] M).bind _)=_
  rw [i1,av e3]
  show (if ch M then _ else _)=_
  rw [if_pos hch]
  exact q
theorem wW {n:Nat} (hn:n<=9):(aa aj (k+1)).call 25 [.int (n:Int)] M=.ok (Dg n (.num 7)).d M:=by
 have hi:=Ah (Φ:=aa aj k) (M:=M) (σ:=[some (.int (n:Int)),some (Pt.num 7).d,none,none]) (e:=.v 0) (e':=.k (.int 0)) (i:=(n:Int)) (j:=0) rfl rfl (uq (by omega)) (by decide)
 rw [BK] at hi
 obtain ⟨a',b',q⟩:=Au (Φ:=aa aj k) (M:=M) (n:=n) (ch:=aP M .ao) rfl n (.num 7) none none hn
 have e1:(Pt.num 7).d=.tup [.str (w "number"), .int 7]:=by rw [Pt.d]
 have body:exs (aa aj k) b9.body [some (.int (n:Int)),none,none,none] M=.ok (.rt (Dg n (.num 7)).d) M:=by
  rw [show b9.body=.cons (.set 1 (.tup (.cons (.k (.str (w "number"))) (.cons (.k (.int 7)) .nil)))) (.cons (.for [2] (.fE (.v 0) (.k (.int 0))) dB) (.cons (.ret (.v 1)) .nil)) from rfl, av (x:=(Pt.num 7).d) (M1:=M) (by rw [e1];rfl)]
  exact (pP hi q).trans (aR rfl)
 exact aL fn25 rfl body (au (Pt.nr _) rfl)
end
end bM
end
section
namespace bM
open Fg PySem
noncomputable def eT:List Int->D
 | []=>.ao
 | i::is=>.tup [.str (layW true),.int (1+bD (.int i)+bD (eT is)),.int i,eT is]
theorem ja:∀ is:List Int,bD (eT is)=1+2*(is.length:Int)
 | []=>rfl
 | i::is=>by
  have:=ja is
  show 1+bD (.int i)+bD (eT is)=_
  rw [this,List.length_cons]
  show 1+1+(1+2*(is.length:Int))=_
  omega
theorem eS:∀ is:List Int,is.length<=400->(∀ i∈is,mid i=true)->Vl (eT is)
 | [],_,_=>.ao
 | i::is,h,hm=>by
  simp only [List.length_cons] at h
  have hs:=ja is
  have h1:bD (.int i)=1:=rfl
  exact .cell (by rw [hs,h1];omega) (by rw [hs,h1];omega) (.int (hm i List.mem_cons_self)) (eS is (by omega) fun j hj=>hm j (List.mem_cons_of_mem _ hj))
theorem uz:∀ is:List Int,Ja (Tl 1) (eT is) (is.map D.int)
 | []=>.nil
 | i::is=>.cons (.inl ⟨i,rfl,rfl⟩) (uz is)
theorem nN {is:List Int} (h:is.length<=400):Tl 2 (eT is) (.lst (is.map D.int)):=.inr (.inr ⟨_,rfl,by simp;omega,uz is⟩)
theorem cY {kvs:Env} {k:Ky} {v:D}:look (put kvs k v) k=some v:=by
 unfold put look
 split
 ·rename_i h
  induction kvs with
  | nil=>simp at h
  | cons q kvs ih =>
   rw [List.map_cons]
   by_cases hq:q.1=k
   ·simp [hq]
   ·rw [if_neg hq,List.find?_cons_of_neg (by simpa using hq)]
    exact ih (by simpa [hq] using h)
 ·rename_i h
  have hn:kvs.find? (fun kv=>decide (kv.1=k))=none:=by
   rw [List.find?_eq_none]
   intro x hx hk
   exact h (List.any_eq_true.mpr ⟨x,hx,hk⟩)
  rw [List.find?_append,hn]
  simp
section
variable {fs:List Fd} {m b u:Int} {env:Env}
theorem Ev.two {o:Op} {p q:Pt} {n n2:Nat} {a c v:D} {b1 b2:Int} (h1:Ev fs m env b u (.p p) n [a] b1) (h2:Ev fs m env b1 u (.p q) n2 [c] b2) (hc:cA o [a,c] (.ok v)):Ev fs m env b u (.p (.op o (p2 p q))) (n+(n2+0)+2) [v] b2:=.op (by simp [p2,bU.ds]) (.cons h1 (.cons h2 .nJ)) hc
theorem Ev.one {o:Op} {p:Pt} {n:Nat} {a v:D} {b1:Int} (h1:Ev fs m env b u (.p p) n [a] b1) (hc:cA o [a] (.ok v)):Ev fs m env b u (.p (.op o (.cons p .nil))) (n+0+2) [v] b1:=.op (by simp [bU.ds]) (.cons h1 .nJ) hc
theorem iJ {g:Nat}:∀ (is:List Int) (k:Nat),(∀ j,k+j<g->∀ i,is[j]? = some i->look env (.inr (AV (k+j)))=some (.int i))->is.length<=400->(∀ i∈is,mid i=true)->Ev fs m env b u (.p (lJ g k is)) (1+3*is.length) [eT is] b
 | [],k,_,_,_=>.nil
 | i::is,k,hl,h4,hm=>by
  simp only [List.length_cons] at h4
  have ih:=iJ (g:=g) is (k+1) (fun j hj x hx=>by have:=hl (j+1) (by omega) x (by simpa using hx);rw [show k+(j+1)=k+1+j by omega] at this;exact this) (by omega) (fun j hj=>hm j (List.mem_cons_of_mem _ hj))
  have h1:Ev fs m env b u (.p (lI g k i)) 1 [.int i] b:=by
   unfold lI
   by_cases hk:k<g
   ·rw [if_pos hk];exact .oU (hl 0 hk i rfl)
   ·rw [if_neg hk];exact .num
  have hs:=ja is
  have hz:bD (.int i)=1:=rfl
  have hc:cA (.lay true) [.int i,eT is] (.ok (eT (i::is))):=by
   have:=cA.lay (c:=true) (.int (hm i List.mem_cons_self)) (eS is (by omega) fun j hj=>hm j (List.mem_cons_of_mem _ hj))
   rw [if_neg (by rw [hs,hz];omega)] at this
   exact this
  have:=Ev.two (o:=.lay true) h1 ih hc
  rw [show 1+(1+3*is.length+0)+2=1+3*(i::is).length by simp;omega] at this
  exact this
theorem iH {is:List Int} (hr:look env (.inr (w "row"))=some (eT is)) (h4:is.length<=400) (hm:∀ i∈is, mid i=true):∀ t, t<=is.length->Ev fs m env b u (.p (kh t)) (1+2*t) [eT (is.drop t)] b
 | 0,_=>.oU hr
 | t+1,ht=>by
  have hd:is.drop t=is[t]::is.drop (t+1):=List.drop_eq_getElem_cons (by omega)
  have ih:=iH hr h4 hm t (by omega)
  have h1:cA (.look true true) [eT (is.drop t)] (.ok (eT (is.drop (t+1)))):=by
   rw [hd]
   exact .look (.int (hm _ (List.getElem_mem _))) (eS _ (by simp;omega) fun j hj=>hm j (List.mem_of_mem_drop hj))
  exact Ev.one ih h1
theorem mK {is:List Int} (hr:look env (.inr (w "row"))=some (eT is)) (h4:is.length<=400) (hm:∀ i∈is, mid i=true):∀ t, is.length<t->∃ n, n<=3*t+3/\gD fs m env b u (.p (kh t)) n 3
 | 0,h=>absurd h (Nat.not_lt_zero _)
 | t+1,h=>by
  by_cases ht:is.length<t
  ·obtain ⟨n,hn,ih⟩:=mK hr h4 hm t ht
   exact ⟨n+1+1,by omega,.Mf (by simp [bU.ds]) (.head (by simp [bU.ds]) ih)⟩
  ·have:t=is.length:=by omega
   subst this
   have h1:=iH (fs:=fs) (m:=m) (b:=b) (u:=u) hr h4 hm is.length (Nat.le_refl _)
   rw [List.drop_length] at h1
   exact ⟨_,by omega,.lD (by simp [bU.ds]) (.cons h1 .nJ) .empty⟩
noncomputable def kX (i t:Nat) (is:List Int):D:=match i with
 | 0=>.int (is.getD t 0)
 | 1=>eT (is.drop (t+1))
 | _=>.int (if t=is.length then 1 else 0)
theorem wI {is:List Int} {i t:Nat} (hi:i<3) (hr:look env (.inr (w "row"))=some (eT is)) (h4:is.length<=400) (hm:∀ i∈is, mid i=true) (hg:gone i t is=false):Ev fs m env b u (.p (.op (oS i) (.cons (kh t) .nil))) (1+2*t+0+2) [kX i t is] b:=by
 unfold gone at hg
 simp only [Bool.or_eq_false_iff,Bool.and_eq_false_iff,decide_eq_false_iff_not,Bool.not_eq_false',decide_eq_true_eq] at hg
 have ht:t<=is.length:=by omega
 have h1:=iH (fs:=fs) (m:=m) (b:=b) (u:=u) hr h4 hm t ht
 refine Ev.one h1 ?_
 have hc:i=0\/i=1\/i=2:=by omega
 rcases hc with rfl | rfl | rfl
 ·have hd:is.drop t=is[t]'(by omega)::is.drop (t+1):=List.drop_eq_getElem_cons (by omega)
  have e:kX 0 t is=.int (is[t]'(by omega)):=by show D.int (is.getD t 0)=_;rw [List.getD_eq_getElem?_getD,List.getElem?_eq_getElem (by omega)];rfl
  rw [hd,e]
  exact .look (.int (hm _ (List.getElem_mem _))) (eS _ (by simp;omega) fun j hj=>hm j (List.mem_of_mem_drop hj))
 ·have hd:is.drop t=is[t]'(by omega)::is.drop (t+1):=List.drop_eq_getElem_cons (by omega)
  rw [hd]
  exact .look (.int (hm _ (List.getElem_mem _))) (eS _ (by simp;omega) fun j hj=>hm j (List.mem_of_mem_drop hj))
 ·have e:kX 2 t is=.int (if bJ (eT (is.drop t)) then 1 else 0):=by
   show D.int (if t=is.length then 1 else 0)=_
   by_cases h:t=is.length
   ·rw [if_pos h,h,List.drop_length];rfl
   ·rw [if_neg h,List.drop_eq_getElem_cons (by omega:t<is.length)];rfl
  rw [e]
  exact .none
theorem sD {is:List Int} {i t:Nat} (hi:i<3) (hr:look env (.inr (w "row"))=some (eT is)) (h4:is.length<=400) (hm:∀ i∈is, mid i=true) (hg:gone i t is=true):∃ n, n<=3*t+9/\gD fs m env b u (.p (.op (oS i) (.cons (kh t) .nil))) n 3:=by
 by_cases ht:is.length<t
 ·obtain ⟨n,hn,h⟩:=mK (fs:=fs) (m:=m) (b:=b) (u:=u) hr h4 hm t ht
  exact ⟨n+1+1,by omega,.Mf (by simp [bU.ds]) (.head (by simp [bU.ds]) h)⟩
 ·unfold gone at hg
  rw [decide_eq_false ht,Bool.false_or,Bool.and_eq_true] at hg
  have h2:t=is.length:=of_decide_eq_true hg.1
  have h3:¬ i=2:=by simpa using hg.2
  subst h2
  have h1:=iH (fs:=fs) (m:=m) (b:=b) (u:=u) hr h4 hm is.length (Nat.le_refl _)
  rw [List.drop_length] at h1
  have hc:i=0\/i=1:=by omega
  rcases hc with rfl | rfl
  ·exact ⟨_,by omega,.lD (by simp [bU.ds]) (.cons h1 .nJ) .empty⟩
  ·exact ⟨_,by omega,.lD (by simp [bU.ds]) (.cons h1 .nJ) .empty⟩
noncomputable def dV:Nat->D
 | 0=>.int 1
 | k+1=>.tup [.str (layW false),.int (1+bD (dV k)+bD (dV k)),dV k,dV k]
noncomputable def dE:Nat->Env
 | 0=>[]
 | k+1=>put (dE k) (.inr (AO k)) (dV (k+1))
theorem EM:∀ k,k<=9->bD (dV k)=([1,3,7,15,31,63,127,255,511,1023]:List Int).getD k 0:=by
 have h:∀ k,bD (dV (k+1))=1+bD (dV k)+bD (dV k):=fun k=>rfl
 have h0:bD (dV 0)=1:=rfl
 have h1:bD (dV 1)=3:=by rw [h,h0];rfl
 have h2:bD (dV 2)=7:=by rw [h,h1];rfl
 have h3:bD (dV 3)=15:=by rw [h,h2];rfl
 have h4:bD (dV 4)=31:=by rw [h,h3];rfl
 have h5:bD (dV 5)=63:=by rw [h,h4];rfl
 have h6:bD (dV 6)=127:=by rw [h,h5];rfl
 have h7:bD (dV 7)=255:=by rw [h,h6];rfl
 have h8:bD (dV 8)=511:=by rw [h,h7];rfl
 have h9:bD (dV 9)=1023:=by rw [h,h8];rfl
 intro k hk
 have hc:k=0\/k=1\/k=2\/k=3\/k=4\/k=5\/k=6\/k=7\/k=8\/k=9:=by omega
 rcases hc with rfl | rfl | rfl | rfl | rfl | rfl | rfl | rfl | rfl | rfl <;> assumption
theorem Av {k:Nat} (h:k<=8):1<=bD (dV k)/\bD (dV k)<=511:=by
 rw [EM k (by omega)]
 have hc:k=0\/k=1\/k=2\/k=3\/k=4\/k=5\/k=6\/k=7\/k=8:=by omega
 rcases hc with rfl | rfl | rfl | rfl | rfl | rfl | rfl | rfl | rfl <;> decide
theorem k8:∀ k,k<=8->Vl (dV k)
 | 0,_=>.int (by decide +kernel)
 | k+1,h=>by
  have h1:=Av (k:=k+1) (by omega)
  have ih:=k8 k (by omega)
  exact .cell h1.1 (by have:bD (dV (k+1))=1+bD (dV k)+bD (dV k):=rfl;omega) ih ih
theorem sO:∀ k,(dE k).length<=k
 | 0=>Nat.le_refl _
 | k+1=>Nat.le_trans ua (by have:=sO k;omega)
theorem mL:∀ k,Ev fs m (dE k) b u (.p (jF k)) 1 [dV k] b
 | 0=>.num
 | k+1=>.oU cY
theorem Ad:∀ (k:Nat) (p:Pt) (n:Nat) (v:D),k<=8->Ev fs m (dE k) b u (.p p) n [v] b->Ev fs m [] b u (.p (Dg k p)) (n+6*k) [v] b
 | 0,p,n,v,_,h=>h
 | k+1,p,n,v,hk,h=>by
  have h1:=Av (k:=k+1) (by omega)
  have hc:cA (.lay false) [dV k,dV k] (.ok (dV (k+1))):=by
   have:=cA.lay (c:=false) (k8 k (by omega)) (k8 k (by omega))
   rw [if_neg (by have:bD (dV (k+1))=1+bD (dV k)+bD (dV k):=rfl;omega)] at this
   exact this
  have h2:=Ev.two (o:=.lay false) (mL (fs:=fs) (m:=m) (b:=b) (u:=u) k) (mL k) hc
  have h3:Ev fs m (dE k) b u (.p (.lt (AO k) (.op (.lay false) (p2 (jF k) (jF k))) p)) (1+(1+0)+2+n+2) [v] b:=.lt (by have:=sO k;omega) h2 h
  have:=Ad k _ _ _ (by omega) h3
  rw [show 1+(1+0)+2+n+2+6*k=n+6*(k+1) by omega] at this
  exact this
theorem uM:∀ (k:Nat) (p:Pt) (n e:Nat),k<=8->gD fs m (dE k) b u (.p p) n e->gD fs m [] b u (.p (Dg k p)) (n+6*k) e
 | 0,p,n,e,_,h=>h
 | k+1,p,n,e,hk,h=>by
  have h1:=Av (k:=k+1) (by omega)
  have hc:cA (.lay false) [dV k,dV k] (.ok (dV (k+1))):=by
   have:=cA.lay (c:=false) (k8 k (by omega)) (k8 k (by omega))
   rw [if_neg (by have:bD (dV (k+1))=1+bD (dV k)+bD (dV k):=rfl;omega)] at this
   exact this
  have h2:=Ev.two (o:=.lay false) (mL (fs:=fs) (m:=m) (b:=b) (u:=u) k) (mL k) hc
  have h3:gD fs m (dE k) b u (.p (.lt (AO k) (.op (.lay false) (p2 (jF k) (jF k))) p)) (1+(1+0)+2+n+2) e:=.lt2 (by have:=sO k;omega) h2 h
  have:=uM k _ _ _ (by omega) h3
  rw [show 1+(1+0)+2+n+2+6*k=n+6*(k+1) by omega] at this
  exact this
theorem zW {p:Pt}:∃ n,n<=100/\gD fs m [] b u (.p (Dg 9 p)) n 2:=by
 have hc:cA (.lay false) [dV 8,dV 8] (.exc 2):=by
  have:=cA.lay (c:=false) (k8 8 (by omega)) (k8 8 (by omega))
  rw [if_pos (by rw [EM 8 (by omega)];decide)] at this
  exact this
 have h2:gD fs m (dE 8) b u (.p (.op (.lay false) (p2 (jF 8) (jF 8)))) (1+(1+0)+2) 2:=.lD (by simp [p2,bU.ds]) (.cons (mL 8) (.cons (mL 8) .nJ)) hc
 exact ⟨_,by decide,uM 8 (.lt (AO 8) (.op (.lay false) (p2 (jF 8) (jF 8))) p) _ _ (Nat.le_refl _) (.lt1 h2)⟩
end
end bM
end
section
namespace bM
open Fg PySem
theorem Sh.up {lo:Nat} {M:MH}:∀ {n:Nat} {y d:D},Sh lo M n y d->Sh lo M (n+1) y d
 | 0,_,_,h=>h.elim
 | n+1,y,d,q=>by
  rcases q with q | ⟨a,b,x,z,h1,h2,h3,h4⟩ | ⟨r,ys,xs,h1,h2,h3,h4,h5⟩
  ·exact .inl q
  ·exact .inr (.inl ⟨a,b,x,z,h1,h2,h3.up,h4.up⟩)
  ·exact .inr (.inr ⟨r,ys,xs,h1,h2,h3,h4,h5.imp fun _ _=>Sh.up⟩)
theorem Sh.lev {lo:Nat} {M:MH} {n m:Nat} {y d:D} (h:Sh lo M n y d) (hm:n<=m):Sh lo M m y d:=by
 induction hm with
 | refl=>exact h
 | step _ ih=>exact ih.up
theorem tW {lo:Nat} {M:MH} {n:Nat}:∀ {is:List Int} {ys:List D},lR (Sh lo M n) ys (is.map D.int)->ys=is.map D.int
 | [],_,.nil=>rfl
 | i::is,y::ys,.cons h r=>by
  rw [List.map_cons,tW r]
  congr 1
  cases n with
  | zero=>exact h.elim
  | succ n =>
   rcases h with ⟨j,h1,h2⟩ | ⟨a,b,x,z,h1,h2,_⟩ | ⟨r,ys,xs,h1,h2,_⟩
   ·cases h2;exact h1
   ·cases h2
   ·cases h2
theorem rq {lo:Nat} {M:MH} {n:Nat} {is:List Int} {y:D} (h:Sh lo M n y (.lst (is.map D.int))):∃ r,y=.ref r/\lo<=r/\M[r]? = some (.lst (is.map D.int)):=by
 cases n with
 | zero=>exact h.elim
 | succ n =>
  rcases h with ⟨j,h1,h2⟩ | ⟨a,b,x,z,h1,h2,_⟩ | ⟨r,ys,xs,h1,h2,h3,h4,h5⟩
  ·cases h2
  ·cases h2
  ·cases h2
   rw [tW h5] at h4
   exact ⟨r,h1,h3,h4⟩
section
variable {k n:Nat} {M M0:MH} {fs:List Fd} {f:Fd} {nu:List D} {m b':Int}
theorem vE {sz:Int} {a b x y:D} {n:Nat} (h1:Tl n a x) (h2:Tl n b y):∃ ya yb X1 X2,(aa aj (k+n+1)).call 8 [.tup [.str (layW false),.int sz,a,b]] M=.ok (.tup [ya,yb]) (M++X1++X2)/\Sh M.length (M++X1) n ya x/\Sh (M++X1).length (M++X1++X2) n yb y:=by
 obtain ⟨ya,X1,q1,s1⟩:=xD (k:=k) n a x M h1
 obtain ⟨yb,X2,q2,s2⟩:=xD (k:=k) n b y (M++X1) h2
 refine ⟨ya,yb,X1,X2,?_,s1,s2⟩
 have e1:ev (aa aj (k+n)) (.r9 (.v 0) .int) [some (.tup [.str (layW false),.int sz,a,b]),none] M=.ok (.bl false) M:=rfl
 have e2:ev (aa aj (k+n)) (.and (.cmp .gQ (.v 0) (.k .ao)) (.cmp .eq (.idx (.v 0) (.k (.int 0))) (.k (.str (w "pair"))))) [some (.tup [.str (layW false), .int sz, a, b]), none] M=.ok (.bl true) M:=by
  have e:ev (aa aj (k+n)) (.cmp .eq (.idx (.v 0) (.k (.int 0))) (.k (.str (w "pair")))) [some (.tup [.str (layW false), .int sz, a, b]), none] M=.ok (.bl true) M:=bA (aC rfl rfl aT) (by decide +kernel)
  rw [om]
  exact e
 have e3:ev (aa aj (k+n)) (.tup (.cons (.call 8 (.cons (.idx (.v 0) (.k (.int 2))) .nil)) (.cons (.call 8 (.cons (.idx (.v 0) (.k (.int 3))) .nil)) .nil))) [some (.tup [.str (layW false),.int sz,a,b]),none] M=.ok (.tup [ya,yb]) (M++X1++X2):=by
  rw [bT,cL ((bB (aC rfl rfl m8)).trans q1) ((bB (aC rfl rfl m7)).trans q2)];rfl
 exact aL (P:=aj) (k:=k+n) K1 rfl ((aE e1).trans (cT e2 (aR e3))) rfl
theorem ye {is:List Int} (hf:fs.find? (fun g=>decide (g.nm=w "main"))=some f) (ht:f.tk.length<=1000) (h:Ev fs m (envOf [] (f.tk.map (·.1)) nu) 0 0 (.p f.bd) n [eT is] b') (hn:n<=90000) (hl:is.length<=400) :
  (aa aj (k+7)).call 10 [.lst (fs.map Fd.d),.lst nu,.int m] M0=.ok (.lst (is.map D.int)) M0:=by
 obtain ⟨T,hT⟩:=oJ (k:=k) (M0:=M0) hf ht h hn
 obtain ⟨y,X,q,sh⟩:=xD (k:=k+4) 2 (eT is) (.lst (is.map D.int)) (({ ju M0 fs f nu m with todo:=[],wt:=[],bg:=b',T:=T }:Px).h M0) (nN hl)
 rw [app] at q
 rw [hT y X q]
 obtain ⟨r,rfl,hr,hM⟩:=rq sh
 rw [app] at hM
 have hr':M0.length<=r:=by rw [len] at hr;omega
 unfold cJ
 rw [if_pos ⟨rfl,iX⟩,if_neg (by simp only [nr,decide_eq_true_eq];omega)]
 simp only [hM,iB,if_true]
theorem BI {i:Int} (hf:fs.find? (fun g=>decide (g.nm=w "main"))=some f) (ht:f.tk.length<=1000) (h:Ev fs m (envOf [] (f.tk.map (·.1)) nu) 0 0 (.p f.bd) n [.int i] b') (hn:n<=90000) :
  (aa aj (k+7)).call 10 [.lst (fs.map Fd.d),.lst nu,.int m] M0=.ok (.int i) M0:=by
 obtain ⟨T,hT⟩:=oJ (k:=k) (M0:=M0) hf ht h hn
 have q:(aa aj (k+6)).call 8 [.int i] (({ ju M0 fs f nu m with todo:=[],wt:=[],bg:=b',T:=T }:Px).h M0)=.ok (.int i) (({ ju M0 fs f nu m with todo:=[],wt:=[],bg:=b',T:=T++[] }:Px).h M0):=by
  rw [List.append_nil]
  exact aL (P:=aj) (k:=k+5) K1 rfl (cT (x:=.int i) (M1:=Px.h _ M0) rfl rfl) rfl
 rw [hT _ _ q]
 exact fN rfl iX
theorem pQ {is:List Int} {sz:Int} {x dx:D} (hf:fs.find? (fun g=>decide (g.nm=w "main"))=some f) (ht:f.tk.length<=1000) (h:Ev fs m (envOf [] (f.tk.map (·.1)) nu) 0 0 (.p f.bd) n [.tup [.str (layW false), .int sz, eT is, x]] b') (hn:n<=90000) (hl:is.length<=400) (hx:Tl 2 x dx) :
  ∃ (s':Px) (r:Nat) (y:D),(aa aj (k+7)).call 10 [.lst (fs.map Fd.d),.lst nu,.int m] M0=.ok (.tup [.ref r,y]) (s'.h M0)/\M0.length<=r/\(s'.h M0)[r]? = some (.lst (is.map D.int))/\Sh (r+1) (s'.h M0) 2 y dx:=by
 obtain ⟨T,hT⟩:=oJ (k:=k) (M0:=M0) hf ht h hn
 obtain ⟨ya,yb,X1,X2,q,s1,s2⟩:=vE (k:=k+3) (M:=({ ju M0 fs f nu m with todo:=[],wt:=[],bg:=b',T:=T }:Px).h M0) (sz:=sz) (n:=2) (nN hl) hx
 obtain ⟨r,rfl,hr,hM⟩:=rq s1
 have hr2:r<(({ ju M0 fs f nu m with todo:=[],wt:=[],bg:=b',T:=T }:Px).h M0++X1).length:=(List.getElem?_eq_some_iff.mp hM).1
 have KS:((({ ju M0 fs f nu m with todo:=[],wt:=[],bg:=b',T:=T }:Px).h M0)++X1++X2)[r]? = some (.lst (is.map D.int)):=by rw [List.getElem?_append_left hr2];exact hM
 have s3:Sh (r+1) ((({ ju M0 fs f nu m with todo:=[],wt:=[],bg:=b',T:=T }:Px).h M0)++X1++X2) 2 yb dx:=s2.mono (by omega) fun _ _ _ h=>h
 rw [List.append_assoc,app] at q KS s3
 have hr':M0.length<=r:=by rw [len] at hr;omega
 refine ⟨{ ju M0 fs f nu m with todo:=[],wt:=[],bg:=b',T:=T++(X1++X2) },r,yb,?_,hr',KS,s3⟩
 rw [hT _ _ q]
 unfold cJ
 rw [if_pos ⟨rfl,iX⟩,if_neg (by
  simp only [nr,dS,Bool.and_true,Bool.and_eq_true,decide_eq_true_eq,not_and]
  intro h0;omega)]
noncomputable def Ei:Hs:=.cons [3] (.cons (.set 2 (.k (.str (w "empty")))) .nil) (.cons [2] (.cons (.set 2 (.k (.str (w "great")))) .nil) (.cons [0] (.cons (.set 2 (.k (.str (w "other")))) .nil) .nil))
variable {P N y:D} {M1:MH}
theorem AD {Φ:bF} {σ:Sg} (h:σ[0]? = some (some P)) (h1:σ[1]? = some (some N)):ev Φ (.gM 10 (.cons (.v 0) (.cons (.v 1) .nil)) 200) σ M=Φ.call 10 [P,N,.int 200] M:=by
 rw [Ae,cL (e_v h) (e_v h1)];rfl
theorem oO (h:(aa aj k).call 10 [P, N, .int 200] M=.ok y M1):(aa aj (k+1)).call 26 [P, N] M=cJ false M (.tup [.str (w ""), y]) M1:=by
 have et:ex (aa aj k) (.try (.cons (.set 3 (.gM 10 (.cons (.v 0) (.cons (.v 1) .nil)) 200)) .nil) Ei .nil) [some P, some N, some (.str (w "")), some .ao] M=.ok (.nx [some P, some N, some (.str (w "")), some y]) M1:=by
  rw [zU,av ((AD rfl rfl).trans h)];rfl
 exact aL K3 rfl ((av rfl).trans ((av rfl).trans ((i6 et).trans (aR rfl)))) rfl
noncomputable def rW (c:Nat):Str:=if c=3 then w "empty" else w "great"
theorem ER {c:Nat} (hc:c=3\/c=2) (h:(aa aj k).call 10 [P,N,.int 200] M=.exc c M):(aa aj (k+1)).call 26 [P,N] M=.ok (.tup [.str (rW c),.ao]) M:=by
 have sub:(aa aj k).sub=aj.sub:=wU
 have et:ex (aa aj k) (.try (.cons (.set 3 (.gM 10 (.cons (.v 0) (.cons (.v 1) .nil)) 200)) .nil) Ei .nil) [some P, some N, some (.str (w "")), some .ao] M=.ok (.nx [some P, some N, some (.str (rW c)), some .ao]) M:=by
  rw [zU,Fx ((AD rfl rfl).trans h),R.af]
  show A0 (aa aj k) _ c _ M=_
  rw [Ei,qu,qu,sub]
  rcases hc with rfl | rfl <;> rfl
 exact aL K3 rfl ((av rfl).trans ((av rfl).trans ((i6 et).trans (aR rfl)))) (au (by simp [nr,dS]) rfl)
end
end bM
end
section
namespace bM
open Fg PySem
noncomputable def cells (ns:List Int):List Int:=c7 ns (some 2) (some 9)
noncomputable def gN (ns:List Int):Nat:=min (sd ns % 4) (cells ns).length
noncomputable def nums (ns:List Int):List Int:=lH (gN ns) (cells ns)
noncomputable def lW (g:Nat):List (Str×Kd):=(List.range g).map fun j=>(AV j,.num)
noncomputable def iM (g:Nat) (is:List Int):Env:=envOf [] ((lW g).map (·.1)) ((is.take g).map D.int)
section
variable {ns:List Int}
theorem mW:(cells ns).length<=7:=by
 simp only [cells,c7,List.length_take,List.length_drop,six]
 have h1:¬ (2:Int)<0:=by decide
 have h2:¬ (9:Int)<0:=by decide
 rw [if_neg h1,if_neg h2]
 show min (min 9 ns.length-min 2 ns.length) _<=7
 omega
theorem KZ:gN ns<=3/\gN ns<=(nums ns).length:=by
 unfold nums
 rw [qf]
 unfold gN
 omega
theorem yN:(nums ns).length<=7:=by unfold nums;rw [qf];exact mW
end
theorem gn:∀ (xs:List Str) (vs:List D) (kvs:Env),(envOf kvs xs vs).length<=kvs.length+xs.length
 | [],vs,kvs=>by simp [envOf]
 | x::xs,[],kvs=>by simp [envOf]
 | x::xs,v::vs,kvs=>by
  have:=gn xs vs (put kvs (.inr x) v)
  have h2:=ua (kvs:=kvs) (k:=.inr x) (v:=v)
  simp only [envOf,List.length_cons];omega
theorem uv:decide (w "u" = w "v")=false/\decide (w "u" = w "w")=false/\decide (w "v" = w "w")=false/\decide (w "v" = w "u")=false/\decide (w "w" = w "u")=false/\decide (w "w" = w "v")=false:=by decide +kernel
theorem iL {g:Nat} {is:List Int} (hg:g<=3) (hl:g<=is.length):∀ j,0+j<g->∀ i,is[j]? = some i->look (iM g is) (.inr (AV (0+j)))=some (.int i):=by
 intro j hj i hi
 obtain ⟨h1,h2,h3,h4,h5,h6⟩:=uv
 have MF:=of_decide_eq_false h1
 have h2':=of_decide_eq_false h2
 have h3':=of_decide_eq_false h3
 have h4':=of_decide_eq_false h4
 have h5':=of_decide_eq_false h5
 have h6':=of_decide_eq_false h6
 have hc:g=0\/g=1\/g=2\/g=3:=by omega
 rcases hc with rfl | rfl | rfl | rfl
 ·omega
 ·have:j=0:=by omega
  subst this
  match is,hl with
  | a::is,_ =>
   cases hi
   simp [iM,lW,envOf,List.range_succ,AV,put,look]
 ·match is,hl with
  | a::b::is,_ =>
   have:j=0\/j=1:=by omega
   rcases this with rfl | rfl <;> cases hi <;> simp [iM,lW,envOf,List.range_succ,AV,put,look,MF,h4']
 ·match is,hl with
  | a::b::c::is,_ =>
   have:j=0\/j=1\/j=2:=by omega
   rcases this with rfl | rfl | rfl <;> cases hi <;> simp [iM,lW,envOf,List.range_succ,AV,put,look,MF,h2',h3',h4',h5',h6']
theorem EL {x:Str} {a b:Pt}:(Pt.lt x a b).d=.tup [.str (w "let"), .str x, a.d, b.d]:=by rw [Pt.d]
theorem EK {x:Str}:(Pt.oU x).d=.tup [.str (w "name"), .str x]:=by rw [Pt.d]
theorem As {a b:Pt}:(Pt.op (.lay false) (p2 a b)).d=.tup [.str (w "pair"), a.d, b.d]:=by
 rw [Pt.d,p2];simp only [bU.ds];rfl
noncomputable def vN:Pt:=.oU (w "row")
noncomputable def j6 (g i t:Nat) (is:List Int):Pt:=.lt (w "row") (lJ g 0 is) (.op (.lay false) (p2 vN (.op (oS i) (.cons (kh t) .nil))))
noncomputable def LN (g:Nat) (is:List Int):Pt:=.lt (w "row") (lJ g 0 is) (.op (.lay false) (p2 vN vN))
noncomputable def yZ (g:Nat) (kd:Kd) (b:Pt):Fd:=⟨w "main", lW g, kd, b⟩
theorem cO {f:Fd} (h:f.nm=w "main"):[f].find? (fun g=>decide (g.nm=w "main"))=some f:=by
 rw [List.find?_cons_of_pos (by simpa using h)]
section
variable {g i t:Nat} {is:List Int} {m:Int} {fs:List Fd}
theorem uY (hl:is.length<=7) (hm:∀ i∈is,mid i=true) (hi:i<3) (hg:gone i t is=false):Vl (kX i t is)/\bD (kX i t is)<=15/\Tl 2 (kX i t is) (ee i t is):=by
 have hc:i=0\/i=1\/i=2:=by omega
 rcases hc with rfl | rfl | rfl
 ·refine ⟨.int ?_,?_,.inl ⟨_,rfl,rfl⟩⟩
  ·rw [List.getD_eq_getElem?_getD]
   cases h:is[t]? with
   | none=>exact (by decide +kernel:mid 0=true)
   | some x=>exact hm x (List.mem_of_getElem? h)
  ·exact (by decide:(1:Int)<=15)
 ·refine ⟨eS _ (by simp;omega) fun j hj=>hm j (List.mem_of_mem_drop hj),?_,nN (by simp;omega)⟩
  show bD (eT (is.drop (t+1)))<=15
  rw [ja,List.length_drop]
  omega
 ·refine ⟨.int ?_,(by decide:(1:Int)<=15),.inl ⟨_,rfl,rfl⟩⟩
  split <;> decide +kernel
theorem ev2 (KQ:g<=3) (KP:g<=is.length) (hl:is.length<=7) (hm:∀ i∈is,mid i=true) (hi:i<3) (hg:gone i t is=false):Ev fs m (iM g is) 0 0 (.p (j6 g i t is)) (1+3*is.length+(1+(1+2*t+0+2+0)+2)+2) [.tup [.str (layW false),.int (1+bD (eT is)+bD (kX i t is)),eT is,kX i t is]] 0:=by
 have he:(iM g is).length<1000:=by have:=gn ((lW g).map (·.1)) ((is.take g).map D.int) [];simp [lW] at this;unfold iM;simp [lW];omega
 obtain ⟨v1,v2,_⟩:=uY (t:=t) hl hm hi hg
 have hs:=ja is
 have hc:cA (.lay false) [eT is,kX i t is] (.ok (.tup [.str (layW false),.int (1+bD (eT is)+bD (kX i t is)),eT is,kX i t is])):=by
  have:=cA.lay (c:=false) (eS is (by omega) hm) v1
  rw [if_neg (by omega)] at this
  exact this
 exact .lt he (iJ is 0 (iL KQ KP) (by omega) hm) (Ev.two (.oU cY) (wI hi cY (by omega) hm hg) hc)
theorem ev2x (KQ:g<=3) (KP:g<=is.length) (hl:is.length<=7) (hm:∀ i∈is,mid i=true) (hi:i<3) (hg:gone i t is=true):∃ n,n<=3*t+100/\gD fs m (iM g is) 0 0 (.p (j6 g i t is)) n 3:=by
 have he:(iM g is).length<1000:=by have:=gn ((lW g).map (·.1)) ((is.take g).map D.int) [];simp [lW] at this;unfold iM;simp [lW];omega
 obtain ⟨n, hn, h⟩:=sD (fs:=fs) (m:=m) (b:=0) (u:=0) (env:=put (iM g is) (.inr (w "row")) (eT is)) hi cY (by omega) hm hg
 exact ⟨_,by omega,.lt2 he (iJ is 0 (iL KQ KP) (by omega) hm) (.Mf (by simp [p2,bU.ds]) (.tail (n:=1) (by simp [bU.ds]) (.oU cY) (.head (by simp [bU.ds]) h)))⟩
theorem ev3 (KQ:g<=3) (KP:g<=is.length) (hl:is.length<=7) (hm:∀ i∈is,mid i=true):Ev fs m (iM g is) 0 0 (.p (LN g is)) (1+3*is.length+(1+(1+0)+2)+2) [.tup [.str (layW false),.int (1+bD (eT is)+bD (eT is)),eT is,eT is]] 0:=by
 have he:(iM g is).length<1000:=by have:=gn ((lW g).map (·.1)) ((is.take g).map D.int) [];simp [lW] at this;unfold iM;simp [lW];omega
 have hs:=ja is
 have hc:cA (.lay false) [eT is,eT is] (.ok (.tup [.str (layW false),.int (1+bD (eT is)+bD (eT is)),eT is,eT is])):=by
  have:=cA.lay (c:=false) (eS is (by omega) hm) (eS is (by omega) hm)
  rw [if_neg (by omega)] at this
  exact this
 exact .lt he (iJ is 0 (iL KQ KP) (by omega) hm) (Ev.two (.oU cY) (.oU cY) hc)
end
end bM
end
section
namespace bM
open Fg PySem
theorem Ij {i t:Nat} {is:List Int} (hi:i<3):Fg.plain (ee i t is)=true/\dep (ee i t is)<=1:=by
 have hc:i=0\/i=1\/i=2:=by omega
 rcases hc with rfl | rfl | rfl
 ·simp [ee,Fg.plain,dep]
 ·have:=jg (is.drop (t+1))
  simp only [ee,Fg.plain,dep,this.1,true_and];omega
 ·simp [ee,Fg.plain,dep]
theorem uZ {i t:Nat} {is:List Int} (hi:i<3):bJ (ee i t is)=false:=by
 have hc:i=0\/i=1\/i=2:=by omega
 rcases hc with rfl | rfl | rfl <;> rfl
theorem tk_d {g:Nat}:(lW g).map (fun t=>D.tup [.str t.1, t.2.d])=(List.range g).map fun j=>D.tup [.str (AV j), .tup [.str (w "num")]]:=by
 simp [lW,Kd.d]
theorem jV {g:Nat} (h:g<=3):(lW g).length<=1000:=by simp [lW];omega
section
variable {k:Nat} {Φ:bF} {σ:Sg} {M:MH} {e:E}
theorem Aw {is:List Int} {g:Nat} (hg:g<=is.length):c7 (is.map D.int) none (some (g:Int))=(is.take g).map D.int:=by
 have h0:¬ ((g:Int))<0:=by omega
 simp only [c7,six,if_neg h0,List.length_map,Int.toNat_natCast,List.drop_zero,Nat.sub_zero]
 rw [Nat.min_eq_left hg,List.map_take]
theorem Ag {is:List Int} {g:Nat} (h3:σ[3]? = some (some (.lst (is.map D.int)))) (h2:σ[2]? = some (some (.int (g:Int)))) (hg:g<=is.length):ev Φ (.sl true (.v 3) .none (.some (.v 2))) σ M=.ok (.lst ((is.take g).map D.int)) M:=by
 rw [Aa,e_v h3,R.af,zX,R.af,kO,e_v h2,R.af]
 show R.ok (D.lst (c7 (is.map D.int) none (some (g:Int)))) M=_
 rw [Aw hg]
theorem uV {ns:List Int} (h0:σ[0]? = some (some (.lst (ns.map D.int)))):ev Φ (.sl true (.v 0) (.some (.k (.int 2))) (.some (.k (.int 9)))) σ M=.ok (.lst ((cells ns).map D.int)) M:=by
 rw [Aa,e_v h0,R.af,kO,kP,R.af]
 show R.ok (D.lst (c7 (ns.map D.int) (some 2) (some 9))) M=_
 congr 2
 simp only [cells,c7,List.length_map,List.map_take,List.map_drop]
theorem uy {a b d:D} (ha:deep 119 M a=d) (hb:deep 119 M b=d) (hp:Fg.plain d=true) (hd:dep d<=50) (hn:Fg.plain a=false):bf .ne M (.tup [.str (w ""), a]) (.tup [.str (w ""), b])=.ok (.bl false) M:=by
 have hP:Fg.plain (.tup [.str (w ""), d])=true:=by simp only [Fg.plain, az, hp, Bool.and_self]
 rw [ne_x rfl (by simp [aZ,top,Fg.plain,az,hn]) rfl]
 refine HX (d:=.tup [.str (w ""), d]) ?_ ?_ hP ?_
 ·simp only [ou,List.map_cons,List.map_nil,ha,Aq]
 ·simp only [ou,List.map_cons,List.map_nil,hb,Aq]
 ·simp only [dep,deps];omega
theorem ze {k:Nat} (ns:List Int) (hns:ns.length<=63):∃ M',(aa aj (k+9)).call 27 [.lst (ns.map .int)] []=.ok (.bl true) M':=by
 let Φ:=aa aj (k+8)
 have hG:=KZ (ns:=ns)
 have hN:=yN (ns:=ns)
 have hC:=mW (ns:=ns)
 have hm:∀ i∈nums ns,mid i=true:=yV
 let g:=gN ns
 let is:=nums ns
 let s:=sd ns
 let L:D:=.lst (ns.map D.int)
 let N:D:=.lst (is.map D.int)
 let TK:D:=.lst ((lW g).map fun t=>.tup [.str t.1,t.2.d])
 let KD:D:=.tup [.str (w "list"), .tup [.str (w "num")]]
 let H:D:=.lst ((is.take g).map D.int)
 let i:=s / 4 % 3
 let t:=s / 12 % 8
 have hi:i<3:=Nat.mod_lt _ (by decide)
 have ht:t<8:=Nat.mod_lt _ (by decide)
 let nn (n:Nat):List (Option D):=List.replicate n none
 have s1:ev Φ (.call 20 (.cons (.v 0) (.cons (.k (.int 0)) .nil))) [some L,none,none,none,none,none,none,none,none,none,none,none,none,none,none] []=.ok (.int (s:Int)) []:=by
  rw [aO,cL (x:=L) (y:=.int 0) (M1:=[]) (M2:=[]) rfl rfl,R.af];exact Io (k:=k+6)
 have s2:ev Φ (.mx false (.op .mod true (.v 1) (.k (.int 4))) (.blt .len true (.cons (.sl true (.v 0) (.some (.k (.int 2))) (.some (.k (.int 9)))) .nil))) [some L,some (.int (s:Int)),none,none,none,none,none,none,none,none,none,none,none,none,none] []=.ok (.int (g:Int)) [] :=
  Lp (kT (b:=4) rfl rfl (by decide)) (by rw [kU (uV (ns:=ns) rfl),List.length_map])
 have s3:ev Φ (.call 21 (.cons (.sl true (.v 0) (.some (.k (.int 2))) (.some (.k (.int 9)))) (.cons (.v 2) .nil))) [some L,some (.int (s:Int)),some (.int (g:Int)),none,none,none,none,none,none,none,none,none,none,none,none] []=.ok N []:=by
  rw [aO,cL (uV (ns:=ns) rfl) (y:=.int (g:Int)) (M2:=[]) rfl,R.af];exact wV (k:=k+6) (by omega)
 have s4:ev Φ (.comp true [] [0] (.tup (.cons (.idx (.k (.str (w "uvw"))) (.v 0)) (.cons (.tup (.cons (.k (.str (w "num"))) .nil)) .nil))) (.g8 (.v 2)) .none) [some L, some (.int (s:Int)), some (.int (g:Int)), some N, none, none, none, none, none, none, none, none, none, none, none] []=.ok TK []:=by
  have hi0:aX Φ (.g8 (.v 2)) [some L,some (.int (s:Int)),some (.int (g:Int)),some N,none,none,none,none,none,none,none,none,none,none,none] []=.ok (.ao,nats (List.range g),false) []:=sH rfl (by show gN ns<=1000000;omega)
  refine (uU hi0 (Ks (f:=fun j=>.tup [.str (AV j), .tup [.str (w "num")]]) rfl (fun j hj=>?_) (by rw [List.length_range];show gN ns<=1000;omega))).trans ?_
  ·have hj':j<gN ns:=List.mem_range.mp hj
   show ev Φ (.tup _) [some (.int (j:Int))] []=_
   rw [bT, cL (zB (j:=j) (a:=.ao) (b:=.ao) (by omega) rfl) (y:=.tup [.str (w "num")]) (M2:=[]) rfl];rfl
  ·show _=R.ok (D.lst ((lW g).map fun t=>.tup [.str t.1,t.2.d])) []
   rw [tk_d]
 have s6:ev Φ (.blt .list true (.cons (.sl true (.v 3) .none (.some (.v 2))) .nil)) [some L,some (.int (s:Int)),some (.int (g:Int)),some N,some TK,some KD,none,none,none,none,none,none,none,none,none] []=.ok H []:=by
  rw [sE,wH (Ag (is:=is) (g:=g) rfl rfl hG.2),R.af];rfl
 let f1:Fd:=yZ g (.list .num) (lJ g 0 is)
 have r1:=ye (k:=k) (M0:=[]) (fs:=[f1]) (f:=f1) (nu:=(is.take g).map D.int) (m:=200) (cO rfl) (jV hG.1) (iJ is 0 (iL hG.1 hG.2) (by show (nums ns).length<=400;omega) hm) (by show 1+3*(nums ns).length<=90000;omega) (by show (nums ns).length<=400;omega)
 have a1:=oO (k:=k+7) r1
 rw [fN (by simp [nr,dS,iB]) rfl] at a1
 have Iq:∀ {σ:Sg} {M:MH},σ[3]? = some (some N)->σ[2]? = some (some (.int (g:Int)))->ev Φ (.call 22 (.cons (.v 3) (.cons (.v 2) .nil))) σ M=.ok (lJ g 0 is).d M:=fun {σ M} h3 h2=>by
  rw [aO,cL (e_v h3) (e_v h2),R.af];exact Ir (k:=k+7) hG.1 (by show (nums ns).length<=1000;omega)
 have s7:ev Φ (.cmp .ne (.call 26 (.cons (.lst true (.cons (.tup (.cons (.k (.str (w "main"))) (.cons (.v 4) (.cons (.v 5) (.cons (.call 22 (.cons (.v 3) (.cons (.v 2) .nil))) .nil))))) .nil)) (.cons (.v 6) .nil))) (.tup (.cons (.k (.str (w ""))) (.cons (.v 3) .nil)))) [some L, some (.int (s:Int)), some (.int (g:Int)), some N, some TK, some KD, some H, none, none, none, none, none, none, none, none] []=.ok (.bl false) []:=by
  have ep:ev Φ (.lst true (.cons (.tup (.cons (.k (.str (w "main"))) (.cons (.v 4) (.cons (.v 5) (.cons (.call 22 (.cons (.v 3) (.cons (.v 2) .nil))) .nil))))) .nil)) [some L, some (.int (s:Int)), some (.int (g:Int)), some N, some TK, some KD, some H, none, none, none, none, none, none, none, none] []=.ok (.lst ([f1].map Fd.d)) []:=by
   have et:ev Φ (.tup (.cons (.k (.str (w "main"))) (.cons (.v 4) (.cons (.v 5) (.cons (.call 22 (.cons (.v 3) (.cons (.v 2) .nil))) .nil))))) [some L, some (.int (s:Int)), some (.int (g:Int)), some N, some TK, some KD, some H, none, none, none, none, none, none, none, none] []=.ok f1.d []:=by
    rw [bT, aN (x:=.str (w "main")) (M1:=[]) rfl (aN (x:=TK) (M1:=[]) rfl (aN (x:=KD) (M1:=[]) rfl (aN (Iq rfl rfl) rfl)))];rfl
   rw [oj,wH et];rfl
  refine mR (a:=.tup [.str (w ""), N]) (b:=.tup [.str (w ""), N]) ?_ rfl ?_
  ·rw [aO,cL ep (y:=H) (M2:=[]) rfl,R.af];exact a1
  ·have:=jg is
   exact ux rfl rfl (by simp only [N,Fg.plain,az,this.1,Bool.and_self]) (by simp only [N,dep,deps];omega)
 have s8:ev Φ (.idx (.lst true (.cons (.k (.str (w "head"))) (.cons (.k (.str (w "tail"))) (.cons (.k (.str (w "none"))) .nil)))) (.op .mod true (.op .fdiv true (.v 1) (.k (.int 4))) (.k (.int 3)))) [some L, some (.int (s:Int)), some (.int (g:Int)), some N, some TK, some KD, some H, none, none, none, none, none, none, none, none] []=.ok (.str (oS i).w) []:=by
  refine iO (xs:=[.str (w "head"), .str (w "tail"), .str (w "none")]) rfl (kT (b:=3) (sJ (a:=s) (b:=4) rfl rfl (by decide) (by decide)) rfl (by decide)) ?_
  show lN _ ((i:Nat):Int)=some (D.str (oS i).w)
  have hc:i=0\/i=1\/i=2:=by omega
  rcases hc with h | h | h <;> rw [h] <;> rfl
 have s9:ev Φ (.op .mod true (.op .fdiv true (.v 1) (.k (.int 12))) (.k (.int 8))) [some L,some (.int (s:Int)),some (.int (g:Int)),some N,some TK,some KD,some H,some (.str (oS i).w),none,none,none,none,none,none,none] []=.ok (.int (t:Int)) []:=kT (b:=8) (sJ (a:=s) (b:=12) rfl rfl (by decide) (by decide)) rfl (by decide)
 let σ9 (a b c d e f:Option D):Sg:=[some L,some (.int (s:Int)),some (.int (g:Int)),some N,some TK,some KD,some H,some (.str (oS i).w),some (.int (t:Int)),a,b,c,d,e,f]
 have s10:ev Φ (.tup (.cons (.k (.str (w "let"))) (.cons (.k (.str (w "row"))) (.cons (.call 22 (.cons (.v 3) (.cons (.v 2) .nil))) (.cons (.tup (.cons (.k (.str (w "pair"))) (.cons (.tup (.cons (.k (.str (w "name"))) (.cons (.k (.str (w "row"))) .nil))) (.cons (.call 23 (.cons (.v 7) (.cons (.v 8) .nil))) .nil)))) .nil))))) (σ9 none none none none none none) []=.ok (j6 g i t is).d []:=by
  have e1:ev Φ (.call 23 (.cons (.v 7) (.cons (.v 8) .nil))) (σ9 none none none none none none) []=.ok (Pt.op (oS i) (.cons (kh t) .nil)).d []:=by
   rw [aO,cL (x:=.str (oS i).w) (y:=.int (t:Int)) (M1:=[]) (M2:=[]) rfl rfl,R.af];exact AF (k:=k+7) (by omega)
  have e2:ev Φ (.tup (.cons (.k (.str (w "pair"))) (.cons (.tup (.cons (.k (.str (w "name"))) (.cons (.k (.str (w "row"))) .nil))) (.cons (.call 23 (.cons (.v 7) (.cons (.v 8) .nil))) .nil)))) (σ9 none none none none none none) []=.ok (Pt.op (.lay false) (p2 vN (.op (oS i) (.cons (kh t) .nil)))).d []:=by
   rw [bT, aN (x:=.str (w "pair")) (M1:=[]) rfl (aN (x:=.tup [.str (w "name"), .str (w "row")]) (M1:=[]) rfl (aN e1 rfl)), As, vN, EK];rfl
  rw [bT, aN (x:=.str (w "let")) (M1:=[]) rfl (aN (x:=.str (w "row")) (M1:=[]) rfl (aN (Iq rfl rfl) (aN e2 rfl))), j6, EL];rfl
 let oV:Kd:=.pair (.list .num) (if i=1 then .list .num else .num)
 have s11:ev Φ (.tup (.cons (.k (.str (w "pair"))) (.cons (.v 5) (.cons (.idx (.lst true (.cons (.tup (.cons (.k (.str (w "num"))) .nil)) (.cons (.v 5) .nil))) (.iT .int (.cmp .eq (.v 7) (.k (.str (w "tail")))))) .nil)))) (σ9 (some (j6 g i t is).d) none none none none none) []=.ok oV.d []:=by
  have e1:ev Φ (.iT .int (.cmp .eq (.v 7) (.k (.str (w "tail"))))) (σ9 (some (j6 g i t is).d) none none none none none) []=.ok (.int ((if decide (i=1) then 1 else 0:Nat):Int)) []:=kW (bA (c:=(oS i).w) rfl (oZ hi))
  have e2:ev Φ (.idx (.lst true (.cons (.tup (.cons (.k (.str (w "num"))) .nil)) (.cons (.v 5) .nil))) (.iT .int (.cmp .eq (.v 7) (.k (.str (w "tail")))))) (σ9 (some (j6 g i t is).d) none none none none none) []=.ok (if i=1 then Kd.list .num else .num).d []:=by
   refine iO (xs:=[.tup [.str (w "num")], KD]) rfl e1 ?_
   by_cases h:i=1
   ·rw [decide_eq_true h,if_pos h];rfl
   ·rw [decide_eq_false h,if_neg h];rfl
  rw [bT, aN (x:=.str (w "pair")) (M1:=[]) rfl (aN (x:=KD) (M1:=[]) rfl (aN e2 rfl))];rfl
 let du:D:=if gone i t is then .ao else ee i t is
 have s12:ev Φ (.call 24 (.cons (.v 7) (.cons (.v 8) (.cons (.v 3) .nil)))) (σ9 (some (j6 g i t is).d) (some oV.d) none none none none) []=.ok du []:=by
  rw [aO,aN (x:=.str (oS i).w) (M1:=[]) rfl (aN (x:=.int (t:Int)) (M1:=[]) rfl (aN (x:=N) (M1:=[]) rfl rfl)),R.af];exact LJ (k:=k+7) hi (by show (nums ns).length<=1000;omega) (by omega)
 let f2:Fd:=yZ g oV (j6 g i t is)
 have p13:ev Φ (.lst true (.cons (.tup (.cons (.k (.str (w "main"))) (.cons (.v 4) (.cons (.v 10) (.cons (.v 9) .nil))))) .nil)) (σ9 (some (j6 g i t is).d) (some oV.d) (some du) none none none) []=.ok (.lst ([f2].map Fd.d)) []:=rfl
 have q13:∀ {r:R D}, (aa aj (k+8)).call 26 [.lst ([f2].map Fd.d), H] []=r->ev Φ (.call 26 (.cons (.lst true (.cons (.tup (.cons (.k (.str (w "main"))) (.cons (.v 4) (.cons (.v 10) (.cons (.v 9) .nil))))) .nil)) (.cons (.v 6) .nil))) (σ9 (some (j6 g i t is).d) (some oV.d) (some du) none none none) []=r:=fun {r} h=>by
  rw [aO,cL p13 (y:=H) (M2:=[]) rfl,R.af];exact h
 let tw:D:=(LN g is).d
 have fin:∀ (M2:MH) (fd:D), ∃ M', exs Φ (.cons (.set 13 (.tup (.cons (.k (.str (w "let"))) (.cons (.k (.str (w "row"))) (.cons (.call 22 (.cons (.v 3) (.cons (.v 2) .nil))) (.cons (.tup (.cons (.k (.str (w "pair"))) (.cons (.tup (.cons (.k (.str (w "name"))) (.cons (.k (.str (w "row"))) .nil))) (.cons (.tup (.cons (.k (.str (w "name"))) (.cons (.k (.str (w "row"))) .nil))) .nil)))) .nil)))))) (.cons (.set 12 (.call 26 (.cons (.lst true (.cons (.tup (.cons (.k (.str (w "main"))) (.cons (.v 4) (.cons (.tup (.cons (.k (.str (w "pair"))) (.cons (.v 5) (.cons (.v 5) .nil)))) (.cons (.v 13) .nil))))) .nil)) (.cons (.v 6) .nil)))) (.cons (.ifs (.cmp .ne (.v 12) (.tup (.cons (.k (.str (w ""))) (.cons (.tup (.cons (.v 3) (.cons (.v 3) .nil))) .nil)))) (.cons (.ret (.k (.bl false))) .nil) .nil) (.cons (.ex (.dH .append true (.idx (.idx (.v 12) (.k (.int 1))) (.k (.int 0))) (.cons (.k (.int 7)) .nil))) (.cons (.ifs (.cmp .ne (.idx (.idx (.v 12) (.k (.int 1))) (.k (.int 1))) (.v 3)) (.cons (.ret (.k (.bl false))) .nil) .nil) (.cons (.set 14 (.op .mod true (.op .fdiv true (.v 1) (.k (.int 96))) (.k (.int 10)))) (.cons (.set 12 (.call 26 (.cons (.lst true (.cons (.tup (.cons (.k (.str (w "main"))) (.cons (.lst true .nil) (.cons (.tup (.cons (.k (.str (w "num"))) .nil)) (.cons (.call 25 (.cons (.v 14) .nil)) .nil))))) .nil)) (.cons (.lst true .nil) .nil)))) (.cons (.ret (.cmp .eq (.v 12) (.idx (.lst true (.cons (.tup (.cons (.k (.str (w ""))) (.cons (.k (.int 7)) .nil))) (.cons (.tup (.cons (.k (.str (w "great"))) (.cons (.k .ao) .nil))) .nil))) (.iT .int (.cmp .eq (.v 14) (.k (.int 9))))))) .nil)))))))) (σ9 (some (j6 g i t is).d) (some oV.d) (some du) (some fd) none none) M2=.ok (.rt (.bl true)) M':=by
  intro M2 fd
  have e16:ev Φ (.tup (.cons (.k (.str (w "let"))) (.cons (.k (.str (w "row"))) (.cons (.call 22 (.cons (.v 3) (.cons (.v 2) .nil))) (.cons (.tup (.cons (.k (.str (w "pair"))) (.cons (.tup (.cons (.k (.str (w "name"))) (.cons (.k (.str (w "row"))) .nil))) (.cons (.tup (.cons (.k (.str (w "name"))) (.cons (.k (.str (w "row"))) .nil))) .nil)))) .nil))))) (σ9 (some (j6 g i t is).d) (some oV.d) (some du) (some fd) none none) M2=.ok tw M2:=by
   rw [bT, aN (x:=.str (w "let")) (M1:=M2) rfl (aN (x:=.str (w "row")) (M1:=M2) rfl (aN (Iq rfl rfl) (aN (x:=.tup [.str (w "pair"), .tup [.str (w "name"), .str (w "row")], .tup [.str (w "name"), .str (w "row")]]) (M1:=M2) rfl rfl)))]
   show _=R.ok (LN g is).d M2
   rw [LN,EL,As,vN,EK];rfl
  let kd3:Kd:=.pair (.list .num) (.list .num)
  let f3:Fd:=yZ g kd3 (LN g is)
  obtain ⟨s',r,y,q3,hr,hM,sh⟩:=pQ (k:=k) (M0:=M2) (fs:=[f3]) (f:=f3) (nu:=(is.take g).map D.int) (m:=200) (cO rfl) (jV hG.1) (ev3 hG.1 hG.2 hN hm) (by show 1+3*(nums ns).length+(1+(1+0)+2)+2<=90000;omega) (by show (nums ns).length<=400;omega) (nN (by show (nums ns).length<=400;omega))
  obtain ⟨r2,rfl,hr2,KS⟩:=rq sh
  have a3:=oO (k:=k+7) q3
  have hn3:cJ false M2 (.tup [.str (w ""), .tup [.ref r, .ref r2]]) (s'.h M2)=.ok (.tup [.str (w ""), .tup [.ref r, .ref r2]]) (s'.h M2):=by
   unfold cJ
   rw [if_pos ⟨rfl,iX⟩,if_neg (by simp only [nr,dS,Bool.and_true,Bool.true_and,Bool.and_eq_true,decide_eq_true_eq,not_and];intro h0;omega)]
  rw [hn3] at a3
  let CO:D:=.tup [.str (w ""), .tup [.ref r, .ref r2]]
  let σ3 (b:Option D) (c:D):Sg:=σ9 (some (j6 g i t is).d) (some oV.d) (some du) (some c) (some tw) b
  have e17:ev Φ (.call 26 (.cons (.lst true (.cons (.tup (.cons (.k (.str (w "main"))) (.cons (.v 4) (.cons (.tup (.cons (.k (.str (w "pair"))) (.cons (.v 5) (.cons (.v 5) .nil)))) (.cons (.v 13) .nil))))) .nil)) (.cons (.v 6) .nil))) (σ3 none fd) M2=.ok CO (s'.h M2):=by
   have ep:ev Φ (.lst true (.cons (.tup (.cons (.k (.str (w "main"))) (.cons (.v 4) (.cons (.tup (.cons (.k (.str (w "pair"))) (.cons (.v 5) (.cons (.v 5) .nil)))) (.cons (.v 13) .nil))))) .nil)) (σ3 none fd) M2=.ok (.lst ([f3].map Fd.d)) M2:=rfl
   rw [aO,cL ep (y:=H) (M2:=M2) rfl,R.af];exact a3
  have hp:=jg is
  have e18:ev Φ (.cmp .ne (.v 12) (.tup (.cons (.k (.str (w ""))) (.cons (.tup (.cons (.v 3) (.cons (.v 3) .nil))) .nil)))) (σ3 none CO) (s'.h M2)=.ok (.bl false) (s'.h M2):=by
   refine mR (a:=CO) (b:=.tup [.str (w ""), .tup [N, N]]) rfl rfl ?_
   have hP:Fg.plain (.tup [N,N])=true:=by simp only [N,Fg.plain,az,hp.1,Bool.and_self]
   refine uy (d:=.tup [N,N]) ?_ (fc 119 _ hP) hP (by simp only [N,dep,deps];omega) (by simp [Fg.plain,az])
   simp only [ou,List.map_cons,List.map_nil,sN hM hp.1,sN KS hp.1]
   rfl
  have e19:=qz (Φ:=Φ) (σ:=σ3 none CO) (e:=.idx (.idx (.v 12) (.k (.int 1))) (.k (.int 0))) (e':=.k (.int 7)) (d:=.int 7) (M:=s'.h M2) (M1:=s'.h M2) (M2:=s'.h M2) (n:=r) (aC (aC rfl rfl c8) rfl aT) hM rfl hM (by rw [List.length_map];exact Nat.lt_of_le_of_lt hN (by decide))
  have hM4:((s'.h M2).set r (.lst (is.map D.int++[.int 7])))[r2]? = some (.lst (is.map D.int)):=by rw [List.getElem?_set_ne (by omega)];exact KS
  generalize (s'.h M2).set r (.lst (is.map D.int++[.int 7]))=M4 at e19 hM4
  have e20:ev Φ (.cmp .ne (.idx (.idx (.v 12) (.k (.int 1))) (.k (.int 1))) (.v 3)) (σ3 none CO) M4=.ok (.bl false) M4:=by
   refine mR (a:=.ref r2) (b:=N) (aC (aC rfl rfl c8) rfl c8) rfl ?_
   have hc:aZ N N=true:=by
    have h1:dep N<=100:=by simp only [N,dep];omega
    simp only [aZ,decide_eq_true h1,Bool.or_self];simp only [N,Fg.plain,hp.1,Bool.and_self]
   have ht2:top M4 (.ref r2)=N:=by simp only [top,hM4,N]
   have ht3:top M4 N=N:=rfl
   have hb:vj (.ref r2) N=none:=rfl
   have hs:aJ N N=true:=fX N (by simp only [N,Fg.plain,hp.1])
   simp only [bf,hb,v7,ht2,ht3,hc,if_true,hs,Bool.not_true]
  let mn:=s / 96 % 10
  have hmn:mn<=9:=by have:s / 96 % 10<10:=Nat.mod_lt _ (by decide);show s / 96 % 10<=9;omega
  have e21:ev Φ (.op .mod true (.op .fdiv true (.v 1) (.k (.int 96))) (.k (.int 10))) (σ3 none CO) M4=.ok (.int (mn:Int)) M4:=kT (b:=10) (sJ (a:=s) (b:=96) rfl rfl (by decide) (by decide)) rfl (by decide)
  let f4:Fd:=⟨w "main", [], .num, Dg mn (.num 7)⟩
  let CN:D:=if mn=9 then .tup [.str (w "great"), .ao] else .tup [.str (w ""), .int 7]
  have a4:(aa aj (k+8)).call 26 [.lst ([f4].map Fd.d),.lst []] M4=.ok CN M4:=by
   by_cases h9:mn=9
   ·have hx:CN=.tup [.str (rW 2),.ao]:=by show (if mn=9 then _ else _)=_;rw [if_pos h9];rfl
    rw [hx]
    obtain ⟨n,hn,hX⟩:=zW (fs:=[f4]) (m:=200) (b:=0) (u:=0) (p:=.num 7)
    have hX':gD [f4] 200 (envOf [] (f4.tk.map (·.1)) []) 0 0 (.p f4.bd) n 2:=by
     show gD [f4] 200 [] 0 0 (.p (Dg mn (.num 7))) n 2
     rw [h9];exact hX
    exact ER (k:=k+7) (.inr rfl) (qH (k:=k) (cO rfl) (show 0<=1000 by decide) hX' (by omega))
   ·have hx:CN=.tup [.str (w ""), .int 7]:=if_neg h9
    rw [hx]
    have hE:Ev [f4] 200 (envOf [] (f4.tk.map (·.1)) []) 0 0 (.p f4.bd) (1+6*mn) [.int 7] 0:=Ad mn (.num 7) 1 (.int 7) (by omega) .num
    rw [oO (k:=k+7) (BI (k:=k) (fs:=[f4]) (f:=f4) (nu:=[]) (m:=200) (cO rfl) (show 0<=1000 by decide) hE (by omega))]
    exact fN rfl (by simp)
  have e22:ev Φ (.call 26 (.cons (.lst true (.cons (.tup (.cons (.k (.str (w "main"))) (.cons (.lst true .nil) (.cons (.tup (.cons (.k (.str (w "num"))) .nil)) (.cons (.call 25 (.cons (.v 14) .nil)) .nil))))) .nil)) (.cons (.lst true .nil) .nil))) (σ3 (some (.int (mn:Int))) CO) M4=.ok CN M4:=by
   have et:ev Φ (.tup (.cons (.k (.str (w "main"))) (.cons (.lst true .nil) (.cons (.tup (.cons (.k (.str (w "num"))) .nil)) (.cons (.call 25 (.cons (.v 14) .nil)) .nil))))) (σ3 (some (.int (mn:Int))) CO) M4=.ok f4.d M4:=by
    rw [bT, aN (x:=.str (w "main")) (M1:=M4) rfl (aN (x:=.lst []) (M1:=M4) rfl (aN (x:=.tup [.str (w "num")]) (M1:=M4) rfl (aN ((bB rfl).trans (wW (k:=k+7) hmn)) rfl)))];rfl
   have ep:ev Φ (.lst true (.cons (.tup (.cons (.k (.str (w "main"))) (.cons (.lst true .nil) (.cons (.tup (.cons (.k (.str (w "num"))) .nil)) (.cons (.call 25 (.cons (.v 14) .nil)) .nil))))) .nil)) (σ3 (some (.int (mn:Int))) CO) M4=.ok (.lst ([f4].map Fd.d)) M4:=by rw [oj, wH et];rfl
   rw [aO,cL ep (y:=.lst []) (M2:=M4) rfl,R.af];exact a4
  have MZ:ev Φ (.cmp .eq (.v 12) (.idx (.lst true (.cons (.tup (.cons (.k (.str (w ""))) (.cons (.k (.int 7)) .nil))) (.cons (.tup (.cons (.k (.str (w "great"))) (.cons (.k .ao) .nil))) .nil))) (.iT .int (.cmp .eq (.v 14) (.k (.int 9)))))) (σ3 (some (.int (mn:Int))) CN) M4=.ok (.bl true) M4:=by
   have ei:ev Φ (.idx (.lst true (.cons (.tup (.cons (.k (.str (w ""))) (.cons (.k (.int 7)) .nil))) (.cons (.tup (.cons (.k (.str (w "great"))) (.cons (.k .ao) .nil))) .nil))) (.iT .int (.cmp .eq (.v 14) (.k (.int 9))))) (σ3 (some (.int (mn:Int))) CN) M4=.ok CN M4:=by
    refine iO (xs:=[.tup [.str (w ""), .int 7], .tup [.str (w "great"), .ao]]) rfl (kW (Ak (a:=mn) (b:=9) rfl rfl)) ?_
    show lN _ _=some (if mn=9 then _ else _)
    by_cases h9:mn=9
    ·rw [decide_eq_true h9,if_pos h9];rfl
    ·rw [decide_eq_false h9,if_neg h9];rfl
   refine mR (a:=CN) (b:=CN) rfl ei ?_
   show bf .eq M4 (if mn=9 then _ else _) (if mn=9 then _ else _)=_
   by_cases h9:mn=9
   ·rw [if_pos h9];exact uQ rfl rfl (by simp [Fg.plain,az]) (by simp [dep,deps])
   ·rw [if_neg h9];exact uQ rfl rfl (by simp [Fg.plain,az]) (by simp [dep,deps])
  exact ⟨M4,(av e16).trans ((av e17).trans ((aE e18).trans ((bZ e19).trans ((aE e20).trans ((av e21).trans ((av e22).trans (aR MZ)))))))⟩
 have c14:∀ {M:MH} {fd:D} {z:Str}, (gone i t is=true->z=w "empty")->ev Φ (.idx (.v 12) (.k (.int 0))) (σ9 (some (j6 g i t is).d) (some oV.d) (some du) (some fd) none none) M=.ok (.str z) M->ev Φ (.or (.cmp .ne (.v 6) (.sl true (.v 3) .none (.some (.v 2)))) (.and (.cmp .wo (.v 11) (.k .ao)) (.cmp .ne (.idx (.v 12) (.k (.int 0))) (.k (.str (w "empty")))))) (σ9 (some (j6 g i t is).d) (some oV.d) (some du) (some fd) none none) M=.ok (.bl false) M:=fun {M fd z} hz h0=>by
  have a1:ev Φ (.cmp .ne (.v 6) (.sl true (.v 3) .none (.some (.v 2)))) (σ9 (some (j6 g i t is).d) (some oV.d) (some du) (some fd) none none) M=.ok (.bl false) M:=by
   refine mR (a:=H) (b:=H) rfl (Ag (is:=is) (g:=g) rfl rfl hG.2) ?_
   have:=jg (is.take g)
   exact ux rfl rfl (by simp only [H,Fg.plain,this.1]) (by simp only [H,dep];omega)
  have a2:ev Φ (.cmp .wo (.v 11) (.k .ao)) (σ9 (some (j6 g i t is).d) (some oV.d) (some du) (some fd) none none) M=.ok (.bl (bJ du)) M:=rfl
  have a3:ev Φ (.cmp .ne (.idx (.v 12) (.k (.int 0))) (.k (.str (w "empty")))) (σ9 (some (j6 g i t is).d) (some oV.d) (some du) (some fd) none none) M=.ok (.bl (!decide (z=w "empty"))) M:=Ez h0
  have hb:(false||(bJ du&&!decide (z=w "empty")))=false:=by
   cases hg:gone i t is with
   | true=>rw [hz hg,decide_eq_true rfl];simp
   | false =>
    have:bJ du=false:=by show bJ (if gone i t is then D.ao else ee i t is)=false;rw [hg];exact uZ hi
    rw [this];rfl
  have:=Ia a1 fun _=>Al a2 fun _=>a3
  rw [hb] at this
  exact this
 cases hg:gone i t is with
 | true =>
  have MB:du=.ao:=by show (if gone i t is then D.ao else ee i t is)=_;rw [hg];rfl
  obtain ⟨n,hn,hX⟩:=ev2x (fs:=[f2]) (m:=200) (t:=t) hG.1 hG.2 hN hm hi hg
  have a2:=ER (k:=k+7) (.inl rfl) (qH (k:=k) (M0:=[]) (fs:=[f2]) (f:=f2) (nu:=(is.take g).map D.int) (m:=200) (cO rfl) (jV hG.1) hX (by omega))
  have e13:=q13 a2
  have e14:=c14 (M:=[]) (fd:=.tup [.str (rW 3), .ao]) (z:=w "empty") (fun _=>rfl) (aC rfl rfl aT)
  have e15:ev Φ (.and (.cmp .gQ (.v 11) (.k .ao)) (.or (.cmp .ne (.v 12) (.tup (.cons (.k (.str (w ""))) (.cons (.tup (.cons (.v 3) (.cons (.v 11) .nil))) .nil)))) (.not (.r9 (.idx (.v 12) (.k (.int 1))) .tuple)))) (σ9 (some (j6 g i t is).d) (some oV.d) (some du) (some (.tup [.str (rW 3), .ao])) none none) []=.ok (.bl false) []:=by
   rw [MB];rfl
  obtain ⟨M',hF⟩:=fin [] (.tup [.str (rW 3),.ao])
  exact ⟨[],aL K2 rfl ((av s1).trans ((av s2).trans ((av s3).trans ((av s4).trans ((av rfl).trans ((av s6).trans ((aE s7).trans ((av s8).trans ((av s9).trans ((av s10).trans ((av s11).trans ((av s12).trans ((av e13).trans ((aE e14).trans ((aE e15).trans hF))))))))))))))) (fN rfl rfl)⟩
 | false =>
  have MB:du=ee i t is:=by show (if gone i t is then D.ao else ee i t is)=_;rw [hg];rfl
  obtain ⟨v1,v2,v3⟩:=uY (t:=t) hN hm hi hg
  obtain ⟨s',r,y,q2,hr,hM,sh⟩:=pQ (k:=k) (M0:=[]) (fs:=[f2]) (f:=f2) (nu:=(is.take g).map D.int) (m:=200) (cO rfl) (jV hG.1) (ev2 hG.1 hG.2 hN hm hi hg) (by show 1+3*(nums ns).length+(1+(1+2*t+0+2+0)+2)+2<=90000;omega) (by show (nums ns).length<=400;omega) v3
  have a2:=oO (k:=k+7) q2
  have hn2:cJ false [] (.tup [.str (w ""), .tup [.ref r, y]]) (s'.h [])=.ok (.tup [.str (w ""), .tup [.ref r, y]]) (s'.h []):=by
   unfold cJ
   rw [if_pos ⟨rfl,iX⟩,if_neg (by simp [nr,dS])]
  rw [hn2] at a2
  have e13:=q13 a2
  let Eo:D:=.tup [.str (w ""), .tup [.ref r, y]]
  have e14:=c14 (M:=s'.h []) (fd:=Eo) (z:=w "") (fun h=>by rw [hg] at h;cases h) (aC rfl rfl aT)
  have hp:=jg is
  have hq:=Ij (t:=t) (is:=is) hi
  have e15:ev Φ (.and (.cmp .gQ (.v 11) (.k .ao)) (.or (.cmp .ne (.v 12) (.tup (.cons (.k (.str (w ""))) (.cons (.tup (.cons (.v 3) (.cons (.v 11) .nil))) .nil)))) (.not (.r9 (.idx (.v 12) (.k (.int 1))) .tuple)))) (σ9 (some (j6 g i t is).d) (some oV.d) (some du) (some Eo) none none) (s'.h [])=.ok (.bl false) (s'.h []):=by
   have b1:ev Φ (.cmp .gQ (.v 11) (.k .ao)) (σ9 (some (j6 g i t is).d) (some oV.d) (some du) (some Eo) none none) (s'.h [])=.ok (.bl true) (s'.h []):=by
    show R.ok (D.bl (!bJ du)) (s'.h [])=_
    rw [MB,uZ hi];rfl
   have b2:ev Φ (.cmp .ne (.v 12) (.tup (.cons (.k (.str (w ""))) (.cons (.tup (.cons (.v 3) (.cons (.v 11) .nil))) .nil)))) (σ9 (some (j6 g i t is).d) (some oV.d) (some du) (some Eo) none none) (s'.h [])=.ok (.bl false) (s'.h []):=by
    refine mR (a:=Eo) (b:=.tup [.str (w ""), .tup [N, du]]) rfl rfl ?_
    rw [MB]
    have hP:Fg.plain (.tup [N,ee i t is])=true:=by simp only [N,Fg.plain,az,hp.1,hq.1,Bool.and_self]
    refine uy (d:=.tup [N,ee i t is]) ?_ (fc 119 _ hP) hP (by simp only [N,dep,deps];omega) (by simp [Fg.plain,az])
    have hy:deep 118 (s'.h []) y=ee i t is:=(sh.lev (by decide:2<=118)).deep
    simp only [ou,List.map_cons,List.map_nil,sN hM hp.1,hy]
    rfl
   have b3:ev Φ (.not (.r9 (.idx (.v 12) (.k (.int 1))) .tuple)) (σ9 (some (j6 g i t is).d) (some oV.d) (some du) (some Eo) none none) (s'.h [])=.ok (.bl false) (s'.h []):=by
    rw [HU,HW,aC (d:=.tup [.ref r,y]) (M2:=s'.h []) (e_v (d:=Eo) rfl) rfl c8];rfl
   exact Al b1 fun _=>Ia b2 fun _=>b3
  obtain ⟨M',hF⟩:=fin (s'.h []) Eo
  exact ⟨[],aL K2 rfl ((av s1).trans ((av s2).trans ((av s3).trans ((av s4).trans ((av rfl).trans ((av s6).trans ((aE s7).trans ((av s8).trans ((av s9).trans ((av s10).trans ((av s11).trans ((av s12).trans ((av e13).trans ((aE e14).trans ((aE e15).trans hF))))))))))))))) (fN rfl rfl)⟩
end
end bM
end
section
namespace bM
open Fg PySem PySem.Spec L2
theorem Jl:tb.ok tb.gm aj=true:=by decide +kernel
theorem LC {d:DefRec} (hd:d.params.defaults=[]) (hx:d.name=("law" : Str)) {XP:(Str->Option Value)->Heap->Prop}:W.WalkO HE hdL XP (tb.hook aj).says PySem.Challenge.rw_fieldgate_k12_plain_pairs_and_lists.row.toRowW d [] (fun f vs=>PySem.call f vs) :=
 tb.walk aj (l:=PySem.Challenge.rw_fieldgate_k12_plain_pairs_and_lists) (r:=tb.fn[19]'(by decide)) (x:="_law_script") 8 rfl hd ⟨rfl, by decide, by decide⟩ Jl (List.getElem_mem _) hx rfl rfl fun ns h=>ze (k:=0) ns h
end bM
end
section
open PySem PySem.W PyProof.Rows
set_option maxRecDepth 100000 in
set_option maxHeartbeats 0 in
theorem PySem.Challenge.cw_fieldgate_k12_plain_pairs_and_lists_holds : PySem.Challenge.rw_fieldgate_k12_plain_pairs_and_lists.Holds := by
 w_on
 refine holds_law (by decide +kernel) fun said => ?_
 refine holds_open (XP := XL bM.HE []) bM.lft (bM.tb.hook bM.aj).of (bM.tb.hook bM.aj).keeps
  (fun s e => xl_of s (Bool.and_eq_true_iff.mp e).1) XL.keeps (by rfl) (by rfl) (by rfl)
  (fun s e => recFacts_of (Bool.and_eq_true_iff.mp e).2) (by rfl) said (by decide +kernel)
  ⟨rfl,rfl,rfl,rfl,rfl,by decide +kernel⟩ ?hw (bM.LC rfl rfl)
 w_witness2
end
